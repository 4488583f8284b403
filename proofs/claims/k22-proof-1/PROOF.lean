import PyProof.Rows.All
import OpenK.AllK
import PySem.Challenge.RW_ranksure_k22_whole_without_tools
import KE.RegKIsAll
import Wide.All
import OpenK.KWalk
import OpenK.KMake
import OpenK.KDescr
import OpenK.KCall
import OpenK.KOwn
import KE.KIsAll
import KE.KItem
import KE.KxBytes
import Wide.FinOn
import Lean
import PyProof.EqAt
import PyProof.EqKinds
import PyProof.TupleCall
import KE.LcSums
import PyProof.Rows.EqDataRows
import PyProof.RulesAs
import PyProof.ZipIter
import PyProof.Draws
import PyProof.Rows.TupAdd
import PyProof.ListMulRoad
import PyProof.AutoListH
import PyProof.Rows.Range3
import PyProof.ListRange
import PyProof.EnumMake
import PyProof.EnumFor
import PyProof.Rows.SetFrom
import PyProof.WalksMore
import PyProof.StrOps2
import PyProof.Rows.MinMaxN
import PyProof.ConsumeWalk
import PyProof.Rows.SortWalk
import PyProof.ExcArgsOwn
import PyProof.StrBlock2
import KE.KMinKey
import PyProof.Rows.CallKwBuiltin
import PySem.PyData
import KE.KLam
import KE.KDictLaws
import KE.KDictMeth
import KE.KDictObj
import KE.KDictLetter
import OpenK.KDict
import KE.KDictOf
import PyProof.Rows.RegDictMethods
import KE.KNestM
noncomputable section
set_option genSizeOf false
set_option genSizeOfSpec false
set_option genInjectivity false
set_option compiler.extract_closed false
set_option bootstrap.genMatcherCode false
set_option Elab.async false
set_option linter.all false
abbrev M0:=@PySem.Heap.get?_push_of_some
abbrev M1:=@List.getElem?_eq_getElem
abbrev M3:=@List.length_map
abbrev M4:=@List.mem_cons_of_mem
abbrev M5:=@List.map_cons
abbrev M6:=@List.mem_cons_self
abbrev M7:=@List.mem_cons
abbrev M8:=@Bool.and_eq_true
abbrev M9:=@List.mem_map
abbrev Mt:=@List.mem_append_right
abbrev Mu:=@Nat.le_refl
abbrev Mv:=@List.length_append
abbrev Mw:=@List.mem_singleton
abbrev Mx:=@PySem.Heap.lt_size
abbrev My:=@List.size_toArray
abbrev Mz:=@PySem.Heap.get?_push_size
abbrev MA:=@List.getElem?_map
abbrev MB:=@Nat.ne_of_lt
abbrev MC:=@List.length_cons
abbrev MD:=@List.all_eq_true
abbrev ME:=@Nat.lt_of_lt_of_le
abbrev MF:=@List.map_map
abbrev MG:=@Bool.false_ne_true
abbrev MH:=@List.map_congr_left
abbrev MI:=@List.not_mem_nil
abbrev MJ:=@Bool.false_eq_true
abbrev MK:=@List.getD_eq_getElem?_getD
abbrev ML:=@List.getElem?_append_left
abbrev MM:=@List.mem_append
abbrev MN:=@List.lookup_cons
abbrev MO:=@List.getElem?_append_right
abbrev MP:=@List.getElem?_set_ne
abbrev MQ:=@List.getElem?_eq_some_iff
abbrev MR:=@List.length_singleton
abbrev MS:=@List.nil_append
abbrev MT:=@Int.toNat_natCast
abbrev MU:=@List.cons_append
abbrev MV:=@List.mem_filter
abbrev MW:=@List.mem_append_left
abbrev MX:=@List.nodup_cons
abbrev MY:=@Int.mul_le_mul_of_nonneg_right
abbrev MZ:=@List.getElem_mem
abbrev N0:=@List.mem_of_getElem?
abbrev N1:=@List.getElem?_set_self
abbrev N2:=@Int.natCast_nonneg
abbrev N3:=@List.map_append
abbrev N4:=@List.append_nil
abbrev N5:=@PySem.Heap.get?_update_other
abbrev N6:=@List.append_assoc
abbrev N7:=@List.sum_cons
abbrev N8:=@List.map_nil
abbrev N9:=@Bool.and_eq_false_iff
abbrev Na:=@Int.emod_nonneg
abbrev Nb:=@Bool.and_eq_true_iff
abbrev Nc:=@Nat.le_trans
abbrev Nd:=@Nat.zero_le
abbrev Nf:=@Nat.lt_succ_of_lt
abbrev Ng:=@Nat.ne_of_gt
abbrev Nh:=@Nat.le_add_right
abbrev Ni:=@List.map_id
abbrev Nj:=@List.mem_of_mem_take
abbrev Nk:=@List.getElem?_cons_succ
abbrev Nl:=@List.getElem?_cons_zero
abbrev Nm:=@List.length_nil
abbrev Nn:=@Option.map_some
abbrev Np:=@List.find?_cons
abbrev Nq:=@Array.length_toList
abbrev Nr:=@List.replicate_succ
abbrev Nt:=@List.length_pos_iff
abbrev Nu:=@Int.toNat_of_nonneg
abbrev Nv:=@Nat.lt_irrefl
abbrev Nw:=@Int.emod_lt_of_pos
abbrev Nx:=@List.flatten_cons
abbrev Ny:=@Nat.lt_succ_self
abbrev Nz:=@Option.map_eq_some_iff
abbrev NA:=@Int.le_refl
abbrev NB:=@List.getElem?_mapIdx
abbrev NC:=@List.mem_range
abbrev ND:=@Nat.zero_add
abbrev NF:=@List.filter_cons
abbrev NG:=@List.length_eq_zero_iff
abbrev NH:=@List.any_cons
abbrev NI:=@List.foldl_cons
abbrev NJ:=@List.set_cons_succ
abbrev NK:=@List.set_cons_zero
abbrev NL:=@Int.add_mul
abbrev NM:=@PySem.Heap.get?_update_self
abbrev NN:=@List.getElem?_eq_none
abbrev NO:=@List.length_take
abbrev NP:=@Option.bind_some
abbrev NQ:=@List.mem_of_mem_drop
abbrev NR:=@List.all_cons
abbrev NS:=@Bool.and_true
abbrev NT:=@Nat.le_succ
abbrev NU:=@List.filterMap_cons
abbrev NV:=@List.getElem?_range
abbrev NW:=@List.take_succ_cons
abbrev NX:=@List.of_mem_zip
abbrev NY:=@List.forIn_cons
abbrev NZ:=@List.drop_eq_getElem_cons
abbrev O0:=@List.zip_cons_cons
abbrev O1:=@List.pairwise_cons
abbrev O2:=@Bool.not_false
abbrev O3:=@List.getElem?_replicate
abbrev O4:=@List.getLast?_map
abbrev O5:=@Int.ediv_eq_zero_of_lt
abbrev O6:=@Bool.true_and
abbrev O7:=@Bool.not_true
abbrev O8:=@List.length_drop
abbrev O9:=@List.any_eq_true
abbrev Oa:=@List.ext_getElem
abbrev Ob:=@Array.getElem?_toList
abbrev Oc:=@List.set_append_right
abbrev Od:=@Int.mul_ediv_add_emod
abbrev Oe:=@List.map_eq_nil_iff
abbrev Of:=@Int.mul_nonneg
abbrev Og:=@List.mem_filterMap
abbrev Oh:=@List.find?_eq_none
abbrev Oi:=@Int.lt_of_lt_of_le
abbrev Oj:=@Bool.and_self
abbrev Ol:=@Bool.not_eq_true'
abbrev Om:=@List.length_range
abbrev Oo:=@List.nodup_append
abbrev Oq:=@List.findIdx_cons
abbrev Ot:=@Nat.le_of_lt
abbrev Ou:=@List.drop_length
abbrev Ov:=@List.range'_succ
abbrev Ow:=@Int.le_trans
abbrev Ox:=@List.mapIdx_cons
abbrev Oy:=@List.getElem_map
variable {p pos pos' cpos spos pn p2 kp:Pos} {q P prog:Program} {loose N M ps own names:List Str} {α β:Type} {us its':List Value} {a b it c C dx f D:Addr} {h base h':Heap} {items:Array Value} {w:World} {g':Array GenState} {ch A fp B A0 as:List Addr} {i j x1 n0:Nat} {x m qual:Str} {E Q:Value->Shared->Prop} {u cd pm ct oc:Value} {s' s:Shared} {pins:List (Addr×Obj)} {op:CmpOp} {K:PySem.W.Frag} {n t many span:Int} {tg body iter elt:Expr} {g:List (Str×PyData)->Option (List (Str×PyData))} {lo hi:Option Int} {mA mg mb:Str->Option Value} {env:Env} {outer:List Env} {fd:FuncData} {scope:Scope} {params:Arguments} {an od:Option Addr} {osl sl:Array (Option Value)} {l:List (Int×Int)} {ns rs:List Int} {XP:(Str->Option Value)->Heap->Prop} {YP:World->Heap->Prop} {st:Stmt} {ifs elts:List Expr} {ds told:List PyData} {newId:String} {O cap:List Nat} {cl:List (Str×Addr)} {nd tops:PyData} {tl:List (Str×Int)} {rows:List (List Int)} {x9 x7 x11 x12:Option PyData} {mean:ExcName->Option Value}
namespace RS
open PySem PySem.W PyProof.Rows
def zX (p:Program) (w:World) (m:Nat) (ann:Option Value):Nat->SharedT->Thread->Option SharedT
 |0,_,_=>none
 |n+1,s,t=>match through t with
  |true=>some s
  |false=>match Fast.tw6613529449190102663 m ann t with
   |false=>none
   |true=>match Fast.tw10156331382660048174 (Fast.tw11892475500146522536 Fast.tw14364793385576792824) p w s t with
    |some x=>zX p w m ann n x.1 x.2
    |none=>none
theorem wZ {p:Program} {w:World} {m:Nat} {ann:Option Value}:∀{n:Nat} {s s':SharedT} {t:Thread},zX p w m ann n s t=some s'->topRun treeTable p w m ann n s.abs t=some s'.abs
 |0,_,_,_,h=>by cases h
 |n+1,s,s',t,h=>by
  unfold zX at h;rw[<-Fast.te6613529449190102663,<-Fast.te10156331382660048174,<-Fast.te11892475500146522536,<-Fast.te14364793385576792824]at h;unfold topRun;cases ht:through t with
  |true=>rw[ht]at h;cases h;rfl
  |false =>
   rw[ht]at h;cases hk:stepOk m ann t with
   |false=>rw[hk]at h;cases h
   |true =>
    rw[hk]at h;cases hs:stepT (denote treeTable) p w s t with
    |none=>rw[hs]at h;cases h
    |some x =>rw[hs]at h;rw[stepT_spec (s':=x.1) (t':=x.2) hs];exact wZ h
def J6 (l:List Obj):BT:=(l.foldl (λx o=>(x.1.ins x.2 o,x.2+1)) (BT.nil,0)).1
def hdS (w:World) (os:OsState):SharedT:=⟨J6 (boot_heap w.params).objs.toList,11,(boot_heap w.params).life,Array.mk [],boot_drawn,boot_toks,os⟩
theorem FT (w:World):(λos=>(hdS w os).abs)=λos=>⟨boot_heap w.params,Array.mk [],boot_drawn,boot_toks,os⟩:=by kernel_rfl
theorem IG (w:World):((boot_heap w.params).isNs mainGlobals&&(Array.mk []:Array GenState).size==0,(boot_heap w.params).objs.size,(boot_heap w.params).nsMap mainGlobals "__annotations__")=(true,11,some (.ref 6)):=by kernel_rfl
def CG (p q:Program) (loose:List Str) (Xt:Shared->Bool) {α:Type} (Yf:Shared->α) (h:Heap) (s:Shared) :=
 (staticsOk (importedModules p.main.body) h s.heap&&namesBound p s.heap&&gensDone s&&laidKept h s.heap,Fast.tw4187177175401517315 q loose (importedModules p.main.body) Xt true s,Yf s)
theorem IQ {p:Program} {Xt:Shared->Bool} {Yf:Shared->α} {Ya:World->α} {N M:Nat}
  (e:opening p=plainProg p.main.scope.names) (a:Nat.ble 600 N=true) (f:∀s,fenceModules? p s=some s) (le:Nat.ble M N=true)
  (h:∀w,(λos=>(zX p w 11 (some (.ref 6)) M (hdS w os) (topStub p)).map λs=>CG p q loose Xt Yf (boot_heap w.params) s.abs)=λ_=>some (true,openGood q loose,Ya w)):LeftO p q loose Xt Yf Ya N:=λw=>by
 obtain⟨⟨b,gs,d,k,os⟩,e1,c⟩:=Nz.mp (boot_open e a f w);obtain⟨rfl,rfl,rfl,rfl⟩:b=boot_heap w.params/\gs=Array.mk []/\d=boot_drawn/\k=boot_toks:=by simpa using c
 obtain⟨z1,z2,z3⟩:_/\_/\_:=by simpa only[Prod.mk.injEq] using IG w
 obtain⟨s,g,hv⟩:=Nz.mp (congrFun (h w) os);obtain⟨l1,l2,l3⟩:_/\_/\_:=by simpa only[CG,<-Fast.te4187177175401517315,Prod.mk.injEq] using hv
 have r:=wZ g;rw[congrFun (FT w) os]at r;have r:=topRun_mono (N-M) _ _ _ _ r;rw[show M+(N-M)=N by have:=Nat.le_of_ble_eq_true le;omega]at r;unfold openEnds;rw[e1];show (topFrom treeTable p w N _).map _=_;have t:topFrom treeTable p w N ⟨boot_heap w.params,Array.mk [],boot_drawn,boot_toks,os⟩=some s.abs:=by unfold topFrom;dsimp only;rw[z1,z2,z3,r];show (match staticsOk (importedModules p.main.body) (boot_heap w.params) s.abs.heap&&namesBound p s.abs.heap&&gensDone s.abs&&laidKept (boot_heap w.params) s.abs.heap with|true=>_|false=>_)=_;rw[l1]
 rw[t];exact congrArg some (Prod.ext l2 l3)
end RS
section
open PySem PySem.W PyProof.Rows
def RS.vw:Program:=view PySem.Challenge.pw_ranksure_k22_whole_without_tools [1,2,3,4,5,7,8,9,10,11,12,13,14,15,16,17,18,19,20,21,22,23,24,25,26,28,29,30,31,32,33,34,35,36,37,38,39,41,42,43,44,45,46,47,48,49,50,52,53,54,55,56,57,58,59,60]
local macro_rules | `(tactic| o_head $H)=>`(tactic| (refine holds_open (N:=6094) (Xt:=λs=>xlAt RS.vw [] s&&recOk (RowW.records (OpenRow.toRowW (OpenLaw.row PySem.Challenge.rw_ranksure_k22_whole_without_tools))) s) (XP:=XL RS.vw []) (q:=RS.vw) (loose:=[]) (Yf:=Hook.obs $H) (Ya:=Hook.val $H) (YP:=Hook.says $H) ?hl (Hook.of $H) (Hook.keeps $H) (λs e=>xl_of s (Nb.mp e).1) XL.keeps (by rfl) (by rfl) (by rfl) (λs e=>recFacts_of (Nb.mp e).2) (by rfl) (by assumption) (by decide +kernel) ⟨rfl,rfl,rfl,rfl,rfl,by decide +kernel⟩ ?hw ?hc;(case hl=>refine RS.IQ (M:=3097) (by kernel_rfl) (by rfl) (by intro s;kernel_rfl) (by rfl) λw=>?_;kernel_rfl)))
set_option maxRecDepth 100000 in
set_option maxHeartbeats 0 in
open_top RS.hdTop for PySem.Challenge.rw_ranksure_k22_whole_without_tools
end
set_option maxRecDepth 100000
namespace L2
open PySem PySem.Spec PyProof.Rows
variable {es:List Expr} {M:Model} {c e:Expr} {g:Int->Int->Int} {body:List Stmt} {A:Around}
abbrev Key:=Sum Int Str
def sJ:Key->Value->Bool
 |.inl k,v=>Value.isInt k v
 |.inr x,v=>Value.isStrOf x v
def tY (w:World):Key->Int
 |.inl k=>hashInt k
 |.inr x=>hashStr w x
theorem cO:∀{k:Key} {v:Value},sJ k v=true->(∃i t,k=Sum.inl i/\v=Value.int i t)\/(∃x t,k=Sum.inr x/\v=Value.str x t)
 |.inl i,v,h=>by obtain⟨t,e⟩:=Value.isInt_shape (k:=i) (v:=v) h;exact .inl ⟨i,t,rfl,e⟩
 |.inr x,v,h=>by obtain⟨t,e⟩:=Value.isStrOf_shape (x:=x) (v:=v) h;exact .inr ⟨x,t,rfl,e⟩
theorem BN (i:Int) (t:Tok):sJ (.inl i) (.int i t)=true:=by simp[sJ,Value.isInt]
theorem BA (x:Str) (t:Tok):sJ (.inr x) (.str x t)=true:=by simp[sJ,Value.isStrOf]
theorem JG (a b:Int):decide ((Sum.inl a:Key)=Sum.inl b)=(a==b):=by
 by_cases e:a=b
 ·subst e;simp
 ·have h:¬ (Sum.inl a:Key)=Sum.inl b:=λq=>e (Sum.inl.inj q)
  rw[decide_eq_false h];exact (beq_eq_false_iff_ne.mpr e).symm
theorem IJ (a b:Str):decide ((Sum.inr a:Key)=Sum.inr b)=decide (a=b):=by
 by_cases e:a=b
 ·subst e;simp
 ·have h:¬ (Sum.inr a:Key)=Sum.inr b:=λq=>e (Sum.inr.inj q)
  rw[decide_eq_false h,decide_eq_false e]
theorem Jl (a:Int) (b:Str):decide ((Sum.inl a:Key)=Sum.inr b)=false:=decide_eq_false (λq=>nomatch q)
theorem Kh (a:Str) (b:Int):decide ((Sum.inr a:Key)=Sum.inl b)=false:=decide_eq_false (λq=>nomatch q)
def dm (prog:Program) (w:World):PySem.KeyKind prog w Key where
 is:=sJ
 hash:=tY w
 inj:=λv a b ha c=>by
  rcases cO ha with⟨i,t,rfl,rfl⟩|⟨x,t,rfl,rfl⟩
  ·rcases cO c with⟨j,u,rfl,e⟩|⟨y,u,rfl,e⟩
   ·injection e with e1 _;rw[e1]
   ·exact nomatch e
  ·rcases cO c with⟨j,u,rfl,e⟩|⟨y,u,rfl,e⟩
   ·exact nomatch e
   ·injection e with e1 _;rw[e1]
 byValue:=λk v h=>by rcases cO h with⟨i,t,rfl,rfl⟩|⟨x,t,rfl,rfl⟩ <;> rfl
 pyHash:=λhv h=>by
  rcases cO hv with⟨i,t,rfl,rfl⟩|⟨x,t,rfl,rfl⟩
  ·exact wpAny_pyHash_int h
  ·exact wpAny_pyHash_str h
 eqBool:=λf hv h=>by
  rcases cO f with⟨i,t,rfl,rfl⟩|⟨x,t,rfl,rfl⟩
  ·rcases cO hv with⟨j,u,rfl,rfl⟩|⟨y,u,rfl,rfl⟩
   ·rw[JG]at h;exact wpAny_eqBool_int h
   ·rw[Jl]at h;exact SeqAt.EqAt.int_str i t y u _ _ _ _ h
  ·rcases cO hv with⟨j,u,rfl,rfl⟩|⟨y,u,rfl,rfl⟩
   ·rw[Kh]at h;exact SeqAt.EqAt.str_int x t j u _ _ _ _ h
   ·rw[IJ]at h;exact wpAny_eqBool_str h
 «strs»:=λk x t v h=>by
  rcases cO h with⟨i,u,rfl,e⟩|⟨y,u,rfl,e⟩
  ·exact nomatch e
  ·injection e with e1 _
   subst e1;cases v <;> rfl
theorem vX (prog:Program) (w:World) (i:Int) (t:Tok):(dm prog w).is (.inl i) (.int i t)=true:=BN i t
theorem vH (prog:Program) (w:World) (x:Str) (t:Tok):(dm prog w).is (.inr x) (.str x t)=true:=BA x t
inductive V where
 |non|bl (b:Bool)|int (i:Int)|str (x:Str)|byt (b:Array UInt8)|flt (b:UInt64)|ref (a:Addr)|ty (n:String)
 deriving DecidableEq
variable {xs vs:List V} {v:V}
def RelV:V->Value->Prop
 |.non,u=>u=Value.none
 |.bl b,u=>u=Value.bool b
 |.int i,u=>∃t,u=Value.int i t
 |.str x,u=>∃t,u=Value.str x t
 |.byt b,u=>∃t,u=Value.bytes b t
 |.flt b,u=>∃t,u=Value.float b t
 |.ref a,u=>u=Value.ref a
 |.ty n,u=>u=Value.type n
abbrev Vals:List V->List Value->Prop:=Paired RelV
theorem Vals.length (r:Vals xs us):xs.length=us.length:=Paired.length r
theorem Vals.get:∀{xs:List V} {us:List Value} {i:Nat} {x:V},Vals xs us->xs[i]?=some x->∃u,us[i]?=some u/\RelV x u
 |_,_,_,_,.nil,e=>by simp at e
 |_,_,0,_,.cons r _,e=>by simp at e;subst e;exact⟨_,rfl,r⟩
 |_,_,i+1,x,.cons _ t,e=>by obtain⟨u,h1,h2⟩:=Vals.get (i:=i) (x:=x) t (by simpa using e);exact⟨u,by simpa using h1,h2⟩
theorem Vals.set {x:V} {u:Value} (r:RelV x u):∀{xs:List V} {us:List Value} (i:Nat),Vals xs us->Vals (xs.set i x) (us.set i u)
 |_,_,_,.nil=>.nil
 |_,_,0,.cons _ t=>.cons r t
 |_,_,i+1,.cons q t=>.cons q (Vals.set r i t)
theorem Vals.append {ys:List V} {ws:List Value} (h:Vals xs us) (s:Vals ys ws):Vals (xs++ys) (us++ws):=by
 induction h with
 |nil=>exact s
 |cons r t ih=>exact .cons r ih
theorem Vals.take:∀{xs:List V} {us:List Value} (n:Nat),Vals xs us->Vals (xs.take n) (us.take n)
 |_,_,0,_=>.nil
 |_,_,_+1,.nil=>.nil
 |_,_,n+1,.cons r t=>.cons r (Vals.take n t)
theorem Vals.drop:∀{xs:List V} {us:List Value} (n:Nat),Vals xs us->Vals (xs.drop n) (us.drop n)
 |_,_,0,r=>r
 |_,_,_+1,.nil=>.nil
 |_,_,n+1,.cons _ t=>Vals.drop n t
def ky:Option V->Option Value->Prop
 |some v,some u=>RelV v u
 |none,none=>True
 |_,_=>False
def KV {κ:Type}:List (κ×V)->List (κ×Value)->Prop:=Paired λ(p:κ×V) (q:κ×Value)=>p.1=q.1/\RelV p.2 q.2
def kV:Key->V
 |.inl i=>.int i
 |.inr x=>.str x
inductive HO where
 |lst (xs:List V)
 |tup (xs:List V)
 |dK (kvs:List (Key×V))|dT (kvs:List (List Key×V))
 |set (S:Int->Bool) (n:Nat)
 |ins (C dx:Addr) (fs:List (Str×V))
 |own (x:Addr)
 |xd (fs:List (Str×V))
 |met (f x:Addr)
 |rng (lo hi:Int)
 |frz (o:Obj) (u:HO)
 |tbl (q:Str)
 |ext (φ:Heap->Prop)
variable {o:HO}
abbrev Hp:=Addr->Option HO
variable {R:V->V->Hp->Prop} {H:Hp}
def upd (H:Hp) (a:Addr) (o:HO):Hp:=λb=>if b=a then some o else H b
theorem aH:upd H a o a=some o:=by unfold upd;rw[if_pos rfl]
theorem aA (h:b≠a):upd H a o b=H b:=by unfold upd;rw[if_neg h]
theorem KN {u:HO} (h:H a=some o) (h':H b=some u) (d:o≠u):a≠b:=by intro e;subst e;rw[h]at h';exact d (Option.some.inj h')
theorem aK (h:H a=some o) (h':H b=none):a≠b:=by intro e;subst e;rw[h]at h';cases h'
def uM (h:Heap) (a:Addr) (items:Array Value):Prop:=∃o,h.get? a=some o/\o.cls=.type "tuple"/\o.dict=none/\∃n,o.data=.seq items n
theorem uM.tup (x:uM h a items):IsTup h a items:=by obtain⟨o,e,c,_,n,d⟩:=x;exact⟨o,e,c,n,d⟩
theorem uM.new (h:Heap) (items:Array Value):uM (h.push { cls:=.type "tuple",data:=.seq items }) h.objs.size items:=⟨_,Mz _ rfl,rfl,rfl,_,rfl⟩
section
variable (P:Program) (w:World)
def dg (H:Hp) (h:Heap) (a:Addr):HO->Prop
 |.lst xs=>xs.length<=sizeLine/\∃(b:List Value) (n:Nat),Vals xs b/\h.get? a=some { cls:=.type "list",data:=.seq b.toArray n }
 |.tup xs=>xs.length<=sizeLine/\∃b:List Value,Vals xs b/\uM h a b.toArray
 |.dK kvs=>kvs.length<=sizeLine/\(a==sysModules)=false/\∃vs,KV kvs vs/\h.DictOf (dm P w) a vs
 |.dT kvs=>kvs.length<=sizeLine/\(a==sysModules)=false/\∃xs:List (List Key×Addr×Value),
  Paired (λ(p:List Key×V) (q:List Key×Addr×Value)=>p.1=q.1/\H q.2.1=some (.tup (p.1.map kV))/\RelV p.2 q.2.2) kvs xs /\
  ∃o es e,h.get? a=some o/\o.ExactDict/\o.data=.dict es e/\es.toList=xs.map (entryOfKey (tupleKind (dm P w)))/\(xs.map (·.1)).Nodup
 |.set S n=>h.SetOf (intKind P w) a S n
 |.ins C dx fs=>H dx=some (.own a)/\fs.length<=1000/\dx≠a/\h.get? a=some (PySem.W.instObj C dx) /\
  ∃mA,h.Ns1 dx mA/\(∀f,ky (fs.lookup f) (mA f))/\PySem.Within mA (fs.map (·.1))
 |.own _=>∃o,h.get? a=some o
 |.xd fs=>∃mA,h.Ns1 a mA/\∀f,ky (fs.lookup f) (mA f)
 |.rng lo hi=>∃t u v,h.get? a=some { cls:=.type "range",data:=.fields #[.int lo t,.int hi u,.int 1 v] }
 |.frz o u=>h.get? a=some o/\dg H h a u
 |.tbl q=>∃ps:Array Value,h.get? a=some { cls:=.none,data:=.fields ps }/\TriplesOk ps.toList/\∀pos c,codeAmong pos ps.toList=some c->∃c' o vs t,c=.ref c'/\H c'=some (.frz o (.own c'))/\o.data=.fields vs/\vs[1]?=some (.str q t)
 |.met f x=>h.get? a=some (PySem.W.methodObj (.ref f) (.ref x))
 |.ext φ=>φ h/\(∃o,h.get? a=some o)/\∀h1 h2:Heap,φ h1->(∀o,h1.get? a=some o->h2.get? a=some o)->φ h2
def HOk (H:Hp) (h:Heap):Prop:=∀a o,H a=some o->dg P w H h a o
end
section
variable {H':Hp}
theorem dg.lt (x:dg P w H h a o):a<h.objs.size:=by
 cases o with
 |lst xs=>obtain⟨_,_,_,_,e⟩:=x;exact Mx e
 |tup xs=>obtain⟨_,_,_,p⟩:=x;exact p.tup.lt
 |dK kvs=>obtain⟨_,_,_,_,o,_,_,e,_⟩:=x;exact Mx e
 |dT kvs=>obtain⟨_,_,_,_,o,_,_,e,_⟩:=x;exact Mx e
 |set S n=>obtain⟨o,_,_,_,e,_⟩:=x;exact Mx e
 |ins C dx fs=>obtain⟨_,_,_,e,_⟩:=x;exact Mx e
 |own y=>obtain⟨_,e⟩:=x;exact Mx e
 |xd fs=>obtain⟨_,⟨_,_,_,e,_⟩,_⟩:=x;exact Mx e
 |rng lo hi=>obtain⟨_,_,_,e⟩:=x;exact Mx e
 |frz ob u=>obtain⟨e,_⟩:=x;exact Mx e
 |tbl q=>obtain⟨_,e,_⟩:=x;exact Mx e
 |met f y=>exact Mx (show h.get? a=some _ from x)
 |ext φ=>obtain⟨_,⟨_,e⟩,_⟩:=x;exact Mx e
theorem Paired.mapP {F G:α->β->Prop} {c:List α} {e:List β} (h:Paired F c e) (f:∀a b,F a b->G a b):Paired G c e:=by
 induction h with
 |nil=>exact .nil
 |cons r t ih=>exact .cons (f _ _ r) ih
theorem dg.stay (x:dg P w H h a o) (k:∀b u,(b=a\/H b=some (.own a))->h.get? b=some u->h'.get? b=some u)
  (l:∀b,H b=some (.own a)->H' b=some (.own a)) (m:∀b xs,H b=some (.tup xs)->H' b=some (.tup xs)) (s:∀b o u,H b=some (.frz o u)->H' b=some (.frz o u):=by exact λ_ _ _ q=>q):dg P w H' h' a o:=by
 induction o with
 |lst xs=>obtain⟨z,j,n,r,e⟩:=x;exact⟨z,j,n,r,k _ _ (.inl rfl) e⟩
 |tup xs=>obtain⟨z,j,r,g,e,c⟩:=x;exact⟨z,j,r,g,k _ _ (.inl rfl) e,c⟩
 |dK kvs=>obtain⟨z,y,vs,r,g,es,i,e,c⟩:=x;exact⟨z,y,vs,r,g,es,i,k _ _ (.inl rfl) e,c⟩
 |dT kvs =>obtain⟨z,y,xs,r,g,es,i,e,c⟩:=x;exact⟨z,y,xs,Paired.mapP r λp q z=>⟨z.1,m _ _ z.2.1,z.2.2⟩,g,es,i,k _ _ (.inl rfl) e,c⟩
 |set S n=>obtain⟨g,es,i,t,e,c⟩:=x;exact⟨g,es,i,t,k _ _ (.inl rfl) e,c⟩
 |ins C dx fs =>obtain⟨d,z,ne,e,mA,⟨od,es,i,e2,c⟩,r⟩:=x;exact⟨l _ d,z,ne,k _ _ (.inl rfl) e,mA,⟨od,es,i,k _ _ (.inr d) e2,c⟩,r⟩
 |own y=>obtain⟨g,e⟩:=x;exact⟨g,k _ _ (.inl rfl) e⟩
 |xd fs=>obtain⟨mA,⟨od,es,i,e,c⟩,r⟩:=x;exact⟨mA,⟨od,es,i,k _ _ (.inl rfl) e,c⟩,r⟩
 |rng lo hi=>obtain⟨t,u,v,e⟩:=x;exact⟨t,u,v,k _ _ (.inl rfl) e⟩
 |frz g u ih=>obtain⟨e,q⟩:=x;exact⟨k _ _ (.inl rfl) e,ih q⟩
 |tbl q =>obtain⟨ps,e,t,c⟩:=x;exact⟨ps,k a _ (.inl rfl) e,t,λpos A z=>by obtain⟨c',o,vs,t',e1,e2,B⟩:=c pos A z;exact⟨c',o,vs,t',e1,s _ _ _ e2,B⟩⟩
 |met f y =>have e:h.get? a=some (PySem.W.methodObj (.ref f) (.ref y)):=x;show h'.get? a=some (PySem.W.methodObj (.ref f) (.ref y));exact k a _ (.inl rfl) e
 |ext φ=>obtain⟨p,⟨o,e⟩,st⟩:=x;exact⟨st _ _ p λo q=>k _ _ (.inl rfl) q,⟨o,k _ _ (.inl rfl) e⟩,st⟩
theorem HOk.lt (x:HOk P w H h) (e:H a=some o):a<h.objs.size:=(x a o e).lt
theorem HOk.fresh (x:HOk P w H h) (e:h.objs.size<=a):H a=none:=by
 cases q:H a with
 |none=>rfl
 |some u=>exact absurd (ME (x.lt q) e) (Nv _)
theorem HOk.kept (x:HOk P w H h) (k:∀b u,h.get? b=some u->h'.get? b=some u):HOk P w H h':=λa o e =>
 (x a o e).stay (λb u _ q=>k b u q) (λ_ q=>q) λ_ _ q=>q
theorem HOk.laid (x:HOk P w H h) (k:∀b u,h.get? b=some u->h'.get? b=some u) (f:h.objs.size<=a) (new:dg P w (upd H a o) h' a o):HOk P w (upd H a o) h':=λb u e=>by
 have hn:=x.fresh f;by_cases hb:b=a
 ·subst hb;rw[aH]at e;cases e;exact new
 ·rw[aA hb]at e;exact (x b u e).stay (λc v _ q=>k c v q) (λc q=>by rw[aA (aK q hn)];exact q) (λc xs q=>by rw[aA (aK q hn)];exact q) λc ob w' q=>by rw[aA (aK q hn)];exact q
end
def Rd (H:Hp) (a:Addr) (u:HO):Prop:=H a=some u\/∃o,H a=some (.frz o u)
theorem Rd.ok {u:HO} (r:Rd H a u) (x:HOk P w H h):dg P w H h a u:=by
 rcases r with r|⟨o,r⟩
 ·exact x a u r
 ·obtain⟨_,q⟩:=x a _ r;exact q
def Mut:Option HO->Prop
 |some (.lst _)=>True
 |some (.dK _)=>True
 |some (.dT _)=>True
 |some (.set _ _)=>True
 |some (.ins _ _ _)=>True
 |some (.ext _)=>True
 |_=>False
section
variable {x e:Addr} {o':HO}
theorem HOk.write (ok:HOk P w H h) (f:Mut (H x)) (l:e=x\/H e=some (.own x)) (k:∀b u,b≠e->h.get? b=some u->h'.get? b=some u) (j:∃u,h'.get? e=some u)
  (new:dg P w (upd H x o') h' x o'):HOk P w (upd H x o') h':=λb u q=>by
 have a:∀c y,H c=some (.own y)->c≠x:=λc y r z=>by subst z;rw[r]at f;exact f
 have g:∀c xs,H c=some (.tup xs)->c≠x:=λc xs r z=>by subst z;rw[r]at f;exact f
 have i:∀c o u,H c=some (.frz o u)->c≠x:=λc o u r z=>by subst z;rw[r]at f;exact f
 by_cases hb:b=x
 ·subst hb;rw[aH]at q;cases q;exact new
 ·rw[aA hb]at q;by_cases hbe:b=e
  ·have m:H b=some (.own x):=by
    rcases l with z|z
    ·exact absurd (hbe.trans z) hb
    ·rw[hbe];exact z
   rw[q]at m;cases m;obtain⟨v,hv⟩:=j;exact⟨v,by rw[hbe];exact hv⟩
  ·refine (ok b u q).stay (λc v hc r=>k c v ?_ r) (λc r=>by rw[aA (a c b r)];exact r) (λc xs r=>by rw[aA (g c xs r)];exact r) λc o n r=>by rw[aA (i c o n r)];exact r
   rcases hc with rfl|hc
   ·exact hbe
   ·rintro rfl
    rcases l with z|z
    ·exact a c b hc z
    ·rw[hc]at z;cases z;exact hb rfl
end
structure Un (fs ex:List Addr) (H H':Hp) (h h':Heap):Prop where
 keep:∀b o,h.get? b=some o->H b=none->b∉fs->b∉ex->h'.get? b=some o
 slot:∀b o,h.get? b=some o->H b=none->b∈fs->b∉ex->∃sl,h'.get? b=some { o with slots:=sl }
 free:∀b o,h.get? b=some o->H b=none->b∉ex->H' b=none
 there:∀b o,h.get? b=some o->b∉ex->∃o',h'.get? b=some o'
 tups:∀b xs,H b=some (.tup xs)->H' b=some (.tup xs)
 frzs:∀b o u,H b=some (.frz o u)->H' b=some (.frz o u)
 tbls:∀b q,H b=some (.tbl q)->H' b=some (.tbl q)
section
variable {fs fs' ex ex':List Addr} {H1 H2:Hp} {h1 h2:Heap} {x e:Addr}
theorem Un.any (u:Un fs ex H H1 h h1) {a:Obj} (q:h.get? b=some a) (n:H b=none) (c:b∉ex):∃e,h1.get? b=some { a with slots:=e }:=by
 by_cases hb:b∈fs
 ·exact u.slot b a q n hb c
 ·exact⟨a.slots,u.keep b a q n hb c⟩
theorem Un.kept (k:∀b u,h.get? b=some u->h'.get? b=some u):Un fs ex H H h h' :=
 ⟨λb a q _ _ _=>k b a q,λb a q _ _ _=>⟨a.slots,k b a q⟩,λ_ _ _ n _=>n,λb a q _=>⟨a,k b a q⟩,λ_ _ q=>q,λ_ _ _ q=>q,λ_ _ q=>q⟩
theorem Un.refl:Un fs ex H H h h:=Un.kept λ_ _ q=>q
theorem Un.laid (k:∀b u,h.get? b=some u->h'.get? b=some u) (c:h.objs.size<=a) (hn:H a=none):Un fs ex H (upd H a o) h h' where
 keep:=λb u q _ _ _=>k b u q
 slot:=λb u q _ _ _=>⟨u.slots,k b u q⟩
 free:=λb u q n _=>by rw[aA (MB (ME (Mx q) c))];exact n
 there:=λb u q _=>⟨u,k b u q⟩
 tups:=λb xs q=>by rw[aA (aK q hn)];exact q
 frzs:=λb u xs q=>by rw[aA (aK q hn)];exact q
 tbls:=λb ps q=>by rw[aA (aK q hn)];exact q
theorem Un.write (a:Mut (H x)) (i:e=x\/H e=some (.own x)) (k:∀b u,b≠e->h.get? b=some u->h'.get? b=some u) (c:∃u,h'.get? e=some u):Un fs ex H (upd H x o) h h':=by
 have f:∀b,H b=none->b≠x:=λb n z=>by subst z;rw[n]at a;exact a
 have g:∀b,H b=none->b≠e:=λb n z=>by
  subst z;rcases i with r|r
  ·exact f b n r
  ·rw[n]at r;cases r
 have hm:∀b u,H b=some u->¬ Mut (some u)->b≠x:=λb u q nm z=>by subst z;rw[q]at a;exact nm a
 refine⟨λb u q n _ _=>k b u (g b n) q,λb u q n _ _=>⟨u.slots,k b u (g b n) q⟩,λb u q n _=>by rw[aA (f b n)];exact n,λb u q _=>?_,
  λb xs q=>by rw[aA (hm b _ q λz=>z)];exact q,λb u xs q=>by rw[aA (hm b _ q λz=>z)];exact q,λb ps q=>by rw[aA (hm b _ q λz=>z)];exact q⟩
 by_cases hbe:b=e
 ·subst hbe;exact c
 ·exact⟨u,k b u hbe q⟩
end
def trk (h:Heap) (H:Hp):List Addr:=(List.range h.objs.size).filter λa=>(H a).isSome
def qP (h:Heap) (H:Hp):Heap:=PySem.W.hideAll h (trk h H)
theorem AX (h:Heap) (H:Hp):(qP h H).objs.size=h.objs.size:=PySem.W.hideAll_size _ _
theorem DA {o:Obj} (e:h.get? b=some o) (n:H b=none):(qP h H).get? b=some o :=
 PySem.W.hideAll_get _ e λhm=>by have q:(H b).isSome=true:=(MV.mp hm).2;rw[n]at q;simp at q
theorem F5 {o:Obj} (e:(qP h H).get? b=some o):h.get? b=some o/\H b=none:=by
 have a:h.get? b=some o:=PySem.W.of_hideAll (trk h H) e;refine⟨a,?_⟩;cases q:H b with
 |none=>rfl
 |some x =>have hm:b∈trk h H:=MV.mpr ⟨NC.mpr (Mx a),by simp[q]⟩;have z:(qP h H).get? b=none:=PySem.W.hideAll_none (trk h H) hm;rw[z]at e;cases e
structure Mod (K:PySem.W.Frag) (mg:Str->Option Value) (base:Heap):Prop where
 kin:K.In base
 glob:base.Ns mainGlobals mg
 blt:∃mb,base.Ns builtinsNs mb/\∀x:Str,x≠"__name__"->mb x=bootBuiltins x
 nolimit:base.NoLimit
def lG:List Str:=["picked"]
def TabOf (K:PySem.W.Frag) (P:Addr) (q:Str):Prop:=∃x∈lG,∃f oc od fd a c,PySem.W.nsIn K mainGlobals x=some (some (.ref f))/\K.lookup f=some ⟨oc,od,.func fd,a⟩/\fd.code=.ref c/\(∃o vs,K.lookup c=some o/\o.data=.fields vs/\vs[11]?=some (.ref P))/\q=x++".<locals>.<lambda>"
structure Cx where
 prog:Program
 w:World
 K:PySem.W.Frag
 mg:Str->Option Value
 base:Heap
 A:Around
 N:List Str
 s₀:Shared
 H₀:Hp
 env:Env
 outer:List Env
 stack:List Env
 ex:List Addr
 fn:Str->Bool
 calm:Bool
 pn:List (Addr×Obj)
 xe:Value->Shared->Prop
variable {X:Cx}
def frs (l:List Env):List Addr:=l.filterMap (·.frame)
abbrev Cx.fs (X:Cx):List Addr:=frs X.outer
def Vis (sc:Scope) (x:Str):Prop:=sc.names.lookup x=some .local\/sc.names.lookup x=some .cell\/sc.names.lookup x=some .free
def Loc (sc:Scope) (x:Str):Prop:=sc.names.lookup x=some .local\/sc.names.lookup x=some .cell
def Look (env:Env) (h:Heap) (m:Str->Option Value) (x:Str) (u:Value):Prop :=
 (env.kindOf x=some .local/\m x=some u)\/((env.kindOf x=some .cell\/env.kindOf x=some .free)/\∃c,env.cells.lookup x=some c/\h.IsCell c (some u))
structure Cx.Ok (X:Cx):Prop where
 mod:Mod X.K X.mg X.base
 kind:X.env.scope.kind=.function
 glob:X.env.globals=mainGlobals
 blt:X.env.builtins=builtinsNs
 above:X.s₀.heap.objs.size<=X.env.locals
 inj:∀x y c,X.env.cells.lookup x=some c->X.env.cells.lookup y=some c->x=y
 has:∀x,(X.env.kindOf x=some .cell\/X.env.kindOf x=some .free)->∃c,X.env.cells.lookup x=some c
 cab:∀x c,X.fn x=true->X.env.cells.lookup x=some c->X.s₀.heap.objs.size<=c
 hd:X.calm=true->X.A.handled=none
 frames:X.A.frames=some X.stack
 stk:X.stack=X.outer\/(X.stack=X.env::X.outer/\X.env.frame=some X.env.locals)
 exf:∀b∈X.ex,b≠X.env.locals/\∀x c,X.env.cells.lookup x=some c->c≠b
 bs:∀b o,X.base.get? b=some o->X.s₀.heap.get? b=some o/\X.H₀ b=none
 bsz:X.base.objs.size<=X.s₀.heap.objs.size
 noex:∀b o,X.base.get? b=some o->b∉X.ex
 exfs:∀b∈X.ex,b∉X.fs
 funs:X.s₀.heap.FunFrames X.base X.outer
 frf:∀b∈X.fs,X.H₀ b=none
structure Inv (X:Cx) (pins:List (Addr×Obj)) (σ:List (Option V)) (H:Hp) (s:Shared):Prop where
 ok:X.Ok
 os:s.os=X.s₀.os
 bare:AllBare s.gens
 base:Un X.fs X.ex X.H₀ H X.s₀.heap s.heap
 loc:∃m,s.heap.Ns X.env.locals m/\∀(i:Nat) (x:Str) (v:V),X.N[i]?=some x->σ[i]?=some (some v)->Vis X.env.scope x->∃u,RelV v u/\Look X.env s.heap m x u
 cell:∀x c,X.env.cells.lookup x=some c->∃v,s.heap.IsCell c v
 free:H X.env.locals=none
 freeC:∀x c,X.env.cells.lookup x=some c->H c=none
 pin:∀p∈X.pn++pins,s.heap.get? p.1=some p.2/\H p.1=none/\p.1≠X.env.locals/\p.1∉X.fs/\∀v,p.2.data≠.cell v
 hok:HOk X.prog X.w H s.heap
 len:σ.length=X.N.length
 tab:∀P q,TabOf X.K P q->H P=some (.tbl q)
section
variable {σ:List (Option V)} {H':Hp}
theorem Cx.Ok.nofr (ok:X.Ok) {o:Obj} (e:X.base.get? b=some o):b∉X.fs:=λa=>by have:=(ok.funs.mem a).1;rw[e]at this;cases this
theorem Inv.bs (I:Inv X pins σ H s):∀b o,X.base.get? b=some o->s.heap.get? b=some o/\H b=none:=λb o e =>
 ⟨I.base.keep b o (I.ok.bs b o e).1 (I.ok.bs b o e).2 (I.ok.nofr e) (I.ok.noex b o e),I.base.free b o (I.ok.bs b o e).1 (I.ok.bs b o e).2 (I.ok.noex b o e)⟩
theorem Inv.bk (I:Inv X pins σ H s):∀b o,X.base.get? b=some o->s.heap.get? b=some o:=λb o e=>(I.bs b o e).1
theorem Inv.mod (I:Inv X pins σ H s):Mod X.K X.mg X.base:=I.ok.mod
theorem Inv.kIn (I:Inv X pins σ H s):X.K.In s.heap:=I.ok.mod.kin.keeps I.bk
theorem Inv.lt (I:Inv X pins σ H s):X.env.locals<s.heap.objs.size:=let ⟨_,hn,_⟩:=I.loc;hn.lt
theorem Inv.sz (I:Inv X pins σ H s):X.s₀.heap.objs.size<=s.heap.objs.size:=Nc I.ok.above (Ot I.lt)
theorem Inv.nofs (I:Inv X pins σ H s) (h:s.heap.objs.size<=a):a∉X.fs:=λb=>by obtain⟨_,o,c,_⟩:=I.ok.funs.mem b;exact absurd (ME (Mx c) (Nc I.sz h)) (Nv _)
theorem Inv.cne (I:Inv X pins σ H s):∀x c,X.env.cells.lookup x=some c->c≠X.env.locals:=λx c e z=>by obtain⟨v,o,f,hd⟩:=I.cell x c e;obtain⟨m,⟨o',es,ep,a,b,_⟩,_⟩:=I.loc;rw[z,a]at f;cases f;rw[b]at hd;cases hd
theorem Inv.funs (I:Inv X pins σ H s):s.heap.FunFrames X.base X.outer:=by
 have all:∀(l:List Env),(∀b∈frs l,b∈X.fs)->X.s₀.heap.FunFrames X.base l->s.heap.FunFrames X.base l:=by
  intro l
  induction l with
  |nil=>intro _ _;trivial
  |cons env r ih =>
   intro g hl;obtain⟨h,⟨L,o,a,hn,i,hd⟩,j⟩:=hl;have c:L∈X.fs:=g L (by unfold frs;rw[NU,a];exact M6);obtain⟨sl,e⟩:=I.base.slot L o i (I.ok.frf L c) c λz=>I.ok.exfs L z c
   exact⟨h,⟨L,_,a,hn,e,hd⟩,ih (λb f=>g b (by unfold frs;rw[NU,a];exact M4 _ f)) j⟩
 exact all X.outer (λ_ f=>f) I.ok.funs
theorem Inv.stack (I:Inv X pins σ H s):s.heap.FunFrames X.base X.stack:=by
 rcases I.ok.stk with e|⟨e,a⟩
 ·rw[e];exact I.funs
 ·rw[e];obtain⟨m,hn,_⟩:=I.loc;refine .cons (by rw[I.ok.kind];decide) a hn ?_ I.funs;exact Heap.get?_none_of_le (Nc I.ok.bsz I.ok.above)
theorem Inv.stkSub (I:Inv X pins σ H s):∀b∈frs X.stack,b∈X.env.locals::X.fs:=λb a=>by
 rcases I.ok.stk with e|⟨e,c⟩
 ·rw[e]at a;exact M4 _ a
 ·rw[e]at a;unfold frs at a;rw[NU,c]at a;exact a
theorem Inv.stkFree (I:Inv X pins σ H s):∀b∈frs X.stack,H b=none:=λb a=>by
 rcases M7.mp (I.stkSub b a) with e|a
 ·rw[e];exact I.free
 ·obtain⟨_,o,c,_⟩:=I.ok.funs.mem a;exact I.base.free b o c (I.ok.frf b a) λz=>I.ok.exfs b z a
theorem Inv.step {t':Nat} {d':Drawn} (I:Inv X pins σ H s)
  (f:∀b∈ch,(b∈X.ex\/X.s₀.heap.objs.size<=b)/\b≠X.env.locals/\(∀x c,X.env.cells.lookup x=some c->c≠b)/\∀p∈X.pn++pins,p.1≠b)
  (keep:∀b o,b≠X.env.locals->b∉X.fs->b∉ch->s.heap.get? b=some o->H b=none->h'.get? b=some o)
  (slot:∀b o,b≠X.env.locals->b∈X.fs->b∉ch->s.heap.get? b=some o->H b=none->∃B,h'.get? b=some { o with slots:=B }) (free:∀b o,b∉ch->s.heap.get? b=some o->H b=none->H' b=none)
  (there:∀b o,b∉ch->s.heap.get? b=some o->∃o',h'.get? b=some o')
  (tups:∀b xs,H b=some (.tup xs)->H' b=some (.tup xs)) (frzs:∀b o u,H b=some (.frz o u)->H' b=some (.frz o u)) (tbls:∀b q,H b=some (.tbl q)->H' b=some (.tbl q))
  (ns:∀m,s.heap.Ns X.env.locals m->h'.Ns X.env.locals m) (hok:HOk X.prog X.w H' h') (G:AllBare g') :
  Inv X pins σ H' { s with heap:=h',gens:=g',drawn:=d',toks:=t' }:=by
 have A:∀b o,X.s₀.heap.get? b=some o->b≠X.env.locals:=λb o e=>MB (ME (Mx e) I.ok.above)
 have h:∀b o,X.s₀.heap.get? b=some o->b∉X.ex->b∉ch:=λb o e a j=>by
  rcases (f b j).1 with z|z
  ·exact a z
  ·exact absurd (ME (Mx e) z) (Nv _)
 have cellK:∀x c,X.env.cells.lookup x=some c->∀v,s.heap.IsCell c v->h'.IsCell c v:=λx c e v C=>by
  obtain⟨o,y,hd⟩:=C;have g:c∉ch:=λz=>(f c z).2.2.1 x c e rfl
  by_cases hc:c∈X.fs
  ·obtain⟨B,q⟩:=slot c o (I.cne x c e) hc g y (I.freeC x c e);exact⟨_,q,hd⟩
  ·exact⟨o,keep c o (I.cne x c e) hc g y (I.freeC x c e),hd⟩
 refine⟨I.ok,I.os,G,⟨λb o e n j a=>?_,λb o e n j a=>?_,λb o e n a=>?_,λb o e a=>?_,λb xs e=>tups b xs (I.base.tups b xs e),λb o xs e=>frzs b o xs (I.base.frzs b o xs e),λb ps e=>?_⟩,?_,λx c e=>?_,?_,λx c e=>?_,λp E=>?_,hok,I.len,λP q t=>tbls P q (I.tab P q t)⟩
 ·exact keep b o (A b o e) j (h b o e a) (I.base.keep b o e n j a) (I.base.free b o e n a)
 ·obtain⟨B,e1⟩:=I.base.slot b o e n j a;obtain⟨D,e2⟩:=slot b _ (A b o e) j (h b o e a) e1 (I.base.free b o e n a);exact⟨D,e2⟩
 ·obtain⟨o',e1⟩:=I.base.there b o e a;exact free b o' (h b o e a) e1 (I.base.free b o e n a)
 ·obtain⟨o',e1⟩:=I.base.there b o e a;exact there b o' (h b o e a) e1
 ·exact tbls b _ (I.base.tbls b ps e)
 ·obtain⟨m,hn,hl⟩:=I.loc;refine⟨m,ns m hn,λi x v e1 e2 J=>?_⟩;obtain⟨u,r,l⟩:=hl i x v e1 e2 J;refine⟨u,r,?_⟩;rcases l with l|⟨k,c,e,z⟩
  ·exact .inl l
  ·exact .inr ⟨k,c,e,cellK x c e _ z⟩
 ·obtain⟨v,z⟩:=I.cell x c e;exact⟨v,cellK x c e v z⟩
 ·obtain⟨m,⟨o,_,_,y,_⟩,_⟩:=I.loc;exact free _ o (λz=>(f _ z).2.1 rfl) y I.free
 ·obtain⟨v,o,y,hd⟩:=I.cell x c e;exact free c o (λz=>(f c z).2.2.1 x c e rfl) y (I.freeC x c e)
 ·obtain⟨e,n,ne,F,d⟩:=I.pin p E;have g:p.1∉ch:=λz=>(f p.1 z).2.2.2 p E rfl
  exact⟨keep p.1 p.2 ne F g e n,free p.1 p.2 g e n,ne,F,d⟩
theorem Inv.un {t':Nat} (I:Inv X pins σ H s) (u:Un X.fs [] H H' s.heap h') (hok:HOk X.prog X.w H' h'):Inv X pins σ H' { s with heap:=h',toks:=t' }:=by obtain⟨m,⟨o,es,ep,h,r⟩,_⟩:=id I.loc;obtain⟨sl,i⟩:=u.any h I.free (by simp);exact I.step (g':=s.gens) (d':=s.drawn) (ch:=[]) (λ_ z=>nomatch z) (λb o _ c _ e n=>u.keep b o e n c (by simp)) (λb o _ c _ e n=>u.slot b o e n c (by simp)) (λb o _ e n=>u.free b o e n (by simp)) (λb o _ e=>u.there b o e (by simp)) u.tups u.frzs u.tbls (λm' hm=>by obtain⟨o',f,g,a,j⟩:=hm;rw[h]at a;cases a;exact⟨_,f,g,i,j⟩) hok I.bare
theorem Inv.call {t':Nat} {d':Drawn} (I:Inv X pins σ H s) (u:Un (frs X.stack) ch H H' s.heap h') (hok:HOk X.prog X.w H' h') (l:AllBare g')
  (a:∀b∈ch,(b∈X.ex\/X.s₀.heap.objs.size<=b)/\b≠X.env.locals/\(∀x c,X.env.cells.lookup x=some c->c≠b)/\∀p∈X.pn++pins,p.1≠b) :
  Inv X pins σ H' { s with heap:=h',gens:=g',drawn:=d',toks:=t' }:=by
 obtain⟨m,⟨o,es,ep,j,r⟩,_⟩:=id I.loc;obtain⟨sl,g⟩:=u.any j I.free λz=>(a _ z).2.1 rfl
 exact I.step (ch:=ch) a (λb o g q hc e n=>u.keep b o e n (λz=>(M7.mp (I.stkSub b z)).elim g q) hc) (λb o _ _ hc e n=>u.any e n hc) (λb o hc e n=>u.free b o e n hc) (λb o hc e=>u.there b o e hc) u.tups u.frzs u.tbls (λm' hm=>by obtain⟨o',h,i,f,t⟩:=hm;rw[j]at f;cases f;exact⟨_,h,i,g,t⟩) hok l
theorem Inv.turned {t':Nat} (I:Inv X pins σ H s) (k:∀b o,b≠it->s.heap.get? b=some o->h'.get? b=some o) (hn:H it=none) (f:it≠X.env.locals)
  (h1:it∈X.ex\/X.s₀.heap.objs.size<=it) (h2:∀x c,X.env.cells.lookup x=some c->c≠it) (g:∀p∈X.pn++pins,p.1≠it):Inv X pins σ H { s with heap:=h',toks:=t' }:=by
 have a:∀b u,H b=some u->b≠it:=λb u e z=>by rw[z,hn]at e;cases e
 refine I.step (g':=s.gens) (d':=s.drawn) (ch:=[it]) (λb h=>?_) (λb o _ _ hc e _=>k b o (λz=>hc (by simp[z])) e) (λb o _ _ hc e _=>⟨o.slots,k b o (λz=>hc (by simp[z])) e⟩) (λ_ _ _ _ n=>n)
  (λb o hc e=>⟨o,k b o (λz=>hc (by simp[z])) e⟩) (λ_ _ e=>e) (λ_ _ _ e=>e) (λb ps e=>e) (λm hm=>?_) (λb u e=>?_) I.bare
 ·have e:b=it:=by simpa using h
  subst e;exact⟨h1,f,h2,g⟩
 ·obtain⟨o,es,i,j,r⟩:=hm;exact⟨o,es,i,k _ o (Ne.symm f) j,r⟩
 ·refine (I.hok b u e).stay (λc v hc q=>k c v ?_ q) (λ_ q=>q) λ_ _ q=>q
  rcases hc with z|z
  ·rw[z];exact a b u e
  ·exact a c _ z
theorem Inv.tok (I:Inv X pins σ H s) (t:Nat):Inv X pins σ H { s with toks:=t }:=I.un (h':=s.heap) (t':=t) Un.refl I.hok
theorem Inv.kept {t':Nat} (I:Inv X pins σ H s) (k:∀b u,s.heap.get? b=some u->h'.get? b=some u):Inv X pins σ H { s with heap:=h',toks:=t' }:=I.un (Un.kept k) (I.hok.kept k)
theorem Inv.laid {t':Nat} (I:Inv X pins σ H s) (k:∀b u,s.heap.get? b=some u->h'.get? b=some u) (c:s.heap.objs.size<=a) (new:dg X.prog X.w (upd H a o) h' a o) :
 Inv X pins σ (upd H a o) { s with heap:=h',toks:=t' }:=I.un (Un.laid k c (I.hok.fresh c)) (I.hok.laid k c new)
theorem Inv.write {x e:Addr} {t':Nat} (I:Inv X pins σ H s) (c:Mut (H x)) (f:e=x\/H e=some (.own x)) (k:∀b u,b≠e->s.heap.get? b=some u->h'.get? b=some u) (a:∃u,h'.get? e=some u)
 (new:dg X.prog X.w (upd H x o) h' x o):Inv X pins σ (upd H x o) { s with heap:=h',toks:=t' }:=I.un (Un.write c f k a) (I.hok.write c f k a new)
theorem Inv.pins_of {pins':List (Addr×Obj)} (I:Inv X pins σ H s) (h:∀p∈pins',s.heap.get? p.1=some p.2/\H p.1=none/\p.1≠X.env.locals/\p.1∉X.fs/\∀v,p.2.data≠.cell v):Inv X pins' σ H s :=
 ⟨I.ok,I.os,I.bare,I.base,I.loc,I.cell,I.free,I.freeC,λp a=>(MM.mp a).elim (λz=>I.pin p (MW _ z)) (h p),I.hok,I.len,I.tab⟩
theorem wj (c:N.Nodup) (a:N[i]?=some x) (b:N[j]?=some x):i=j:=by obtain⟨h1,e1⟩:=MQ.mp a;obtain⟨h2,e2⟩:=MQ.mp b;exact (List.getElem_inj c).mp (e1.trans e2.symm)
theorem rB {Q:Unit->Shared->Prop} (I:Inv X pins σ H s) (hN:X.N.Nodup) (hi:X.N[i]?=some x) (g:Loc X.env.scope x) (r:RelV v u)
  (h:∀s',Inv X pins (σ.set i (some v)) H s'->(∃a,Heap.SameBut a s.heap s'.heap/\(a=X.env.locals\/X.env.cells.lookup x=some a))->Q () s') (hf:X.fn x=true\/X.env.scope.names.lookup x=some .local:=by first|exact .inl rfl|exact .inr rfl|assumption):wpAny M A (storeName X.env x u) Q E s:=by
 obtain⟨m,hn,hl⟩:=id I.loc;have F:(X.env.scope.kind==.class||(X.env.scope.kind==.module&&X.env.locals != X.env.globals))=false:=by rw[I.ok.kind];rfl
 have t:i<σ.length:=by rw[I.len];exact (MQ.mp hi).1
 have cne:=I.cne;have tracked:∀{a:Addr} {h':Heap},(∃o,s.heap.get? a=some o/\H a=none)->Heap.SameBut a s.heap h'->HOk X.prog X.w H h':=λ{a h'} ha f b ob e=>by
  obtain⟨_,_,l⟩:=ha;refine (I.hok b ob e).stay (λc L hc q=>(f.2 c ?_).trans q) (λ_ q=>q) λ_ _ q=>q
  rintro rfl
  rcases hc with rfl|hc
  ·rw[l]at e;cases e
  ·rw[l]at hc;cases hc
 rcases g with B|B
 ·refine wpAny_storeName_local B hn (λh' O f=>?_) F;obtain⟨oL,_,_,P,_⟩:=id hn;refine h _ ⟨I.ok,I.os,I.bare,⟨λb o e n C g=>?_,λb o e n C g=>?_,I.base.free,λb o e g=>?_,I.base.tups,I.base.frzs,I.base.tbls⟩,⟨_,O,λj y R e1 e2 S=>?_⟩,λy c e=>?_,I.free,I.freeC,λp T=>?_,tracked ⟨oL,P,I.free⟩ f,by simpa using I.len,I.tab⟩ ⟨_,f,.inl rfl⟩
  ·exact (f.2 b (MB (ME (Mx e) I.ok.above))).trans (I.base.keep b o e n C g)
  ·obtain⟨U,e1⟩:=I.base.slot b o e n C g;exact⟨U,(f.2 b (MB (ME (Mx e) I.ok.above))).trans e1⟩
  ·obtain⟨o',e1⟩:=I.base.there b o e g;exact⟨o',(f.2 b (MB (ME (Mx e) I.ok.above))).trans e1⟩
  ·by_cases hj:j=i
   ·subst hj;rw[hi]at e1;cases e1;rw[N1 t]at e2;cases e2;exact⟨u,r,.inl ⟨B,by simp⟩⟩
   ·rw[MP (Ne.symm hj)]at e2;obtain⟨W,Y,q⟩:=hl j y R e1 e2 S;refine⟨W,Y,?_⟩;rcases q with⟨k,e⟩|⟨k,c,e,z⟩
    ·refine .inl ⟨k,?_⟩;have:y≠x:=λe=>hj (wj hN e1 (e▸hi))
     simp[this,e]
    ·exact .inr ⟨k,c,e,z.sameBut f (cne y c e)⟩
  ·obtain⟨L,z⟩:=I.cell y c e;exact⟨L,z.sameBut f (cne y c e)⟩
  ·obtain⟨e,n,ne,Z,d⟩:=I.pin p T;exact⟨(f.2 p.1 ne).trans e,n,ne,Z,d⟩
 ·have D:X.fn x=true:=by
   rcases hf with z|z
   ·exact z
   ·rw[z]at B;cases B
  obtain⟨c,hc⟩:=I.ok.has x (.inl B);obtain⟨L,z⟩:=I.cell x c hc;refine wpAny_storeName_cell I.ok.kind B hc z (λh' G f=>?_);obtain⟨oc,J,K⟩:=id z;refine h { s with heap:=h' } ⟨I.ok,I.os,I.bare,⟨λb o e n C g=>?_,λb o e n C g=>?_,I.base.free,λb o e g=>?_,I.base.tups,I.base.frzs,I.base.tbls⟩,⟨m,hn.sameBut f (Ne.symm (cne x c hc)),λj y R e1 e2 S=>?_⟩,λy c' e=>?_,I.free,I.freeC,λp T=>?_,tracked ⟨oc,J,I.freeC x c hc⟩ f,by simpa using I.len,I.tab⟩ ⟨c,f,.inr hc⟩
  ·exact (f.2 b (MB (ME (Mx e) (I.ok.cab x c D hc)))).trans (I.base.keep b o e n C g)
  ·obtain⟨U,e1⟩:=I.base.slot b o e n C g;exact⟨U,(f.2 b (MB (ME (Mx e) (I.ok.cab x c D hc)))).trans e1⟩
  ·obtain⟨o',e1⟩:=I.base.there b o e g;exact⟨o',(f.2 b (MB (ME (Mx e) (I.ok.cab x c D hc)))).trans e1⟩
  ·by_cases hj:j=i
   ·subst hj;rw[hi]at e1;cases e1;rw[N1 t]at e2;cases e2;exact⟨u,r,.inr ⟨.inl B,c,hc,G⟩⟩
   ·rw[MP (Ne.symm hj)]at e2;obtain⟨W,Y,q⟩:=hl j y R e1 e2 S;refine⟨W,Y,?_⟩;rcases q with q|⟨k,c',e,z'⟩
    ·exact .inl q
    ·refine .inr ⟨k,c',e,z'.sameBut f ?_⟩
     rintro rfl
     exact hj (wj hN e1 (I.ok.inj _ _ _ e hc▸hi))
  ·by_cases hcc:c'=c
   ·subst hcc;exact⟨_,G⟩
   ·obtain⟨w2,z2⟩:=I.cell y c' e;exact⟨w2,z2.sameBut f hcc⟩
  ·obtain⟨e,n,ne,Z,d⟩:=I.pin p T;refine⟨(f.2 p.1 ?_).trans e,n,ne,Z,d⟩;intro q;rw[q,J]at e;have q':oc=p.2:=Option.some.inj e;exact d L (by rw[<-q'];exact K)
theorem qJ {Q:Unit->Shared->Prop} (I:Inv X pins σ H s) (a:X.N.Nodup) (hi:X.N[i]?=some x) (b:Loc X.env.scope x) (r:RelV v u)
  (h:∀s',Inv X pins (σ.set i (some v)) H s'->Q () s') (c:X.fn x=true\/X.env.scope.names.lookup x=some .local:=by first|exact .inl rfl|exact .inr rfl|assumption):wpAny M A (storeName X.env x u) Q E s :=
 rB I a hi b r (λs' e _=>h s' e) c
theorem Inv.call' (I:Inv X pins σ H s) (f:s'.os=s.os) (u:Un (frs X.stack) ch H H' s.heap s'.heap) (hok:HOk X.prog X.w H' s'.heap) (g:AllBare s'.gens)
  (a:∀b∈ch,(b∈X.ex\/X.s₀.heap.objs.size<=b)/\b≠X.env.locals/\(∀x c,X.env.cells.lookup x=some c->c≠b)/\∀p∈X.pn++pins,p.1≠b):Inv X pins σ H' s':=by
 obtain⟨h',g',d',t',o'⟩:=s';have e:o'=s.os:=f;subst e;exact I.call (g':=g') (t':=t') (d':=d') u hok g a
end
abbrev XK:=Value->Option Addr->Hp->Prop
abbrev St:=List (Option V)
variable {σ:St}
abbrev VK:=V->Hp->Prop
abbrev TE:=St->Hp->VK->Prop
variable {t:TE}
abbrev TT:=St->Hp->(Bool->Hp->Prop)->Prop
abbrev TA:=St->Hp->(List V->Hp->Prop)->Prop
structure Ends where
 nx:St->Hp->Prop
 rt:VK
 bk:St->Hp->Prop:=λ_ _=>False
 ct:St->Hp->Prop:=λ_ _=>False
abbrev TS:=Ends->St->Hp->Prop
def EP (X:Cx) (pins:List (Addr×Obj)) (σ:St) (Q:VK) (u:Value) (s':Shared):Prop:=∃v H',Inv X pins σ H' s'/\RelV v u/\Q v H'
def TP (X:Cx) (pins:List (Addr×Obj)) (σ:St) (Q:Bool->Hp->Prop) (b:Bool) (s':Shared):Prop:=∃H',Inv X pins σ H' s'/\Q b H'
def AP (X:Cx) (pins:List (Addr×Obj)) (σ:St) (Q:List V->Hp->Prop) (us:List Value) (s':Shared):Prop:=∃vs H',Inv X pins σ H' s'/\Vals vs us/\Q vs H'
def SP (X:Cx) (pins:List (Addr×Obj)) (D:Ends) (f:Flow) (s':Shared):Prop :=
 match f with
 |.next=>∃a H',Inv X pins a H' s'/\D.nx a H'
 |.brk=>∃a H',Inv X pins a H' s'/\D.bk a H'
 |.cont=>∃a H',Inv X pins a H' s'/\D.ct a H'
 |.ret u=>∃v a H',Inv X pins a H' s'/\RelV v u/\D.rt v H'
def PE (X:Cx) (e:Expr) (t:TE):Prop :=
 ∀(pins:List (Addr×Obj)) (s:Shared) (σ:St) (H:Hp) (Q:VK),Inv X pins σ H s->t σ H Q->wpAny (model X.prog X.w) X.A (eval e X.env) (EP X pins σ Q) X.xe s
def PT (X:Cx) (e:Expr) (t:TT):Prop :=
 ∀(pins:List (Addr×Obj)) (s:Shared) (σ:St) (H:Hp) (Q:Bool->Hp->Prop),Inv X pins σ H s->t σ H Q->wpAny (model X.prog X.w) X.A (isTrue e X.env (eval e X.env)) (TP X pins σ Q) X.xe s
def PW (X:Cx) (e:Expr) (t:TT):Prop :=
 ∀(whole:Sem Value) (pins:List (Addr×Obj)) (s:Shared) (σ:St) (H:Hp) (Q:Bool->Hp->Prop),Inv X pins σ H s->t σ H Q->wpAny (model X.prog X.w) X.A (isTrue e X.env whole) (TP X pins σ Q) X.xe s
theorem PW.pt {t:TT} (h:PW X e t):PT X e t:=h _
def PA (X:Cx) (es:List Expr) (t:TA):Prop :=
 ∀(pos:Pos) (pins:List (Addr×Obj)) (s:Shared) (σ:St) (H:Hp) (Q:List V->Hp->Prop),Inv X pins σ H s->t σ H Q->wpAny (model X.prog X.w) X.A (spliced (backTo pos (starEach es X.env))) (AP X pins σ Q) X.xe s
def PS (X:Cx) (st:Stmt) (t:TS):Prop :=
 ∀(pins:List (Addr×Obj)) (s:Shared) (σ:St) (H:Hp) (D:Ends),Inv X pins σ H s->t D σ H->wpAny (model X.prog X.w) X.A (exec st X.env) (SP X pins D) X.xe s
def PSs (X:Cx) (st:List Stmt) (t:TS):Prop :=
 ∀(pins:List (Addr×Obj)) (s:Shared) (σ:St) (H:Hp) (D:Ends),Inv X pins σ H s->t D σ H->wpAny (model X.prog X.w) X.A (execs st X.env) (SP X pins D) X.xe s
theorem thn {t:Sem α} {Q b:α->Shared->Prop} (h:wpAny M A t Q E s) (c:∀a s,Q a s->b a s):wpAny M A t b E s:=wpAny_mono h c λ_ _ x=>x
section
theorem bin {a b:Expr} {ta tb:TE} (ha:PE X a ta) (i:PE X b tb) (I:Inv X pins σ H s) (h:ta σ H λx H1=>tb σ H1 λy H2=>R x y H2)
  {Q:α->Shared->Prop} {f:Value->Value->Sem α}
  (j:∀v u s2 x y H2,Inv X pins σ H2 s2->RelV x v->RelV y u->R x y H2->wpAny (model X.prog X.w) X.A (f v u) Q X.xe s2) :
  wpAny (model X.prog X.w) X.A (eval a X.env) (λv e=>wpAny (model X.prog X.w) X.A (eval b X.env) (λu g=>wpAny (model X.prog X.w) X.A (f v u) Q X.xe g) X.xe e) X.xe s:=by
 refine thn (ha pins s σ H _ I h) λv l c=>?_
 obtain⟨x,H1,m,n,o⟩:=c;refine thn (i pins l σ H1 _ m o) λu s2 c=>?_
 obtain⟨y,H2,p,q,r⟩:=c;exact j v u s2 x y H2 p n q r
def K7 (i:Nat):TE:=λσ H Q=>∃v,σ[i]?=some (some v)/\Q v H
def tC (v:V):TE:=λ_ H Q=>Q v H
theorem kS (g:X.N[i]?=some x) (hv:Vis X.env.scope x) (hd:(x==("__debug__":Str))=false:=by decide) (f:(x==("__classdict__":Str))=false:=by decide):PE X (.Name x pos) (K7 i):=by
 intro pins s σ H Q I h;obtain⟨v,e,h⟩:=h;obtain⟨m,hn,hl⟩:=I.loc;obtain⟨u,r,l⟩:=hl i x v g e hv;have fin:EP X pins σ Q u s:=⟨v,H,I,r,h⟩
 rcases l with⟨b,hm⟩|⟨b,c,hc,a⟩
 ·exact wpAny_Name (wpAny_loadName_local I.ok.kind b hn hm fin) hd
 ·rcases b with b|b
  ·exact wpAny_Name (wpAny_loadName_cell I.ok.kind b hc a fin) hd
  ·exact wpAny_Name (wpAny_loadName_free I.ok.kind b hc a fin f) hd
theorem gm {i j pos}:PE X (.Constant (.int i) j pos) (tC (.int i)):=λ_ _ _ H _ I h=>wpAny_Constant_int ⟨.int i,H,I.tok _,⟨_,rfl⟩,h⟩
theorem Ll {b j pos}:PE X (.Constant (.bool b) j pos) (tC (.bl b)):=λ_ _ _ H _ I h=>Constant_bool ⟨.bl b,H,I,rfl,h⟩
theorem HZ {j pos}:PE X (.Constant .none j pos) (tC .non):=λ_ _ _ H _ I h=>Constant_none ⟨.non,H,I,rfl,h⟩
theorem JE {x j pos}:PE X (.Constant (.str x) j pos) (tC (.str x)):=λ_ _ _ H _ I h=>Calls.Constant_str ⟨.str x,H,I.tok _,⟨_,rfl⟩,h⟩
def Gl (X:Cx) (x:Str):Prop:=X.env.kindOf x=some .globalImplicit
theorem oh (I:Inv X pins σ H s) (a:Gl X x) (hm:X.mg x=some u) (h:Q u s)
  (hd:(x==("__debug__":Str))=false:=by decide):wpAny (model X.prog X.w) X.A (eval (.Name x pos) X.env) Q E s :=
 Calls.Name_function_global I.ok.kind a (Calls.loadGlobal_global (by rw[I.ok.glob];exact I.mod.glob.keeps I.bk) hm h) hd
theorem gp (I:Inv X pins σ H s) (a:Gl X x) (hm:X.mg x=none) (hv:bootBuiltins x=some u) (h:Q u s)
  (hn:x≠"__name__":=by decide) (hd:(x==("__debug__":Str))=false:=by decide):wpAny (model X.prog X.w) X.A (eval (.Name x pos) X.env) Q E s:=by
 obtain⟨mb,h1,h2⟩:=I.mod.blt;exact Calls.Name_function_global I.ok.kind a (Calls.loadGlobal_builtin (by rw[I.ok.glob];exact I.mod.glob.keeps I.bk) hm (by rw[I.ok.blt];exact h1.keeps I.bk) ((h2 x hn).trans hv) h) hd
theorem G8 (a:Gl X x) (hm:X.mg x=some u) (r:RelV v u) (hd:(x==("__debug__":Str))=false:=by decide):PE X (.Name x pos) (tC v) :=
 λ_ _ _ H _ I h=>oh I a hm ⟨v,H,I,r,h⟩ hd
theorem ER (a:Gl X x) (hm:X.mg x=none) (hv:bootBuiltins x=some u) (r:RelV v u) (hn:x≠"__name__":=by decide) (hd:(x==("__debug__":Str))=false:=by decide):PE X (.Name x pos) (tC v) :=
 λ_ _ _ H _ I h=>gp I a hm hv ⟨v,H,I,r,h⟩ hn hd
def t2I (ta tb:TE) (k:Int->Int->Hp->Prop):St->Hp->Prop:=λσ H=>ta σ H λx H1=>tb σ H1 λy H2=>∃i j,x=.int i/\y=.int j/\k i j H2
variable {a b:Expr} {ta tb:TE}
def PC (X:Cx) (op:CmpOp) (a b:Expr) (t:TE):Prop :=
 ∀(pins:List (Addr×Obj)) (s:Shared) (σ:St) (H:Hp) (Q:VK),Inv X pins σ H s->t σ H Q ->
  wpAny (model X.prog X.w) X.A (eval a X.env) (λv c=>wpAny (model X.prog X.w) X.A (eval b X.env) (λu e=>wpAny (model X.prog X.w) X.A (compareOp op v u) (EP X pins σ Q) X.xe e) X.xe c) X.xe s
theorem vL (b:Expr) (h:op≠.In) (h2:op≠.NotIn):behindInMarks op b=false:=by
 have e1:(op==CmpOp.In)=false:=by cases op <;> first|rfl|exact absurd rfl h
 have e2:(op==CmpOp.NotIn)=false:=by cases op <;> first|rfl|exact absurd rfl h2
 cases b <;> simp[behindInMarks,e1,e2]
def Lm (p:Int->Int->Bool) (ta tb:TE):TE:=λσ H Q=>t2I ta tb (λi j H2=>Q (.bl (p i j)) H2) σ H
abbrev tLt:TE->TE->TE:=Lm λi j=>decide (i<j)
theorem Kg {p:Int->Int->Bool} (ha:PE X a ta) (c:PE X b tb)
  (rule:∀(i j:Int) (t u:Tok) (Q:Value->Shared->Prop) (s:Shared),Q (.bool (p i j)) s->wpAny (model X.prog X.w) X.A (compareOp op (.int i t) (.int j u)) Q X.xe s):PC X op a b (Lm p ta tb):=by
 intro pins s σ H Q I h;refine bin ha c I h λv u s2 x y H2 e f g q=>?_
 obtain⟨i,j,rfl,rfl,q⟩:=q;obtain⟨t,rfl⟩:=f;obtain⟨t',rfl⟩:=g;exact rule i j t t' _ s2 ⟨.bl _,H2,e,rfl,q⟩
theorem Lu (ha:PE X a ta) (c:PE X b tb):PC X .Lt a b (tLt ta tb):=Kg ha c λ_ _ _ _ _ _ h=>lt_int h
def L8 (ta:TE):TE:=λσ H Q=>ta σ H λx H1=>Q (.bl (decide (x=.non))) H1
def LB (ta:TE):TE:=λσ H Q=>ta σ H λx H1=>Q (.bl (!decide (x=.non))) H1
theorem RelV.none_iff {x:V} {v:Value} (r:RelV x v):(v==Value.none)=decide (x=.non):=by
 cases x with
 |non=>cases r;rfl
 |bl _=>cases r;rfl
 |int _=>obtain⟨t,rfl⟩:=r;rfl
 |str _=>obtain⟨t,rfl⟩:=r;rfl
 |byt _=>obtain⟨t,rfl⟩:=r;rfl
 |flt _=>obtain⟨t,rfl⟩:=r;rfl
 |ref _=>cases r;rfl
 |ty _=>cases r;rfl
theorem C3 {j pos'} (ha:PE X a ta):PC X .Is a (.Constant .none j pos') (L8 ta):=by
 intro pins s σ H Q I h;refine thn (ha pins s σ H _ I h) λv s1 b=>?_
 obtain⟨x,H1,c,e,f⟩:=b;exact Constant_none (is_none_gen ⟨.bl _,H1,c,by rw[e.none_iff];rfl,f⟩)
theorem Fs {j pos'} (ha:PE X a ta):PC X .IsNot a (.Constant .none j pos') (LB ta):=by
 intro pins s σ H Q I h;refine thn (ha pins s σ H _ I h) λv s1 b=>?_
 obtain⟨x,H1,c,e,f⟩:=b;exact Constant_none (isnot_none_gen ⟨.bl _,H1,c,by rw[e.none_iff];rfl,f⟩)
def tB (t:TE):TT:=λσ H Q=>t σ H λx H1=>∃c,x=.bl c/\Q c H1
theorem JU (h:PC X op a b t) (h1:behindInMarks op b=false:=by first|exact vL _ (by decide) (by decide)|rfl):PE X (.Compare a [op] [b] pos) t:=λpins s σ H Q I hw=>wpAny_Compare1 (h pins s σ H Q I hw) h1
theorem yP (h:PC X op a b t) (h1:behindInMarks op b=false:=by first|exact vL _ (by decide) (by decide)|rfl):PT X (.Compare a [op] [b] pos) (tB t):=by intro pins s σ H Q I hw;refine wpAny_isTrue_Compare1 (thn (h pins s σ H _ I hw) λv s1 h1=>thn h1 λu s2 h2=>thn h2 λc s3 e=>?_) h1;obtain⟨x,H1,f,g,i⟩:=e;obtain⟨d,rfl,q⟩:=i;cases g;exact wpAny_truthy_bool ⟨H1,f,q⟩
theorem Kb (h:PE X e t) (b:∀whole,isTrue e X.env whole=(do let v <-whole;standAt e.pos;holding [v] (truthy v)):=by intro _;rfl):PT X e (tB t):=by intro pins s σ H Q I hw;refine isTrue_plain (thn (h pins s σ H _ I hw) λv s1 a=>?_) (b _);obtain⟨x,H1,c,f,g⟩:=a;obtain⟨d,rfl,q⟩:=g;cases f;exact wpAny_truthy_bool ⟨H1,c,q⟩
variable {tA tB':TT} {rest:List Expr}
def LR (t u:TT):TT:=λσ H Q=>t σ H λc H1=>if c=true then u σ H1 Q else Q false H1
def tOr (t u:TT):TT:=λσ H Q=>t σ H λc H1=>if c=true then Q true H1 else u σ H1 Q
def Mc (t:TT):TT:=λσ H Q=>t σ H λc H1=>Q (!c) H1
theorem FO (ha:PT X a tA):PW X (.BoolOp .And [a] pos) tA:=by
 intro wh pins s σ H Q I h;refine isTrue_and (thn (ha pins s σ H Q I h) λc s1 e=>?_);cases c with
 |true=>exact isTrue_and_nil e
 |false=>exact e
theorem JR (ha:PT X a tA):PW X (.BoolOp .Or [a] pos) tA:=by
 intro wh pins s σ H Q I h;refine isTrue_or (thn (ha pins s σ H Q I h) λc s1 e=>?_);cases c with
 |false=>exact isTrue_or_nil e
 |true=>exact e
theorem HP (ha:PT X a tA) (i:PW X (.BoolOp .And (b::rest) pos) tB'):PW X (.BoolOp .And (a::b::rest) pos) (LR tA tB'):=by
 intro j pins s σ H Q I h;refine isTrue_and (thn (ha pins s σ H _ I h) λc l e=>?_);obtain⟨H1,f,g⟩:=e;cases c with
 |true=>exact i j pins l σ H1 Q f g
 |false=>exact⟨H1,f,g⟩
theorem LH (ha:PT X a tA) (i:PW X (.BoolOp .Or (b::rest) pos) tB'):PW X (.BoolOp .Or (a::b::rest) pos) (tOr tA tB'):=by
 intro j pins s σ H Q I h;refine isTrue_or (thn (ha pins s σ H _ I h) λc l e=>?_);obtain⟨H1,f,g⟩:=e;cases c with
 |true=>exact⟨H1,f,g⟩
 |false=>exact i j pins l σ H1 Q f g
theorem IC (ha:PT X a tA):PT X (.UnaryOp .Not a pos) (Mc tA):=by intro pins s σ H Q I h;exact isTrue_not (ha pins s σ H (λc H1=>Q (!c) H1) I h)
def Lw (ta tb:TE):TE:=λσ H Q=>ta σ H λx H1=>∃c,x=.bl c/\if c=true then tb σ H1 Q else Q (.bl false) H1
def LZ (ta tb:TE):TE:=λσ H Q=>ta σ H λx H1=>∃c,x=.bl c/\if c=true then Q (.bl true) H1 else tb σ H1 Q
theorem HV {op} (h:PE X a t):PE X (.BoolOp op [a] pos) t:=λpins s σ H Q I hw=>BoolOp_one (h pins s σ H Q I hw)
theorem ID (ha:PE X a ta) (i:PE X (.BoolOp .And (b::rest) pos) tb):PE X (.BoolOp .And (a::b::rest) pos) (Lw ta tb):=by
 intro pins s σ H Q I h;refine BoolOp_and (thn (ha pins s σ H _ I h) λv j f=>?_);obtain⟨x,H1,g,l,e⟩:=f;obtain⟨c,rfl,e⟩:=e;cases l;refine wpAny_truthy_bool ?_;cases c with
 |true=>exact i pins j σ H1 Q g e
 |false=>exact⟨.bl false,H1,g,rfl,e⟩
theorem KO (ha:PE X a ta) (i:PE X (.BoolOp .Or (b::rest) pos) tb):PE X (.BoolOp .Or (a::b::rest) pos) (LZ ta tb):=by
 intro pins s σ H Q I h;refine BoolOp_or (thn (ha pins s σ H _ I h) λv j f=>?_);obtain⟨x,H1,g,l,e⟩:=f;obtain⟨c,rfl,e⟩:=e;cases l;refine wpAny_truthy_bool ?_;cases c with
 |false=>exact i pins j σ H1 Q g e
 |true=>exact⟨.bl true,H1,g,rfl,e⟩
def tIf (t:TT) (ta tb:TE):TE:=λσ H Q=>t σ H λc H1=>if c=true then ta σ H1 Q else tb σ H1 Q
theorem CI (hc:PT X c tA) (ha:PE X a ta) (j:PE X b tb):PE X (.IfExp c a b pos) (tIf tA ta tb):=by
 intro pins s σ H Q I h;refine wpAny_IfExp (thn (hc pins s σ H _ I h) λd f e=>?_);obtain⟨H1,g,i⟩:=e;cases d with
 |true=>exact ha pins f σ H1 Q g i
 |false=>exact j pins f σ H1 Q g i
end
def SqL (K:PySem.W.Frag) (H:Hp) (a:Addr) (xs:List V):Prop :=
 Rd H a (.lst xs) \/
  ∃(o:Obj) (b:Array Value) (n:Nat),K.lookup a=some o/\o.cls=.type "list"/\o.dict=none/\o.data=.seq b n/\b.size<=sizeLine/\Vals xs b.toList
def SqT (K:PySem.W.Frag) (H:Hp) (a:Addr) (xs:List V):Prop :=
 Rd H a (.tup xs) \/
  ∃(o:Obj) (b:Array Value) (n:Nat),K.lookup a=some o/\o.cls=.type "tuple"/\o.data=.seq b n/\b.size<=sizeLine/\Vals xs b.toList
def Md:Value->Option V
 |.none=>some .non
 |.bool b=>some (.bl b)
 |.int i _=>some (.int i)
 |.str x _=>some (.str x)
 |.bytes b _=>some (.byt b)
 |.float b _=>some (.flt b)
 |.ref a=>some (.ref a)
 |.type n=>some (.ty n)
 |_=>none
theorem RelV.abs {x:V} (r:RelV x u):Md u=some x:=by
 cases x with
 |non=>cases r;rfl
 |bl _=>cases r;rfl
 |int _=>obtain⟨t,rfl⟩:=r;rfl
 |str _=>obtain⟨t,rfl⟩:=r;rfl
 |byt _=>obtain⟨t,rfl⟩:=r;rfl
 |flt _=>obtain⟨t,rfl⟩:=r;rfl
 |ref _=>cases r;rfl
 |ty _=>cases r;rfl
theorem RelV.inj {x y:V} (r:RelV x u) (q:RelV y u):x=y:=Option.some.inj (r.abs.symm.trans q.abs)
theorem Vals.inj {ys:List V} (h:Vals xs us) (h':Vals ys us):xs=ys:=by
 induction h generalizing ys with
 |nil=>cases h';rfl
 |cons r t ih =>
  cases h' with
  |cons r' t'=>rw[r.inj r',ih t']
section
variable {ys:List V}
theorem SqL.of (h:H a=some (.lst xs)):SqL K H a xs:=.inl (.inl h)
theorem SqT.of (h:H a=some (.tup xs)):SqT K H a xs:=.inl (.inl h)
theorem Inv.list (I:Inv X pins σ H s) (h:SqL X.K H a xs):∃b:List Value,Vals xs b/\PlainL s.heap a b.toArray/\xs.length<=sizeLine:=by
 rcases h with h|⟨o,b,n,c,hc,hd,f,hz,r⟩
 ·obtain⟨z,b,n,r,e⟩:=h.ok I.hok;exact⟨b,r,⟨_,n,e,rfl,rfl,rfl⟩,z⟩
 ·refine⟨b.toList,r,⟨o,n,I.kIn a o c,hc,hd,by simpa using f⟩,?_⟩;have e:=r.length;simp only[Nq]at e;omega
theorem Inv.tuple (I:Inv X pins σ H s) (h:SqT X.K H a xs):∃b:List Value,Vals xs b/\IsTup s.heap a b.toArray/\xs.length<=sizeLine:=by
 rcases h with h|⟨o,b,n,c,hc,f,hz,r⟩
 ·obtain⟨z,b,r,p⟩:=h.ok I.hok;exact⟨b,r,p.tup,z⟩
 ·refine⟨b.toList,r,⟨o,I.kIn a o c,hc,n,by simpa using f⟩,?_⟩;have e:=r.length;simp only[Nq]at e;omega
theorem Inv.list_inj (I:Inv X pins σ H s) (h:SqL X.K H a xs) (h':SqL X.K H a ys):xs=ys:=by
 obtain⟨b,r,⟨o,n,e,_,_,d⟩,_⟩:=I.list h;obtain⟨its',f,⟨o',n',c,_,_,d'⟩,_⟩:=I.list h';rw[e]at c;cases c;rw[d]at d';injection d' with d1 _
 have:b=its':=by simpa using congrArg Array.toList d1
 subst this;exact r.inj f
theorem Inv.tuple_inj (I:Inv X pins σ H s) (h:SqT X.K H a xs) (h':SqT X.K H a ys):xs=ys:=by
 obtain⟨b,r,⟨o,e,_,n,d⟩,_⟩:=I.tuple h;obtain⟨its',f,⟨o',c,_,n',d'⟩,_⟩:=I.tuple h';rw[e]at c;cases c;rw[d]at d';injection d' with d1 _
 have:b=its':=by simpa using congrArg Array.toList d1
 subst this;exact r.inj f
end
abbrev Cx.wish (X:Cx) (E:Value->Shared->Prop):Cx:={ X with xe:=E }
abbrev Cx.nox (X:Cx):Cx:=X.wish λ_ _=>False
theorem Cx.Ok.wish (ok:X.Ok) (E:Value->Shared->Prop):(X.wish E).Ok :=
 ⟨ok.mod,ok.kind,ok.glob,ok.blt,ok.above,ok.inj,ok.has,ok.cab,ok.hd,ok.frames,ok.stk,ok.exf,ok.bs,ok.bsz,ok.noex,ok.exfs,ok.funs,ok.frf⟩
theorem Cx.Ok.unwish (ok:(X.wish E).Ok):X.Ok :=
 ⟨ok.mod,ok.kind,ok.glob,ok.blt,ok.above,ok.inj,ok.has,ok.cab,ok.hd,ok.frames,ok.stk,ok.exf,ok.bs,ok.bsz,ok.noex,ok.exfs,ok.funs,ok.frf⟩
section
theorem Inv.wish (I:Inv X pins σ H s) (E:Value->Shared->Prop):Inv (X.wish E) pins σ H s:=⟨I.ok.wish E,I.os,I.bare,I.base,I.loc,I.cell,I.free,I.freeC,I.pin,I.hok,I.len,I.tab⟩
theorem Inv.unwish (I:Inv (X.wish E) pins σ H s):Inv X pins σ H s:=⟨I.ok.unwish,I.os,I.bare,I.base,I.loc,I.cell,I.free,I.freeC,I.pin,I.hok,I.len,I.tab⟩
theorem SP.unwish {D:Ends} {f:Flow} (h:SP (X.wish E) pins D f s'):SP X pins D f s':=by
 cases f with
 |next=>obtain⟨a,H',I,q⟩:=h;exact⟨a,H',I.unwish,q⟩
 |brk=>obtain⟨a,H',I,q⟩:=h;exact⟨a,H',I.unwish,q⟩
 |cont=>obtain⟨a,H',I,q⟩:=h;exact⟨a,H',I.unwish,q⟩
 |ret u=>obtain⟨v,a,H',I,r,q⟩:=h;exact⟨v,a,H',I.unwish,r,q⟩
theorem PSs.nox {st:List Stmt} {t:TS} (h:PSs X.nox st t):PSs X st t:=λpins s σ H D I hw =>
 wpAny_mono (h pins s σ H D (I.wish _) hw) (λ_ _ q=>q.unwish) λ_ _ z=>False.elim z
end
section
variable {rest:List Stmt} {t u:TS} {te:TE}
def Lk:TS:=λD σ H=>D.nx σ H
def L1 (t u:TS):TS:=λD σ H=>t { D with nx:=u D } σ H
theorem uf:PSs X [] Lk:=λ_ _ σ H _ I h=>wpAny_execs_nil ⟨σ,H,I,h⟩
theorem cH (h1:PS X st t) (h2:PSs X rest u):PSs X (st::rest) (L1 t u):=by
 intro pins s σ H D I h;refine wpAny_execs_cons (thn (h1 pins s σ H { D with nx:=u D } I h) λf b q=>?_);cases f with
 |next =>obtain⟨a,H',c,q⟩:=q;exact h2 pins b a H' D c q
 |ret v=>exact q
 |brk=>exact q
 |cont=>exact q
theorem ib (h1:PS X st t):PSs X [st] t:=by
 intro pins s σ H D I h;refine wpAny_execs_cons (thn (h1 pins s σ H D I h) λf s1 q=>?_);cases f with
 |next=>exact wpAny_execs_nil q
 |ret v=>exact q
 |brk=>exact q
 |cont=>exact q
theorem Inv.quiet (I:Inv X pins σ H s):interactive X.env=false:=by simp[interactive,I.ok.kind]
def KL (te:TE):TS:=λD σ H=>te σ H λ_ H1=>D.nx σ H1
theorem om (b:PE X e te) (c:swapsWith e none pos.line X.env=pure false:=by rfl):PS X (.Expr e pos) (KL te):=by intro pins s σ H D I h;exact wpAny_Expr_any (thn (b pins s σ H _ I h) λv s1 a=>(by obtain⟨x,H1,f,r1,g⟩:=a;exact⟨σ,H1,f,g⟩)) I.quiet c
def LP (te:TE):TS:=λD σ H=>te σ H D.rt
theorem p5 (b:PE X e te):PS X (.Return (some e) pos) (LP te):=by intro pins s σ H D I h;exact wpAny_Return_some (thn (b pins s σ H _ I h) λv s1 a=>(by obtain⟨x,H1,c,f,g⟩:=a;exact⟨x,σ,H1,c,f,g⟩))
def LN (c:TT) (t u:TS):TS:=λD σ H=>c σ H λb H1=>if b=true then t D σ H1 else u D σ H1
theorem Am {a b:List Stmt} {tc:TT} (hc:PT X c tc) (ha:PSs X a t) (j:PSs X b u):PS X (.If c a b pos) (LN tc t u):=by
 intro pins s σ H D I h;refine wpAny_If (thn (hc pins s σ H _ I h) λd f e=>?_);obtain⟨H1,g,i⟩:=e;cases d with
 |true=>exact ha pins f σ H1 D g i
 |false=>exact j pins f σ H1 D g i
end
abbrev TG:=V->St->Hp->(St->Hp->Prop)->Prop
abbrev TGs:=List V->St->Hp->(St->Hp->Prop)->Prop
def PG (X:Cx) (target:Expr) (t:TG):Prop :=
 ∀(pins:List (Addr×Obj)) (s:Shared) (σ:St) (H:Hp) (v:V) (u:Value) (Q:St->Hp->Prop),Inv X pins σ H s->RelV v u->t v σ H Q ->
  wpAny (model X.prog X.w) X.A (assign target X.env u) (λ_ s'=>∃a H',Inv X pins a H' s'/\Q a H') X.xe s
def PGs (X:Cx) (ts:List Expr) (t:TGs):Prop :=
 ∀(pins:List (Addr×Obj)) (s:Shared) (σ:St) (H:Hp) (vs:List V) (us:List Value) (Q:St->Hp->Prop),Inv X pins σ H s->Vals vs us->t vs σ H Q ->
  wpAny (model X.prog X.w) X.A (assignInOrder ((assignEach ts X.env).map (·.2)) us) (λ_ s'=>∃a H',Inv X pins a H' s'/\Q a H') X.xe s
abbrev HC:=V->V->V->Hp->(Hp->Prop)->Prop
def K8 (X:Cx) (t:HC):Prop :=
 ∀(pins:List (Addr×Obj)) (s:Shared) (σ:St) (H:Hp) (o i v:V) (a b u:Value) (Q:Hp->Prop),Inv X pins σ H s->RelV o a->RelV i b->RelV v u->t o i v H Q ->
  wpAny (model X.prog X.w) X.A (setItem a b u) (λ_ s'=>∃H',Inv X pins σ H' s'/\Q H') X.xe s
abbrev TIp:=V->V->Hp->VK->Prop
def PIp (X:Cx) (op:Operator) (t:TIp):Prop :=
 ∀(pins:List (Addr×Obj)) (s:Shared) (σ:St) (H:Hp) (x y:V) (v u:Value) (Q:VK),Inv X pins σ H s->RelV x v->RelV y u->t x y H Q ->
  wpAny (model X.prog X.w) X.A (inplaceOp op v u) (EP X pins σ Q) X.xe s
section
def j6 (i:Nat):TG:=λv σ H Q=>Q (σ.set i (some v)) H
theorem tw (a:X.N.Nodup) (hi:X.N[i]?=some x) (b:Loc X.env.scope x) (c:X.fn x=true\/X.env.scope.names.lookup x=some .local:=by first|exact .inl rfl|exact .inr rfl|assumption):PG X (.Name x pos) (j6 i):=by intro pins s σ H v u Q I r h;exact wpAny_assign_Name (qJ I a hi b r (λs' e=>⟨_,H,e,h⟩) c)
def IL:TGs:=λvs σ H Q=>vs=[]/\Q σ H
def Aw (t:TG) (u:TGs):TGs:=λvs σ H Q=>∃v r,vs=v::r/\t v σ H λa H'=>u r a H' Q
theorem Aj:PGs X [] IL:=by intro pins s σ H vs us Q I r h;obtain⟨e,h⟩:=h;subst e;cases r;exact assignInOrder_nil ⟨σ,H,I,h⟩
theorem qH {t:TG} {u:TGs} (h1:PG X e t) (h2:PGs X es u)
  (c:(assignEach (e::es) X.env).map (·.2)=assign e X.env::(assignEach es X.env).map (·.2):=by rfl):PGs X (e::es) (Aw t u):=by
 intro pins s σ H vs us Q I r h;obtain⟨v,vr,e1,h⟩:=h;subst e1;cases r with
 |cons r rr =>rw[c];refine assignInOrder_cons (thn (h1 pins s σ H _ _ _ I r h) λ_ f a=>?_);obtain⟨b,H1,g,i⟩:=a;exact h2 pins f b H1 _ _ Q g rr i
def JH (K:PySem.W.Frag) (n:Nat) (t:TGs):TG:=λv σ H Q=>∃a xs,v=.ref a/\SqT K H a xs/\xs.length=n/\t xs σ H Q
theorem DR {k:Nat} {t:TGs} {n:Nat} (hc:X.calm=true) (h:PGs X es t)
  (hn:(assignEach es X.env).length=n:=by rfl) (c:(assignEach es X.env).findIdx? (·.1)=none:=by rfl):PG X (.Tuple es k pos) (JH X.K n t):=by
 intro pins s σ H v u Q I r hw;obtain⟨a,xs,e1,g,hl,hw⟩:=hw;subst e1;cases r;obtain⟨its,f,i,hz⟩:=I.tuple g;refine assign_Tuple_tuple (I.ok.hd hc) i (by simp[hn,<-hl,f.length]) c λh' j=>?_
 have l:Inv X pins σ H { s with heap:=h' }:=I.kept (t':=s.toks) λb o e=>j b o (MB (Mx e)) e
 exact h pins _ σ H xs _ Q l (by simpa using f) hw
def L3 (to a:TE) (t:HC):TG:=λv σ H Q=>to σ H λo H1=>a σ H1 λi H2=>t o i v H2 λb=>Q σ b
theorem JS {o i:Expr} {to e:TE} {t:HC} (f:PE X o to) (hi:PE X i e) (g:K8 X t)
  (ha:∀v,assign (.Subscript o i pos) X.env v=(do
   let b <-holding [v] (eval o X.env);let c <-holding [v,b] (eval i X.env)
   standAt pos
   holding [v,b,c] (setItem b c v)
   release [v,b,c] []):=by intro _;rfl):PG X (.Subscript o i pos) (L3 to e t):=by
 intro pins s σ H v u Q I r h;rw[ha];refine wpAny_bind (wpAny_holding (thn (f pins s σ H _ I h) λb j a=>?_));obtain⟨x,H1,l,m,n⟩:=a;refine wpAny_bind (wpAny_holding (thn (hi pins j σ H1 _ l n) λc s2 a=>?_));obtain⟨y,H2,p,q,w⟩:=a;refine wpAny_bind (wpAny_standAt (wpAny_bind (wpAny_holding (thn (g pins s2 σ H2 x y v b c u _ p m q r w) λ_ s3 a=>?_))));obtain⟨z,A,B⟩:=a;exact wpAny_release ⟨σ,z,A,B⟩
def EH (te:TE) (g:TG):TS:=λD σ H=>te σ H λx H1=>g x σ H1 D.nx
theorem IE {te:TE} {g:TG} (b:PE X e te) (c:PG X tg g) (f:swapsWithSole [tg] e pos.line X.env=pure false:=by rfl) (hw:swappedStores [tg] e X.env=pure none:=by rfl)
  (h1:(assignEach [tg] X.env).map (·.2)=[assign tg X.env]:=by rfl):PS X (.Assign [tg] e pos) (EH te g):=by
 intro pins s σ H D I h;refine wpAny_Assign_stores (thn (b pins s σ H _ I h) λv i a=>?_) f hw;obtain⟨x,H1,j,l,m⟩:=a;rw[h1];exact thn (c pins i σ H1 x v _ j l m) λ_ s2 q=>q
theorem pZ {te:TE} (b:X.N.Nodup) (hi:X.N[i]?=some x) (c:Loc X.env.scope x) (f:PE X e te) (g:swapsWith e (some (.Name x pos')) pos.line X.env=pure false:=by rfl) (j:X.fn x=true\/X.env.scope.names.lookup x=some .local:=by first|exact .inl rfl|exact .inr rfl|assumption) :
  PS X (.Assign [.Name x pos'] e pos) (EH te (j6 i)):=by
 intro pins s σ H D I h;refine wpAny_Assign_Name (thn (f pins s σ H _ I h) λv s1 a=>?_) g;obtain⟨y,H1,l,m,n⟩:=a;exact qJ l b hi c m (λs2 o=>⟨_,H1,o,n⟩) j
def LQ (i:Nat) (te:TE) (a:TIp):TS:=λD σ H=>∃x,σ[i]?=some (some x)/\te σ H λy H1=>a x y H1 λz H2=>D.nx (σ.set i (some z)) H2
theorem Jv {te:TE} {op:Operator} {p:TIp} (q:X.N.Nodup) (hi:X.N[i]?=some x) (n:Loc X.env.scope x) (t:PE X e te) (B:PIp X op p) (C:X.fn x=true\/X.env.scope.names.lookup x=some .local:=by first|exact .inl rfl|exact .inr rfl|assumption) :
  PS X (.AugAssign (.Name x pos') op e pos) (LQ i te p):=by
 intro pins s σ H D I h;obtain⟨v,e1,h⟩:=h;obtain⟨m,hn,hl⟩:=I.loc;have o:Vis X.env.scope x:=by rcases n with k|k;exact .inl k;exact .inr (.inl k)
 obtain⟨u,r,l⟩:=hl i x v hi e1 o;refine wpAny_AugAssign_Name ?_;have go:wpAny (model X.prog X.w) X.A (eval e X.env) (λw g=>wpAny (model X.prog X.w) X.A (inplaceOp op u w) (λr j=>wpAny (model X.prog X.w) X.A (storeName X.env x r) (λ_=>SP X pins D .next) X.xe j) X.xe g) X.xe s:=by
  refine thn (t pins s σ H _ I h) λw E b=>?_
  obtain⟨y,H1,F,G,J⟩:=b;refine thn (B pins E σ H1 v y u w _ F r G J) λz s2 b=>?_
  obtain⟨zv,H2,K,L,M⟩:=b;exact qJ K q hi n L (λs3 O=>⟨_,H2,O,M⟩) C
 rcases l with⟨a,hm⟩|⟨a,c,hc,f⟩
 ·exact wpAny_loadName_local I.ok.kind a hn hm go
 ·rcases a with a|a
  ·exact wpAny_loadName_cell I.ok.kind a hc f go
  ·rcases n with k|k
   ·have:X.env.scope.names.lookup x=some .free:=a;rw[k]at this;cases this
   ·have:X.env.scope.names.lookup x=some .free:=a;rw[k]at this;cases this
def ipI (f:Int->Int->Int):TIp:=λx y H Q=>∃i j,x=.int i/\y=.int j/\Q (.int (f i j)) H
theorem J5:PIp X .Add (ipI λi j=>i+j):=by intro pins s σ H x y v u Q I a b h;obtain⟨i,j,e1,e2,q⟩:=h;subst e1;subst e2;obtain⟨t,rfl⟩:=a;obtain⟨t',rfl⟩:=b;exact iadd_int ⟨.int _,H,I.tok _,⟨_,rfl⟩,q⟩
end
section
def JV (c:TT) (tb:TS):TS:=λD σ H=>∃W:Nat->St->Hp->Prop,(∃m,W m σ H)/\∀m σ H,W m σ H ->
 c σ H λb H1=>if b=true then ∃N:St->Hp->Prop,(∀a H',N a H'->∃e,e < m/\W e a H')/\tb { D with nx:=N,ct:=N,bk:=D.nx } σ H1 else D.nx σ H1
theorem vW {tc:TT} {tb:TS} (t:PassesOwn (model X.prog X.w) X.A X.env X.xe) (hc:PT X c tc) (y:PSs X body tb):PS X (.While c body [] pos) (JV tc tb):=by
 intro pins s σ H D I h;obtain⟨W,⟨z,B⟩,turn⟩:=h;refine wpAny_While (codeAny_whileLoop (λn s'=>∃g H',Inv X pins g H' s'/\W n g H') ?_ z ⟨σ,H,I,B⟩)
 rintro n C ⟨e,H1,E,F⟩
 refine wpAny_passesOwn t (thn (hc pins C e H1 _ E (turn n e H1 F)) λb s2 m=>?_);obtain⟨H2,u,j⟩:=m;cases b with
 |true =>
  obtain⟨N,x,j⟩:=j;rw[if_pos rfl];refine wpAny_passesOwn t (thn (y pins s2 e H2 _ u j) λf s3 l=>?_);cases f with
  |next =>obtain⟨a,i,o,p⟩:=l;obtain⟨q,hm,r⟩:=x a i p;exact⟨q,hm,a,i,o,r⟩
  |cont =>obtain⟨a,i,o,p⟩:=l;obtain⟨q,hm,r⟩:=x a i p;exact⟨q,hm,a,i,o,r⟩
  |brk=>exact l
  |ret v=>exact l
 |false =>rw[if_neg MG];exact wpAny_execs_nil ⟨e,H2,u,j⟩
end
structure It where
 go:Nat->Hp->Prop
 yld:Nat->Hp->V->Hp->Prop
 stop:Nat->Hp->Prop
def pU (X:Cx) (pins:List (Addr×Obj)) (H:Hp) (b:Addr):Prop :=
 H b=none/\b≠X.env.locals/\b∉X.fs/\(b∈X.ex\/X.s₀.heap.objs.size<=b)/\(∀x c,X.env.cells.lookup x=some c->c≠b)/\∀p∈X.pn++pins,p.1≠b
theorem Inv.fpOk {H':Hp} (I:Inv X pins σ H s) (a:s.heap.objs.size<=b) (hn:H' b=none):pU X pins H' b:=by
 refine⟨hn,Ng (ME I.lt a),I.nofs a,.inr (Nc I.sz a),λx c e z=>?_,λp f z=>?_⟩
 ·obtain⟨v,q⟩:=I.cell x c e;exact absurd (ME q.lt (by rw[z];exact a)) (Nv _)
 ·exact absurd (ME (Mx (I.pin p f).1) (by rw[z];exact a)) (Nv _)
structure Turn (P:Program) (w:World) (K:PySem.W.Frag) (tg:Expr) (J:It) (fp:List Addr) (it:Addr) (tn:Nat->Heap->Prop):Prop where
 mem:it∈fp
 obj:∀i h,tn i h->∀b∈fp,∃o,h.get? b=some o/\∀v,o.data≠.cell v
 keep:∀i h h',tn i h->(∀b∈fp,∀o,h.get? b=some o->h'.get? b=some o)->tn i h'
 item:∀(X:Cx),X.prog=P->X.w=w->X.K=K->X.calm=true->∀(i:Nat) (pins:List (Addr×Obj)) (s:Shared) (σ:St) (H:Hp) (E:Value->Shared->Prop),Inv X pins σ H s->(∀b∈fp,pU X pins H b)->tn i s.heap->J.go i H ->
  wpAny (model P w) X.A (pyNext (.ref it)) (λr s1=>∃u,r=some u /\
   wpAny (model P w) X.A (letOwnedTupleGo tg (.ref it) u) (λ_ s2=>∃x H',Inv X pins σ H' s2/\RelV x u/\J.yld i H x H'/\tn (i+1) s2.heap/\∀b∈fp,H' b=none) E s1) E s
 done:∀(X:Cx),X.prog=P->X.w=w->X.K=K->X.calm=true->∀(i:Nat) (pins:List (Addr×Obj)) (s:Shared) (σ:St) (H:Hp) (E:Value->Shared->Prop),Inv X pins σ H s->(∀b∈fp,pU X pins H b)->tn i s.heap->J.stop i H ->
  wpAny (model P w) X.A (pyNext (.ref it)) (λr s1=>r=none/\Inv X pins σ H s1) E s
 self:∀(A:Around) (i:Nat) (s:Shared) (Q:Value->Shared->Prop) (E:Value->Shared->Prop),tn i s.heap->Q (.ref it) s->wpAny (model P w) A (pyIter (.ref it)) Q E s
abbrev TI:=St->Hp->(It->Hp->Prop)->Prop
def PIE (X:Cx) (pins:List (Addr×Obj)) (σ:St) (tg:Expr) (R:It->Hp->Prop) (a:Value) (s2:Shared):Prop :=
 ∃(it:Addr) (fp:List Addr) (tn:Nat->Heap->Prop) (J:It) (H':Hp),a=.ref it/\Inv X pins σ H' s2/\Turn X.prog X.w X.K tg J fp it tn/\tn 0 s2.heap/\(∀b∈fp,pU X pins H' b)/\R J H'
def PI (X:Cx) (tg iter:Expr) (a:TI):Prop :=
 ∀(pins:List (Addr×Obj)) (s:Shared) (σ:St) (H:Hp) (R:It->Hp->Prop),Inv X pins σ H s->a σ H R ->
  wpAny (model X.prog X.w) X.A (eval iter X.env) (λv b=>wpAny (model X.prog X.w) X.A (pyIter v) (PIE X pins σ tg R) X.xe b) X.xe s
theorem CD {o:Obj} {n:String} {vs:Array Value} {Q:Unit->Shared->Prop} (b:s.heap.get? it=some o) (hc:o.cls=.type n) (hd:o.data=.fields vs)
    (hn:["enumerate", "zip", "dict_itemiterator", "dict_reverseitemiterator", "odict_iterator", "itertools.zip_longest", "itertools.pairwise"].contains n=false) (a:Q () s):wpAny M A (letOwnedTupleGo tg (.ref it) u) Q E s:=by
  unfold letOwnedTupleGo
  cases tg <;> first
    |exact wpAny_pure a
    | (cases u <;> first
        |exact wpAny_pure a
        | (refine wpAny_bind (wpAny_load b ?_)
           rw[hc,hd]
           show wpAny M A (if (["enumerate", "zip", "dict_itemiterator", "dict_reverseitemiterator", "odict_iterator", "itertools.zip_longest", "itertools.pairwise"].contains n&&vs[0]?==some (rawInt _))=true then _ else _) Q E s
           rw[if_neg (by intro h;rw[hn,Bool.false_and]at h;cases h)]
           exact wpAny_pure a))
def Itl (K:PySem.W.Frag) (a:Addr):It :=
 ⟨λi H=>∃xs x,SqL K H a xs/\xs[i]?=some x,λi H x H'=>H'=H/\∀xs,SqL K H a xs->xs[i]?=some x,λi H=>∃xs,SqL K H a xs/\xs.length<=i⟩
def Itt (K:PySem.W.Frag) (a:Addr):It :=
 ⟨λi H=>∃xs x,SqT K H a xs/\xs[i]?=some x,λi H x H'=>H'=H/\∀xs,SqT K H a xs->xs[i]?=some x,λi H=>∃xs,SqT K H a xs/\xs.length<=i⟩
def Itr (lo:Int) (n:Nat):It:=⟨λi _=>i<n,λi H x H'=>H'=H/\x=.int (lo+i),λi _=>n<=i⟩
theorem Bf (a it:Addr):Turn P w K tg (Itl K a) [it] it (λi h=>h.IsListIter it a i) where
 mem:=by simp
 obj:=λi h st b f=>by
  have e:b=it:=by simpa using f
  subst e;obtain⟨o,e,c,d⟩:=st;exact⟨o,e,λv z=>by rw[d]at z;cases z⟩
 keep:=λi h h' st k=>st.at λo e=>k it (by simp) o e
 item:=by
  intro X m hw hK hc i pins s σ H E I j st n;subst m hw hK;obtain⟨xs,x,l,q⟩:=n;obtain⟨r,t,p,D⟩:=I.list l;obtain⟨u,F,G⟩:=t.get q;obtain⟨y,f1,f2,A,B,C⟩:=j it (by simp);refine wpAny_pyNext_list_item st p.isList (x:=u) (by simpa using F) λh' g J=>?_
  have L:Inv X pins σ H { s with heap:=h' }:=I.turned (t':=s.toks) (λb o f e=>(J.2 b f).trans e) y f1 A B C;obtain⟨o,e,c,d⟩:=id g;exact⟨u,rfl,CD (s:={ s with heap:=h' }) e c d (by decide) ⟨x,H,L,G,⟨rfl,λys M=>by rw[I.list_inj M l];exact q⟩,g,λb f=>(j b f).1⟩⟩
 done:=by intro X m hw hK hc i pins s σ H E I j st n;subst m hw hK;obtain⟨xs,l,q⟩:=n;obtain⟨r,t,p,D⟩:=I.list l;obtain⟨y,f1,f2,A,B,C⟩:=j it (by simp);have hl:=t.length;exact wpAny_pyNext_list_end (I.ok.hd hc) st p.isList (by simp;omega) λh' N=>⟨rfl,I.turned (t':=s.toks) (λb o f e=>N b o f e) y f1 A B C⟩
 self:=λ_ _ _ _ _ st h=>wpAny_pyIter_listiter st h
theorem xr (a it:Addr):Turn P w K tg (Itt K a) [it] it (λi h=>h.IsTupleIter it a i) where
 mem:=by simp
 obj:=λi h st b f=>by
  have e:b=it:=by simpa using f
  subst e;obtain⟨o,e,c,d⟩:=st;exact⟨o,e,λv z=>by rw[d]at z;cases z⟩
 keep:=λi h h' st k=>st.at λo e=>k it (by simp) o e
 item:=by
  intro X n hw hK hc i pins s σ H E I l st q;subst n hw hK;obtain⟨xs,x,m,r⟩:=q;obtain⟨g,t,p,D⟩:=I.tuple m;obtain⟨u,F,G⟩:=t.get r;obtain⟨y,f1,f2,A,B,C⟩:=l it (by simp);refine wpAny_pyNext_tuple_item st (show s.heap.IsTuple a g.toArray from p) (x:=u) (by simpa using F) λh' j J=>?_
  have L:Inv X pins σ H { s with heap:=h' }:=I.turned (t':=s.toks) (λb o f e=>(J.2 b f).trans e) y f1 A B C;obtain⟨o,e,c,d⟩:=id j;exact⟨u,rfl,CD (s:={ s with heap:=h' }) e c d (by decide) ⟨x,H,L,G,⟨rfl,λys M=>by rw[I.tuple_inj M m];exact r⟩,j,λb f=>(l b f).1⟩⟩
 done:=by intro X n hw hK hc i pins s σ H E I l st q;subst n hw hK;obtain⟨xs,m,r⟩:=q;obtain⟨g,t,p,D⟩:=I.tuple m;obtain⟨y,f1,f2,A,B,C⟩:=l it (by simp);have hl:=t.length;exact wpAny_pyNext_tuple_end (I.ok.hd hc) st (show s.heap.IsTuple a g.toArray from p) (by simp;omega) λh' N=>⟨rfl,I.turned (t':=s.toks) (λb o f e=>N b o f e) y f1 A B C⟩
 self:=λ_ _ _ _ _ st h=>wpAny_pyIter_tupleiter st h
theorem xQ (it:Addr) (lo:Int) (n:Nat):Turn P w K tg (Itr lo n) [it] it (λi h=>IsRangeIter h it (lo+(i:Nat)*1) ((n:Int)-(i:Nat)) 1) where
 mem:=by simp
 obj:=λi h st b a=>by
  have e:b=it:=by simpa using a
  subst e;exact⟨_,st,λv z=>by have r:Data.fields _=Data.cell v:=z;cases r⟩
 keep:=λi h h' st k=>k it (by simp) _ st
 item:=by
  intro X g hw hK hc i pins s σ H E I f st j;subst g hw hK;obtain⟨l,f1,f2,m,p,q⟩:=f it (by simp);have W:=Walks.range (prog:=X.prog) (w:=X.w) (I.ok.hd hc) it lo 1 n;refine W.item i s _ _ j st λv h' tk hv c u=>?_
  obtain⟨t,rfl⟩:=hv;have x:Inv X pins σ H { s with heap:=h',toks:=tk }:=I.turned (λb o a e=>u b o (by simpa using a) e) l f1 m p q;refine⟨_,rfl,CD (s:={ s with heap:=h',toks:=tk }) (n:="range_iterator") c rfl rfl (by decide) ⟨.int (lo+i),H,x,⟨t,?_⟩,⟨rfl,rfl⟩,c,λb a=>(f b a).1⟩⟩;rw[Int.mul_one]
 done:=by intro X g hw hK hc i pins s σ H E I f st j;subst g hw hK;obtain⟨l,f1,f2,m,p,q⟩:=f it (by simp);exact wpAny_pyNext_range_end (I.ok.hd hc) st (by have:n<=i:=j;omega) λh' y=>⟨rfl,I.turned (t':=s.toks) (λb o a e=>y b o a e) l f1 m p q⟩
 self:=λ_ _ _ _ _ st h=>wpAny_pyIter_rangeiter st h
section
def KI (K:PySem.W.Frag) (tl:TE):TI:=λσ H R=>tl σ H λx H1=>∃a,x=.ref a/\(∃xs,SqL K H1 a xs)/\R (Itl K a) H1
def LY (K:PySem.W.Frag) (tl:TE):TI:=λσ H R=>tl σ H λx H1=>∃a,x=.ref a/\(∃xs,SqT K H1 a xs)/\R (Itt K a) H1
theorem E1 {l:Expr} {tl:TE} (hl:PE X l tl):PI X tg l (KI X.K tl):=by
 intro pins s σ H R I h;refine thn (hl pins s σ H _ I h) λv c g=>?_
 obtain⟨x,H1,f,i,j⟩:=g;obtain⟨a,e,⟨xs,m⟩,q⟩:=j;subst e;cases i;obtain⟨its,rv,p,hz⟩:=f.list m;refine wpAny_pyIter_list p.isList ?_;refine⟨c.heap.objs.size,[c.heap.objs.size],_,_,H1,rfl,f.kept (t':=c.toks) λb o e=>M0 _ e,Bf a _,⟨_,Mz _ rfl,rfl,rfl⟩,λb n=>?_,q⟩;have e:b=c.heap.objs.size:=by simpa using n
 subst e;exact f.fpOk (Mu _) (f.hok.fresh (Mu _))
theorem Jy {l:Expr} {tl:TE} (hl:PE X l tl):PI X tg l (LY X.K tl):=by
 intro pins s σ H R I h;refine thn (hl pins s σ H _ I h) λv c g=>?_
 obtain⟨x,H1,f,j,m⟩:=g;obtain⟨a,e,⟨xs,n⟩,q⟩:=m;subst e;cases j;obtain⟨i,rv,p,hz⟩:=f.tuple n;refine wpAny_pyIter_tuple (show c.heap.IsTuple a i.toArray from p) ?_;refine⟨c.heap.objs.size,[c.heap.objs.size],_,_,H1,rfl,f.kept (t':=c.toks) λb o e=>M0 _ e,xr a _,⟨_,Mz _ rfl,rfl,rfl⟩,λb r=>?_,q⟩;have e:b=c.heap.objs.size:=by simpa using r
 subst e;exact f.fpOk (Mu _) (f.hok.fresh (Mu _))
theorem Ey {R:It->Hp->Prop} {lo hi:Int} {t u v:Tok} {tk:Nat} (I:Inv X pins σ H s) (h1:-(2 ^ 62)<=lo) (h2:lo<2 ^ 62) (c:-(2 ^ 62)<=hi) (f:hi<2 ^ 62)
  (q:R (Itr lo (hi-lo).toNat) H):wpAny (model X.prog X.w) X.A (pyIter (.ref s.heap.objs.size)) (PIE X pins σ tg R) E { s with heap:=s.heap.push { cls:=.type "range",data:=.fields #[.int lo t,.int hi u,.int 1 v] },toks:=tk }:=by
 refine wpAny_pyIter_range (IsRange.new ..) (small_one h1 h2 c f) ?_;have a:Inv X pins σ H { s with heap:=s.heap.push { cls:=.type "range",data:=.fields #[.int lo t,.int hi u,.int 1 v] },toks:=tk }:=I.kept λb o e=>M0 _ e
 refine⟨(s.heap.push { cls:=.type "range",data:=.fields #[.int lo t,.int hi u,.int 1 v] }).objs.size,[(s.heap.push { cls:=.type "range",data:=.fields #[.int lo t,.int hi u,.int 1 v] }).objs.size],_,_,H,rfl,
  a.kept (t':=tk) λb o e=>M0 _ e,xQ _ lo (hi-lo).toNat,?_,λb g=>?_,q⟩
 ·have e1:lo+((0:Nat):Int)*1=lo:=by simp
  have e2:(((hi-lo).toNat:Nat):Int)-((0:Nat):Int)=Builtin.Range.rangeSize lo hi 1:=by rw[rangeSize_one];split <;> omega
  show IsRangeIter _ _ (lo+((0:Nat):Int)*1) ((((hi-lo).toNat:Nat):Int)-((0:Nat):Int)) 1;rw[e1,e2];exact Mz _ rfl
 ·have e:b=(s.heap.push { cls:=.type "range",data:=.fields #[.int lo t,.int hi u,.int 1 v] }).objs.size:=by simpa using g
  subst e;exact a.fpOk (Mu _) (a.hok.fresh (Mu _))
def Ly (ta:TA):TI:=λσ H R=>ta σ H λvs H1=>∃j:Int,vs=[.int j]/\-(2 ^ 62)<=j/\j<2 ^ 62/\R (Itr 0 j.toNat) H1
theorem Bs {a:Expr} {ta:TA} (f:Gl X "range") (hm:X.mg "range"=none) (ha:PA X [a] ta) (g:starEach [a] X.env=[(false,eval a X.env)]:=by rfl):PI X tg (.Call (.Name "range" p) [a] [] pos) (Ly ta):=by
 intro pins s σ H R I h;refine Call_ (gp I f hm boot_range (PyProof.Rows.callWith_type1 (thn (ha pos pins s σ H _ I h) λus s1 b=>?_) g rfl));obtain⟨vs,H1,i,l,c⟩:=b;obtain⟨j,e,c,m,q⟩:=c;subst e;cases l with
 |cons r rr =>cases rr;obtain⟨t,rfl⟩:=r;exact call_range_1 (Ey i (by omega) (by omega) c m (by simpa using q))
def L7 (e:TI) (g:TG) (tb:TS):TS:=λD σ H=>e σ H λJ H1=>∃W:Nat->Nat->St->Hp->Prop,(∃m,W 0 m σ H1)/\∀i m σ H,W i m σ H ->
 (J.stop i H/\D.nx σ H)\/(J.go i H/\∃N:St->Hp->Prop,(∀a H',N a H'->∃c,c < m/\W (i+1) c a H')/\∀x H',J.yld i H x H'->g x σ H' λb H2=>tb { D with nx:=N,ct:=N,bk:=D.nx } b H2)
def oM (fp:List Addr) (h:Heap):List (Addr×Obj):=fp.filterMap λb=>(h.get? b).map λo=>(b,o)
theorem jc {o:Obj} (a:b∈fp) (e:h.get? b=some o):(b,o)∈oM fp h:=Og.mpr ⟨b,a,by rw[e];rfl⟩
theorem A1 {p:Addr×Obj} (a:p∈oM fp h):p.1∈fp/\h.get? p.1=some p.2:=by
 obtain⟨b,c,e⟩:=Og.mp a;cases q:h.get? b with
 |none=>rw[q]at e;cases e
 |some o =>rw[q]at e;have f:(b,o)=p:=Option.some.inj e;subst f;exact⟨c,q⟩
theorem Inv.pinned (I:Inv X pins σ H s) (f:∀b∈fp,pU X pins H b) (g:∀b∈fp,∃o,s.heap.get? b=some o/\∀v,o.data≠.cell v):Inv X (pins++oM fp s.heap) σ H s :=
 I.pins_of λp h=>(MM.mp h).elim (λz=>I.pin p (Mt _ z)) λz=>by obtain⟨a,e⟩:=A1 z;obtain⟨i,f1,f2,_⟩:=f p.1 a;obtain⟨o,c,d⟩:=g p.1 a;rw[e]at c;cases c;exact⟨e,i,f1,f2,d⟩
theorem Inv.unpinned {pl:List (Addr×Obj)} (I:Inv X (pins++pl) σ H s):Inv X pins σ H s:=I.pins_of λp a=>I.pin p (Mt _ (MW _ a))
theorem JA {S:TI} {g:TG} {tb:TS} (C:PassesOwn (model X.prog X.w) X.A X.env X.xe) (hc:X.calm=true) (hi:PI X tg iter S) (hg:PG X tg g) (j:PSs X body tb)
  (hs:∀x,foldedSetIterable iter X.env x=pure x:=by intro _;rfl):PS X (.For tg iter body [] pos) (L7 S g tb):=by
 intro pins s σ H D I h;refine wpAny_For (thn (hi pins s σ H _ I h) λv s1 h1=>thn h1 λitv s2 h2=>?_) hs;obtain⟨it,fp,tn,J,H2,e,I2,T,L,f2,W,⟨m0,w0⟩,turn⟩:=h2;subst e
 -- what stays true of the iterator's objects through the loop
 have l:∀{H':Hp},(∀b∈fp,H' b=none)->∀b∈fp,pU X pins H' b:=λhn b j=>⟨hn b j,(f2 b j).2⟩
 refine codeAny_forLoop_any (λn s'=>∃i p H',Inv X pins p H' s'/\tn i s'.heap/\(∀b∈fp,H' b=none)/\W i n p H') ?_ m0 ⟨0,σ,H2,I2,L,λb j=>(f2 b j).1,w0⟩
 rintro n U ⟨i,q,K,Y,E,F,w3⟩
 rcases turn i n q K w3 with⟨stop,qn⟩|⟨go,N,hN,step⟩
 ·refine wpAny_passesOwn C (thn (T.done X rfl rfl rfl hc i pins U q K X.xe Y (l F) E stop) λr s4 c=>?_);obtain⟨M,I4⟩:=c;subst M;exact wpAny_execs_nil ⟨q,K,I4,qn⟩
 ·refine wpAny_passesOwn C (thn (T.item X rfl rfl rfl hc i pins U q K X.xe Y (l F) E go) λr s4 c=>?_);obtain⟨u,M,h4⟩:=c;subst M;refine wpAny_passesOwn C (thn h4 λ_ Z c=>?_);obtain⟨x,H5,I5,r5,y5,B,O⟩:=c;have P:=I5.pinned (l O) (T.obj _ _ B);refine wpAny_passesOwn C (thn (hg _ Z q H5 x u _ P r5 (step x H5 y5)) λ_ s6 c=>?_);obtain⟨Q,H6,I6,q6⟩:=c;refine wpAny_passesOwn C (thn (j _ s6 Q H6 _ I6 q6) λf R z=>?_);have again:∀{a:St} {t:Hp},Inv X (pins++oM fp Z.heap) a t R->N a t->∃m,m<n/\∃i p H',Inv X pins p H' R/\tn i R.heap/\(∀b∈fp,H' b=none)/\W i m p H':=λ{a t} y G=>by obtain⟨m',hm,w7⟩:=hN a t G;refine⟨m',hm,i+1,a,t,y.unpinned,T.keep _ _ _ B λb j o e=>(y.pin (b,o) (Mt _ (Mt _ (jc j e)))).1,λb j=>?_,w7⟩;obtain⟨o,e,d⟩:=T.obj _ _ B b j;exact (y.pin (b,o) (Mt _ (Mt _ (jc j e)))).2.1
  cases f with
  |next=>obtain⟨a,t,y,G⟩:=z;exact again y G
  |cont=>obtain⟨a,t,y,G⟩:=z;exact again y G
  |brk=>obtain⟨a,t,y,z⟩:=z;exact⟨a,t,y.unpinned,z⟩
  |ret v=>obtain⟨x7,a,t,y,r7,z⟩:=z;exact⟨x7,a,t,y.unpinned,r7,z⟩
end
abbrev R2:=V->V->Hp->VK->Prop
variable {r:R2}
def OpR (X:Cx) (f:Value->Value->Sem Value) (r:R2):Prop :=
 ∀(pins:List (Addr×Obj)) (s:Shared) (σ:St) (H:Hp) (x y:V) (v u:Value) (Q:VK),Inv X pins σ H s->RelV x v->RelV y u->r x y H Q ->
  wpAny (model X.prog X.w) X.A (f v u) (EP X pins σ Q) X.xe s
def UnR (X:Cx) (f:Value->Sem Value) (r:V->Hp->VK->Prop):Prop :=
 ∀(pins:List (Addr×Obj)) (s:Shared) (σ:St) (H:Hp) (x:V) (v:Value) (Q:VK),Inv X pins σ H s->RelV x v->r x H Q ->
  wpAny (model X.prog X.w) X.A (f v) (EP X pins σ Q) X.xe s
def jH (X:Cx) (f:Value) (r:List V->Hp->VK->Prop):Prop :=
 ∀(pins:List (Addr×Obj)) (s:Shared) (σ:St) (H:Hp) (xs:List V) (us:List Value) (Q:VK),Inv X pins σ H s->Vals xs us->r xs H Q ->
  wpAny (model X.prog X.w) X.A (call f us) (EP X pins σ Q) X.xe s
def tOp (r:R2) (ta tb:TE):TE:=λσ H Q=>ta σ H λx H1=>tb σ H1 λy H2=>r x y H2 Q
def tUn (r:V->Hp->VK->Prop) (ta:TE):TE:=λσ H Q=>ta σ H λx H1=>r x H1 Q
def rI (C:Int->Int->Prop) (g:Int->Int->V):R2:=λx y H Q=>∃i j,x=.int i/\y=.int j/\C i j/\Q (g i j) H
def rI0 (g:Int->Int->V):R2:=λx y H Q=>∃i j,x=.int i/\y=.int j/\Q (g i j) H
def rU (g:Int->V):V->Hp->VK->Prop:=λx H Q=>∃i,x=.int i/\Q (g i) H
section
variable {a b:Expr} {ta tb tc:TE}
theorem HD (ha:PE X a ta) (i:PE X b tb) (I:Inv X pins σ H s)
  (h:ta σ H λx H1=>tb σ H1 λy H2=>R x y H2) {f:Value->Value->Sem Value}
  (j:∀v u s2 x y H2,Inv X pins σ H2 s2->RelV x v->RelV y u->R x y H2->wpAny (model X.prog X.w) X.A (f v u) Q X.xe s2) :
  wpAny (model X.prog X.w) X.A (eval a X.env) (λv e=>wpAny (model X.prog X.w) X.A (eval b X.env) (λu g=>wpAny (model X.prog X.w) X.A (f v u) Q X.xe g) X.xe e) X.xe s:=by
 refine thn (ha pins s σ H _ I h) λv l c=>?_
 obtain⟨x,H1,m,n,o⟩:=c;refine thn (i pins l σ H1 _ m o) λu s2 c=>?_
 obtain⟨y,H2,p,q,r⟩:=c;exact j v u s2 x y H2 p n q r
theorem eZ {op:Operator} (c:OpR X (binaryOp op) r) (ha:PE X a ta) (e:PE X b tb):PE X (.BinOp a op b pos) (tOp r ta tb):=by intro pins s σ H Q I h;exact wpAny_BinOp (HD ha e I h λv u s2 x y H2 f g i q=>c pins s2 σ H2 x y v u Q f g i q)
theorem Lb {op:UnaryOp} {r:V->Hp->VK->Prop} (c:UnR X (unaryOp op) r) (ha:PE X a ta):PE X (.UnaryOp op a pos) (tUn r ta):=by intro pins s σ H Q I h;exact UnaryOp_ (thn (ha pins s σ H _ I h) λv e b=>(by obtain⟨x,H1,f,g,i⟩:=b;exact c pins e σ H1 x v Q f g i))
theorem opI {f:Value->Value->Sem Value} {C:Int->Int->Prop}
  (rule:∀(i j:Int) (t u:Tok) (s:Shared) (Q:Value->Shared->Prop) (E:Value->Shared->Prop),C i j->Q (.int (g i j) s.toks) { s with toks:=s.toks+1 }->wpAny (model X.prog X.w) X.A (f (.int i t) (.int j u)) Q E s) :
  OpR X f (rI C λi j=>.int (g i j)):=by
 intro pins s σ H x y v u Q I a b h;obtain⟨i,j,rfl,rfl,hc,q⟩:=h;obtain⟨t,rfl⟩:=a;obtain⟨t',rfl⟩:=b;exact rule i j t t' s _ _ hc ⟨.int (g i j),H,I.tok _,⟨_,rfl⟩,q⟩
theorem KZ {f:Value->Value->Sem Value}
  (rule:∀(i j:Int) (t u:Tok) (s:Shared) (Q:Value->Shared->Prop) (E:Value->Shared->Prop),Q (.int (g i j) s.toks) { s with toks:=s.toks+1 }->wpAny (model X.prog X.w) X.A (f (.int i t) (.int j u)) Q E s) :
  OpR X f (rI0 λi j=>.int (g i j)):=by
 intro pins s σ H x y v u Q I a b h;obtain⟨i,j,rfl,rfl,q⟩:=h;obtain⟨t,rfl⟩:=a;obtain⟨t',rfl⟩:=b;exact rule i j t t' s _ _ ⟨.int (g i j),H,I.tok _,⟨_,rfl⟩,q⟩
theorem HY {f:Value->Value->Sem Value} {g:Int->Int->Bool}
  (rule:∀(i j:Int) (t u:Tok) (s:Shared) (Q:Value->Shared->Prop) (E:Value->Shared->Prop),Q (.bool (g i j)) s->wpAny (model X.prog X.w) X.A (f (.int i t) (.int j u)) Q E s) :
  OpR X f (rI0 λi j=>.bl (g i j)):=by
 intro pins s σ H x y v u Q I a b h;obtain⟨i,j,rfl,rfl,q⟩:=h;obtain⟨t,rfl⟩:=a;obtain⟨t',rfl⟩:=b;exact rule i j t t' s _ _ ⟨.bl (g i j),H,I,rfl,q⟩
def Li (i j:Int):Prop:=0<j/\j<1073741824
def K1 (i j:Int):Prop:=0<=j/\j<=1000000/\i.natAbs<2 ^ 64
def EX (i j:Int):Prop:=(-(2 ^ 64)<i/\i<2 ^ 64)\/(-(2 ^ 64)<j/\j<2 ^ 64)
theorem EX.ok {i j:Int} (h:EX i j):IntMulOk i j:=by
 rcases h with⟨h1,h2⟩|⟨h1,h2⟩
 ·exact .of_left (intBits_le_64 h1 h2)
 ·exact .of_right (intBits_le_64 h1 h2)
theorem mD:OpR X (binaryOp .Add) (rI0 λi j=>.int (i+j)):=KZ λ_ _ _ _ _ _ _ q=>add_int q
theorem IT:OpR X (binaryOp .Sub) (rI0 λi j=>.int (i-j)):=KZ λ_ _ _ _ _ _ _ q=>sub_int q
theorem mJ:OpR X (binaryOp .Mult) (rI EX λi j=>.int (i*j)):=opI λ_ _ _ _ _ _ _ hc q=>mul_int q hc.ok
theorem Gd:OpR X (binaryOp .FloorDiv) (rI Li λi j=>.int (i / j)):=opI λi j _ _ _ _ _ hc q=>by have h1:(0:Int)<j:=hc.1;have h2:j<1073741824:=hc.2;exact floordiv_int (by omega) (by rw[Int.fdiv_eq_ediv_of_nonneg i (by omega)];exact q) (.inl (PyProof.noPylong_small (by omega)))
theorem qa:OpR X (binaryOp .Mod) (rI (λ_ j=>0<j) λi j=>.int (i % j)):=opI λi j _ _ _ _ _ hc q=>by have h1:(0:Int)<j:=hc;exact mod_int' (by omega) (by rw[Int.fmod_eq_emod_of_nonneg i (by omega)];exact q)
theorem Kf:OpR X (binaryOp .Pow) (rI K1 λi j=>.int (i ^ j.toNat)):=opI λ_ _ _ _ _ _ _ hc q=>pow_int_small hc.1 hc.2.1 hc.2.2 q
theorem unI {f:Value->Sem Value} {g:Int->Int}
  (rule:∀(i:Int) (t:Tok) (s:Shared) (Q:Value->Shared->Prop) (E:Value->Shared->Prop),Q (.int (g i) s.toks) { s with toks:=s.toks+1 }->wpAny (model X.prog X.w) X.A (f (.int i t)) Q E s) :
  UnR X f (rU λi=>.int (g i)):=by
 intro pins s σ H x v Q I a h;obtain⟨i,rfl,q⟩:=h;obtain⟨t,rfl⟩:=a;exact rule i t s _ _ ⟨.int (g i),H,I.tok _,⟨_,rfl⟩,q⟩
theorem Im:UnR X (unaryOp .USub) (rU λi=>.int (-i)):=unI λ_ _ _ _ _ q=>neg_int q
end
section
variable {a b:Expr} {ta tb tc:TE}
theorem Ci:OpR X (compareOp .Lt) (rI0 λi j=>.bl (decide (i<j))):=HY λ_ _ _ _ _ _ _ q=>lt_int q
theorem AB:OpR X (compareOp .LtE) (rI0 λi j=>.bl (decide (i<=j))):=HY λ_ _ _ _ _ _ _ q=>le_int q
theorem LI:OpR X (compareOp .Gt) (rI0 λi j=>.bl (decide (j<i))):=HY λ_ _ _ _ _ _ _ q=>gt_int q
theorem OpR.or {f:Value->Value->Sem Value} {a:R2} (h:OpR X f r) (h':OpR X f a):OpR X f (λx y H Q=>r x y H Q\/a x y H Q):=by
 intro pins s σ H x y v u Q I b c q;rcases q with q|q
 ·exact h pins s σ H x y v u Q I b c q
 ·exact h' pins s σ H x y v u Q I b c q
theorem jj (b:Expr) (h:op≠.In:=by decide) (h2:op≠.NotIn:=by decide):behindInMarks op b=false:=by
 have e1:(op==CmpOp.In)=false:=by cases op <;> first|rfl|exact absurd rfl h
 have e2:(op==CmpOp.NotIn)=false:=by cases op <;> first|rfl|exact absurd rfl h2
 cases b <;> simp[behindInMarks,e1,e2]
theorem oj (c:OpR X (compareOp op) r) (ha:PE X a ta) (e:PE X b tb) (hm:behindInMarks op b=false):PE X (.Compare a [op] [b] pos) (tOp r ta tb):=by intro pins s σ H Q I h;exact wpAny_Compare1 (HD ha e I h λv u s2 x y H2 f g i q=>c pins s2 σ H2 x y v u Q f g i q) hm
def Hr (t:TE):TT:=λσ H Q=>t σ H λx H'=>∃k,x=.bl k/\Q k H'
theorem kr (g:OpR X (compareOp op) r) (ha:PE X a ta) (i:PE X b tb) (hm:behindInMarks op b=false):PT X (.Compare a [op] [b] pos) (Hr (tOp r ta tb)):=by
 intro pins s σ H Q I h;refine wpAny_isTrue_Compare1 (thn (ha pins s σ H _ I h) λv j f=>?_) hm;obtain⟨x,H1,l,m,n⟩:=f;refine thn (i pins j σ H1 _ l n) λu s2 f=>?_
 obtain⟨y,H2,o,p,q⟩:=f;refine thn (g pins s2 σ H2 x y v u _ o m p q) λc s3 f=>?_
 obtain⟨z,t,w,A,k,e,B⟩:=f;subst e;cases A;exact wpAny_truthy_bool ⟨t,w,B⟩
def Ib (r b:R2) (ta tb tc:TE):TE:=λσ H Q=>ta σ H λx H1=>tb σ H1 λy H2=>r x y H2 λz a=>∃k,z=.bl k /\
 (if k=true then tc σ a λc e=>b y c e Q else Q (.bl false) a)
theorem DB {g:CmpOp} {l:R2} (q:OpR X (compareOp op) r) (i:OpR X (compareOp g) l) (ha:PE X a ta) (t:PE X b tb) (hc:PE X c tc)
  (hm:lastMarks [op,g] [b,c]=false:=by with_unfolding_all rfl):PE X (.Compare a [op,g] [b,c] pos) (Ib r l ta tb tc):=by
 intro pins s σ H Q I h;refine Compare_chain (thn (ha pins s σ H _ I h) λv w f=>?_) hm;obtain⟨x,H1,A,B,C⟩:=f;refine chain_link (thn (t pins w σ H1 _ A C) λu s2 f=>?_);obtain⟨y,H2,D,m,E⟩:=f;refine thn (q pins s2 σ H2 x y v u _ D B m E) λd F f=>?_
 obtain⟨z,n,o,G,k,e,p⟩:=f;subst e;cases G;refine wpAny_truthy_bool ?_;cases k with
 |false=>exact ite_ff ⟨.bl false,n,o,rfl,p⟩
 |true=>exact ite_tt (chain_last (thn (hc pins F σ n _ o p) λJ K j=>(by obtain⟨L,M,N,O,P⟩:=j;exact i pins K σ M y L u J Q N m O P)))
theorem uJ:(sizeLine:Nat)<2 ^ 63:=by rw[sizeLine_eq];decide
theorem vals1 {x:V} (r:Vals [x] us):∃u,us=[u]/\RelV x u:=by
 cases r with
 |cons r1 r2=>cases r2;exact⟨_,rfl,r1⟩
theorem vals2 {x y:V} (r:Vals [x,y] us):∃u a,us=[u,a]/\RelV x u/\RelV y a:=by
 cases r with
 |cons r1 r2 =>
  cases r2 with
  |cons r3 r4=>cases r4;exact⟨_,_,rfl,r1,r3⟩
theorem BH (hc:X.calm=true):jH X (.builtin "max") (λxs H Q=>∃i j,xs=[.int i,.int j]/\Q (.int (if j>i then j else i)) H):=by
 intro pins s σ H xs us Q I r h;obtain⟨i,j,rfl,q⟩:=h;obtain⟨u,w',rfl,⟨t,rfl⟩,⟨t',rfl⟩⟩:=vals2 r;refine max_two_ints (I.ok.hd hc) λh' tk k=>⟨_,H,I.kept k,?_,q⟩
 by_cases hj:j>i
 ·rw[if_pos hj,if_pos hj];exact⟨_,rfl⟩
 ·rw[if_neg hj,if_neg hj];exact⟨_,rfl⟩
theorem Bn (hc:X.calm=true):jH X (.builtin "min") (λxs H Q=>∃i j,xs=[.int i,.int j]/\Q (.int (if j<i then j else i)) H):=by
 intro pins s σ H xs us Q I r h;obtain⟨i,j,rfl,q⟩:=h;obtain⟨u,w',rfl,⟨t,rfl⟩,⟨t',rfl⟩⟩:=vals2 r;refine min_two_ints (I.ok.hd hc) λh' tk k=>⟨_,H,I.kept k,?_,q⟩
 by_cases hj:j<i
 ·rw[if_pos hj,if_pos hj];exact⟨_,rfl⟩
 ·rw[if_neg hj,if_neg hj];exact⟨_,rfl⟩
theorem Bd:jH X (.type "int") (λxs H Q=>(∃i,xs=[.int i]/\Q (.int i) H)\/∃k,xs=[.bl k]/\Q (.int (if k then 1 else 0)) H):=by
 intro pins s σ H xs us Q I r h;rcases h with⟨i,rfl,q⟩|⟨k,rfl,q⟩
 ·obtain⟨u,rfl,t,rfl⟩:=vals1 r;exact call_int_int ⟨.int i,H,I,⟨_,rfl⟩,q⟩
 ·obtain⟨u,rfl,a⟩:=vals1 r;cases a;exact call_int_bool ⟨.int (if k then 1 else 0),H,I.tok _,⟨_,rfl⟩,q⟩
end
structure xt (h:Heap) (x dx C:Addr) (mA:Str->Option Value):Prop where
 obj:h.get? x=some (PySem.W.instObj C dx)
 ns:h.Ns1 dx mA
 ne:dx≠x
theorem BX (n:h.Ns1 dx mA):∃od,h.get? dx=some od/\∀name,PySem.W.lookIn name od=some (mA name):=by
 obtain⟨o,es,ep,c,hd,f,_,hm⟩:=n;refine⟨o,c,λname=>?_⟩;have e:=hm name;unfold nsFind findBy at e;rw[<-Array.find?_toList]at e;unfold PySem.W.lookIn;rw[hd];dsimp only;split
 ·rename_i y q;rw[q]at e;exact congrArg some e
 ·rename_i q;rw[q]at e;have a:es.toList.any (·.refKey)=false:=by rw[List.any_eq_false];intro y g;obtain⟨z,t,b⟩:=f y (Array.mem_toList_iff.mp g);simp[DictEntry.refKey,b]
  have i:¬ es.toList.any (·.refKey)=true:=by rw[a];exact MG
  rw[if_neg i];exact congrArg some e
theorem xt.look {x:Addr} (I:xt h x dx C mA):∃od,PySem.W.InstAt h x (PySem.W.instObj C dx) C (some od)/\∀name,PySem.W.lookIn name od=some (mA name) :=
 let ⟨od,ho,hl⟩:=BX I.ns
 ⟨od,⟨I.obj,rfl,rfl,ho⟩,hl⟩
section
variable {x:Addr} {name:Str} {v:Value}
theorem get_map {expr:Bool} (X:K.In s.heap) (I:xt s.heap x dx C mA) (b:PySem.W.plainGet K C name=true) (c:PySem.W.hasDictIn K C=true)
  (ha:PySem.W.findIn K (.ref C) name=some none) (hv:mA name=some v) (a:PySem.W.handedIn v=true) (h:Q v { s with toks:=s.toks+1 }) :
  wpAny (model prog w) A (getAttr (.ref x) name expr) Q E s:=by
 obtain⟨od,J,hl⟩:=I.look;exact PySem.W.get_value X J (PySem.W.plainGet_of b).1 (PySem.W.findObj_own c ha rfl (by rw[hl,hv])) a h
theorem ED {pl:Sem Bool} {Q:Value×List Value->Shared->Prop} (X:K.In s.heap) (I:xt s.heap x dx C mA) (a:PySem.W.plainGet K C name=true)
  (b:PySem.W.findIn K (.ref C) name=some (some (.ref f))) (c:PySem.W.isFn K (.ref f)=true) (hv:mA name=none) (h:Q (.ref f,[.ref x]) s) :
  wpAny (model prog w) A (getMethod (.ref x) name pl) Q E s:=by
 obtain⟨od,J,hl⟩:=I.look;exact PySem.W.method_fn X J (PySem.W.plainGet_of a).1 (PySem.W.plainGet_of a).2 b (beq_iff_eq.mp c) (by show (PySem.W.lookIn name od).map (·.isSome)=some false;rw[hl,hv];rfl) h
theorem G4 {ns:List Str} {Q:Unit->Shared->Prop} (X:K.In s.heap) (I:xt s.heap x dx C mA)
  (j:PySem.W.findIn K (.ref C) "__setattr__"=some (some (.builtin "object.__setattr__"))) (l:PySem.W.plainOver K C=true) (m:PySem.W.takerIn K C name=some none) (n:PySem.W.hasDictIn K C=true)
  (hw:PySem.Within mA ns) (hsz:ns.length<=sizeLine)
  (h:∀h',xt h' x dx C (λy=>if y=name then some v else mA y)->Heap.SameBut dx s.heap h'->Q () { s with heap:=h',toks:=s.toks+2 }) :
  wpAny (model prog w) A (setAttr (.ref x) name v) Q E s:=by
 obtain⟨od,J,hl⟩:=I.look;refine PySem.W.set_plain X J j (PySem.W.osa_open (s:={ s with toks:=s.toks+1 }) (r:=none) X J l m λb=>?_);obtain⟨cd,hc,f⟩:=PySem.W.any_some n;have o:s.heap.get? x=some ⟨.ref C,some dx,.plain,#[]⟩:=I.obj;refine wpAny_bind (wpAny_pure (wpAny_bind (wpAny_bind (wpAny_loadPart o (wpAny_bind (PySem.W.Looks.here (s:={ s with toks:=s.toks+1 }) (PySem.W.looks_clsIn X hc) ?_))))));rw[f];refine wpAny_pure (a:=some dx) (wpAny_bind (wpAny_pure (wpAny_bind ?_)));refine wpAny_nsSet1 (s:={ s with toks:=s.toks+1 }) I.ns λh' c e=>?_
 obtain⟨oD,esD,epD,g,hdD,i⟩:=c.count (PySem.Within.cons name v hw);refine wpAny_bind (wpAny_lookBehind g (by rw[hdD];exact pastItsLine_dict (Nc i (by rw[MC];omega))) ?_);exact wpAny_pure (h _ ⟨(e.2 _ (Ne.symm I.ne)).trans I.obj,c,I.ne⟩ e)
theorem DU {R:Result->Shared->Prop} {vs:List Value} {a:List (Str×Value)} (X:K.In s.heap) (hm:PySem.W.makesIn K C=true)
  (hi:PySem.W.findIn K (.ref C) "__init__"=some (some (.ref f))) (b:PySem.W.typeIn K (.ref f)=some (.type "function"))
  (h:codeAny (model prog w) (A.under (.builtin "type.__call__" ⟨.ref C::vs,a⟩)) (.call (.ref f) ⟨.ref (s.heap.objs.size+1)::vs,a⟩) (PySem.W.InitBack (s.heap.objs.size+1) R)
   { s with heap:=(s.heap.push PySem.W.emptyDict).push (PySem.W.instObj C s.heap.objs.size) }) :
  codeAny (model prog w) A (.call (.ref C) ⟨vs,a⟩) R s:=by
 obtain⟨hh,g,d,t,os⟩:=s;exact PySem.W.make_core (PySem.W.makes_of X hm) (PySem.W.looks_findIn X hi) (λself=>PySem.W.bind_fn X self b) (.inl rfl) h
end
def iG (f:Str) (v:V):List (Str×V)->List (Str×V)
 |[]=>[(f,v)]
 |(g,x)::r=>if g=f then (g,v)::r else (g,x)::iG f v r
theorem jL (f g:Str) (v:V):∀fs:List (Str×V),(iG f v fs).lookup g=if g=f then some v else fs.lookup g
 |[]=>by
  show List.lookup g [(f,v)]=_;by_cases h:g=f
  ·have a:(g==f)=true:=beq_iff_eq.mpr h;simp only[List.lookup,a,if_pos h]
  ·have a:(g==f)=false:=beq_eq_false_iff_ne.mpr h;simp only[List.lookup,a,if_neg h]
 |(k,x)::r=>by
  have b:=jL f g v r;rw[show iG f v ((k,x)::r)=(if k=f then (k,v)::r else (k,x)::iG f v r) from rfl];by_cases hk:k=f
  ·rw[if_pos hk];by_cases h:g=k
   ·have a:(g==k)=true:=beq_iff_eq.mpr h;simp only[List.lookup,a,if_pos (h.trans hk)]
   ·have a:(g==k)=false:=beq_eq_false_iff_ne.mpr h;simp only[List.lookup,a,if_neg (λe:g=f=>h (e.trans hk.symm))]
  ·rw[if_neg hk];by_cases h:g=k
   ·have a:(g==k)=true:=beq_iff_eq.mpr h;simp only[List.lookup,a,if_neg (λe:g=f=>hk (h.symm.trans e))]
   ·have a:(g==k)=false:=beq_eq_false_iff_ne.mpr h;simp only[List.lookup,a];exact b
theorem nj (f:Str) (v:V):∀fs:List (Str×V),f∈(iG f v fs).map (·.1)/\∀g,g∈fs.map (·.1)->g∈(iG f v fs).map (·.1)
 |[]=>⟨by simp[iG],λg h=>by simp at h⟩
 |(k,x)::r=>by
  obtain⟨i1,i2⟩:=nj f v r;rw[show iG f v ((k,x)::r)=(if k=f then (k,v)::r else (k,x)::iG f v r) from rfl];by_cases hk:k=f
  ·rw[if_pos hk];subst hk;exact⟨by simp,λg h=>by simpa using h⟩
  ·rw[if_neg hk];refine⟨?_,λg h=>?_⟩
   ·rw[M5];exact M4 _ i1
   ·rw[M5]at h ⊢;rcases M7.mp h with e|e
    ·exact M7.mpr (.inl e)
    ·exact M4 _ (i2 g e)
theorem nX (f:Str) (v:V):∀fs:List (Str×V),(iG f v fs).length<=fs.length+1
 |[]=>by simp[iG]
 |(k,x)::r=>by
  have ih:=nX f v r;rw[show iG f v ((k,x)::r)=(if k=f then (k,v)::r else (k,x)::iG f v r) from rfl];by_cases hk:k=f
  ·rw[if_pos hk,MC,MC];omega
  ·rw[if_neg hk,MC,MC];omega
theorem ky.some_of {o:Option Value} (r:ky (some v) o):∃u,o=some u/\RelV v u:=by
 cases o with
 |none=>exact (show False from r).elim
 |some u=>exact⟨u,rfl,r⟩
theorem ky.none_of {o:Option Value} (r:ky none o):o=none:=by
 cases o with
 |none=>rfl
 |some u=>exact (show False from r).elim
theorem AO (r:RelV v u):PySem.W.handedIn u=true:=by
 cases v with
 |non=>cases (show u=Value.none from r);rfl
 |bl b=>cases (show u=Value.bool b from r);rfl
 |int i=>obtain⟨t,e⟩:=(show ∃t,u=Value.int i t from r);cases e;rfl
 |str x=>obtain⟨t,e⟩:=(show ∃t,u=Value.str x t from r);cases e;rfl
 |byt b=>obtain⟨t,e⟩:=(show ∃t,u=Value.bytes b t from r);cases e;rfl
 |flt b=>obtain⟨t,e⟩:=(show ∃t,u=Value.float b t from r);cases e;rfl
 |ref a=>cases (show u=Value.ref a from r);rfl
 |ty n=>cases (show u=Value.type n from r);rfl
section
variable {H':Hp} {fs fs':List (Str×V)}
theorem uj (hok:HOk P w H h) (e:H a=some (.ins C dx fs)):∃mA,xt h a dx C mA/\(∀f,ky (fs.lookup f) (mA f))/\PySem.Within mA (fs.map (·.1))/\fs.length<=1000/\H dx=some (.own a):=by
 obtain⟨d,z,ne,b,mA,n,r,q⟩:=(show dg P w H h a (.ins C dx fs) from hok a _ e)
 exact⟨mA,⟨b,n,ne⟩,r,q,z,d⟩
end
structure Cls (K:PySem.W.Frag) (C:Addr):Prop where
 pg:PySem.W.plainGet K C Str.empty=true
 hd:PySem.W.hasDictIn K C=true
 po:PySem.W.plainOver K C=true
 sa:PySem.W.findIn K (.ref C) "__setattr__"=some (some (.builtin "object.__setattr__"))
theorem Cls.get (c:Cls K C) (f:Str):PySem.W.plainGet K C f=true:=c.pg
def fw (K:PySem.W.Frag) (C:Addr) (f:Str):Prop:=PySem.W.findIn K (.ref C) f=some none
theorem fw.taker {f:Str} (n:fw K C f):PySem.W.takerIn K C f=some none:=by unfold PySem.W.takerIn;rw[show PySem.W.findIn K (.ref C) f=some none from n];rfl
structure Meth (K:PySem.W.Frag) (C:Addr) (m:Str) (f:Addr):Prop where
 at_:PySem.W.findIn K (.ref C) m=some (some (.ref f))
 fn:PySem.W.isFn K (.ref f)=true
 kp:PySem.W.keepIn K (.ref f)=true
section
variable {fs:List (Str×V)} {f:Str}
theorem qw {b:Bool} (I:Inv X pins σ H s) (e:H a=some (.ins C dx fs)) (c:Cls X.K C) (n:fw X.K C f) (l:fs.lookup f=some v)
  (h:∀u s',Inv X pins σ H s'->RelV v u->Q u s'):wpAny (model X.prog X.w) A (getAttr (.ref a) f b) Q E s:=by
 obtain⟨mA,O,r,_,_,_⟩:=uj I.hok e;obtain⟨u,i,g⟩:=ky.some_of (v:=v) (o:=mA f) (by rw[<-l];exact r f);exact get_map I.kIn O (c.get f) c.hd n i (AO g) (h u _ (I.tok _) g)
theorem pO {g:Addr} {pl:Sem Bool} {Q:Value×List Value->Shared->Prop} (I:Inv X pins σ H s) (e:H a=some (.ins C dx fs)) (c:Cls X.K C) (k:Meth X.K C m g) (l:fs.lookup m=none)
  (h:Q (.ref g,[.ref a]) s):wpAny (model X.prog X.w) A (getMethod (.ref a) m pl) Q E s:=by
 obtain⟨mA,O,r,_,_,_⟩:=uj I.hok e;have hn:mA m=none:=ky.none_of (by rw[<-l];exact r m);exact ED I.kIn O (c.get m) k.at_ k.fn hn h
theorem pL {y:V} {Q:Unit->Shared->Prop} (I:Inv X pins σ H s) (e:H a=some (.ins C dx fs)) (c:Cls X.K C) (n:fw X.K C f) (hl:fs.length<1000) (m:RelV y u)
  (h:∀s',Inv X pins σ (upd H a (.ins C dx (iG f y fs))) s'->Q () s'):wpAny (model X.prog X.w) A (setAttr (.ref a) f u) Q E s:=by
 obtain⟨mA,O,r,j,_,l⟩:=uj I.hok e;have p:(fs.map (·.1)).length<=sizeLine:=by rw[M3,sizeLine_eq];omega
 refine G4 I.kIn O c.sa c.po n.taker c.hd j p λh' i t=>h _ ?_
 have hd:∃o,h'.get? dx=some o:=let ⟨o,_,_,e',_⟩:=i.ns;⟨o,e'⟩;refine I.write (x:=a) (e:=dx) (by rw[e];exact True.intro) (.inr l) (λb q v z=>(t.2 b v).trans z) hd ?_;refine⟨by rw[aA O.ne];exact l,?_,O.ne,i.obj,_,i.ns,λg=>?_,λg B=>?_⟩
 ·have:=nX f y fs;omega
 ·show ky ((iG f y fs).lookup g) (if g=f then some u else mA g);rw[jL];by_cases q:g=f
  ·rw[if_pos q,if_pos q];exact m
  ·rw[if_neg q,if_neg q];exact r g
 ·by_cases q:g=f
  ·rw[q];exact (nj f y fs).1
  ·refine (nj f y fs).2 g (j g λz=>B ?_);show (if g=f then some u else mA g)=none;rw[if_neg q];exact z
theorem Inv.made (I:Inv X pins σ H s):Inv X pins σ (upd (upd H s.heap.objs.size (.own (s.heap.objs.size+1))) (s.heap.objs.size+1) (.ins C s.heap.objs.size []))
  { s with heap:=(s.heap.push PySem.W.emptyDict).push (PySem.W.instObj C s.heap.objs.size) }:=by
 have e1:(s.heap.push PySem.W.emptyDict).get? s.heap.objs.size=some PySem.W.emptyDict:=Mz s.heap rfl;have e2:((s.heap.push PySem.W.emptyDict).push (PySem.W.instObj C s.heap.objs.size)).get? (s.heap.objs.size+1)=some (PySem.W.instObj C s.heap.objs.size):=by
  have:=Mz (s.heap.push PySem.W.emptyDict) (o:=PySem.W.instObj C s.heap.objs.size) rfl
  rwa[Heap.size_push]at this
 have c:(s.heap.push PySem.W.emptyDict).Ns s.heap.objs.size (λ_=>none):=⟨PySem.W.emptyDict,#[],_,e1,rfl,(λe f=>absurd f (by simp)),λ_=>rfl⟩
 have g:=I.laid (a:=s.heap.objs.size) (o:=.own (s.heap.objs.size+1)) (h':=s.heap.push PySem.W.emptyDict) (t':=s.toks) (λb u q=>M0 _ q) (Mu _) ⟨_,e1⟩;refine g.laid (a:=s.heap.objs.size+1) (o:=.ins C s.heap.objs.size []) (t':=s.toks) (λb u q=>M0 _ q) (Nat.le_of_eq (Heap.size_push _ _)) ?_;have ne:s.heap.objs.size≠s.heap.objs.size+1:=MB (Ny _);refine⟨by rw[aA ne,aH],Nd _,ne,e2,λ_=>none,(Heap.Ns1.of_empty c).at λo q=>M0 _ q,λ_=>True.intro,λy h=>absurd rfl h⟩
theorem FY {f:Str} (b:attributeBase e f env (eval e env)=eval e env)
  (h:wpAny (model prog w) A (eval e env) (λo a=>wpAny (model prog w) A (getAttr o f true) Q E a) E s):wpAny (model prog w) A (eval (.Attribute e f pos) env) Q E s :=
 Attribute_any_ h (by rw[arm_eval_Attribute,b])
end
def LU (K:PySem.W.Frag) (ta:TE) (f:Str):TE:=λσ H Q=>ta σ H λx H1=>∃a C dx fs v,x=.ref a/\H1 a=some (.ins C dx fs)/\Cls K C/\fw K C f/\fs.lookup f=some v/\Q v H1
def L9 (K:PySem.W.Frag) (ta tv:TE) (f:Str):TS:=λD σ H=>tv σ H λy H1=>ta σ H1 λx H2=>∃a C dx fs,x=.ref a/\H2 a=some (.ins C dx fs)/\Cls K C/\fw K C f/\fs.length<1000 /\
 D.nx σ (upd H2 a (.ins C dx (iG f y fs)))
def Lp (X:Cx) (op:Operator) (a:V->V->Hp->VK->Prop):Prop :=
 ∀(pins:List (Addr×Obj)) (s:Shared) (σ:St) (H:Hp) (x y:V) (u v:Value) (Q:VK),Inv X pins σ H s->RelV x u->RelV y v->a x y H Q->wpAny (model X.prog X.w) X.A (inplaceOp op u v) (EP X pins σ Q) X.xe s
def EY (K:PySem.W.Frag) (ta tv:TE) (e:V->V->Hp->VK->Prop) (f:Str):TS:=λD σ H=>ta σ H λx H1=>∃a C dx fs v,x=.ref a/\H1 a=some (.ins C dx fs)/\Cls K C/\fw K C f/\fs.lookup f=some v /\
 tv σ H1 λy H2=>e v y H2 λz c=>∃b fs',c a=some (.ins C b fs')/\fs'.length<1000/\D.nx σ (upd c a (.ins C b (iG f z fs')))
section
variable {o value:Expr} {f:Str} {tpos:Pos} {ta tv:TE}
theorem Ki (g:PE X e ta) (i:attributeBase e f X.env (eval e X.env)=eval e X.env):PE X (.Attribute e f pos) (LU X.K ta f):=by intro pins s σ H Q I h;refine FY i (thn (g pins s σ H _ I h) λu s1 b=>?_);obtain⟨x,H1,j,m,a,C,dx,fs,v,ex,ea,c,n,l,q⟩:=b;subst ex;obtain rfl:u=Value.ref a:=m;exact qw j ea c n l λu' s2 o p=>⟨v,H1,o,p,q⟩
theorem f7 (ha:PE X o ta) (hv:PE X value tv) (e:swapsWith value (some (.Attribute o f pos')) pos.line X.env=pure false):PS X (.Assign [.Attribute o f pos'] value pos) (L9 X.K ta tv f):=by
 intro pins s σ H D I h;refine plainObj_wpAny_Assign_Attribute (thn (hv pins s σ H _ I h) λu g b=>?_) e;obtain⟨y,H1,i,j,q⟩:=b;refine thn (ha pins g σ H1 _ i q) λm s2 b=>?_
 obtain⟨x,H2,p,r,a,C,dx,fs,ex,ea,c,n,l,t⟩:=b;subst ex;obtain rfl:m=Value.ref a:=r;exact pL p ea c n l j λs3 v=>⟨σ,_,v,t⟩
theorem BO {op:Operator} {i:V->V->Hp->VK->Prop} (ha:PE X o ta) (hv:PE X value tv) (e:Lp X op i):PS X (.AugAssign (.Attribute o f tpos) op value pos) (EY X.K ta tv i f):=by
 intro pins s σ H D I h;refine wpAny_AugAssign_AttributeAny (thn (ha pins s σ H _ I h) λj s1 b=>?_);obtain⟨x,H1,m,p,a,C,dx,fs,v,ex,ea,c,n,l,q⟩:=b;subst ex;obtain rfl:j=Value.ref a:=p;refine qw m ea c n l λu s2 r t=>thn (hv pins s2 σ H1 _ r q) λw A b=>?_
 obtain⟨y,H2,B,E,F⟩:=b;refine thn (e pins A σ H2 v y u w _ B t E F) λw4 s4 b=>?_
 obtain⟨z,H3,G,rz,dx',fs',g,J,L⟩:=b;exact pL G g c n J rz λs5 M=>⟨σ,_,M,L⟩
def Mj:V->V->Hp->VK->Prop:=λx y H Q=>∃i j,x=.int i/\y=.int j/\Q (.int (i+j)) H
theorem II:Lp X .Add Mj:=by
 rintro pins s σ H x y u v Q I a b ⟨i,j,rfl,rfl,q⟩
 obtain⟨t,rfl⟩:=(show ∃t,u=Value.int i t from a)
 obtain⟨t',rfl⟩:=(show ∃t',v=Value.int j t' from b)
 exact PyProof.Rows.iadd_int ⟨.int (i+j),H,I.tok _,⟨_,rfl⟩,q⟩
end
section
variable {c:Value} {b:Bool}
inductive pY (K:PySem.W.Frag) (H:Hp):V->Value->Prop where
 |non:pY K H .non (.type "NoneType")
 |bl (x:Bool):pY K H (.bl x) (.type "bool")
 |int (i:Int):pY K H (.int i) (.type "int")
 |str (x:Str):pY K H (.str x) (.type "str")
 |flt (x:UInt64):pY K H (.flt x) (.type "float")
 |lst {a:Addr} {xs:List V} (e:H a=some (.lst xs)):pY K H (.ref a) (.type "list")
 |frz {a:Addr} {o:Obj} {xs:List V} (e:H a=some (.frz o (.lst xs))):pY K H (.ref a) (.type "list")
 |tup {a:Addr} {xs:List V} (e:H a=some (.tup xs)):pY K H (.ref a) (.type "tuple")
 |dK {a:Addr} {kvs:List (Key×V)} (e:H a=some (.dK kvs)):pY K H (.ref a) (.type "dict")
 |dT {a:Addr} {kvs:List (List Key×V)} (e:H a=some (.dT kvs)):pY K H (.ref a) (.type "dict")
 |ins {a C dx:Addr} {fs:List (Str×V)} (e:H a=some (.ins C dx fs)) (cl:Cls K C) (ha:PySem.W.findIn K (.ref C) "__class__"=some (some (.builtin "object.__class__")))
  (hn:PySem.W.specialIn K (.builtin "object.__class__") "__get__"=some (some (.builtin "getset_descriptor.__get__"))) (htk:PySem.W.takesIn K (.builtin "object.__class__")=some true)
  (hm:PySem.W.mroIn K C (.type "object")=some true):pY K H (.ref a) (.ref C)
end
structure cw (k:Nat) (A:Around):Prop where
 hd:A.handled=none
 dp:A.depth+3*k+5<recursionLimit
 un:A.units+16*k+200<cLine
theorem cw.mono {k:Nat} (r:cw k A) (h:j<=k):cw j A:=⟨r.hd,by have:=r.dp;omega,by have:=r.un;omega⟩
theorem cw.deeper {k:Nat} (r:cw (k+1) A) (env:Env):cw k (A.deeper env) :=
 ⟨r.hd,by have:=r.dp;show A.depth+1+3*k+5<_;omega,by have:=r.un;show A.units+3+16*k+200<_;omega⟩
theorem cw.in1 {k:Nat} (r:cw (k+1) A):cw k A.in1 :=
 ⟨r.hd,by have:=r.dp;show A.depth+3*k+5<_;omega,by have:=r.un;show A.units+1+16*k+200<_;omega⟩
theorem yn {a:List (Str×Value)}:(A.under (.builtin "type.__call__" ⟨.ref C::us,a⟩)).depth=A.depth+1:=by first|rfl|simp[Around.under,Code.weight,Code.isCreation,Code.isGuard,Code.isCaller,Code.frames,Code.isFrame,guardIds]
theorem yb {a:List (Str×Value)}:(A.under (.builtin "type.__call__" ⟨.ref C::us,a⟩)).units=A.units+1:=by first|rfl|simp[Around.under,Code.cUnits,Code.frames,Code.isFrame]
theorem cw.make {k:Nat} (r:cw (k+1) A) (C:Addr) (us:List Value) (a:List (Str×Value)):cw k (A.under (.builtin "type.__call__" ⟨.ref C::us,a⟩)) :=
 ⟨r.hd,by have:=r.dp;rw[yn];omega,by have:=r.un;rw[yb];omega⟩
theorem cw.depth {k:Nat} (r:cw k A):A.depth<recursionLimit:=by have:=r.dp;omega
theorem cw.units {k:Nat} (r:cw k A):A.units+64<cLine:=by have:=r.un;omega
def HF:TA:=λ_ H Q=>Q [] H
def Ht (ta:TE) (a:TA):TA:=λσ H Q=>ta σ H λx H1=>a σ H1 λxs H2=>Q (x::xs) H2
section
variable {te:TE} {t:TA}
theorem f9:PA X [] HF:=λ_ _ _ _ H Q I h=>Calls.spliced_nil ⟨[],H,I,.nil,h⟩
theorem ej (ha:PE X e te) (c:PA X es t) (f:starEach (e::es) X.env=(false,eval e X.env)::starEach es X.env:=by rfl):PA X (e::es) (Ht te t):=by intro pos pins s σ H Q I h;rw[f];show wpAny _ _ (spliced ((false,eval e X.env)::backTo pos (starEach es X.env))) _ _ s;refine Calls.spliced_cons (thn (ha pins s σ H _ I h) λu g a=>?_);obtain⟨x,H1,i,j,l⟩:=a;exact thn (c pos pins g σ H1 _ i l) λus s2 b=>(by obtain⟨xs,H2,m,n,o⟩:=b;exact⟨x::xs,H2,m,.cons j n,o⟩)
def L6 (t:TA):TE:=λσ H Q=>t σ H λxs H1=>xs.length<=sizeLine/\∀p,H1 p=none->Q (.ref p) (upd H1 p (.tup xs))
def Mm (t:TA):TE:=λσ H Q=>t σ H λxs H1=>xs.length<=sizeLine/\∀p,H1 p=none->Q (.ref p) (upd H1 p (.lst xs))
theorem Jz {x1} (h:PA X es t):PE X (.Tuple es x1 pos) (L6 t):=by intro pins s σ H Q I g;refine wpAny_Tuple_spliced (thn (h pos pins s σ H _ I g) λus a c=>?_);obtain⟨xs,H1,f,r,z,q⟩:=c;refine⟨by rw[<-r.length];exact z,?_⟩;have i:H1 a.heap.objs.size=none:=f.hok.fresh (Mu _);refine⟨.ref a.heap.objs.size,upd H1 a.heap.objs.size (.tup xs),f.laid (t':=a.toks) (λb u e=>M0 _ e) (Mu _) ?_,rfl,q _ i⟩;exact⟨z,us,r,⟨_,Mz _ rfl,rfl,rfl,_,rfl⟩⟩
theorem yU (h:PA X es t):PE X (.List es pos) (Mm t):=by intro pins s σ H Q I g;refine wpAny_List_spliced (thn (h pos pins s σ H _ I g) λus a c=>?_);obtain⟨xs,H1,f,r,z,q⟩:=c;refine⟨by rw[<-r.length];exact z,?_⟩;have i:H1 a.heap.objs.size=none:=f.hok.fresh (Mu _);refine⟨.ref a.heap.objs.size,upd H1 a.heap.objs.size (.lst xs),f.laid (t':=a.toks) (λb u e=>M0 _ e) (Mu _) ?_,rfl,q _ i⟩;exact⟨z,us,0,r,Mz _ rfl⟩
end
abbrev Sp:=List V->Hp->VK->XK->Prop
abbrev CXT:=List Env->Hp->Shared->XK->Value->Shared->Prop
structure uR (P:Program) (w:World) (K:PySem.W.Frag) (mg:Str->Option Value) (base:Heap) (A:Around) (outer:List Env) (s:Shared) (H:Hp):Prop where
 frames:A.frames=some outer
 mod:Mod K mg base
 bs:∀b o,base.get? b=some o->s.heap.get? b=some o/\H b=none
 bsz:base.objs.size<=s.heap.objs.size
 funs:s.heap.FunFrames base outer
 frf:∀b∈frs outer,H b=none
 hok:HOk P w H s.heap
 bare:AllBare s.gens
 tab:∀P q,TabOf K P q->H P=some (.tbl q)
def CE (outer:List Env) (P:Program) (w:World) (H:Hp) (s:Shared) (Q:VK) (u:Value) (s':Shared):Prop :=
 ∃v H',s'.os=s.os/\AllBare s'.gens/\Un (frs outer) [] H H' s.heap s'.heap/\HOk P w H' s'.heap/\RelV v u/\Q v H'
def CR (CX:CXT) (outer:List Env) (P:Program) (w:World) (H:Hp) (s:Shared) (Q:VK) (E:XK) (r:Result) (s':Shared):Prop :=
 match r with
 |.ok (.ret u)=>CE outer P w H s Q u s'
 |.ok _=>False
 |.error e=>CX outer H s E e s'
structure gM (P:Program) (w:World) (K:PySem.W.Frag) (mg:Str->Option Value) (base:Heap) (CX:CXT) (k:Nat) (f:Addr) (fd:FuncData) (ps:List Str) (sp:Sp):Prop where
 len:∀vs H Q E,sp vs H Q E->vs.length=ps.length
 run:∀(A:Around) (outer:List Env) (s:Shared) (H:Hp) (args:Args) (us:List Value) (vs:List V) (Q:VK) (E:XK),cw k A->uR P w K mg base A outer s H->BindsTo s fd args (ps.zip us)->Vals vs us->sp vs H Q E ->
  codeAny (model P w) A (.call (.ref f) args) (CR CX outer P w H s Q E) s
theorem uR.make (e:uR P w K mg base A outer s H) (C:Addr) (us:List Value) (a:List (Str×Value)) :
 uR P w K mg base (A.under (.builtin "type.__call__" ⟨.ref C::us,a⟩)) outer s H:=⟨by first|exact e.frames|(simpa[Around.under,Code.envs,Code.isFrame,pushEnvs] using e.frames),e.mod,e.bs,e.bsz,e.funs,e.frf,e.hok,e.bare,e.tab⟩
section
theorem Inv.env0 (I:Inv X pins σ H s):uR X.prog X.w X.K X.mg X.base X.A X.stack s H :=
 ⟨I.ok.frames,I.ok.mod,I.bs,Nc I.ok.bsz I.sz,I.stack,I.stkFree,I.hok,I.bare,I.tab⟩
theorem Inv.after {Q:VK} (I:Inv X pins σ H s) (h:CE X.stack X.prog X.w H s Q u s'):EP X pins σ Q u s':=by obtain⟨v,H',os,bare,un,hok,r,q⟩:=h;obtain⟨c,g,d,t,a⟩:=s';obtain rfl:a=s.os:=os;exact⟨v,H',I.call (h':=c) (g':=g) (d':=d) (t':=t) (ch:=[]) un hok bare (λb z=>absurd z (by simp)),r,q⟩
end
def K5 (sp:Sp) (dvs:List V) (E:XK) (t:TA):TE:=λσ H Q=>t σ H λvs H1=>sp (vs++dvs) H1 Q E
def Ae (C:Addr) (m:Str) (sp:Sp) (dvs:List V) (E:XK) (ta:TE) (t:TA):TE:=λσ H Q=>ta σ H λx H1=>∃a dx fs,x=.ref a/\H1 a=some (.ins C dx fs)/\fs.lookup m=none /\
 t σ H1 λvs H2=>sp (x::(vs++dvs)) H2 Q E
def La (C:Addr) (sp:Sp) (dvs:List V) (E:XK) (t:TA):TE:=λσ H Q=>t σ H λvs H1=>∀x dx,H1 x=none->H1 dx=none->dx≠x ->
 sp (.ref x::(vs++dvs)) (upd (upd H1 dx (.own x)) x (.ins C dx [])) (λv H2=>v=.non/\Q (.ref x) H2) E
def Binds (K:PySem.W.Frag) (fd:FuncData) (ps:List Str) (ds:List Value):Prop :=
 ∀(s:Shared) (us:List Value),K.In s.heap->(us++ds).length=ps.length->BindsTo s fd ⟨us,[]⟩ (ps.zip (us++ds))
theorem Binds.all (h:∀us:List Value,us.length=ps.length->bindArgs fd ⟨us,[]⟩=pure (ps.zip us)):Binds K fd ps []:=λs us _ hl=>by rw[N4]at hl ⊢;exact .of_eq (h us hl)
def Passes (CX:CXT) (X:Cx) (E:XK):Prop:=∀(pins:List (Addr×Obj)) (σ:St) (H:Hp) (s:Shared) (e:Value) (s':Shared),Inv X pins σ H s->CX X.stack H s E e s'->X.xe e s'
section
variable {CX:CXT} {k:Nat} {sp:Sp} {dvs:List V} {ds:List Value} {E:XK} {apos:Pos} {o:Expr} {ta:TE} {t:TA}
theorem yD {Q:VK} (F:gM X.prog X.w X.K X.mg X.base CX k f fd ps sp) (c:cw k X.A) (g:Binds X.K fd ps ds) (hd:Vals dvs ds) (i:Passes CX X E)
  (I:Inv X pins σ H s) (r:Vals vs us) (h:sp (vs++dvs) H Q E):wpAny (model X.prog X.w) X.A (call (.ref f) us) (EP X pins σ Q) X.xe s:=by
 have b:Vals (vs++dvs) (us++ds):=r.append hd;have hl:(us++ds).length=ps.length:=by rw[<-b.length];exact F.len _ _ _ _ h
 refine wpAny_call (codeAny_mono (F.run X.A X.stack s H ⟨us,[]⟩ (us++ds) (vs++dvs) Q E c I.env0 (g s us I.kIn hl) b h) λr s' a=>?_);cases r with
 |error e=>exact i pins σ H s e s' I a
 |ok fl =>
  cases fl with
  |ret u=>exact I.after a
  |next=>exact False.elim a
  |brk=>exact False.elim a
  |cont=>exact False.elim a
theorem Ag (F:gM X.prog X.w X.K X.mg X.base CX k f fd ps sp) (i:cw k X.A) (j:Gl X x) (hm:X.mg x=some (.ref f)) (l:PySem.W.keepIn X.K (.ref f)=true) (m:Binds X.K fd ps ds) (hd:Vals dvs ds) (n:Passes CX X E)
  (ha:PA X (e::es) t) (a:(x==("__debug__":Str))=false:=by decide) (o:starEach (e::es) X.env=(false,eval e X.env)::starEach es X.env:=by rfl) (b:(backTo pos (starEach es X.env)).any (·.1)=false:=by rfl) :
  PE X (.Call (.Name x p) (e::es) [] pos) (K5 sp dvs E t):=by
 intro pins s σ H Q I h;refine wpAny_Call_Name_kw (oh I j hm ?_ a);refine PySem.W.callWith_K (h₀:=X.base) I.ok.mod.kin l (thn (ha pos pins s σ H _ I h) λus s1 c=>?_) o b;obtain⟨vs,H1,g,r,q⟩:=c;refine⟨g.kIn,?_⟩;exact yD F i m hd n g r q
theorem G3 {pl:Sem Bool} (p:PE X o ta) (c:Cls X.K C) (hm:Meth X.K C m f) (F:gM X.prog X.w X.K X.mg X.base CX k f fd ps sp) (v:cw k X.A) (y:Binds X.K fd ps ds) (hd:Vals dvs ds) (z:Passes CX X E) (ha:PA X (e::es) t)
  (g:starEach (e::es) X.env=(false,eval e X.env)::starEach es X.env:=by rfl) (i:(backTo pos (starEach es X.env)).any (·.1)=false:=by rfl)
  (B:eval (.Call (.Attribute o m apos) (e::es) [] pos) X.env=(do
   let ov <-eval o X.env
   standAt apos.atName
   let (f,first) <-holding [ov] (getMethod ov m pl)
   callWith pos f first (backTo pos (starEach (e::es) X.env)) (backToKw pos (keywordEach [] X.env))):=by rfl) :
  PE X (.Call (.Attribute o m apos) (e::es) [] pos) (Ae C m sp dvs E ta t):=by
 intro pins s σ H Q I h;refine PySem.W.methodCall_KW (pl:=pl) (thn (p pins s σ H _ I h) λu D b=>?_) B;obtain⟨x,H1,j,G,a,dx,fs,ex,ea,l,q⟩:=b;subst ex;obtain rfl:u=Value.ref a:=G;refine pO j ea c hm l ?_;refine PySem.W.callWith_K (first:=[.ref a]) (h₀:=X.base) I.ok.mod.kin hm.kp (thn (ha pos pins D σ H1 _ j q) λus s2 b=>?_) g i;obtain⟨vs,H2,n,r,J⟩:=b;refine⟨n.kIn,?_⟩;exact yD (us:=.ref a::us) (vs:=.ref a::vs) F v y hd z n (.cons rfl r) J
theorem wa {pl:Sem Bool} (g:PE X o ta) (c:Cls X.K C) (hm:Meth X.K C m f) (F:gM X.prog X.w X.K X.mg X.base CX k f fd ps sp) (i:cw k X.A) (j:Binds X.K fd ps ds) (hd:Vals dvs ds) (n:Passes CX X E)
  (p:eval (.Call (.Attribute o m apos) [] [] pos) X.env=(do
   let ov <-eval o X.env
   standAt apos.atName
   let (f,first) <-holding [ov] (getMethod ov m pl)
   callWith pos f first (backTo pos (starEach [] X.env)) (backToKw pos (keywordEach [] X.env))):=by rfl) :
  PE X (.Call (.Attribute o m apos) [] [] pos) (Ae C m sp dvs E ta HF):=by
 intro pins s σ H Q I h;refine PySem.W.methodCall_KW (pl:=pl) (thn (g pins s σ H _ I h) λu s1 b=>?_) p;obtain⟨x,H1,e,r,a,dx,fs,ex,ea,l,q⟩:=b;subst ex;obtain rfl:u=Value.ref a:=r;refine pO e ea c hm l ?_;exact PySem.W.callWith_K0 (first:=[.ref a]) e.kIn hm.kp (yD (us:=[.ref a]) (vs:=[.ref a]) F i j hd n e (.cons rfl .nil) q)
structure Mk (K:PySem.W.Frag) (C f:Addr):Prop where
 makes:PySem.W.makesIn K C=true
 init:PySem.W.findIn K (.ref C) "__init__"=some (some (.ref f))
 fn:PySem.W.isFn K (.ref f)=true
 kp:PySem.W.keepIn K (.ref C)=true
theorem C7 {Q:VK} (M:Mk X.K C f) (F:gM X.prog X.w X.K X.mg X.base CX k f fd ps sp) (i:cw (k+1) X.A) (j:Binds X.K fd ps ds) (hd:Vals dvs ds)
  (l:Passes CX X E) (I:Inv X pins σ H s) (r:Vals vs us)
  (h:∀x dx,H x=none->H dx=none->dx≠x->sp (.ref x::(vs++dvs)) (upd (upd H dx (.own x)) x (.ins C dx [])) (λv H2=>v=.non/\Q (.ref x) H2) E) :
  wpAny (model X.prog X.w) X.A (call (.ref C) us) (EP X pins σ Q) X.xe s:=by
 have c:=h (s.heap.objs.size+1) s.heap.objs.size (I.hok.fresh (NT _)) (I.hok.fresh (Mu _)) (MB (Ny _));have b:=Inv.made (C:=C) I;have g:Vals (V.ref (s.heap.objs.size+1)::(vs++dvs)) (Value.ref (s.heap.objs.size+1)::(us++ds)):=.cons rfl (r.append hd);have hl:(Value.ref (s.heap.objs.size+1)::us++ds).length=ps.length:=by have e:=g.length;rw[F.len _ _ _ _ c]at e;exact e.symm
 refine wpAny_call (DU (f:=f) I.kIn M.makes M.init (beq_iff_eq.mp M.fn) (codeAny_mono (F.run _ X.stack _ _ ⟨Value.ref (s.heap.objs.size+1)::us,[]⟩ (Value.ref (s.heap.objs.size+1)::(us++ds)) _ _ E (i.make C us [])
  (b.env0.make C us []) (j _ (Value.ref (s.heap.objs.size+1)::us) b.kIn hl) g c) λr s' a=>?_))
 cases r with
 |error e=>exact l pins σ _ _ e s' b a
 |ok fl =>
  cases fl with
  |ret u =>obtain⟨v,H',m,n,ev,o⟩:=b.after a;subst ev;exact⟨n,⟨V.ref (s.heap.objs.size+1),H',m,rfl,o⟩⟩
  |next=>exact False.elim a
  |brk=>exact False.elim a
  |cont=>exact False.elim a
theorem Ar (M:Mk X.K C f) (F:gM X.prog X.w X.K X.mg X.base CX k f fd ps sp) (i:cw (k+1) X.A) (j:Gl X x) (hm:X.mg x=some (.ref C)) (l:Binds X.K fd ps ds) (hd:Vals dvs ds) (m:Passes CX X E)
  (ha:PA X (e::es) t) (a:(x==("__debug__":Str))=false:=by decide) (n:starEach (e::es) X.env=(false,eval e X.env)::starEach es X.env:=by rfl) (b:(backTo pos (starEach es X.env)).any (·.1)=false:=by rfl) :
  PE X (.Call (.Name x p) (e::es) [] pos) (La C sp dvs E t):=by
 intro pins s σ H Q I h;refine wpAny_Call_Name_kw (oh I j hm ?_ a);refine PySem.W.callWith_K (h₀:=X.base) I.ok.mod.kin M.kp (thn (ha pos pins s σ H _ I h) λus s1 c=>?_) n b;obtain⟨vs,H1,g,r,q⟩:=c;refine⟨g.kIn,?_⟩;exact C7 M F i l hd m g r q
end
def PK (X:Cx) (kws:List Keyword) (t:TA):Prop :=
 ∀(pos:Pos) (pins:List (Addr×Obj)) (s:Shared) (σ:St) (H:Hp) (Q:List V->Hp->Prop),Inv X pins σ H s->t σ H Q->wpAny (model X.prog X.w) X.A (evalAll ((backToKw pos (keywordEach kws X.env)).map (·.2))) (AP X pins σ Q) X.xe s
section
variable {CX:CXT} {k:Nat} {ks:List Str} {sp:Sp} {E:XK} {apos kpos:Pos} {o:Expr} {kws:List Keyword} {te ta:TE} {t tk:TA} {nm:Option Str}
theorem C5:PK X [] HF:=λ_ _ _ _ H Q I h=>wpAny_evalAll_nil ⟨[],H,I,.nil,h⟩
theorem yZ (ha:PE X e te) (c:PK X kws t):PK X (⟨nm,e,kpos⟩::kws) (Ht te t):=by intro pos pins s σ H Q I h;show wpAny _ _ (evalAll ((do let v <-eval e X.env;standAt pos;pure v)::(backToKw pos (keywordEach kws X.env)).map (·.2))) _ _ s;refine wpAny_evalAll_cons (wpAny_bind (thn (ha pins s σ H _ I h) λu f a=>?_));obtain⟨x,H1,g,i,j⟩:=a;refine wpAny_bind (wpAny_standAt (wpAny_pure ?_));exact thn (c pos pins f σ H1 _ g j) λus s2 b=>(by obtain⟨xs,H2,l,m,n⟩:=b;exact⟨x::xs,H2,l,.cons i m,n⟩)
variable {g:List Value->List Value->List Value} {gV:List V->List V->List V}
end
structure cX (N P:List Str) (sc:Scope):Prop where
 kind:sc.kind=.function
 co:sc.isCoroutine=false
 gen:sc.isGenerator=false
 nd:N.Nodup
 pre:N.take P.length=P
 par:∀x∈P,sc.names.lookup x=some .local\/sc.names.lookup x=some .cell
 nofree:∀y∈sc.names,y.2≠.free
theorem rJ {kindOf:Str->Option NameKind} {x:Str}:∀{binds:List (Str×Value)} {m:Str->Option Value},(∀v,(x,v)∉binds)->bindL kindOf binds m x=m x
 |[],_,_=>rfl
 |(n,v)::r,m,h=>by
  unfold bindL;rw[rJ λw hw=>h w (M4 _ hw)];split
  ·have:x≠n:=by rintro rfl;exact h v M6
   simp[this]
  ·rfl
theorem rT {kindOf:Str->Option NameKind} {x:Str}:∀{binds:List (Str×Value)} {m:Str->Option Value},(∀v,(x,v)∉binds)->bindC kindOf binds m x=m x
 |[],_,_=>rfl
 |(n,v)::r,m,h=>by
  unfold bindC;rw[rT λw hw=>h w (M4 _ hw)];split
  ·rfl
  ·have:x≠n:=by rintro rfl;exact h v M6
   simp[this]
theorem rP {kindOf:Str->Option NameKind} {x:Str} {v:Value}:∀{P:List Str} {vs:List Value} {i:Nat} {m:Str->Option Value},P.Nodup->P[i]?=some x->vs[i]?=some v->kindOf x=some .local ->
  bindL kindOf (P.zip vs) m x=some v
 |[],_,_,_,_,h,_,_=>by simp at h
 |_::_,[],_,_,_,_,h,_=>by simp at h
 |p::P,w::vs,0,m,nd,h1,h2,hk=>by simp at h1 h2;subst h1;subst h2;show bindL kindOf ((p,w)::P.zip vs) m p=_;unfold bindL;rw[rJ λv hv=>(MX.mp nd).1 (NX hv).1,if_pos hk];simp
 |p::P,w::vs,i+1,m,nd,h1,h2,hk=>by show bindL kindOf ((p,w)::P.zip vs) m x=_;unfold bindL;exact rP (i:=i) (MX.mp nd).2 (by simpa using h1) (by simpa using h2) hk
theorem sY {kindOf:Str->Option NameKind} {x:Str} {v:Value}:∀{P:List Str} {vs:List Value} {i:Nat} {m:Str->Option Value},P.Nodup->P[i]?=some x->vs[i]?=some v->kindOf x≠some .local ->
  bindC kindOf (P.zip vs) m x=some v
 |[],_,_,_,_,h,_,_=>by simp at h
 |_::_,[],_,_,_,_,h,_=>by simp at h
 |p::P,w::vs,0,m,nd,h1,h2,hk=>by simp at h1 h2;subst h1;subst h2;show bindC kindOf ((p,w)::P.zip vs) m p=_;unfold bindC;rw[rT λv hv=>(MX.mp nd).1 (NX hv).1,if_neg hk];simp
 |p::P,w::vs,i+1,m,nd,h1,h2,hk=>by show bindC kindOf ((p,w)::P.zip vs) m x=_;unfold bindC;exact sY (i:=i) (MX.mp nd).2 (by simpa using h1) (by simpa using h2) hk
def start (N:List Str) (vs:List V):St:=vs.map some++List.replicate (N.length-vs.length) none
def c8 (CX:CXT) (P:Program) (w:World) (K:PySem.W.Frag) (mg:Str->Option Value) (base:Heap) (N:List Str) (qual:Str) (scope:Scope) (f:Addr) (cd:Value) (A:Around) (outer:List Env) (s:Shared) (H:Hp) (E:XK):Cx where
 prog:=P
 w:=w
 K:=K
 mg:=mg
 base:=base
 A:=A.deeper (envOfC qual scope s.heap.objs.size f cd)
 N:=N
 s₀:=s
 H₀:=H
 env:=envOfC qual scope s.heap.objs.size f cd
 outer:=outer
 stack:=envOfC qual scope s.heap.objs.size f cd::outer
 ex:=[]
 calm:=true
 fn:=λ_=>true
 pn:=[]
 xe:=λe s'=>wpAny (model P w) (A.deeper (envOfC qual scope s.heap.objs.size f cd)) (leaving (envOfC qual scope s.heap.objs.size f cd) e) (λ_ a=>CX outer H s E e a) (λb a=>CX outer H s E b a) s'
theorem pK {sc:Scope} {n:Nat} (h:sc.names.lookup x=some .cell):∃c,(cellsFrom n sc.names []).lookup x=some c:=by have q:=PySem.W.cellsFrom_some sc.names n [] (.inl h);exact Option.isSome_iff_exists.mp q
theorem BP {CX:CXT} {t:Shared} {E:XK}
  (S:cX N ps scope) (hd:A.handled=none) (g:uR P w K mg base A outer s H) (hl:vs.length=ps.length) (r:Vals vs us)
  (x:InCallC s s.heap.objs.size (bindL (envOfC qual scope s.heap.objs.size f cd).kindOf (ps.zip us) λ_=>none) (cellsFrom (s.heap.objs.size+1) scope.names []) (bindC (envOfC qual scope s.heap.objs.size f cd).kindOf (ps.zip us) λ_=>none) t) :
  Inv (c8 CX P w K mg base N qual scope f cd A outer s H E) [] (start N vs) H t:=by
 have hpl:ps.length<=N.length:=by have:=congrArg List.length S.pre;rw[NO]at this;omega
 obtain⟨h1,tk,rfl,B⟩:=x.done;have j:∀b:Addr,b∉(c8 CX P w K mg base N qual scope f cd A outer s H E).ex:=λb z=>absurd (show b∈([]:List Addr) from z) (by simp)
 refine⟨⟨g.mod,S.kind,rfl,rfl,Mu _,λy z c h1 h2=>?_,λy l=>?_,λy c _ h=>?_,λ_=>hd,Around.frames_deeper g.frames,.inr ⟨rfl,rfl⟩,λb z=>absurd z (j b),g.bs,g.bsz,λb _ _=>j b,λb z=>absurd z (j b),g.funs,g.frf⟩,
  rfl,g.bare,Un.kept B,⟨_,x.toInCall.ns,λi y v h1 h2 h3=>?_⟩,λy c h=>⟨_,x.cell y c h⟩,g.hok.fresh (Mu _),λy c h=>?_,λp m=>absurd (show p∈([]:List (Addr×Obj)) from m) (by simp),g.hok.kept B,?_,g.tab⟩
 ·exact name_of_addr x.apart (PySem.mem_of_lookup h1) (PySem.mem_of_lookup h2)
 ·have l:scope.names.lookup y=some .cell\/scope.names.lookup y=some .free:=l;rcases l with l|l
  ·exact pK l
  ·exact absurd rfl (S.nofree _ (PySem.mem_of_lookup l))
 ·exact Ot (x.above y c (PySem.mem_of_lookup h))
 ·have hi:i<vs.length:=by
   unfold start at h2;by_cases hi:i<vs.length
   ·exact hi
   ·rw[MO (by simpa using hi)]at h2;rw[O3]at h2;split at h2 <;> cases h2
  have ha:vs[i]?=some v:=by
   unfold start at h2;rw[ML (by simpa using hi),MA]at h2;cases e:vs[i]? with
   |none=>rw[e]at h2;cases h2
   |some a=>rw[e]at h2;cases h2;rfl
  obtain⟨u,C,D⟩:=r.get ha;have m:ps[i]?=some y:=by rw[<-S.pre,List.getElem?_take_of_lt (by omega)];exact h1
  have o:ps.Nodup:=by rw[<-S.pre];exact S.nd.sublist (List.take_sublist _ _)
  refine⟨u,D,?_⟩;rcases S.par y (N0 m) with k|k
  ·exact .inl ⟨k,rP o m C k⟩
  ·obtain⟨c,e⟩:=pK (n:=s.heap.objs.size+1) k;refine .inr ⟨.inl k,c,e,?_⟩;have q:=x.cell y c e;rw[sY o m C (by show scope.names.lookup y≠_;rw[k];decide)]at q;exact q
 ·exact g.hok.fresh (Ot (x.above y c (PySem.mem_of_lookup h)))
 ·unfold start;show _=N.length;rw[Mv,M3,List.length_replicate];omega
theorem Ce {CX:CXT} {k:Nat} {name:Str} {B kV doc cdv:Value}
  {sp:Sp} (F:K.lookup f=some ⟨oc,od,.func (PySem.W.fnOf name qual params body scope B kV doc pm an cdv ct),osl⟩) (l:PySem.W.codeIn K cdv qual=true) (S:cX N ps scope)
  (len:∀vs H Q E,sp vs H Q E->vs.length=ps.length)
  (c:∀(A:Around) (outer:List Env) (s:Shared) (H:Hp) (vs:List V) (Q:VK) (E:XK),cw k (A.deeper (envOfC qual scope s.heap.objs.size f cdv))->sp vs H Q E ->
   ∃t,PSs (c8 CX P w K mg base N qual scope f cdv A outer s H E) body t/\t { nx:=λ_ H'=>Q .non H',rt:=Q } (start N vs) H) :
  gM P w K mg base CX (k+1) f (PySem.W.fnOf name qual params body scope B kV doc pm an cdv ct) ps sp:=by
 refine⟨len,λA outer s H args us vs Q E m i G r j=>?_⟩;have hl:=len _ _ _ _ j;have C:K.In s.heap:=i.mod.kin.keeps λb o e=>(i.bs b o e).1
 have lim:s.heap.NoLimit:=i.mod.nolimit.keeps λb o e=>(i.bs b o e).1
 have g:∀y∈ps.zip us,scope.names.lookup y.1=some .local\/(scope.names.lookup y.1=some .cell/\((cellsFrom (s.heap.objs.size+1) scope.names []).lookup y.1).isSome=true):=λp L=>by
  obtain⟨n,v⟩:=p;rcases S.par n (NX L).1 with q|q
  ·exact .inl q
  ·exact .inr ⟨q,PySem.W.cellsFrom_some _ _ _ (.inl q)⟩
 refine codeAny_call_function m.depth (C _ _ F) rfl S.co S.gen rfl (PySem.W.codeRec_of C l) (G _ _ _ _ ?_);refine wpAny_newFunctionEnv_cells S.kind g λenv M D x=>?_
 subst M;refine⟨lim.keeps x.toInCall.keep,codeAny_func ?_⟩;obtain⟨t,O,R⟩:=c A outer s H vs Q E (m.deeper _) j;have I:Inv (c8 CX P w K mg base N qual scope f cdv A outer s H E) [] (start N vs) H D:=BP S m.hd i hl r x;refine wpAny_mono (O [] D (start N vs) H _ I R) (λT s' h=>?_) λe s' h=>h
 have fin:∀{a:St} {H':Hp} {v:V} {u:Value},Inv (c8 CX P w K mg base N qual scope f cdv A outer s H E) [] a H' s'->RelV v u->Q v H'->CE outer P w H s Q u s' :=
  λ{a H' v u} J z q=>⟨v,H',J.os,J.bare,J.base,J.hok,z,q⟩
 cases T with
 |ret u =>obtain⟨v,a,H',J,z,q⟩:=h;exact fin J z q
 |next =>obtain⟨a,H',J,q⟩:=h;exact fin (v:=V.non) (u:=Value.none) J rfl q
 |brk =>obtain⟨_,_,_,q⟩:=h;exact False.elim q
 |cont =>obtain⟨_,_,_,q⟩:=h;exact False.elim q
section
variable {t:TA} {id T:String} {r:List V->Hp->VK->Prop}
def tCB (r:List V->Hp->VK->Prop) (t:TA):TE:=λσ H Q=>t σ H λvs H1=>r vs H1 Q
theorem fU (hc:jH X (.builtin id) r) (f:Gl X x) (hm:X.mg x=none) (hv:bootBuiltins x=some (.builtin id)) (ha:PA X (e::es) t) (hn:x≠"__name__":=by decide) (a:(x==("__debug__":Str))=false:=by decide)
  (g:starEach (e::es) X.env=(false,eval e X.env)::starEach es X.env:=by rfl) (b:(backTo pos (starEach es X.env)).any (·.1)=false:=by rfl):PE X (.Call (.Name x p) (e::es) [] pos) (tCB r t):=by
 intro pins s σ H Q I h;refine wpAny_Call_Name_kw (gp I f hm hv ?_ hn a);exact PyProof.Rows.callWith_builtin1 (thn (ha pos pins s σ H _ I h) λus i c=>(by obtain⟨vs,H1,j,l,m⟩:=c;exact hc pins i σ H1 vs us Q j l m)) g b
theorem mw (hc:jH X (.type T) r) (f:Gl X x) (hm:X.mg x=none) (hv:bootBuiltins x=some (.type T)) (ha:PA X (e::es) t) (hn:x≠"__name__":=by decide) (a:(x==("__debug__":Str))=false:=by decide)
  (g:starEach (e::es) X.env=(false,eval e X.env)::starEach es X.env:=by rfl) (b:(backTo pos (starEach es X.env)).any (·.1)=false:=by rfl):PE X (.Call (.Name x p) (e::es) [] pos) (tCB r t):=by
 intro pins s σ H Q I h;refine wpAny_Call_Name_kw (gp I f hm hv ?_ hn a);exact PyProof.Rows.callWith_type1 (thn (ha pos pins s σ H _ I h) λus i c=>(by obtain⟨vs,H1,j,l,m⟩:=c;exact hc pins i σ H1 vs us Q j l m)) g b
end
end L2
variable {xs ys vs:List L2.V} {ws:List (Option L2.V)} {H H' H1 G H0:L2.Hp} {o:L2.HO} {v y:L2.V} {X:L2.Cx} {σ:L2.St} {ta:L2.TA} {CX:L2.CXT} {sp:L2.Sp} {r:L2.V->Option Int->Option Int->L2.Hp->L2.VK->Prop} {κ:Nat->L2.V->L2.Hp->Prop} {kvs:List (List L2.Key×L2.V)}
namespace HT
open PySem PyProof.Rows
def lexLt:List Int->List Int->Bool
 |[],[]=>false
 |[],_::_=>true
 |_::_,[]=>false
 |x::xs,y::ys=>if x=y then lexLt xs ys else decide (x<y)
theorem qg (x y:Int) (xs ys:List Int):lexLt (x::xs) (y::ys)=if x=y then lexLt xs ys else decide (x<y):=rfl
theorem kB:lexLt [] []=false:=rfl
theorem oN (y:Int) (ys:List Int):lexLt [] (y::ys)=true:=rfl
theorem oT (x:Int) (xs:List Int):lexLt (x::xs) []=false:=rfl
theorem Ec (A:Around) (s:Shared) (a:Int) (t:Tok) (c:Int) (u:Tok):∃e,SeqAt.EqAt A s (.int a t) (.int c u) e/\(e=true↔a=c) :=
 ⟨(a==c),SeqAt.EqAt.int_int a t c u,by simp⟩
theorem Cg (A:Around) (s:Shared) (a:Int) (t:Tok) (c:Int) (u:Tok) (prog:Program) (w:World) (E:Value->Shared->Prop) (Q:Value->Shared->Prop) (h:Q (.bool (decide (a<c))) s) :
  wpAny (model prog w) A (richCompare .Lt (.int a t) (.int c u)) Q E s :=
 (PyProof.Rows.lt_int h:wpAny (model prog w) A (compareOp .Lt (.int a t) (.int c u)) Q E s)
section
open PySem.SeqAt
open PySem.AutoSeq1 (wpAny_loadPart')
open PySem.MeetsSeq PySem.MeetsSeq2 PySem.MeetsSeq3
theorem rf (l b:Addr) (items f:Array Value) (n n2:Nat) (dd E:Option Addr) (J F:Array (Option Value)) (ns C:List Int) (hi:IntsAre items.toList ns) (I:IntsAre f.toList C) :
  Meets (Builtin.«tuple.__lt__» ⟨[.ref l,.ref b],[]⟩)
   (λ_ R s=>s.heap.get? l=some { cls:=.type "tuple",dict:=dd,data:=.seq items n,slots:=J }/\s.heap.get? b=some { cls:=.type "tuple",dict:=E,data:=.seq f n2,slots:=F } /\
    R (.ok (.ret (.bool (lexLt ns C)))) s) :=
 .of_wp λprog w A R s h=>by
  obtain⟨D,g,d,tk,os⟩:=s;obtain⟨hl,K,h⟩:=h;have f2:=AutoSeq1.sub_tuple_tuple;have z1:items.size=ns.length:=by rw[<-hi.length];simp
  have z2:f.size=C.length:=by rw[<-I.length];simp
  wp_walk using wpAny_loadPart' hl,wpAny_loadPart' K,wpAny_forIn_list _ (λrest b s'=>b.1=none/\s'=⟨D,g,d,tk,os⟩/\∃(vs ws:List Value) (i j:List Int),rest=vs.zip ws /\
   IntsAre vs i/\IntsAre ws j/\i.length+f.size=j.length+items.size/\R (.ok (.ret (.bool (lexLt i j)))) ⟨D,g,d,tk,os⟩) _
  case turn =>
   rintro⟨y,x⟩ rest b s' ⟨v,rfl,vs,ws,i,j,m,z,o,hlen,p⟩
   cases z with
   |nil=>rw[List.zip_nil_left]at m;cases m
   |cons a t hvi' =>
    cases o with
    |nil=>rw[List.zip_nil_right]at m;cases m
    |cons c u hwi' =>
     rw[O0]at m;injection m with G B
     injection G with L M
     subst L M;rw[qg]at p;simp only[MC]at hlen;obtain⟨e,N,r⟩:=Ec A.in1 ⟨D,g,d,tk,os⟩ a t c u;refine wpAny_bind (N prog w _ _ ?_);cases e with
     |true =>
      rw[if_pos (r.mp rfl)]at p
      wp_walk
      exact⟨rfl,rfl,_,_,_,_,B,hvi',hwi',by omega,p⟩
     |false =>
      rw[if_neg (λq=>absurd (r.mpr q) MG)]at p;have H:=Cg A.in1 ⟨D,g,d,tk,os⟩ a t c u prog w
      wp_walk using H
      exact⟨_,rfl,by simpa using p⟩
  case fin =>
   rintro⟨b1,b2⟩ s' ⟨v,rfl,vs,ws,i,j,m,z,o,hlen,p⟩
   simp only at v;subst v;have hv:lexLt i j=decide (items.size<f.size):=by
    cases z with
    |nil =>
     cases o with
     |nil =>simp only[Nm]at hlen;rw[kB];exact (decide_eq_false (by omega)).symm
     |cons c u hw =>simp only[Nm,MC]at hlen;rw[oN];exact (decide_eq_true (by omega)).symm
    |cons a t hv =>
     cases o with
     |nil =>simp only[Nm,MC]at hlen;rw[oT];exact (decide_eq_false (by omega)).symm
     |cons c u hw =>rw[O0]at m;cases m
   rw[hv]at p
   wp_walk
   exact⟨_,rfl,by simpa[Builtin.Tuple.tupleCompareSizes] using p⟩
  case h =>exact⟨rfl,rfl,items.toList,f.toList,ns,C,rfl,hi,I,by omega,h⟩
end
section
variable {A:Around}
theorem xU {l:Addr} {a:Array Value} {c:List Int} (hl:IsTup s.heap l items) (m:IsTup s.heap b a) (hi:IntsAre items.toList ns) (o:IntsAre a.toList c)
  (p:A.units<cLine) (h:Q (.bool (lexLt ns c)) s):wpAny (model prog w) A (compareOp .Lt (.ref l) (.ref b)) Q E s:=by
 obtain⟨⟨cls,dd,data,q⟩,j,hc,n,hd⟩:=id hl;obtain⟨⟨cls2,g,data2,i⟩,e,f,n2,hd2⟩:=id m;simp only at hc hd f hd2;subst hc hd f hd2;exact richCompare_meets_room (op:=.Lt) ⟨_,j,rfl⟩ ⟨_,e,rfl⟩ PySem.F.slot_tuple_lt PySem.F.entry_tuple_lt (PySem.F.args_tuple_lt_2 _ _) (rf l b items a n n2 dd g q i ns c hi o)
  ⟨j,e,show Value.bool (lexLt ns c)≠Value.notImplemented/\Q (.bool (lexLt ns c)) s from⟨(λx=>nomatch x),h⟩⟩ p
theorem FW {t:Addr} {vs ws:List Value} (j:IsTup s.heap t vs.toArray) (l:IsTup s.heap b ws.toArray) (hv:vs≠[])
  (h1:ws=[]->Q (.ref t) s) (h2:ws≠[]->Q (.ref s.heap.objs.size) { s with heap:=s.heap.push { cls:=.type "tuple",data:=.seq (vs++ws).toArray } })
  (hsz:vs.length+ws.length<=sizeLine):wpAny (model prog w) A (binaryOp .Add (.ref t) (.ref b)) Q E s:=by
 obtain⟨⟨cls,dd,data,i⟩,h,hc,n,hd⟩:=id j;obtain⟨⟨cls2,c,data2,f⟩,a,g,n2,hd2⟩:=id l;simp only at hc hd g hd2;subst hc hd g hd2;have e:vs.toArray++ws.toArray=(vs++ws).toArray:=by simp
 by_cases hw:ws=[]
 ·exact concat_meets ⟨_,h,rfl⟩ ⟨_,a,rfl⟩ noFill_tuple_add seq_tuple_add PySem.F.slot_tuple_add PySem.F.entry_tuple_add (PySem.F.args_tuple_add_2 _ _)
   (tuple_addW1 t b vs.toArray ws.toArray n n2 dd c i f (by simpa using hv) (by simp[hw])) ⟨h,a,h1 hw⟩
 ·refine concat_meets ⟨_,h,rfl⟩ ⟨_,a,rfl⟩ noFill_tuple_add seq_tuple_add PySem.F.slot_tuple_add PySem.F.entry_tuple_add (PySem.F.args_tuple_add_2 _ _)
   (tuple_addW2 t b vs.toArray ws.toArray n n2 dd c i f (by simpa using hv) (by simpa using hw) (by rw[My,My];exact hsz)) ⟨h,a,?_⟩
  rw[e];exact h2 hw
def sIx (n d:Nat):Option Int->Nat
 |none=>d
 |some v=>if v<0 then (v+(n:Int)).toNat else min v.toNat n
theorem zG (n d k:Nat):sIx n d (some (k:Int))=min k n:=by show (if (k:Int)<0 then ((k:Int)+(n:Int)).toNat else min (k:Int).toNat n)=min k n;rw[if_neg (by omega),MT]
theorem Hz (n d:Nat) (hd:d<=n) (o:Option Int):sIx n d o<=n:=by
 cases o with
 |none=>exact hd
 |some v =>
  show (if v<0 then (v+(n:Int)).toNat else min v.toNat n)<=n;by_cases hv:v<0
  ·rw[if_pos hv];omega
  ·rw[if_neg hv];exact Nat.min_le_right _ _
theorem zW (v:Int) (n d:Nat):(if v<0 then max (v+(n:Int)) 0 else min v (n:Int))=((sIx n d (some v):Nat):Int):=by
 show (if v<0 then max (v+(n:Int)) 0 else min v (n:Int))=(((if v<0 then (v+(n:Int)).toNat else min v.toNat n):Nat):Int)
 by_cases hv:v<0
 ·simp only[if_pos hv];omega
 ·simp only[if_neg hv];omega
theorem yy (lo hi:Option Int) (n:Nat):Builtin.Slice.sliceAdjust lo hi 1 (n:Int)=(((sIx n 0 lo:Nat):Int),((sIx n n hi:Nat):Int)):=by
 have h1:¬ ((1:Int)<0):=by omega
 unfold Builtin.Slice.sliceAdjust;simp only[h1,if_false];refine Prod.ext ?_ ?_
 ·cases lo with
  |none=>rfl
  |some v=>exact zW v n 0
 ·cases hi with
  |none=>rfl
  |some v=>exact zW v n n
theorem yL (i j:Nat):Builtin.Slice.slicePlaces (i:Int) (j:Int) 1=j-i:=by
 unfold Builtin.Slice.slicePlaces;have h1:(1:Int)>0:=by omega
 simp only[h1,if_true,Int.ediv_one];split <;> omega
theorem ph {v:Value} {o:Option Int} {Q:Option Int->Shared->Prop} (p:IsPart v o) (h:Q o s):wpAny (model prog w) A (Builtin.Slice.slicePartIndex v) Q E s:=by
 cases p with
 |none=>exact slicePart_none h
 |int i t=>exact slicePart_int h
theorem iW {c e:Value} {n:Nat} {Q:Int×Int×Nat->Shared->Prop} (g:s.heap.IsSliceOf f c e .none) (pl:IsPart c lo) (i:IsPart e hi)
  (h:Q (((sIx n 0 lo:Nat):Int),1,sIx n n hi-sIx n 0 lo) s):wpAny (model prog w) A (Builtin.Slice.sliceApplied (.ref f) (pure (n:Int))) Q E s:=by
 obtain⟨os,a,hcs,b⟩:=id g;unfold Builtin.Slice.sliceApplied Builtin.Slice.sliceFields;refine wpAny_bind (wpAny_bind (wpAny_field a b (x:=c) rfl (wpAny_bind (wpAny_field a b (x:=e) rfl (wpAny_bind (wpAny_field a b (x:=.none) rfl (wpAny_pure ?_)))))));refine wpAny_bind (slicePart_none ?_);show wpAny _ _ (if ((1:Int)==0)=true then _ else _) _ _ s;rw[if_neg (by decide)];refine wpAny_bind (ph pl (wpAny_bind (ph i (wpAny_bind (wpAny_pure ?_)))));show wpAny _ _ (match Builtin.Slice.sliceAdjust lo hi 1 (n:Int) with|(lo,hi)=>pure (lo,(1:Int),Builtin.Slice.slicePlaces lo hi 1)) _ _ s;rw[yy lo hi n];show wpAny _ _ (pure (((sIx n 0 lo:Nat):Int),(1:Int),Builtin.Slice.slicePlaces ((sIx n 0 lo:Nat):Int) ((sIx n n hi:Nat):Int) 1)) _ _ s;rw[yL];exact wpAny_pure h
theorem DX (xs:Array Value) (i k:Nat):((List.range k).filterMap λ(m:Nat)=>xs[((i:Int)+(m:Int)*1).toNat]?).toArray=((xs.toList.drop i).take k).toArray:=by
 have e:(λ(m:Nat)=>xs[((i:Int)+(m:Int)*1).toNat]?)=λm=>xs[i+m]?:=by
  funext m;have:((i:Int)+(m:Int)*1).toNat=i+m:=by omega
  rw[this]
 rw[e];have:=pick_run xs i k;rw[List.filterMap_map]at this;have e2:((λx=>xs[x]?)∘λx=>i+x)=λm=>xs[i+m]?:=rfl
 rw[e2]at this;rw[this]
theorem lP {t:Addr} {j l:Value} (b:IsTup s.heap t items) (n:s.heap.IsSliceOf c j l .none) (pl:IsPart j lo) (o:IsPart l hi)
  (hw:¬ (sIx items.size 0 lo=0/\sIx items.size items.size hi=items.size))
  (h:Q (.ref s.heap.objs.size) { s with heap:=s.heap.push { cls:=.type "tuple",data:=.seq ((items.toList.drop (sIx items.size 0 lo)).take (sIx items.size items.size hi-sIx items.size 0 lo)).toArray } })
  (hsz:items.size<=sizeLine):wpAny (model prog w) A (getItem (.ref t) (.ref c)) Q E s:=by
 have a:sizeOk (.seq ((items.toList.drop (sIx items.size 0 lo)).take (sIx items.size items.size hi-sIx items.size 0 lo)).toArray):=by show ((items.toList.drop (sIx items.size 0 lo)).take (sIx items.size items.size hi-sIx items.size 0 lo)).toArray.size<=sizeLine;rw[My,NO,O8,Nq];omega
 have hj:sIx items.size items.size hi<=items.size:=Hz _ _ (Mu _) hi;obtain⟨os,e,f,hds⟩:=id n;have g:s.TypeIs (.ref c) "slice":=⟨os,e,f⟩
 unfold getItem
 try with_reducible refine wpAny_holding ?_
 first|refine wpAny_bind (wpAny_pure ?_)|skip
 refine wpAny_bind (wpAny_sequenceKey b.typeIs (by decide) ?_);refine wpAny_bind (wpAny_callSpecial?_slot (name:=Str.ofString "__getitem__") b.typeIs PyProof.Rows.slot_tuple_getitem
  (wpAny_call_entry PyProof.Rows.slot_tuple_getitem b.typeIs entry_tuple_getitem ?_ (args_tuple_getitem _ _)))
 show wpAny _ _ (Builtin.Tuple.tupleItemsOf (.ref t) >>= _) _ _ s;refine wpAny_bind (tupleItemsOf_ b ?_);refine wpAny_bind (wpAny_typeOf g ?_);rw[if_pos (by decide)];refine wpAny_bind (iW n pl o ?_);have i:¬ ((((sIx items.size 0 lo:Nat):Int)==0&&(1:Int)==1&&(sIx items.size items.size hi-sIx items.size 0 lo)==items.size)=true):=by intro q;rw[M8,M8]at q;have q1:((sIx items.size 0 lo:Nat):Int)=0:=eq_of_beq q.1.1;have q2:sIx items.size items.size hi-sIx items.size 0 lo=items.size:=eq_of_beq q.2;exact hw ⟨by omega,by omega⟩
 show wpAny _ _ (if (((sIx items.size 0 lo:Nat):Int)==0&&(1:Int)==1&&(sIx items.size items.size hi-sIx items.size 0 lo)==items.size)=true then _ else _) _ _ s;rw[if_neg i,DX]
 first
  |exact wpAny_bind (m:=Builtin.Tuple.tupleExact _) (wpAny_newObj_type (wpAny_pure ⟨_,rfl,wpAny_pure h⟩) a)
  |exact wpAny_bind (m:=Builtin.Tuple.tupleExact _) (wpAny_newObj_type (wpAny_bind (wpAny_pure (wpAny_pure ⟨_,rfl,wpAny_pure h⟩))) a)
  |exact wpAny_bind (wpAny_bind (m:=Builtin.Tuple.tupleExact _) (wpAny_newObj_type (wpAny_pure (wpAny_pure ⟨_,rfl,wpAny_pure h⟩)) a))
  |exact wpAny_bind (wpAny_bind (m:=Builtin.Tuple.tupleExact _) (wpAny_newObj_type (wpAny_pure ⟨_,rfl,wpAny_pure h⟩) a))
end
end HT
namespace L2
open PySem PySem.Spec PyProof.Rows
variable {n:Nat} {a:List Value}
abbrev TO:=St->Hp->(Option Int->Hp->Prop)->Prop
def PO (X:Cx) (e:Option Expr) (t:TO):Prop :=
 ∀(pins:List (Addr×Obj)) (s:Shared) (σ:St) (H:Hp) (Q:Option Int->Hp->Prop),Inv X pins σ H s->t σ H Q ->
  wpAny (model X.prog X.w) X.A (evalPart e X.env) (λu s'=>∃o H',Inv X pins σ H' s'/\IsPart u o/\Q o H') X.xe s
def Gr:TO:=λ_ H Q=>Q none H
def KC (t:TE):TO:=λσ H Q=>t σ H λx H1=>∃i,x=.int i/\Q (some i) H1
theorem intsAre_of:∀{us:List Value},Vals (ns.map V.int) us->IntsAre us ns:=by
 induction ns with
 |nil=>intro us r;rw[N8]at r;cases r;exact .nil
 |cons n ns ih =>
  intro us r;rw[M5]at r;cases r with
  |cons r1 r2 =>obtain⟨t,e⟩:=r1;subst e;exact .cons n t (ih r2)
section
variable {e:Expr} {te:TE} {lo hi:Option Expr} {tl th:TO}
theorem GX:PO X none Gr:=by intro pins s σ H Q I h;rw[evalPart_none];exact wpAny_pure ⟨none,H,I,.none,h⟩
theorem Fj (h:PE X e te):PO X (some e) (KC te):=by
 intro pins s σ H Q I hw;rw[evalPart_some];refine thn (h pins s σ H _ I hw) λu s1 a=>?_
 obtain⟨x,H1,b,c,f⟩:=a;obtain⟨i,rfl,q⟩:=f;obtain⟨t,rfl⟩:=c;exact⟨some i,H1,b,.int i t,q⟩
def SlR (X:Cx) (r:V->Option Int->Option Int->Hp->VK->Prop):Prop :=
 ∀(pins:List (Addr×Obj)) (s:Shared) (σ:St) (H:Hp) (x:V) (v a b:Value) (lo hi:Option Int) (c:Addr) (Q:VK),Inv X pins σ H s->RelV x v->s.heap.IsSliceOf c a b .none->IsPart a lo->IsPart b hi->r x lo hi H Q ->
  ∃T id,typeLookup (.type T) "__getitem__"=pure (some (.builtin id))/\s.TypeIs v T/\wpAny (model X.prog X.w) X.A (getItem v (.ref c)) (EP X pins σ Q) X.xe s
theorem SlR.or {a:V->Option Int->Option Int->Hp->VK->Prop} (h:SlR X r) (h':SlR X a):SlR X (λx lo hi H Q=>r x lo hi H Q\/a x lo hi H Q):=by
 intro pins s σ H x v b c lo hi e Q I f g pl i q;rcases q with q|q
 ·exact h pins s σ H x v b c lo hi e Q I f g pl i q
 ·exact h' pins s σ H x v b c lo hi e Q I f g pl i q
def tSl (r:V->Option Int->Option Int->Hp->VK->Prop) (te:TE) (tl th:TO):TE:=λσ H Q=>te σ H λx H1=>tl σ H1 λl H2=>th σ H2 λu a=>r x l u a Q
theorem Di (j:SlR X r) (m:PE X e te) (hl:PO X lo tl) (n:PO X hi th):PE X (.Subscript e (.Slice lo hi none p2) pos) (tSl r te tl th):=by
 intro pins s σ H Q I h;refine Subscript_ (thn (m pins s σ H _ I h) λv o a=>?_);obtain⟨x,H1,p,t,y⟩:=a;refine wpAny_Slice (thn (hl pins o σ H1 _ p y) λf s2 a=>?_);obtain⟨l,H2,z,pl,B⟩:=a;refine thn (n pins s2 σ H2 _ z B) λg c a=>?_
 obtain⟨u,i,C,D,E⟩:=a;rw[evalPart_none];refine wpAny_pure ?_;have F:Inv X pins σ i { c with heap:=c.heap.push { cls:=.type "slice",data:=.fields #[f,g,.none] } }:=C.kept (t':=c.toks) λb ob q=>M0 _ q
 obtain⟨T,id,G,J,K⟩:=j pins { c with heap:=c.heap.push { cls:=.type "slice",data:=.fields #[f,g,.none] } } σ i x v f g l u c.heap.objs.size Q F t (Heap.IsSliceOf.new ..) pl D E;show wpAny (model X.prog X.w) X.A (subscriptTail e (.Slice lo hi none p2) v (.ref c.heap.objs.size)) (EP X pins σ Q) X.xe { c with heap:=c.heap.push { cls:=.type "slice",data:=.fields #[f,g,.none] } };exact tail_any (ops:=[.ref c.heap.objs.size,v]) J G K (by with_unfolding_all rfl)
def vI (xs:List V) (lo hi:Option Int):List V:=(xs.drop (HT.sIx xs.length 0 lo)).take (HT.sIx xs.length xs.length hi-HT.sIx xs.length 0 lo)
theorem nO (xs:List V) (lo hi:Option Int):(vI xs lo hi).length<=xs.length:=by unfold vI;rw[NO,O8];omega
def Mi (K:PySem.W.Frag):V->Option Int->Option Int->Hp->VK->Prop:=λx lo hi H Q=>∃a xs,x=.ref a/\SqT K H a xs /\
 ¬ (HT.sIx xs.length 0 lo=0/\HT.sIx xs.length xs.length hi=xs.length)/\∀p,H p=none->Q (.ref p) (upd H p (.tup (vI xs lo hi)))
theorem IU:SlR X (Mi X.K):=by
 intro pins s σ H x v vl vu lo hi sl Q I g i pl j h;obtain⟨a,xs,rfl,l,hw,q⟩:=h;cases g;obtain⟨c,r,e,f⟩:=I.tuple l;have hlen:c.toArray.size=xs.length:=by rw[My];exact r.length.symm
 refine⟨"tuple",_,PyProof.Rows.slot_tuple_getitem.lookup,e.typeIs,?_⟩;refine HT.lP e i pl j (by rw[hlen];exact hw) ?_ (by rw[hlen];exact f);rw[hlen];refine⟨.ref s.heap.objs.size,_,I.laid (t':=s.toks) (o:=.tup (vI xs lo hi)) (λb ob q=>M0 _ q) (Mu _) ?_,rfl,q _ (I.hok.fresh (Mu _))⟩;exact⟨Nc (nO xs lo hi) f,_,(r.drop (HT.sIx xs.length 0 lo)).take (HT.sIx xs.length xs.length hi-HT.sIx xs.length 0 lo),uM.new _ _⟩
def LV (K:PySem.W.Frag):R2:=λx y H Q=>∃a b ns c,x=.ref a/\y=.ref b/\SqT K H a (ns.map V.int)/\SqT K H b (c.map V.int)/\Q (.bl (HT.lexLt ns c)) H
theorem Jw (g:X.A.units<cLine):OpR X (compareOp .Lt) (LV X.K):=by intro pins s σ H x y v u Q I i j h;obtain⟨a,b,ns,f,rfl,rfl,ha,l,q⟩:=h;cases i;cases j;obtain⟨e,m,p1,_⟩:=I.tuple ha;obtain⟨c,n,p2,_⟩:=I.tuple l;have i1:IntsAre e.toArray.toList ns:=intsAre_of m;have i2:IntsAre c.toArray.toList f:=intsAre_of n;exact HT.xU p1 p2 i1 i2 g ⟨.bl (HT.lexLt ns f),H,I,rfl,q⟩
def LG (K:PySem.W.Frag):R2:=λx y H Q=>∃a b xs ys,x=.ref a/\y=.ref b/\SqT K H a xs/\SqT K H b ys/\xs≠[]/\xs.length+ys.length<=sizeLine /\
 (ys=[]->Q (.ref a) H)/\(ys≠[]->∀p,H p=none->Q (.ref p) (upd H p (.tup (xs++ys))))
theorem Vals.nil_iff (r:Vals xs us):us=[]↔xs=[]:=by
 cases r with
 |nil=>simp
 |cons _ _=>simp
theorem F9:OpR X (binaryOp .Add) (LG X.K):=by intro pins s σ H x y v u Q I g i h;obtain⟨a,b,xs,ys,rfl,rfl,ha,j,l,f,m,n⟩:=h;cases g;cases i;obtain⟨its,e,p1,_⟩:=I.tuple ha;obtain⟨its2,c,p2,_⟩:=I.tuple j;refine HT.FW p1 p2 (λz=>l (e.nil_iff.mp z)) (λz=>⟨.ref a,H,I,rfl,m (c.nil_iff.mp z)⟩) (λz=>?_) (by rw[<-e.length,<-c.length];exact f);refine⟨.ref s.heap.objs.size,_,I.laid (t':=s.toks) (o:=.tup (xs++ys)) (λb ob q=>M0 _ q) (Mu _) ?_,rfl,n (λw=>z (c.nil_iff.mpr w)) _ (I.hok.fresh (Mu _))⟩;exact⟨by rw[Mv];exact f,_,e.append c,uM.new _ _⟩
end
def ixN (n:Nat) (i:Int):Option Nat:=if 0<=i then (if i<n then some i.toNat else none) else if -(n:Int)<=i then some (i+n).toNat else none
def atI {α:Type} (xs:List α) (i:Int):Option α:=(ixN xs.length i).bind λj=>xs[j]?
theorem uS {i:Int} (h:ixN n i=some j):seqIndex? i n=some j/\j<n/\-(n:Int)<=i/\i<n:=by
 unfold ixN at h;by_cases h0:0<=i
 ·rw[if_pos h0]at h;by_cases h1:i<n
  ·rw[if_pos h1]at h;have e:i.toNat=j:=Option.some.inj h;exact⟨by rw[seqIndex_of h0 h1,e],by omega,by omega,h1⟩
  ·rw[if_neg h1]at h;cases h
 ·rw[if_neg h0]at h;by_cases h1:-(n:Int)<=i
  ·rw[if_pos h1]at h;have e:(i+n).toNat=j:=Option.some.inj h;exact⟨by rw[seqIndex_neg (by omega) h1,e],by omega,h1,by omega⟩
  ·rw[if_neg h1]at h;cases h
theorem zD {xs:List α} {i:Int} {v:α} (h:atI xs i=some v):∃j,seqIndex? i xs.length=some j/\xs[j]?=some v/\j<xs.length/\-(xs.length:Int)<=i/\i<xs.length:=by
 unfold atI at h;cases e:ixN xs.length i with
 |none=>rw[e]at h;cases h
 |some j =>rw[e]at h;obtain⟨h1,h2,a,b⟩:=uS e;exact⟨j,h1,h,h2,a,b⟩
theorem oG {xs:List α} {v:α} (h:xs[j]?=some v):atI xs (j:Int)=some v:=by
 have hj:j<xs.length:=(MQ.mp h).1;have e:ixN xs.length (j:Int)=some j:=by unfold ixN;rw[if_pos (by omega),if_pos (by omega)];simp
 unfold atI;rw[e];exact h
def zB (b:Expr):Prop:=∀o i,subscripted b false o i=operate [o,i] (getItem o i)
def IxR (X:Cx) (r:R2):Prop :=
 ∀(value slice:Expr) (pins:List (Addr×Obj)) (s:Shared) (σ:St) (H:Hp) (x y:V) (v u:Value) (Q:VK),Inv X pins σ H s->RelV x v->RelV y u->r x y H Q ->
  subscripted slice false v u=operate [v,u] (getItem v u)->wpAny (model X.prog X.w) X.A (subscriptTail value slice v u) (EP X pins σ Q) X.xe s
def MtR (X:Cx) (id:String) (r:V->List V->Hp->VK->Prop):Prop :=
 ∀(pins:List (Addr×Obj)) (s:Shared) (σ:St) (H:Hp) (x:V) (xs:List V) (v:Value) (us:List Value) (Q:VK),Inv X pins σ H s->RelV x v->Vals xs us->r x xs H Q ->
  wpAny (model X.prog X.w) X.A (call (.builtin id) (v::us)) (EP X pins σ Q) X.xe s
section
variable {a b:Expr} {ta tb:TE}
theorem IxR.or {r a:R2} (h:IxR X r) (h':IxR X a):IxR X (λx y H Q=>r x y H Q\/a x y H Q):=by
 intro value slice pins s σ H x y v u Q I b c q e;rcases q with q|q
 ·exact h value slice pins s σ H x y v u Q I b c q e
 ·exact h' value slice pins s σ H x y v u Q I b c q e
theorem Ca {r:R2} (c:IxR X r) (ha:PE X a ta) (e:PE X b tb) (f:zB b):PE X (.Subscript a b pos) (tOp r ta tb):=by intro pins s σ H Q I h;exact Subscript_ (HD ha e I h λv u s2 x y H2 g i j q=>c a b pins s2 σ H2 x y v u Q g i j q (f _ _))
def Kr (K:PySem.W.Frag):R2:=λx y H Q=>∃p xs i v,x=.ref p/\y=.int i/\SqL K H p xs/\atI xs i=some v/\Q v H
def KS (K:PySem.W.Frag):R2:=λx y H Q=>∃p xs i v,x=.ref p/\y=.int i/\SqT K H p xs/\atI xs i=some v/\Q v H
theorem tV:IxR X (Kr X.K):=by
 intro value slice pins s σ H x y v u Q I g l h e;obtain⟨p,xs,i,z,rfl,rfl,m,n,q⟩:=h;cases g;obtain⟨t,rfl⟩:=l;obtain⟨a,r,pl,hz⟩:=I.list m;obtain⟨j,h1,h2,h3,o,A⟩:=zD n;obtain⟨w,f,b⟩:=r.get h2;have hl:=r.length;have hn:=uJ;have fin:EP X pins σ Q w s:=⟨z,H,I,b,q⟩
 by_cases h0:0<=i
 ·have c:i.toNat=j:=by rw[seqIndex_of h0 A]at h1;exact Option.some.inj h1
  exact item_listR pl.isList h0 (by omega) (by rw[c];simpa using f) fin e
 ·have c:(i+(a.toArray.size:Int)).toNat=j:=by rw[seqIndex_neg (by omega) o]at h1;rw[My,<-hl];exact Option.some.inj h1
  exact subscriptTail_builtinR (x:=w) pl.isList.typeIs slot_list_getitem.lookup
   (wpAny_getItem_list_neg (Q:=λr s'=>r=w/\EP X pins σ Q r s') pl.isList (by omega) (by rw[My] <;> omega) (by omega) (by rw[c];simpa using f) ⟨rfl,fin⟩) e
theorem Ia:IxR X (KS X.K):=by
 intro value slice pins s σ H x y v u Q I b c h e;obtain⟨p,xs,i,z,rfl,rfl,f,g,q⟩:=h;cases b;obtain⟨t,rfl⟩:=c;obtain⟨its,r,pl,hz⟩:=I.tuple f;obtain⟨j,h1,h2,h3,h4,h5⟩:=zD g;obtain⟨w,l,a⟩:=r.get h2;have hl:=r.length;have hn:=uJ;have fin:EP X pins σ Q w s:=⟨z,H,I,a,q⟩
 exact subscriptTail_builtinR (x:=w) pl.typeIs slot_tuple_getitem.lookup
  (getItem_tuple (j:=j) (Q:=λr s'=>r=w/\EP X pins σ Q r s') pl (by omega) (by omega) (by rw[My,<-hl];exact h1) (by simpa using l) ⟨rfl,fin⟩) e
theorem yJ (a:List Value) (n j:Nat) (u:Value):Obj.mapSeq (·.setIfInBounds j u) { cls:=.type "list",data:=.seq a.toArray n }={ cls:=.type "list",data:=.seq (a.set j u).toArray n }:=by simp[Obj.mapSeq]
theorem Inv.lst {p:Addr} (I:Inv X pins σ H s) (h:H p=some (.lst xs)) :
  ∃(a:List Value) (n:Nat),Vals xs a/\s.heap.get? p=some { cls:=.type "list",data:=.seq a.toArray n }/\xs.length<=sizeLine:=by
 obtain⟨z,a,n,r,e⟩:=I.hok p _ h;exact⟨a,n,r,e,z⟩
theorem Inv.lstUpd {p:Addr} {a:List Value} {n':Nat} {f:Obj->Obj} (I:Inv X pins σ H s) (h:H p=some (.lst xs))
  (g:s.heap.get? p=some { cls:=.type "list",data:=.seq a.toArray n }) (c:f { cls:=.type "list",data:=.seq a.toArray n }={ cls:=.type "list",data:=.seq its'.toArray n' }) (r:Vals ys its') (i:ys.length<=sizeLine) (t:Nat) :
  Inv X pins σ (upd H p (.lst ys)) { s with heap:=s.heap.update p f,toks:=t }:=by
 have e:(s.heap.update p f).get? p=some { cls:=.type "list",data:=.seq its'.toArray n' }:=by rw[NM f g (by rw[c] <;> rfl),c]
 refine I.write (x:=p) (e:=p) (by rw[h];trivial) (.inl rfl) (λb u j q=>(N5 _ _ (Ne.symm j)).trans q) ⟨_,e⟩ ?_;exact⟨i,its',n',r,e⟩
def Ln:V->V->V->Hp->(Hp->Prop)->Prop:=λo i v H Q=>∃p xs k j,o=.ref p/\i=.int k/\H p=some (.lst xs)/\ixN xs.length k=some j/\Q (upd H p (.lst (xs.set j v)))
theorem set_list:K8 X Ln:=by
 intro pins s σ H o i v ov iv u Q I m w x h;obtain⟨p,xs,k,j,rfl,rfl,e,y,q⟩:=h;cases m;obtain⟨t,rfl⟩:=w;obtain⟨a,n,r,b,z⟩:=I.lst e;obtain⟨h1,h2,f,g⟩:=uS y;have hl:=r.length;have hn:=uJ;have l:Inv X pins σ (upd H p (.lst (xs.set j v))) { s with heap:=s.heap.update p (Obj.mapSeq (·.setIfInBounds j u)) } :=
  I.lstUpd e b (yJ a n j u) (r.set x j) (by rw[List.length_set];exact z) s.toks
 by_cases h0:0<=k
 ·have c:k.toNat=j:=by rw[seqIndex_of h0 g]at h1;exact Option.some.inj h1
  exact PySem.W.ki_setAt b h0 (by omega) (by rw[My,<-hl];exact g) (by rw[c];exact⟨_,l,q⟩)
 ·have c:(k+(a.toArray.size:Int)).toNat=j:=by rw[seqIndex_neg (by omega) f]at h1;rw[My,<-hl];exact Option.some.inj h1
  exact PySem.W.ki_setBack b (by omega) (by rw[My,<-hl];exact f) (by omega) (by rw[c];exact⟨_,l,q⟩)
theorem uO (lo hi:Option Int) (n:Nat):(sliceBounds lo hi none n).1=((HT.sIx n 0 lo:Nat):Int)/\(sliceBounds lo hi none n).2.1=((HT.sIx n n hi:Nat):Int)/\(sliceBounds lo hi none n).2.2=1:=by
 refine⟨?_,?_,rfl⟩
 ·cases lo with
  |none=>simp[sliceBounds,HT.sIx]
  |some i =>
   simp only[sliceBounds,HT.sIx,Option.getD_none,show (1:Int)>0 by decide,if_true];by_cases h:i<0
   ·simp only[h,if_true] <;> omega
   ·simp only[h,if_false] <;> omega
 ·cases hi with
  |none=>simp[sliceBounds,HT.sIx]
  |some i =>
   simp only[sliceBounds,HT.sIx,Option.getD_none,show (1:Int)>0 by decide,if_true];by_cases h:i<0
   ·simp only[h,if_true] <;> omega
   ·simp only[h,if_false] <;> omega
theorem qV (a:List Value) (lo hi:Option Int):slicePick a.toArray lo hi none=((a.drop (HT.sIx a.length 0 lo)).take (HT.sIx a.length a.length hi-HT.sIx a.length 0 lo)).toArray:=by obtain⟨h1,h2,b⟩:=uO lo hi a.toArray.size;unfold slicePick;rw[h1,h2,b];simp only[sliceRange_one,pick_run,My] <;> rfl
def L4 (K:PySem.W.Frag):V->Option Int->Option Int->Hp->VK->Prop:=λx lo hi H Q=>∃a xs,x=.ref a/\SqL K H a xs/\∀p,H p=none->Q (.ref p) (upd H p (.lst (vI xs lo hi)))
theorem F6:SlR X (L4 X.K):=by intro pins s σ H x v vl vu lo hi sl Q I e f pl g h;obtain⟨a,xs,rfl,i,q⟩:=h;cases e;obtain⟨its,r,c,j⟩:=I.list i;have hlen:=r.length;refine⟨"list",_,slot_list_getitem.lookup,c.isList.typeIs,?_⟩;refine wpAny_getItem_list_slice c.isList f pl g .none (by simp) ?_ (by rw[My] <;> omega);rw[qV,<-hlen];refine⟨.ref s.heap.objs.size,_,I.laid (t':=s.toks) (o:=.lst (vI xs lo hi)) (λb ob q=>M0 _ q) (Mu _) ?_,rfl,q _ (I.hok.fresh (Mu _))⟩;exact⟨Nc (nO xs lo hi) j,_,0,(r.drop (HT.sIx xs.length 0 lo)).take (HT.sIx xs.length xs.length hi-HT.sIx xs.length 0 lo),Mz _ rfl⟩
def jr:V->Bool
 |.non=>true
 |.bl _=>true
 |.int _=>true
 |.str _=>true
 |_=>false
def eqV:V->V->Bool
 |.non,.non=>true
 |.bl a,.bl b=>a==b
 |.bl a,.int b=>(if a then 1 else 0)==b
 |.int a,.bl b=>a==(if b then 1 else 0)
 |.int a,.int b=>a==b
 |.str a,.str b=>a==b
 |_,_=>false
theorem HU {A:Around} {x:V} {v:Value} (e:RelV y u) (c:RelV x v) (g:jr y=true) (f:jr x=true):SeqAt.EqAt A s u v (eqV y x):=by
 cases y with
 |non =>
  cases e;cases x with
  |non=>cases c;exact SeqAt.EqAt.same _
  |bl b=>cases c;exact SeqAt.EqAt.none_bool b
  |int b=>obtain⟨t,rfl⟩:=c;exact SeqAt.EqAt.none_int b t
  |str b=>obtain⟨t,rfl⟩:=c;exact SeqAt.EqAt.none_str b t
  |_=>exact absurd (show false=true from f) MG
 |bl a =>
  cases e;cases x with
  |non=>cases c;exact SeqAt.EqAt.bool_none a
  |bl b=>cases c;exact SeqAt.EqAt.bool_bool a b
  |int b=>obtain⟨t,rfl⟩:=c;exact SeqAt.EqAt.bool_int a b t
  |str b=>obtain⟨t,rfl⟩:=c;exact SeqAt.EqAt.bool_str a b t
  |_=>exact absurd (show false=true from f) MG
 |int a =>
  obtain⟨t',rfl⟩:=e;cases x with
  |non=>cases c;exact SeqAt.EqAt.int_none a t'
  |bl b=>cases c;exact SeqAt.EqAt.int_bool a t' b
  |int b=>obtain⟨t,rfl⟩:=c;exact SeqAt.EqAt.int_int a t' b t
  |str b=>obtain⟨t,rfl⟩:=c;exact SeqAt.EqAt.int_str a t' b t
  |_=>exact absurd (show false=true from f) MG
 |str a =>
  obtain⟨t',rfl⟩:=e;cases x with
  |non=>cases c;exact SeqAt.EqAt.str_none a t'
  |bl b=>cases c;exact SeqAt.EqAt.str_bool a t' b
  |int b=>obtain⟨t,rfl⟩:=c;exact SeqAt.EqAt.str_int a t' b t
  |str b=>obtain⟨t,rfl⟩:=c;exact SeqAt.EqAt.str_str a t' b t
  |_=>exact absurd (show false=true from f) MG
 |_=>exact absurd (show false=true from g) MG
def eqU (x:V) (u:Value):Bool:=match u with
 |.none=>eqV .non x
 |.bool b=>eqV (.bl b) x
 |.int i _=>eqV (.int i) x
 |.str z _=>eqV (.str z) x
 |_=>false
theorem xX {x:V} (r:RelV y u) (f:jr y=true):eqU x u=eqV y x:=by
 cases y with
 |non=>cases r;rfl
 |bl b=>cases r;rfl
 |int i=>obtain⟨t,rfl⟩:=r;rfl
 |str z=>obtain⟨t,rfl⟩:=r;rfl
 |_=>exact absurd (show false=true from f) MG
theorem uZ {x:V}:∀{xs:List V} {us:List Value},Vals xs us->xs.all jr=true->us.any (eqU x)=xs.any λy=>eqV y x
 |_,_,.nil,_=>rfl
 |y::xs,u::us,.cons r t,f=>by rw[NR,M8]at f;rw[NH,NH,xX r f.1,uZ t f.2]
theorem lY {A:Around} {s:Shared} {x:V} {v:Value} (b:RelV x v) (c:jr x=true):∀{xs:List V} {us:List Value},Vals xs us->xs.all jr=true->∀u∈us,SeqAt.EqAt A s u v (eqU x u)
 |_,_,.nil,_=>λu a=>by cases a
 |y::xs,u::us,.cons r t,f=>λe a=>by
  rw[NR,M8]at f;rcases M7.mp a with rfl|a
  ·rw[xX r f.1];exact HU r b f.1 c
  ·exact lY b c t f.2 e a
def inV (x:V) (xs:List V):Bool:=xs.any λy=>eqV y x
def rIn (K:PySem.W.Frag) (neg:Bool):R2:=λx y H Q=>∃p xs,y=.ref p/\(SqL K H p xs\/SqT K H p xs)/\jr x=true/\xs.all jr=true/\Q (.bl (if neg then !inV x xs else inV x xs)) H
theorem Bx:OpR X (compareOp .In) (rIn X.K false):=by
 intro pins s σ H x y v u Q I c f h;obtain⟨p,xs,rfl,b,e,fs,q⟩:=h;cases f;rcases b with b|b
 ·obtain⟨a,r,pl,g⟩:=I.list b;refine SeqAt.in_listAt (eqU x) pl.isList (λw hw=>lY c e r fs w (by simpa using hw)) ⟨.bl _,H,I,rfl,?_⟩;rw[show a.toArray.any (eqU x)=a.any (eqU x) by simp,uZ r fs];exact q
 ·obtain⟨a,r,pl,g⟩:=I.tuple b;refine SeqAt.in_tupleAt (eqU x) pl (λw hw=>lY c e r fs w (by simpa using hw)) ⟨.bl _,H,I,rfl,?_⟩;rw[show a.toArray.any (eqU x)=a.any (eqU x) by simp,uZ r fs];exact q
theorem i7:jH X (.builtin "len") (λxs H Q=>∃p ys,xs=[.ref p]/\(SqL X.K H p ys\/SqT X.K H p ys)/\Q (.int ys.length) H):=by
 intro pins s σ H xs us Q I r h;obtain⟨p,ys,rfl,a,q⟩:=h;obtain⟨u,rfl,e⟩:=vals1 r;cases e;have hn:=uJ;rcases a with a|a
 ·obtain⟨b,c,pl,f⟩:=I.list a;have hlen:=c.length;exact Calls.call_len_list pl.isList (by simp only[My] <;> omega) ⟨.int ys.length,H,I.tok _,⟨s.toks+1,by rw[My,hlen]⟩,q⟩
 ·obtain⟨b,c,pl,f⟩:=I.tuple a;have hlen:=c.length;exact len_tuple pl (by simp only[My] <;> omega) ⟨.int ys.length,H,I.tok _,⟨s.toks+1,by rw[My,hlen]⟩,q⟩
theorem uT:jH X (.type "list") (λxs H Q=>∃p ys,xs=[.ref p]/\(SqL X.K H p ys\/SqT X.K H p ys)/\∀l,H l=none->Q (.ref l) (upd H l (.lst ys))):=by
 intro pins s σ H xs us Q I r h;obtain⟨p,ys,rfl,f,q⟩:=h;obtain⟨u,rfl,j⟩:=vals1 r;cases j;have fin:∀(a:List Value),Vals ys a->ys.length<=sizeLine->∀(h':Heap) (c':Nat),(∀b o',s.heap.get? b=some o'->h'.get? b=some o') ->
   h'.get? s.heap.objs.size=some { cls:=.type "list",dict:=none,data:=.seq a.toArray c',slots:=#[] }->EP X pins σ Q (.ref s.heap.objs.size) { s with heap:=h' }:=λa c g h' c' kp e =>
  ⟨.ref s.heap.objs.size,_,I.laid (t':=s.toks) kp (Mu _) (show dg X.prog X.w _ h' _ (.lst ys) from⟨g,a,c',c,e⟩),rfl,q _ (I.hok.fresh (Mu _))⟩
 rcases f with f|f
 ·obtain⟨a,c,pl,g⟩:=I.list f;have hlen:=c.length;obtain⟨o,i,hc,n,hd⟩:=pl.isList;exact call_list_seq p (.inl rfl) i hc hd (λh' c' kp e=>fin a c g h' c' kp e) (by simp only[My] <;> omega)
 ·obtain⟨a,c,pl,g⟩:=I.tuple f;have hlen:=c.length;obtain⟨o,i,hc,n,hd⟩:=pl;exact call_list_seq p (.inr rfl) i hc hd (λh' c' kp e=>fin a c g h' c' kp e) (by simp only[My] <;> omega)
theorem qS:jH X (.type "tuple") (λxs H Q=>∃p ys,xs=[.ref p]/\((SqL X.K H p ys/\∀l,H l=none->Q (.ref l) (upd H l (.tup ys)))\/(SqT X.K H p ys/\Q (.ref p) H))):=by
 intro pins s σ H xs us Q I r h;obtain⟨p,ys,rfl,h⟩:=h;obtain⟨u,rfl,j⟩:=vals1 r;cases j;rcases h with⟨c,q⟩|⟨c,q⟩
 ·obtain⟨a,f,pl,g⟩:=I.list c;have hlen:=f.length;refine call_tuple_list pl.isList (λh' kp=>?_) (by simp only[My] <;> omega);have i:Inv X pins σ H { s with heap:=h' }:=I.kept (t':=s.toks) kp;have m:Inv X pins σ (upd H h'.objs.size (.tup ys)) { s with heap:=h'.push { cls:=.type "tuple",data:=.seq a.toArray } } :=
   i.laid (t':=s.toks) (λb o e=>M0 _ e) (Mu _) (show dg X.prog X.w _ _ _ (.tup ys) from⟨g,a,f,uM.new _ _⟩)
  exact⟨.ref h'.objs.size,_,m,rfl,q _ (i.hok.fresh (Mu _))⟩
 ·obtain⟨a,f,pl,g⟩:=I.tuple c;exact call_tuple_same pl ⟨.ref p,H,I,rfl,q⟩
def tyV (K:PySem.W.Frag) (T:String) (x:V) (H:Hp):Prop:=match x with
 |.str _=>T="str"
 |.int _=>T="int"
 |.ref p=>(T="list"/\∃xs,SqL K H p xs)\/(T="tuple"/\∃o,K.lookup p=some o/\o.cls=.type "tuple"/\o.dict=none) \/
  (T="dict"/\((∃kvs,H p=some (.dK kvs))\/∃kvs,H p=some (.dT kvs)))\/(T="set"/\∃S n,H p=some (.set S n))
 |_=>False
theorem Jt {T:String} {x:V} {v:Value} (I:Inv X pins σ H s) (r:RelV x v) (ty:tyV X.K T x H) :
  s.TypeIs v T/\∀a,v=.ref a->∃f,s.heap.get? a=some f/\f.dict=none:=by
 cases x with
 |str z =>obtain⟨t,rfl⟩:=r;cases (show T="str" from ty);exact⟨typeIs_str s z t,λ_ e=>nomatch e⟩
 |int i =>obtain⟨t,rfl⟩:=r;cases (show T="int" from ty);exact⟨typeIs_int s i t,λ_ e=>nomatch e⟩
 |ref p =>
  cases r;rcases ty with⟨rfl,xs,g⟩|⟨rfl,o,b,hc,hd⟩|⟨rfl,b⟩|⟨rfl,S,n,b⟩
  ·obtain⟨its,_,pl,_⟩:=I.list g;refine⟨pl.isList.typeIs,λa e=>?_⟩;cases e;obtain⟨o,n,e,c,hd,_⟩:=pl;exact⟨o,e,hd⟩
  ·refine⟨⟨o,I.kIn p o b,hc⟩,λa e=>?_⟩;cases e;exact⟨o,I.kIn _ o b,hd⟩
  ·have z:∃o,s.heap.get? p=some o/\o.ExactDict:=by
    rcases b with⟨kvs,b⟩|⟨kvs,b⟩
    ·obtain⟨_,_,_,_,o,_,_,e,ex,_⟩:=I.hok p _ b;exact⟨o,e,ex⟩
    ·obtain⟨_,_,_,_,o,_,_,e,ex,_⟩:=I.hok p _ b;exact⟨o,e,ex⟩
   obtain⟨o,e,ex⟩:=z;refine⟨⟨o,e,ex.1⟩,λa e2=>?_⟩;cases e2;exact⟨o,e,ex.2.1⟩
  ·obtain⟨o,_,_,_,e,ex,_⟩:=I.hok p _ b;refine⟨⟨o,e,ex.1⟩,λa e2=>?_⟩;cases e2;exact⟨o,e,ex.2.1⟩
 |_=>exact False.elim ty
def tBM (K:PySem.W.Frag) (T:String) (r:V->List V->Hp->VK->Prop) (to:TE) (t:TA):TE:=λσ H Q=>to σ H λx H1=>tyV K T x H1/\t σ H1 λxs H2=>r x xs H2 Q
variable {o e:Expr} {es:List Expr} {to:TE} {t:TA} {name:Str} {apos:Pos} {T id:String} {r:V->List V->Hp->VK->Prop}
theorem Dj (p:PlainAttrs T) (slot:Slot T name id) (g:typeOf (.builtin id)=pure (.type "method_descriptor")) (hm:MtR X id r) (q:PE X o to) (ha:PA X (e::es) t)
  (b:attributeBase o name X.env (eval o X.env)=eval o X.env:=by rfl)
  (f:((backTo cpos (starEach (e::es) X.env)).all (λx=>!x.1)&&(backToKw cpos (keywordEach [] X.env)).all (λx=>x.1.isSome)
  &&decide ((e::es).length+([]:List Keyword).length+(if ([]:List Keyword).isEmpty then 0 else 1)<30))=true:=by rfl)
  (c:(apos.endLine==cpos.line)=true:=by rfl) (u:starEach (e::es) X.env=(false,eval e X.env)::starEach es X.env:=by rfl) (a:(backTo cpos (starEach es X.env)).any (·.1)=false:=by rfl) :
  PE X (.Call (.Attribute o name apos) (e::es) [] cpos) (tBM X.K T r to t):=by
 intro pins s σ H Q I h;refine wpAny_Call_method_late b f c rfl (thn (q pins s σ H _ I h) λv w i=>?_);obtain⟨x,H1,l,m,ty,y⟩:=i;obtain⟨h1,h2⟩:=Jt l m ty;refine⟨T,id,p,slot,g,h1,h2,?_⟩;have n:=ha cpos pins w σ H1 _ l y;rw[u]at n ⊢;refine Calls.callWith_builtin (by show (false||(backTo cpos (starEach es X.env)).any (·.1))=false;rw[a] <;> rfl) (Calls.evalArgs_plain ?_);exact thn n λus s2 j=>(by obtain⟨vs,H2,z,A,B⟩:=j;exact hm pins s2 σ H2 x vs v us Q z m A B)
end
def MtM (X:Cx) (id:String) (r:V->List V->Hp->VK->Prop):Prop :=
 ∀(pins:List (Addr×Obj)) (s:Shared) (σ:St) (H:Hp) (x:V) (xs:List V) (v:Value) (us:List Value) (Q:VK),Inv X pins σ H s->RelV x v->Vals xs us->r x xs H Q ->
  wpAny (model X.prog X.w) X.A (call (.builtin id) (v::us)) (EP X pins σ Q) X.xe s
theorem Vals.one {x:V} (h:Vals [x] us):∃u,us=[u]/\RelV x u:=by
 cases h with
 |cons r t=>cases t;exact⟨_,rfl,r⟩
theorem Vals.eraseIdx:∀{xs:List V} {us:List Value} (i:Nat),Vals xs us->Vals (xs.eraseIdx i) (us.eraseIdx i)
 |_,_,_,.nil=>.nil
 |_,_,0,.cons _ t=>t
 |_,_,i+1,.cons r t=>.cons r (Vals.eraseIdx i t)
theorem Vals.rep {xs:List V} {us:List Value} (h:Vals xs us):∀k:Nat,Vals (List.replicate k xs).flatten (List.replicate k us).flatten
 |0=>.nil
 |k+1=>by rw[Nr,Nr,Nx,Nx];exact Vals.append h (Vals.rep h k)
theorem rE {α:Type}:∀(l:List α) (i:Nat),(l.eraseIdx i).length<=l.length
 |[],_=>Mu _
 |_::_,0=>NT _
 |_::r,i+1=>Nat.succ_le_succ (rE r i)
theorem foldl_rep (a:List Value):∀(k:Nat) (acc:List Value),
  List.foldl (λx1 x2=>x1++x2) acc.toArray (List.replicate k a.toArray)=(acc++(List.replicate k a).flatten).toArray
 |0,acc=>by simp
 |k+1,acc=>by
  have e:acc.toArray++a.toArray=(acc++a).toArray:=by simp
  have e2:(acc++a)++(List.replicate k a).flatten=acc++(List.replicate (k+1) a).flatten:=by rw[Nr,Nx,N6]
  rw[<-e2,<-foldl_rep a k (acc++a),<-e,Nr,NI]
section
variable {l:Addr} {zs:List V}
theorem Inv.lset {f:Array Value->Array Value} {t':Nat} (I:Inv X pins σ H s) (b:H l=some (.lst xs))
  (e:s.heap.get? l=some { cls:=.type "list",data:=.seq a.toArray n }) (c:f a.toArray=its'.toArray) (hv:Vals ys its') (g:ys.length<=sizeLine) :
  Inv X pins σ (upd H l (.lst ys)) { s with heap:=s.heap.update l (Obj.mapSeq f),toks:=t' }:=by
 have q:=PySem.IsL.update e f;rw[c]at q;refine I.write (x:=l) (e:=l) (by rw[b];exact trivial) (.inl rfl) (λb' u h i=>(N5 s.heap (Obj.mapSeq f) (Ne.symm h)).trans i) ⟨_,q⟩ ?_;exact⟨g,its',_,hv,q⟩
theorem Inv.lnew {t':Nat} (I:Inv X pins σ H s) (hv:Vals ys a) (b:ys.length<=sizeLine) :
  Inv X pins σ (upd H s.heap.objs.size (.lst ys)) { s with heap:=s.heap.push { cls:=.type "list",data:=.seq a.toArray },toks:=t' } :=
 I.laid (λ_ _ q=>M0 _ q) (Mu _) ⟨b,a,0,hv,Mz _ rfl⟩
theorem Inv.fresh (I:Inv X pins σ H s):H s.heap.objs.size=none:=I.hok.fresh (Mu _)
theorem Inv.lstM (I:Inv X pins σ H s) (b:H l=some (.lst xs)):xs.length<=sizeLine/\∃(a:List Value) (n:Nat),Vals xs a/\xs.length=a.length/\s.heap.get? l=some { cls:=.type "list",data:=.seq a.toArray n }:=by obtain⟨z,a,n,r,e⟩:=I.hok l _ b;exact⟨z,a,n,r,r.length,e⟩
theorem Eh (h:n<=sizeLine):Builtin.List.listTooLong n=false:=by unfold Builtin.List.listTooLong;exact decide_eq_false (by omega)
end
section
def Gx:V->List V->Hp->VK->Prop:=λx vs H Q=>∃l xs y,x=.ref l/\vs=[y]/\H l=some (.lst xs)/\xs.length<sizeLine/\Q .non (upd H l (.lst (xs++[y])))
theorem mL:MtM X "list.append" Gx:=by intro pins s σ H x vs v us Q I c f h;obtain⟨l,xs,y,rfl,rfl,b,hz,q⟩:=h;cases c;obtain⟨u,rfl,g⟩:=f.one;obtain⟨z,a,n,r,hl,e⟩:=I.lstM b;refine call_meets F.slot_list_append ⟨_,e,rfl⟩ F.entry_list_append (F.args_list_append_2 _ _) (PySem.list_append l a.toArray n u (by rw[My];omega)) ⟨e,?_⟩;refine⟨.non,_,I.lset (its':=a++[u]) b e (by simp) (r.append (.cons g .nil)) ?_,rfl,q⟩;rw[Mv,MR];omega
def HI:V->List V->Hp->VK->Prop:=λx vs H Q=>∃l xs i k y,x=.ref l/\vs=[.int i]/\H l=some (.lst xs)/\-(2 ^ 63)<=i/\i<2 ^ 63/\seqIndex? i xs.length=some k/\xs[k]?=some y/\Q y (upd H l (.lst (xs.eraseIdx k)))
theorem DS:MtM X "list.pop" HI:=by
 intro pins s σ H x vs v us Q I f g h;obtain⟨l,xs,i,k,y,rfl,rfl,c,h1,h2,j,m,q⟩:=h;cases f;obtain⟨u,rfl,o⟩:=g.one;obtain⟨t,rfl⟩:=o;obtain⟨z,a,n,r,hl,e⟩:=I.lstM c;obtain⟨w,hw,b⟩:=r.get m;refine call_meets F.slot_list_pop ⟨_,e,rfl⟩ F.entry_list_pop (F.args_list_pop_2 _ _)
  (MeetsSeq.list_pop_at l a.toArray n i t k w (fitsIndex_both h1 h2) (by rw[My,<-hl];exact j) (by rw[<-Ob];exact hw) (by rw[My];omega)) ⟨e,?_⟩
 refine⟨y,_,I.lset (its':=a.eraseIdx k) c e ?_ (r.eraseIdx k) ?_,b,q⟩
 ·show a.toArray.eraseIdxIfInBounds k=(a.eraseIdx k).toArray;rw[List.eraseIdxIfInBounds_toArray]
 ·have:=rE xs k;omega
def KJ:R2:=λx y H Q=>∃l b xs zs,x=.ref l/\y=.ref b/\H l=some (.lst xs)/\H b=some (.lst zs)/\xs.length+zs.length<=sizeLine/\∀p,H p=none->Q (.ref p) (upd H p (.lst (xs++zs)))
theorem HN:OpR X (binaryOp .Add) KJ:=by
 intro pins s σ H x y v u Q I f g h;obtain⟨l,b,xs,zs,rfl,rfl,i,hB,hz,q⟩:=h;cases f;cases g;obtain⟨z,c,n,r,hl,e⟩:=I.lstM i;obtain⟨z2,a,n2,j,hl2,e2⟩:=I.lstM hB;refine PySem.P.add_list e e2 ?_ (by rw[My,My];omega);have ea:c.toArray++a.toArray=(c++a).toArray:=by simp
 rw[ea];exact⟨.ref _,_,I.lnew (t':=s.toks) (r.append j) (by rw[Mv];omega),rfl,q _ I.fresh⟩
def KW:R2:=λx y H Q=>∃l k xs,x=.ref l/\y=.int k/\H l=some (.lst xs)/\-(2 ^ 63)<=k/\k<2 ^ 63/\xs.length*k.toNat<=sizeLine /\
 ∀p,H p=none->Q (.ref p) (upd H p (.lst (List.replicate k.toNat xs).flatten))
theorem len_rep (xs:List α) (k:Nat):(List.replicate k xs).flatten.length=k*xs.length:=by
 induction k with
 |zero=>simp
 |succ k ih=>rw[Nr,Nx,Mv,ih,Nat.succ_mul,Nat.add_comm]
theorem HJ:OpR X (binaryOp .Mult) KW:=by
 intro pins s σ H x y v u Q I o p h;obtain⟨l,k,xs,rfl,rfl,w,h1,h2,j,q⟩:=h;cases o;obtain⟨t,rfl⟩:=p;obtain⟨z,b,n,r,hl,e⟩:=I.lstM w;have hlen:b.toArray.size*k.toNat<=sizeLine:=by rw[My,<-hl];exact j
 have f:¬ b.toArray.size*k.toNat>(2 ^ 63-1) / 8:=by
  have:(sizeLine:Nat)<=(2 ^ 63-1) / 8:=by decide
  omega
 have g:¬ (!Builtin.List.listFitsIndex k)=true:=by rw[fitsIndex_both h1 h2];exact MG
 have c:¬ Builtin.List.listTooLong (b.toArray.size*k.toNat)=true:=by rw[Eh hlen];exact MG
 have i:List.foldl (λx1 x2=>x1++x2) #[] (List.replicate (if b.toArray.isEmpty=true then 0 else k.toNat) b.toArray)=(List.replicate k.toNat b).flatten.toArray:=by
  have A:∀m:Nat,List.foldl (λx1 x2=>x1++x2) #[] (List.replicate m b.toArray)=(List.replicate m b).flatten.toArray:=λm=>by have:=foldl_rep b m [];rw[MS]at this;exact this
  rw[A];cases b with
  |nil=>simp
  |cons a r'=>rw[if_neg (by simp)]
 refine wpAny_binaryOp_repeat_ref (T:="list") (U:="int") (by decide) ⟨_,e,rfl⟩ (λs'=>typeIs_int s' k t) noFill_list_mul F.fills_int_mul F.slot_int_rmul repeat_list F.slot_int_index.lookup
  (call_meets F.slot_int_rmul (typeIs_int s k t) F.entry_int_rmul (F.args_int_rmul_2 _ _) (int___rmul___int_list k t l b.toArray n)
   ⟨e,rfl,⟨_,e,rfl⟩,call_meets F.slot_list_mul ⟨_,e,rfl⟩ F.entry_list_mul (F.args_list_mul_2 _ _) (AutoListH.list___mul___list_int_3 l b.toArray n k t g f c) ⟨e,?_⟩⟩)
 rw[i];exact⟨.ref _,_,I.lnew (t':=s.toks) (r.rep k.toNat) (by rw[len_rep,Nat.mul_comm];exact j),rfl,q _ I.fresh⟩
end
section
variable {A:Around}
end
section
end
end L2
namespace Att
open PySem PySem.W PySem.Calls PyProof.Rows
theorem nZ {P:Params}:∀(ns:List Int) (vs:List Value),WellAll P h vs (ns.map WData.int)->IntsAre vs ns:=by
 intro ns
 induction ns with
 |nil =>intro vs w;rw[N8]at w;cases w;exact .nil
 |cons n ns ih =>
  intro vs w;rw[M5]at w;cases w with
  |cons a b =>cases a;exact .cons _ _ (ih _ b)
theorem AK {l:OpenLaw} {n:Nat} (hn:l.most=some n) {P:Params} {args:List WData} {vals:List Value}
  (b:l.row.toRowW.claim.pre args=true) (f:WellAll P h vals args) :
  ∃a vs ns,vals=[Value.ref a]/\args=[WData.list (ns.map WData.int)]/\h.get? a=some { cls:=.type "list",data:=.seq vs.toArray }/\IntsAre vs ns/\ns.length<=n:=by
 have g:WShape.hasAll [] args [.list .int]=true:=(pre_splitW b).1;have hc:l.pre.holds [] { args:=args }=true:=(pre_splitW b).2;obtain⟨d,r,rfl,h1,h2⟩:=hasAllW_cons g;obtain rfl:=hasAllW_nil h2;obtain⟨xs,rfl,i⟩:=hasW_list h1;obtain⟨ns,rfl⟩:=items_int i;have hlen:ns.length<=n:=by
  unfold OpenLaw.pre at hc;have c:(WTm.not (.lt (.lit (.int (n:Int))) (.len (.arg 0)))).holds [] { args:=[.list (ns.map .int)] }=true:=by have c:=(holds_andW hc).1;rw[hn]at c;exact c
  have e:=condW_of c (w_not (w_lt w_lit (w_len_list (w_arg rfl))));rw[M3]at e;refine Nat.le_of_not_lt λq=>?_
  have j:(n:Int)<((ns.length:Nat):Int):=by omega
  first
   |(rw[decide_eq_true j]at e;exact absurd e (by decide))
   |(simp at e;omega)
 cases f with
 |cons w1 w2 =>
  cases w2;cases w1 with
  |list ho hall=>exact⟨_,_,ns,rfl,rfl,ho,nZ ns _ hall,hlen⟩
theorem AS (l:OpenLaw) (args:List WData):l.row.toRowW.claim.post args (.bool true) args=true :=
 postW_of (r:=l.row.toRowW) (X:=(true==true))
  (show WShape.has [] (.bool true) .bool=true by first|rfl|decide|simp[WShape.has,WShape.arms,WShape.armsAll])
  (show (WTm.eq .res (.lit (.bool true))).value [] { args:=args,res:=some (.bool true),after:=args }=some (.bool (true==true)) from w_eq_bool (w_res rfl) w_lit) rfl
theorem vk {l:OpenLaw} {n:Nat} {d:DefRec}
  (hn:l.most=some n) (h:d.params.defaults=[])
  (call:∀(w:World) (s₀ b:Shared) (mg i:Str->Option Value) (c:Addr) (o:Obj) (pm cd doc:Value) (a:Addr) (vs:List Value) (ns:List Int),
   Ground q loose [] XP w s₀ mg i b.heap->YP w b.heap ->
   b.heap.get? c=some o->o.data=.func (docDef d.name d.params d.body d.scope pm cd doc)->b.heap.CodeRec cd d.name->mg d.name=some (.ref c) ->
   b.heap.get? a=some { cls:=.type "list",data:=.seq vs.toArray }->IntsAre vs ns->ns.length<=n->b.gens=#[] ->
   codeAny (model l.prog w) callerA (.call (.ref c) ⟨[.ref a],[]⟩) (λr s'=>r=.ok (.ret (.bool true))/\OldK b.heap s'.heap/\s'.os=b.os/\AllBare s'.gens) b) :
  WalkO q loose XP YP l.row.toRowW d [] (λf vs=>PySem.call f vs):=by
 intro w s₀ b mg i G Y c o pm cd doc t kV u hd j s m v args vals as e hlay hrd p hlo;obtain rfl:t=.none:=Dflts.none s h;obtain rfl:kV=.none:=Dflts.noKw s;obtain⟨a,vs,ns,rfl,rfl,g,hints,hlen⟩:=AK hn e p;refine enter_call (codeAny_mono (call w s₀ b mg i c o pm cd doc a vs ns G Y u (fd_plain hd) j m g hints hlen v) λr s' x=>?_);obtain⟨rfl,h2,y,z⟩:=x;exact⟨.inl ⟨.bool true,.bool true,[],rfl,λ_=>rfl,.bool true,AS l _,λ_=>⟨List.Pairwise.nil,λ_ hm=>(nomatch hm)⟩⟩,h2,y,z⟩
section
variable {A:Around} {K:Frag}
end
end Att
namespace L2
open PySem PySem.Spec PyProof.Rows
theorem sr:∀{vs:List Value} {ns:List Int},IntsAre vs ns->Vals (ns.map V.int) vs
 |_,_,.nil=>.nil
 |_,_,.cons n t h=>.cons ⟨t,rfl⟩ (sr h)
def JM (H:Hp):Prop:=∀b,H b=none\/(∃o xs,H b=some (.frz o (.lst xs)))\/∃q,H b=some (.tbl q)
def mH (K:PySem.W.Frag) (h:Heap):Prop:=(∀P q,TabOf K P q->h.get? P=some { cls:=.none,data:=.fields #[] }/\K.lookup P=none/\isCodeTable h P)/\∀P q a,TabOf K P q->TabOf K P a->q=a
section
open Classical
def kD (K:PySem.W.Frag):Hp:=λb=>if h:∃q,TabOf K b q then some (.tbl h.choose) else none
theorem dh (K:PySem.W.Frag) (b:Addr):kD K b=none\/∃q,TabOf K b q/\kD K b=some (.tbl q):=by
 unfold kD;split
 ·rename_i h;exact .inr ⟨_,h.choose_spec,rfl⟩
 ·exact .inl rfl
theorem sN (a:mH K h) {P:Addr} {q:Str} (t:TabOf K P q):kD K P=some (.tbl q):=by
 rcases dh K P with e|⟨b,t',e⟩
 ·unfold kD at e;rw[dif_pos ⟨q,t⟩]at e;cases e
 ·rw[e,a.2 P q b t t']
end
def nB (mg:Str->Option Value) (base:Heap):Prop:=∃bm o,mg "__builtins__"=some (.ref bm)/\bm≠builtinsNs/\bm≠mainGlobals/\base.get? bm=some o/\o.cls=.type "module"/\o.dict=some builtinsNs/\o.data=.plain
theorem law_call {O:Str->Option Value} {k:Nat} {Q:Addr} {c:Shared} {vs:List Value}
  (KX:K.In c.heap) (E:c.heap.Ns mainGlobals mg) (i:c.heap.Ns builtinsNs O) (R:∀x:Str,x≠"__name__"->O x=bootBuiltins x) (G:c.heap.NoLimit) (hg:c.gens=#[])
  (ha:c.heap.get? a=some { cls:=.type "list",data:=.seq vs.toArray }) (hi:IntsAre vs ns) (hl:ns.length<=sizeLine) (hr:cw k callerA)
  (S:nB mg c.heap) (F:∀base:Heap,K.In base->base.Ns mainGlobals mg->nB mg base->gM P w K mg base CX k Q fd [x] sp) (A:∀(s:Shared) (u:Value),BindsTo s fd ⟨[u],[]⟩ [(x,u)])
  (T:∀H:Hp,JM H->SqL K H a (ns.map V.int)->sp [.ref a] H (λv _=>v=.bl true) λ_ _ _=>False)
  (U:∀H e s',CX [] H c (λ_ _ _=>False) e s'->False) (j:mH K c.heap) :
  codeAny (model P w) callerA (.call (.ref Q) ⟨[.ref a],[]⟩) (λr s'=>r=.ok (.ret (.bool true))/\OldK c.heap s'.heap/\s'.os=c.os/\AllBare s'.gens) c:=by
 have rv:=sr hi;have I:=hi.length
 -- from an abstract heap in which nothing but the script may be tracked
 have core:∀H:Hp,JM H->SqL K H a (ns.map V.int)->HOk P w H c.heap->(∀b,H b≠none->b=a\/∃q,TabOf K b q)->(H a≠none->K.lookup a=none)->(∀P q,TabOf K P q->H P=some (.tbl q)) ->
   codeAny (model P w) callerA (.call (.ref Q) ⟨[.ref a],[]⟩) (λr s'=>r=.ok (.ret (.bool true))/\OldK c.heap s'.heap/\s'.os=c.os/\AllBare s'.gens) c:=by
  intro H hO hS hok N hK X;have f:∀{b:Addr} {o:Obj},c.heap.get? b=some o->H b=none->(qP c.heap H).get? b=some o:=λe n=>DA e n
  have Y:∀{b:Addr} {o:Obj} {es:Array DictEntry} {J:Nat},c.heap.get? b=some o->o.data=.dict es J->H b=none:=λ{b o es J} e d=>by
   cases q:H b with
   |none=>rfl
   |some u =>
    rcases N b (by rw[q];simp) with g|⟨B,g⟩
    case inr=>rw[(j.1 b B g).1]at e;cases e;cases d
    subst g;rw[ha]at e;cases e;have d':Data.seq vs.toArray _=Data.dict es J:=d;cases d'
  have l:∀{b:Addr} {m:Str->Option Value},c.heap.Ns b m->(qP c.heap H).Ns b m:=λ{b m} qz2=>(by obtain⟨o,es,J,e,d,r⟩:=qz2;exact⟨o,es,J,f e (Y e d),d,r⟩)
  have L:K.In (qP c.heap H):=λb o e=>f (KX b o e) (by
   cases q:H b with
   |none=>rfl
   |some u =>
    rcases N b (by rw[q];simp) with g|⟨B,g⟩
    case inr=>rw[(j.1 b B g).2.1]at e;cases e
    subst g;rw[hK (by rw[q];simp)]at e;cases e)
  have hM:Mod K mg (qP c.heap H):=⟨L,l E,⟨O,l i,R⟩,let ⟨mc,h1,h2⟩:=G;⟨mc,l h1,h2⟩⟩
  have e0:uR P w K mg (qP c.heap H) callerA [] c H:=⟨rfl,hM,λb o e=>F5 e,Nat.le_of_eq (AX _ _),trivial,λb i=>absurd (show b∈([]:List Addr) from i) (by simp),hok,.of_eq hg,X⟩
  have Z:nB mg (qP c.heap H):=by
   obtain⟨bm,ob,b1,b2,b3,M,b5,b6,b7⟩:=S;refine⟨bm,ob,b1,b2,b3,f M ?_,b5,b6,b7⟩;cases q:H bm with
   |none=>rfl
   |some u =>
    rcases N bm (by rw[q];simp) with g|⟨B,g⟩
    case inr=>rw[(j.1 bm B g).1]at M;cases M;cases b5
    subst g;rw[ha]at M;cases M;simp at b5
  refine codeAny_mono ((F _ L (l E) Z).run callerA [] c H ⟨[.ref a],[]⟩ [.ref a] [.ref a] _ _ hr e0 (A c (.ref a)) (.cons rfl .nil) (T H hO hS)) λr s' h=>?_
  cases r with
  |error e=>exact (U H e s' h).elim
  |ok fl =>
   cases fl with
   |next=>exact False.elim h
   |brk=>exact False.elim h
   |cont=>exact False.elim h
   |ret u =>
    obtain⟨v,H',os,bare,un,p,r',q⟩:=h;have q':v=.bl true:=q;subst q';obtain rfl:u=Value.bool true:=r';have old:∀b o,c.heap.get? b=some o->s'.heap.get? b=some o\/(isCodeTable c.heap b/\o.cls=.none/\∃vs more,o.data=.fields vs/\s'.heap.get? b=some { o with data:=.fields (vs++more) }):=λb o e=>?old
    case old =>
     cases q:H b with
     |none=>exact .inl <|un.keep b o e q (by intro z;exact absurd (show b∈([]:List Addr) from z) (by simp)) (by simp)
     |some u =>
      rcases hO b with z|⟨ob,xs,z⟩|⟨B,z⟩
      ·rw[q]at z;cases z
      ·have z2:=un.frzs b ob _ z;obtain⟨e1,_⟩:=hok b _ z;obtain⟨e2,_⟩:=p b _ z2;rw[e]at e1;cases e1;exact .inl e2
      ·have z2:=un.tbls b B z;obtain⟨ps,e2,_⟩:=p b _ z2;rcases N b (by rw[z];simp) with g|⟨q2,g⟩
       ·obtain⟨ps0,D,_⟩:=hok b _ z;rw[g]at D;rw[ha]at D;cases D
       ·obtain⟨D,_,e4⟩:=j.1 b q2 g;rw[e]at D;cases D;exact .inr ⟨e4,rfl,#[],ps,rfl,by simpa using e2⟩
    exact⟨rfl,⟨λb o e=>(old b o e).imp id λz=>.inl z,λb o e=>by rcases old b o e with z|⟨_,_,_,_,_,z⟩ <;> exact⟨_,z⟩⟩,os,bare⟩
 have tok:∀b q,TabOf K b q->dg P w (λ_=>none) c.heap b (.tbl q):=λb q t=>⟨#[],(j.1 b q t).1,trivial,λpos cv z=>nomatch z⟩
 have y:∀(H:Hp) b q,TabOf K b q->dg P w H c.heap b (.tbl q):=λH b q t=>⟨#[],(j.1 b q t).1,trivial,λpos cv z=>nomatch z⟩
 have na:∀q,¬ TabOf K a q:=λq t=>by have:=(j.1 a q t).1;rw[ha]at this;cases this
 cases hk:K.lookup a with
 |some o =>
  have e:=KX a o hk;rw[ha]at e;cases e;refine core (kD K) (λb=>(dh K b).imp id λC=>(by obtain⟨q,_,e⟩:=C;exact .inr ⟨q,e⟩)) (.inr ⟨_,vs.toArray,_,hk,rfl,rfl,rfl,by rw[My,I];exact hl,by simpa using rv⟩) (λb u z=>?_) (λb z=>?_) (λz=>?_) λP q t=>sN j t
  ·rcases dh K b with e|⟨q,t,e⟩
   ·rw[z]at e;cases e
   ·rw[z]at e;cases e;exact y _ b q t
  ·rcases dh K b with e|⟨q,t,e⟩
   ·exact absurd e z
   ·exact .inr ⟨q,t⟩
  ·rcases dh K a with e|⟨q,t,e⟩
   ·exact absurd e z
   ·exact absurd t (na q)
 |none =>
  have eT:∀b,b≠a->(λb=>if b=a then some (HO.frz { cls:=.type "list",data:=.seq vs.toArray } (.lst (ns.map V.int))) else kD K b) b=kD K b:=λb h=>if_neg h
  have eA:(λb=>if b=a then some (HO.frz { cls:=.type "list",data:=.seq vs.toArray } (.lst (ns.map V.int))) else kD K b) a=some (HO.frz { cls:=.type "list",data:=.seq vs.toArray } (.lst (ns.map V.int))):=if_pos rfl;refine core (λb=>if b=a then some (.frz { cls:=.type "list",data:=.seq vs.toArray } (.lst (ns.map V.int))) else kD K b) (λb=>?_) (.inl (.inr ⟨{ cls:=.type "list",data:=.seq vs.toArray },if_pos rfl⟩)) (λb u z=>?_) (λb z=>?_) (λ_=>hk) λP q t=>?_
  ·by_cases i:b=a
   ·exact .inr (.inl ⟨_,_,if_pos i⟩)
   ·rw[eT b i];exact (dh K b).imp id λC=>(by obtain⟨q,_,e⟩:=C;exact .inr ⟨q,e⟩)
  ·by_cases i:b=a
   ·subst i;rw[eA]at z;cases z;exact⟨ha,by rw[M3];exact hl,vs,_,rv,ha⟩
   ·rw[eT b i]at z;rcases dh K b with e|⟨q,t,e⟩
    · rw[z]at e;cases e
    · rw[z]at e;cases e;exact y _ b q t
  ·by_cases i:b=a
   ·exact .inl i
   ·rcases dh K b with e|⟨q,t,e⟩
    · exact absurd ((if_neg i).trans e) z
    · exact .inr ⟨q,t⟩
  ·exact (if_neg (λz=>na q (by rw[<-z];exact t))).trans (sN j t)
abbrev KOf {K:PySem.W.Frag} {h:Heap} (_:K.In h):PySem.W.Frag:=K
theorem Aq {l:PySem.W.OpenLaw} {n k:Nat} {d:DefRec} {K:Params->PySem.W.Frag} {CX:World->CXT} {sp:World->Sp}
  (hn:l.most=some n) (r:n<=sizeLine) (t:d.params.defaults=[]) (I:cw k callerA)
  (J:∀(w:World) (h:Heap),YP w h->(K w.params).In h)
  (F:∀(w:World) (mg:Str->Option Value) (p:Addr) (h:Heap),(K w.params).In h->h.Ns mainGlobals mg->mg d.name=some (.ref p) ->
   ∃fd:FuncData,(∀(s:Shared) (u:Value),BindsTo s fd ⟨[u],[]⟩ [(x,u)]) /\
    ∀base:Heap,(K w.params).In base->base.Ns mainGlobals mg->nB mg base->gM l.prog w (K w.params) mg base (CX w) k p fd [x] (sp w))
  (y:∀(w:World) (H:Hp) (a:Addr) (ns:List Int),ns.length<=n->JM H->SqL (K w.params) H a (ns.map V.int)->sp w [.ref a] H (λv _=>v=.bl true) λ_ _ _=>False)
  (A:∀(w:World) (H:Hp) (s:Shared) (e:Value) (s':Shared),CX w [] H s (λ_ _ _=>False) e s'->False) (B:∀(w:World) (h:Heap) (c:List Str) (i:ExcName->Option Value) (mg E:Str->Option Value),PyProof.Rows.Top q c i mg E h->(K w.params).In h->mH (K w.params) h) :
  PySem.W.WalkO q loose XP YP l.row.toRowW d [] (λf vs=>PySem.call f vs):=by
 refine Att.vk hn t λw s₀ j mg E p o pm cd doc a vs ns G Y ho hd hcd C m hints hlen L=>?_
 have D:=J w _ Y;obtain⟨fd,N,O⟩:=F w mg p _ D G.T.g C;exact law_call D G.T.g G.T.b G.T.builtins G.T.nolimit L m hints (Nc hlen r) I (by obtain⟨bm,P,M⟩:=PySem.W.bmod_of_top G.T;exact⟨bm,P,M.name,M.ne,(λz=>by obtain⟨o,es,ep,e1,e2,_⟩:=M.ns;rw[<-z,M.obj]at e1;cases e1;rw[M.data]at e2;cases e2),M.obj,M.cls,M.dict,M.data⟩) O N (λH Q R=>y w H a ns hlen Q R) (λH e s'=>A w H j e s') (B w _ _ _ _ _ G.T D)
def inClass (s:Stmt) (j:Nat):Stmt:=match s with
 |.ClassDef _ _ _ body _ _ _ _ _ _ _=>body.getD j (.Pass ⟨0,0,0,0⟩)
 |_=>.Pass ⟨0,0,0,0⟩
def fi (s:Stmt):Arguments:=match s with
 |.FunctionDef _ a _ _ _ _ _ _ _ _=>a
 |_=>{ posonlyargs:=[],args:=[],vararg:=none,kwonlyargs:=[],kw_defaults:=[],kwarg:=none,defaults:=[] }
def cj (s:Stmt):List Stmt:=match s with
 |.FunctionDef _ _ b _ _ _ _ _ _ _=>b
 |_=>[]
def aE (s:Stmt):Scope:=match s with
 |.FunctionDef _ _ _ _ _ _ sc _ _ _=>sc
 |_=>{ kind:=.function,names:=[],isGenerator:=false,isCoroutine:=false }
abbrev CX0:CXT:=λ_ _ _ _ _ _=>False
abbrev E0:XK:=λ_ _ _=>False
theorem KQ:Passes CX0 X E0:=λ_ _ _ _ _ _ _ h=>h.elim
structure Fun (K:PySem.W.Frag) (x qual:Str) (st:Stmt) (f:Addr) (fd:FuncData):Prop where
 ex:∃(oc:Value) (od:Option Addr) (kV doc pm:Value) (an:Option Addr) (cdv ct:Value) (osl:Array (Option Value)),
  fd=PySem.W.fnOf x qual (fi st) (cj st) (aE st) .none kV doc pm an cdv ct/\K.lookup f=some ⟨oc,od,.func fd,osl⟩/\PySem.W.codeIn K cdv qual=true
 kp:PySem.W.keepIn K (.ref f)=true
section
theorem Fun.ok {k:Nat} (F:Fun K x qual st f fd) (S:cX N ps (aE st)) (len:∀vs H Q E,sp vs H Q E->vs.length=ps.length)
  (a:∀(cdv:Value) (A:Around) (outer:List Env) (s:Shared) (H:Hp) (vs:List V) (Q:VK) (E:XK),cw k (A.deeper (envOfC qual (aE st) s.heap.objs.size f cdv))->sp vs H Q E ->
   ∃t,PSs (c8 CX0 P w K mg base N qual (aE st) f cdv A outer s H E).nox (cj st) t/\t { nx:=λ_ H'=>Q .non H',rt:=Q } (start N vs) H):gM P w K mg base CX0 (k+1) f fd ps sp:=by
 obtain⟨oc,od,kV,doc,pm,an,cdv,ct,osl,rfl,e,b⟩:=F.ex;refine Ce e b S len λA outer s H vs Q E g c=>?_
 obtain⟨t,h,q⟩:=a cdv A outer s H vs Q E g c;exact⟨t,h.nox,q⟩
theorem Fun.binds (F:Fun K x qual st f fd)
  (h:∀(kV doc pm:Value) (an:Option Addr) (cdv ct:Value) (us:List Value),us.length=ps.length->bindArgs (PySem.W.fnOf x qual (fi st) (cj st) (aE st) .none kV doc pm an cdv ct) ⟨us,[]⟩=pure (ps.zip us)):Binds K fd ps []:=by
 obtain⟨oc,od,kV,doc,pm,an,cdv,ct,osl,rfl,lk,hcd⟩:=F.ex;exact .all (h kV doc pm an cdv ct)
theorem xH {kV doc cdv:Value} (l:K.lookup f=some ⟨oc,od,.func (PySem.W.fnOf x qual (fi st) (cj st) (aE st) .none kV doc pm an cdv ct),osl⟩)
 (c:PySem.W.codeIn K cdv qual=true) (k:PySem.W.keepIn K (.ref f)=true):Fun K x qual st f (PySem.W.fnOf x qual (fi st) (cj st) (aE st) .none kV doc pm an cdv ct):=⟨⟨oc,od,kV,doc,pm,an,cdv,ct,osl,rfl,l,c⟩,k⟩
end
section
theorem pv (i:Nat) (b:X.N[i]?=some x:=by rfl) (hv:Vis X.env.scope x:=by first|exact Or.inl rfl|exact Or.inr (Or.inl rfl)|exact Or.inr (Or.inr rfl)) (hd:(x==("__debug__":Str))=false:=by decide)
 (a:(x==("__classdict__":Str))=false:=by decide):PE X (.Name x pos) (K7 i):=kS b hv hd a
end
theorem KR {c A B:Prop} [Decidable c] (h1:c->A) (h2:¬ c->B):if c then A else B:=by
 by_cases h:c
 ·rw[if_pos h];exact h1 h
 ·rw[if_neg h];exact h2 h
def ax (H H':Hp):Prop:=∀b o,H b=some o->H' b=some o
theorem ax.refl (H:Hp):ax H H:=λ_ _ h=>h
theorem ax.trans {H2:Hp} (a:ax H H1) (b:ax H1 H2):ax H H2:=λc o h=>b c o (a c o h)
theorem ax.free (e:ax H H') {l:Addr} (h:H' l=Option.none):H l=Option.none:=by
 cases q:H l with
 |none=>rfl
 |some o =>rw[e l o q]at h;cases h
theorem ax.seq (e:ax H H') (h:SqL K H a xs):SqL K H' a xs:=by
 rcases h with (h|⟨o,h⟩)|h
 ·exact .inl (.inl (e _ _ h))
 ·exact .inl (.inr ⟨o,e _ _ h⟩)
 ·exact .inr h
end L2
set_option maxHeartbeats 4000000
namespace L2
open PySem PySem.Spec PyProof.Rows
variable {es:List Expr} {f:PyData->PyData->Option PyData} {g:TG} {e:Expr} {E:XK} {t:Addr}
def mq:List (Str×NameKind)->List (Str×Addr)->List (Str×Addr)->List (Str×Addr)
 |[],_,acc=>acc
 |(n,k)::r,cells,acc=>mq r cells (if k==.free then (match cells.lookup n with|some c=>(n,c)::acc|none=>acc) else acc)
theorem i9 (env:Env):∀(names:List (Str×NameKind)) (acc:List (Str×Addr)),(∀y∈names,y.2=.free->∃c,env.cells.lookup y.1=some c) ->
  (forIn names acc (λ(x:Str×NameKind) (cs:List (Str×Addr))=>match x with
   | (name,kind)=>if (kind==NameKind.free)=true then do let c <-cellOf env name;pure (ForInStep.yield ((name,c)::cs)) else pure (ForInStep.yield cs)):Sem (List (Str×Addr)))=pure (mq names env.cells acc)
 |[],acc,_=>rfl
 |(n,k)::r,acc,h=>by
  rw[NY];have b:∀y∈r,y.2=.free->∃c,env.cells.lookup y.1=some c:=λy g=>h y (M4 _ g)
  dsimp only[mq];by_cases hk:k=.free
  ·subst hk;obtain⟨c,hc⟩:=h (n,.free) M6 rfl;have a:env.cells.lookup n=some c:=hc;have e:cellOf env n=pure c:=by unfold cellOf;rw[a]
   rw[if_pos (show (NameKind.free==NameKind.free)=true by decide),if_pos (show (NameKind.free==NameKind.free)=true by decide),e,a];exact i9 env r ((n,c)::acc) b
  ·have f:¬ (k==NameKind.free)=true:=by simpa using hk
   rw[if_neg f,if_neg f];exact i9 env r acc b
theorem jz (h:∀y∈scope.names,y.2=.free->∃c,env.cells.lookup y.1=some c):closureFor scope env=pure (mq scope.names env.cells []):=by have e:=i9 env scope.names [] h;unfold closureFor;rw[<-bind_pure (forIn scope.names [] _)]at e;exact e
theorem qm:∀(names:List (Str×NameKind)) (cells acc:List (Str×Addr)) (x:Str) (c:Addr),(∀x c,acc.lookup x=some c->cells.lookup x=some c)->(mq names cells acc).lookup x=some c->cells.lookup x=some c
 |[],_,_,x,c,h,e=>h x c e
 |(n,k)::r,cells,acc,x,c,h,e=>by
  refine qm r cells _ x c (λy d a=>?_) e;split at a
  ·split at a
   ·rename_i c' b;rw[MN]at a;by_cases hyn:(y==n)=true
    ·rw[hyn]at a;have f:y=n:=eq_of_beq hyn;subst f;cases a;exact b
    ·have:(y==n)=false:=by simpa using hyn
     rw[this]at a;exact h y d a
   ·exact h y d a
  ·exact h y d a
theorem rS:∀(names:List (Str×NameKind)) (cells acc:List (Str×Addr)) (x:Str),(∃c,acc.lookup x=some c)->∃c,(mq names cells acc).lookup x=some c
 |[],_,_,_,h=>h
 |(n,k)::r,cells,acc,x,h=>by
  refine rS r cells _ x ?_;split
  ·split
   ·rw[MN];cases (x==n)
    ·exact h
    ·exact⟨_,rfl⟩
   ·exact h
  ·exact h
theorem l7:∀(names:List (Str×NameKind)) (cells acc:List (Str×Addr)) (x:Str) (c:Addr),(x,NameKind.free)∈names->cells.lookup x=some c->∃c,(mq names cells acc).lookup x=some c
 |[],_,_,_,_,h,_=>by simp at h
 |(n,k)::r,cells,acc,x,c,h,e=>by
  rcases M7.mp h with h|h
  ·injection h with h1 h2
   subst h1;subst h2;refine rS r cells _ x ?_;rw[if_pos (by decide),e];exact⟨c,by simp[MN]⟩
  ·exact l7 r cells _ x c h e
def blk (X:Cx) (M:List Str) (scope:Scope) (own:List Str) (C:Addr) (s2:Shared) (H2:Hp) (fp:List Addr):Cx where
 prog:=X.prog
 w:=X.w
 K:=X.K
 mg:=X.mg
 base:=X.base
 A:=X.A
 N:=M++own
 s₀:=s2
 H₀:=H2
 env:=compEnvC scope (mq scope.names X.env.cells []) C X.env
 outer:=X.stack
 stack:=X.stack
 ex:=fp
 fn:=λ_=>false
 calm:=X.calm
 pn:=[]
 xe:=λ_ _=>False
structure jK (X:Cx) (M:List Str) (scope:Scope) (own:List Str):Prop where
 kind:scope.kind=.function
 nocell:∀y∈scope.names,y.2≠.cell
 names:∀y∈scope.names,y.2=.local->scope.names.lookup y.1=some .local
 free:∀y∈scope.names,y.2=.free->Vis X.env.scope y.1/\X.env.scope.names.lookup y.1≠some .local
 own:∀x∈own,scope.names.lookup x=some .local
 outer:∀p∈X.N.zip M,(p.1=p.2/\scope.names.lookup p.2≠some .local)\/scope.names.lookup p.2=none
 len:M.length=X.N.length
def rZ (N M:List Str) (a scope:Scope) (own:List Str):Bool :=
 (scope.kind==.function)&&scope.names.all (λy=>y.2 != .cell)&&scope.names.all (λy=>y.2 != .local||scope.names.lookup y.1==some .local) &&
 scope.names.all (λy=>y.2 != .free||(a.names.lookup y.1==some .cell||a.names.lookup y.1==some .free)) &&
 own.all (λx=>scope.names.lookup x==some .local)&&(N.zip M).all (λp=>(p.1==p.2&&scope.names.lookup p.2 != some .local)||scope.names.lookup p.2==none)&&(M.length==N.length)
theorem jK.of (h:rZ X.N M X.env.scope scope own=true):jK X M scope own:=by
 unfold rZ at h;simp only[M8,MD,Bool.or_eq_true,bne_iff_ne,beq_iff_eq,ne_eq]at h;obtain⟨⟨⟨⟨⟨⟨h1,h2⟩,b⟩,c⟩,f⟩,g⟩,i⟩:=h;refine⟨h1,h2,λy a e=>(b y a).resolve_left λz=>z e,λy a e=>?_,f,g,i⟩;rcases (c y a).resolve_left λz=>z e with q|q
 ·exact⟨.inr (.inl q),by rw[q];intro z;cases z⟩
 ·exact⟨.inr (.inr q),by rw[q];intro z;cases z⟩
theorem eB {env:Env}:∀{names:List (Str×NameKind)} {x:Str} {k:NameKind},
  (names.map λ(n,k)=>if (k==NameKind.free&&env.scope.kind==.function&&env.kindOf n==some .cell) then (n,NameKind.cell) else (n,k)).lookup x=some k->(k=.cell\/k=.free)->(∀y∈names,y.2≠.cell)->(x,NameKind.free)∈names
 |[],_,_,h,_,_=>by simp at h
 |(n,k')::r,x,k,h,a,hn=>by
  have b:∀y∈r,y.2≠NameKind.cell:=λy c=>hn y (M4 _ c)
  rw[M5,MN]at h;by_cases hc:(k'==NameKind.free&&env.scope.kind==.function&&env.kindOf n==some .cell)=true
  ·have f:k'=.free:=by have:=hc;simp only[M8]at this;exact eq_of_beq this.1.1
   simp only[if_pos hc]at h;cases hx:x==n with
   |true =>have:x=n:=eq_of_beq hx;subst this;subst f;exact M6
   |false =>rw[hx]at h;exact M4 _ (eB h a b)
  ·simp only[if_neg hc]at h;cases hx:x==n with
   |true =>
    rw[hx]at h;have e:k'=k:=Option.some.inj h;have:x=n:=eq_of_beq hx;subst this;subst e;rcases a with a|a
    ·exact absurd a (hn _ M6)
    ·subst a;exact M6
   |false =>rw[hx]at h;exact M4 _ (eB h a b)
theorem d8 {env:Env}:∀{names:List (Str×NameKind)} {x:Str} {k:NameKind},
  (names.map λ(n,k)=>if (k==NameKind.free&&env.scope.kind==.function&&env.kindOf n==some .cell) then (n,NameKind.cell) else (n,k)).lookup x=some k->(∃k0,names.lookup x=some k0/\(k=k0\/(k=.cell/\k0=.free)))
 |[],_,_,h=>by simp at h
 |(n,k')::r,x,k,h=>by
  rw[M5,MN]at h;rw[MN];by_cases hc:(k'==NameKind.free&&env.scope.kind==.function&&env.kindOf n==some .cell)=true
  ·have a:k'=.free:=by have:=hc;simp only[M8]at this;exact eq_of_beq this.1.1
   simp only[if_pos hc]at h;cases hx:x==n with
   |true =>rw[hx]at h;exact⟨k',rfl,.inr ⟨(Option.some.inj h).symm,a⟩⟩
   |false =>rw[hx]at h;exact d8 h
  ·simp only[if_neg hc]at h;cases hx:x==n with
   |true =>rw[hx]at h;exact⟨k',rfl,.inl (Option.some.inj h).symm⟩
   |false =>rw[hx]at h;exact d8 h
section
variable {H2:Hp} {s2:Shared}
theorem Inv.blk {h1:Heap} {t':Nat} (I:Inv X pins σ H2 s2) (B:jK X M scope own) (H:∀b∈fp,pU X pins H2 b) (J:∀b∈fp,b<s2.heap.objs.size)
  (A:D=s2.heap.objs.size) (G:C=s2.heap.objs.size+1) (hl:h1.get? D=some { cls:=.type "list",data:=.seq ([]:List Value).toArray 0 })
  (hn:h1.Ns C (λ_=>none)) (g:∀b o,s2.heap.get? b=some o->h1.get? b=some o) :
  Inv (L2.blk X M scope own C s2 H2 fp) [] (σ++List.replicate own.length none) (upd H2 D (.lst [])) { s2 with heap:=h1,toks:=t' }:=by
 have a:∀x c,(mq scope.names X.env.cells []).lookup x=some c->X.env.cells.lookup x=some c:=λx c e=>qm _ _ _ _ _ (λ_ _ z=>by simp at z) e
 have K:∀x c,(mq scope.names X.env.cells []).lookup x=some c->c<s2.heap.objs.size:=λx c e=>by obtain⟨v,q⟩:=I.cell x c (a x c e);exact q.lt
 have n:H2 D=none:=I.hok.fresh (by rw[A];exact Mu _);have freeC:H2 C=none:=I.hok.fresh (by rw[G];exact NT _);have L:C≠D:=by rw[G,A];exact Nat.succ_ne_self _
 have W:Un (frs X.stack) fp H2 (upd H2 D (.lst [])) s2.heap h1:=Un.laid g (by rw[A];exact Mu _) n;refine⟨⟨I.ok.mod,?_,I.ok.glob,I.ok.blt,?_,?_,?_,?_,I.ok.hd,I.ok.frames,.inl rfl,?_,I.bs,Nc I.ok.bsz I.sz,?_,?_,I.stack,I.stkFree⟩,rfl,I.bare,W,?_,?_,?_,?_,?_,?_,?_,λP q t=>W.tbls P q (I.tab P q t)⟩
 ·exact B.kind
 ·show s2.heap.objs.size<=C;rw[G];exact NT _
 ·intro x y c e1 e2;exact I.ok.inj x y c (a x c e1) (a y c e2)
 ·intro x h;have hm:(x,NameKind.free)∈scope.names:=by
   rcases h with h|h
   ·exact eB h (.inl rfl) B.nocell
   ·exact eB h (.inr rfl) B.nocell
  obtain⟨hv,s⟩:=B.free _ hm rfl;have hh:X.env.kindOf x=some .cell\/X.env.kindOf x=some .free:=by
   rcases hv with z|z|z
   ·exact absurd z s
   ·exact .inl z
   ·exact .inr z
  obtain⟨c,e⟩:=I.ok.has x hh;exact l7 _ _ _ x c hm e
 ·intro x c O _;exact absurd (show false=true from O) (by decide)
 ·intro b w;refine⟨?_,λx c e z=>?_⟩
  ·show b≠C;rw[G];exact MB (Nf (J b w))
  ·exact (H b w).2.2.2.2.1 x c (a x c e) z
 ·intro b o e w;obtain⟨_,_,_,f3,_⟩:=H b w;rcases f3 with z|z
  ·exact I.ok.noex b o e z
  ·exact absurd (ME (Mx (I.ok.bs b o e).1) z) (Nv _)
 ·intro b w hs;obtain⟨_,f1,f2,_⟩:=H b w;rcases M7.mp (I.stkSub b hs) with z|z
  ·exact f1 z
  ·exact f2 z
 ·refine⟨_,hn,λi x v e1 e2 Y=>?_⟩;have hi:i<σ.length:=by
   by_cases hi:i<σ.length
   ·exact hi
   ·rw[MO (by omega),O3]at e2;split at e2 <;> cases e2
  rw[ML hi]at e2;have E:i<X.N.length:=by rw[<-I.len];exact hi
  have Q:i<M.length:=by rw[B.len];exact E
  have R:M[i]?=some x:=by
   have:(M++own)[i]?=some x:=e1
   rwa[ML Q]at this
  obtain⟨y,Z⟩:∃y,X.N[i]?=some y:=⟨_,M1 E⟩
  have hz:(y,x)∈X.N.zip M:=N0 (i:=i) (by rw[List.getElem?_zip_eq_some];exact⟨Z,R⟩);have S:∃k,scope.names.lookup x=some k:=by
   rcases Y with z|z|z
   ·obtain⟨k0,f,_⟩:=d8 (show _=some NameKind.local from z);exact⟨k0,f⟩
   ·obtain⟨k0,f,_⟩:=d8 (show _=some NameKind.cell from z);exact⟨k0,f⟩
   ·obtain⟨k0,f,_⟩:=d8 (show _=some NameKind.free from z);exact⟨k0,f⟩
  have j:y=x/\scope.names.lookup x≠some .local:=by
   rcases B.outer _ hz with q|q
   ·exact q
   ·obtain⟨k,g⟩:=S;rw[q]at g;cases g
  have T:X.N[i]?=some x:=by rw[<-j.1];exact Z
  have h:(relabel scope X.env).names.lookup x=some .cell\/(relabel scope X.env).names.lookup x=some .free:=by
   rcases Y with z|z
   ·obtain⟨k0,f,g⟩:=d8 (show _=some NameKind.local from z);rcases g with g|⟨g,_⟩
    ·subst g;exact absurd f j.2
    ·cases g
   ·exact z
  have hm:(x,NameKind.free)∈scope.names:=by
   rcases h with h|h
   ·exact eB h (.inl rfl) B.nocell
   ·exact eB h (.inr rfl) B.nocell
  obtain⟨hv,s⟩:=B.free _ hm rfl;obtain⟨m,_,U⟩:=I.loc;obtain⟨u,r,l⟩:=U i x v T e2 hv;refine⟨u,r,.inr ⟨h,?_⟩⟩;rcases l with⟨z,_⟩|⟨_,c,hc,z⟩
  ·exact absurd z s
  ·obtain⟨c',F⟩:=l7 scope.names X.env.cells [] x c hm hc;have:=a x c' F;rw[hc]at this;cases this;exact⟨c,F,z.keeps g⟩
 ·intro x c e;obtain⟨v,q⟩:=I.cell x c (a x c e);exact⟨v,q.keeps g⟩
 ·show upd H2 D (.lst []) C=none;rw[aA L];exact freeC
 ·intro x c e;have h1:=K x c e;rw[aA (by rw[A];exact MB h1)];exact I.freeC x c (a x c e)
 ·intro p hp;exact absurd (show p∈([]:List (Addr×Obj))++[] from hp) (by simp)
 ·exact I.hok.laid g (by rw[A];exact Mu _) ⟨Nd _,[],0,.nil,hl⟩
 ·show (σ++List.replicate own.length none).length=(M++own).length;rw[Mv,Mv,List.length_replicate,I.len,B.len]
theorem Inv.unblk {a:St} (I:Inv X pins σ H2 s2) (i:∀b∈fp,pU X pins H2 b) (f:s2.heap.objs.size<=C)
  (J:Inv (L2.blk X M scope own C s2 H2 fp) [] a H' s') (j:Heap.SameBut C s'.heap h'):Inv X pins σ H' { s' with heap:=h' }:=by
 have h:H' C=none:=J.free;have k:∀b o,b≠C->s'.heap.get? b=some o->h'.get? b=some o:=λb o g e=>(j.2 b g).trans e
 have old:∀b o,s2.heap.get? b=some o->b≠C:=λb o e=>MB (ME (Mx e) f)
 have u:Un (frs X.stack) fp H2 H' s2.heap s'.heap:=J.base;refine I.call' (s':={ s' with heap:=h' }) (ch:=fp) J.os ?_ ?_ J.bare λb g=>?_
 ·refine⟨λb o e n h1 h2=>k b o (old b o e) (u.keep b o e n h1 h2),λb o e n h1 h2=>?_,u.free,λb o e h1=>?_,u.tups,u.frzs,u.tbls⟩
  ·obtain⟨l,q⟩:=u.slot b o e n h1 h2;exact⟨l,k b _ (old b o e) q⟩
  ·obtain⟨o',q⟩:=u.there b o e h1;exact⟨o',k b o' (old b o e) q⟩
 ·intro b o e;refine (J.hok b o e).stay (λc v hc q=>k c v ?_ q) (λ_ q=>q) λ_ _ q=>q
  rintro rfl
  rcases hc with z|z
  ·subst z;rw[h]at e;cases e
  ·rw[h]at z;cases z
 ·obtain⟨f0,f1,f2,m,p,r⟩:=i b g;exact⟨m,f1,p,r⟩
end
section
variable {A:Around} {R:Result->Shared->Prop}
theorem tD {target:Expr} {it acc:Value} (I:Nat->Shared->Prop)
  (turn:∀n s,I n s->wpAny (model prog w) A (pyNext it) (λr a=>match r with
   |none=>R (.ok .next) a
   |some v=>wpAny (model prog w) A (letOwnedTupleGo target it v) (λ_ l=>wpAny (model prog w) A (assign target env v) (λ_ e =>
    wpAny (model prog w) A (forIn ifs true λc r=>if r=true then do let ok <-isTrue c env (eval c env);pure (ForInStep.yield ok) else pure (ForInStep.yield r)) (λok b =>
     if ok=true then wpAny (model prog w) A (eval elt env) (λx f =>
      wpAny (model prog w) A (call (.builtin "list.append") [acc,x]) (λ_ g=>∃m,m<n/\I m g) (λ_ _=>False) f) (λ_ _=>False) b
     else ∃m,m<n/\I m b) (λ_ _=>False) e) (λ_ _=>False) l) (λ_ _=>False) a) (λ_ _=>False) s)
  (n:Nat) (h:I n s) :
  codeAny (model prog w) A (.compLoop (.ListComp elt [⟨target,iter,ifs,0⟩] scope pos) 0 it acc env) R s:=by
 refine codeAny_loop rfl I (λn s u=>?_) n h;show wpAny _ A ((compTurn (.ListComp elt [⟨target,iter,ifs,0⟩] scope pos) 0 it acc env).onRaise (λx=>do noteFrame x env;theTreesLotGoes x)) _ _ s;refine wpAny_noted ?_;rw[compTurn_list];refine wpAny_bind (wpAny_standAt (wpAny_bind (wpAny_mono (turn n s u) (λr a i=>?_) λ_ _ h'=>h'.elim)));cases r with
 |none=>exact wpAny_pure i
 |some v =>
  refine wpAny_bind (wpAny_mono i (λ_ l t=>?_) λ_ _ h'=>h'.elim);refine wpAny_bind (wpAny_mono t (λ_ e o=>wpAny_bind (wpAny_mono o (λok b j=>?_) λ_ _ h'=>h'.elim)) λ_ _ h'=>h'.elim);cases ok with
  |false=>exact wpAny_pure ⟨rfl,j⟩
  |true =>exact wpAny_bind (wpAny_bind (wpAny_mono j (λx f p=>wpAny_bind (wpAny_mono p (λ_ g q=>wpAny_pure (wpAny_pure ⟨rfl,q⟩)) λ_ _ h'=>h'.elim)) λ_ _ h'=>h'.elim))
end
def wd:TT:=λ_ H Q=>Q true H
inductive PTs (X:Cx):List Expr->TT->Prop
 |nil:PTs X [] wd
 |one {c:Expr} {t:TT} (h:PT X c t):PTs X [c] t
theorem PTs.run {t:TT} (h:PTs X ifs t) {Q:Bool->Hp->Prop} (I:Inv X pins σ H s) (q:t σ H Q) :
  wpAny (model X.prog X.w) X.A (forIn ifs true λc r=>if r=true then do let ok <-isTrue c X.env (eval c X.env);pure (ForInStep.yield ok) else pure (ForInStep.yield r)) (TP X pins σ Q) X.xe s:=by
 cases h with
 |nil=>exact wpAny_tests_nil ⟨H,I,q⟩
 |one h=>exact wpAny_tests_one (h pins s σ H Q I q)
def LCR (J:It) (n:Nat) (g:TG) (tt:TT) (te:TE) (σ:St) (H1:Hp) (Q:VK):Prop:=∀D,H1 D=none->∃W:Nat->Nat->List V->Hp->Prop,(∃m,W 0 m [] (upd H1 D (.lst []))) /\
 ∀i m ys H,W i m ys H->H D=some (.lst ys)/\((J.stop i H/\Q (.ref D) H)\/(J.go i H/\∀x H' e,e.length=n->J.yld i H x H'->g x (σ++e) H' λc H2=>tt c H2 λb h =>
  if b=true then te c h λv j=>j D=some (.lst ys)/\ys.length<sizeLine/\(∃a,c=σ++a/\a.length=n)/\∃f,f < m/\W (i+1) f (ys++[v]) (upd j D (.lst (ys++[v])))
  else (∃a,c=σ++a/\a.length=n)/\∃f,f < m/\W (i+1) f ys h))
def tLC (n:Nat) (a:TI) (g:TG) (tt:TT) (te:TE):TE:=λσ H Q=>a σ H λJ H1=>LCR J n g tt te σ H1 Q
theorem qr {wi:TI} {tt:TT} {te:TE} {use:Option (Value->Sem Unit)} {Qf:Value->Shared->Prop} (hc:X.calm=true) (hi:PI X tg iter wi)
  (hg:∀C s2 H2 fp,PG (blk X M scope own C s2 H2 fp) tg g) (ht:∀C s2 H2 fp,PTs (blk X M scope own C s2 H2 fp) ifs tt) (he:∀C s2 H2 fp,PE (blk X M scope own C s2 H2 fp) elt te)
  (hB:rZ X.N M X.env.scope scope own=true) (hs:∀x,foldedSetIterable iter X.env x=pure x) {Q:VK} (I:Inv X pins σ H s) (h:tLC own.length wi g tt te σ H Q)
  (fin:∀(C D:Addr) (P:Shared) (O:Hp),(∀h',Heap.SameBut C P.heap h'->Inv X pins σ O { P with heap:=h' })->(∃m,P.heap.Ns C m)->O C=none->C≠X.env.locals->(∀x c,X.env.cells.lookup x=some c->c≠C)->(∀p∈X.pn++pins,p.1≠C)->X.s₀.heap.objs.size<=C->Q (.ref D) O ->
   compPost (model X.prog X.w) X.A X.xe use Qf (.ref D) C (.ok .next) P) :
  wpAny (model X.prog X.w) X.A (comprehension (.ListComp elt [⟨tg,iter,ifs,0⟩] scope pos) scope X.env cpos (newList []) false (eval iter X.env) use) Qf X.xe s:=by
 have B:jK X M scope own:=jK.of hB;have R:closureFor scope X.env=pure (mq scope.names X.env.cells []):=jz λy hy hf=>by
  obtain⟨hv,hnl⟩:=B.free y hy hf;have hh:X.env.kindOf y.1=some .cell\/X.env.kindOf y.1=some .free:=by
   rcases hv with z|z|z
   ·exact absurd z hnl
   ·exact .inl z
   ·exact .inr z
  exact I.ok.has y.1 hh
 refine wpAny_comprehension_free (use:=use) rfl hs R B.kind B.names (thn (hi pins s σ H _ I h) λv s1 h1=>thn h1 λitv s2 h2=>?_);obtain⟨it,fp,tn,J,H2,e,S,T,U,f2,hD⟩:=h2;subst e;have Y:∀b∈fp,b<s2.heap.objs.size:=λb l=>by obtain⟨o,q,_⟩:=T.obj _ _ U b l;exact Mx q
 obtain⟨W,⟨m0,w0⟩,turn⟩:=hD s2.heap.objs.size (S.hok.fresh (Mu _));refine wpAny_newObj_type (wpAny_newFunctionEnv B.nocell (by intro y hy;simp at hy) (λt j f=>?_) B.kind);dsimp only at j f ⊢;generalize hG:s2.heap.push { cls:=.type "list",dict:=none,data:=.seq ([]:List Value).toArray }=G at j f ⊢;have hC:G.objs.size=s2.heap.objs.size+1:=by rw[<-hG,Heap.size_push]
 have hk:∀b o,s2.heap.get? b=some o->t.get? b=some o:=λb o e=>f.extBut b o (by rw[hC];exact MB (Nf (Mx e))) (M0 _ (hG▸M0 _ e))
 have hDC:s2.heap.objs.size≠G.objs.size:=by rw[hC];exact MB (Ny _)
 have hl:t.get? s2.heap.objs.size=some { cls:=.type "list",data:=.seq ([]:List Value).toArray 0 }:=f.extBut _ _ hDC (M0 _ (hG▸Mz _ rfl));have hns:t.Ns G.objs.size (λ_=>none):=by
  have e:(λx=>([]:List (Str×Value)).reverse.lookup x)=λ_=>none:=by funext x;rfl
  rw[<-e];exact j
 have I3:=λt'=>S.blk (t':=t') (C:=G.objs.size) (D:=s2.heap.objs.size) B f2 Y rfl hC hl hns hk
 have E:∀{H':Hp},(∀b∈fp,H' b=none)->∀b∈fp,pU (blk X M scope own G.objs.size s2 H2 fp) [] H' b:=λhn b l=>by
  refine⟨hn b l,?_,?_,.inl l,λx c e z=>?_,λp hp=>absurd (show p∈([]:List (Addr×Obj))++[] from hp) (by simp)⟩
  ·show b≠G.objs.size;rw[hC];exact MB (Nf (Y b l))
  ·exact (I3 0).ok.exfs b l
  ·exact ((I3 0).ok.exf b l).2 x c e z
 have loop:∀s3:Shared,(∃t',s3={ s2 with heap:=t,toks:=t' })->codeAny (model X.prog X.w) X.A (.compLoop (.ListComp elt [⟨tg,iter,ifs,0⟩] scope pos) 0 (.ref it) (.ref s2.heap.objs.size) (compEnvC scope (mq scope.names X.env.cells []) G.objs.size X.env))
   (compPost (model X.prog X.w) X.A X.xe use Qf (.ref s2.heap.objs.size) G.objs.size) s3:=by
  rintro s3 ⟨t',rfl⟩
  refine tD (λn s'=>∃i ys L H',L.length=own.length/\Inv (blk X M scope own G.objs.size s2 H2 fp) [] (σ++L) H' s'/\tn i s'.heap/\(∀b∈fp,H' b=none)/\W i n ys H') ?_ m0
   ⟨0,[],_,_,by simp,I3 t',T.keep _ _ _ U λb l o e=>hk b o e,λb l=>by rw[aA (MB (Y b l))];exact (f2 b l).1,w0⟩
  rintro n s4 ⟨i,ys,L,O,hl',I4,st4,fr4,w4⟩
  obtain⟨hDl,alt⟩:=turn i n ys O w4;rcases alt with⟨stop,qn⟩|⟨go,step⟩
  ·refine thn (T.done (blk X M scope own G.objs.size s2 H2 fp) rfl rfl rfl hc i [] s4 _ O _ I4 (E fr4) st4 stop) λr P a=>?_
   obtain⟨hr,I5⟩:=a;subst hr;obtain⟨m,hn,_⟩:=I5.loc;have cS:s2.heap.objs.size<=G.objs.size:=by rw[hC];exact NT _
   refine fin G.objs.size s2.heap.objs.size P O (λh' hs'=>S.unblk (C:=G.objs.size) f2 cS I5 hs') ⟨m,hn⟩ I5.free ?_ (λx c e=>?_) (λp hp=>?_) (Nc S.sz cS) qn
   ·obtain⟨_,hl0,_⟩:=S.loc;exact Ng (ME hl0.lt cS)
   ·obtain⟨_,q⟩:=S.cell x c e;exact MB (ME q.lt cS)
   ·exact MB (ME (Mx (S.pin p hp).1) cS)
  ·refine thn (T.item (blk X M scope own G.objs.size s2 H2 fp) rfl rfl rfl hc i [] s4 _ O _ I4 (E fr4) st4 go) λr P a=>?_
   obtain⟨u,hr,h5⟩:=a;subst hr;refine thn h5 λ_ s6 a=>?_
   obtain⟨x,H6,I6,r6,y6,Z,fr6⟩:=a;have I6':=I6.pinned (E fr6) (T.obj _ _ Z);have kp:∀{F:St} {H7:Hp} {s7:Shared},Inv (blk X M scope own G.objs.size s2 H2 fp) ([]++oM fp s6.heap) F H7 s7->tn (i+1) s7.heap/\∀b∈fp,H7 b=none:=λ{F H7 s7} I7=>by refine⟨T.keep _ _ _ Z λb l o e=>(I7.pin (b,o) (Mt _ (Mt _ (jc l e)))).1,λb l=>?_⟩;obtain⟨o,e,d⟩:=T.obj _ _ Z b l;exact (I7.pin (b,o) (Mt _ (Mt _ (jc l e)))).2.1
   refine thn (hg _ _ _ _ _ s6 _ H6 x u _ I6' r6 (step x H6 L hl' y6)) λ_ s7 a=>?_
   obtain⟨F,H7,I7,q7⟩:=a;refine thn ((ht _ _ _ _).run I7 q7) λok s8 a=>?_
   obtain⟨H8,I8,q8⟩:=a;cases ok with
   |false =>
    obtain⟨⟨K,e,l''⟩,m',hm,w8⟩:=(show if false=true then _ else _ from q8)
    subst e;obtain⟨k1,k2⟩:=kp I8;exact⟨m',hm,i+1,ys,K,H8,l'',I8.unpinned,k1,k2,w8⟩
   |true =>
    have q8:te F H8 _:=q8;refine thn (he _ _ _ _ _ s8 F H8 _ I8 q8) λy s9 a=>?_
    obtain⟨v,H9,I9,r9,d9,z9,⟨K,e,l''⟩,m',hm,w9⟩:=a;subst e;refine thn (mL (X:=blk X M scope own G.objs.size s2 H2 fp) _ s9 _ H9 (.ref s2.heap.objs.size) [v] (.ref s2.heap.objs.size) [y] (λ_ H'=>H'=upd H9 s2.heap.objs.size (.lst (ys++[v]))) I9 rfl (.cons r9 .nil) ⟨_,ys,v,rfl,rfl,d9,z9,rfl⟩) λ_ s10 a=>?_
    obtain⟨_,H10,I10,_,e10⟩:=a;subst e10;obtain⟨k1,k2⟩:=kp I10;exact⟨m',hm,i+1,ys++[v],K,_,l'',I10.unpinned,k1,k2,w9⟩
 exact codeAny_compStart_list (loop _ ⟨_,rfl⟩) (T.self _ 0 _ _ _ (T.keep _ _ _ U λb l o e=>hk b o e) (loop _ ⟨_,rfl⟩))
theorem B2 {c:TI} {tt:TT} {te:TE} (hc:X.calm=true) (hi:PI X tg iter c)
  (e:∀C s2 H2 fp,PG (blk X M scope own C s2 H2 fp) tg g) (f:∀C s2 H2 fp,PTs (blk X M scope own C s2 H2 fp) ifs tt) (i:∀C s2 H2 fp,PE (blk X M scope own C s2 H2 fp) elt te)
  (hB:rZ X.N M X.env.scope scope own=true:=by rfl) (j:∀x,foldedSetIterable iter X.env x=pure x:=by intro _;rfl):PE X (.ListComp elt [⟨tg,iter,ifs,0⟩] scope pos) (tLC own.length c g tt te):=by
 intro pins s σ H Q I h;rw[eval_ListComp];refine qr hc hi e f i hB j I h λC D s5 l k a _ _ _ _ _ q=>?_
 obtain⟨m,hn⟩:=a;exact⟨m,hn,λh' b=>⟨.ref D,l,k h' b,rfl,q⟩⟩
theorem pX {A:TI} {tt:TT} {te:TE} (hc:X.calm=true) (L:X.N.Nodup) (j:X.N[i]?=some x) (O:Loc X.env.scope x)
  (l:swapsWith (.ListComp elt [⟨tg,iter,ifs,0⟩] scope pos) (some (.Name x pos')) spos.line X.env=pure true) (hi:PI X tg iter A)
  (P:∀C s2 H2 fp,PG (blk X M scope own C s2 H2 fp) tg g) (Q:∀C s2 H2 fp,PTs (blk X M scope own C s2 H2 fp) ifs tt) (R:∀C s2 H2 fp,PE (blk X M scope own C s2 H2 fp) elt te)
  (hB:rZ X.N M X.env.scope scope own=true:=by rfl) (S:∀x,foldedSetIterable iter X.env x=pure x:=by intro _;rfl) (T:X.fn x=true\/X.env.scope.names.lookup x=some .local:=by first|exact .inl rfl|exact .inr rfl|assumption) :
  PS X (.Assign [.Name x pos'] (.ListComp elt [⟨tg,iter,ifs,0⟩] scope pos) spos) (EH (tLC own.length A g tt te) (j6 i)):=by
 intro pins s σ H D I h;show wpAny _ _ (exec _ X.env) _ _ s;rw[exec_Assign_Name_used _ _ _ _ l];refine wpAny_bind (wpAny_standAt (wpAny_bind ?_));rw[arm_evalThenUse_ListComp];refine wpAny_bind (thn (qr (use:=some (assign (.Name x pos') X.env)) (Qf:=λ_ s'=>SP X pins D .next s') hc hi P Q R hB S I h λC B E U k p F G J W ns q=>?_) λ_ s' Y=>wpAny_pure (wpAny_pure Y));obtain⟨m,hn⟩:=p;have Z:=k E.heap (Heap.SameBut.refl _ _);show wpAny _ _ (assign (.Name x pos') X.env (.ref B)) _ _ E;refine wpAny_assign_Name (rB (v:=.ref B) Z L j O rfl (λK r t=>?_) T);obtain⟨a,sb,ha⟩:=t;have u:C≠a:=by
  rcases ha with rfl|ha
  ·exact G
  ·exact λz=>J x a ha z.symm
 refine⟨m,hn.sameBut sb u,λh' w=>⟨_,U,?_,q⟩⟩;have f:∀b o,b≠C->K.heap.get? b=some o->h'.get? b=some o:=λb o y e=>(w.2 b y).trans e
 refine r.call' (s':={ K with heap:=h' }) (ch:=[C]) rfl ?_ ?_ r.bare λb y=>?_
 ·refine⟨λb o e _ _ z=>f b o (λq=>z (by rw[q];exact Mw.mpr rfl)) e,λb o e _ _ z=>⟨o.slots,f b o (λq=>z (by rw[q];exact Mw.mpr rfl)) e⟩,λ_ _ _ n _=>n,λb o e z=>⟨o,f b o (λq=>z (by rw[q];exact Mw.mpr rfl)) e⟩,λ_ _ q=>q,λ_ _ _ q=>q,λ_ _ q=>q⟩
 ·intro b o e;refine (r.hok b o e).stay (λc v hc q=>f c v ?_ q) (λ_ q=>q) λ_ _ q=>q
  rintro rfl
  rcases hc with z|z
  ·subst z;rw[F]at e;cases e
  ·rw[F]at z;cases z
 ·rw[Mw.mp y];exact⟨.inr ns,λz=>G z,J,W⟩
mutual
def IsD (K:PySem.W.Frag) (H:Hp):PyData->V->Prop
 |.none,v=>v=.non
 |.bool b,v=>v=.bl b
 |.int i,v=>v=.int i
 |.str x,v=>v=.str x
 |.list ds,v=>∃a xs,v=.ref a/\SqL K H a xs/\ff K H ds xs
 |.tuple ds,v=>∃a xs,v=.ref a/\SqT K H a xs/\ff K H ds xs
 |.dict _,_=>False
def ff (K:PySem.W.Frag) (H:Hp):List PyData->List V->Prop
 |[],vs=>vs=[]
 |d::ds,vs=>∃v r,vs=v::r/\IsD K H d v/\ff K H ds r
end
theorem ax.tupS (e:ax H H') (h:SqT K H a xs):SqT K H' a xs:=by
 rcases h with (h|⟨o,h⟩)|h
 ·exact .inl (.inl (e _ _ h))
 ·exact .inl (.inr ⟨o,e _ _ h⟩)
 ·exact .inr h
mutual
theorem IsD.same {K:PySem.W.Frag} {H H':Hp} (e:ax H H'):∀{d:PyData} {v:V},IsD K H d v->IsD K H' d v
 |.none,_,h=>by unfold IsD at h ⊢;exact h
 |.bool _,_,h=>by unfold IsD at h ⊢;exact h
 |.int _,_,h=>by unfold IsD at h ⊢;exact h
 |.str _,_,h=>by unfold IsD at h ⊢;exact h
 |.list ds,_,h=>by unfold IsD at h ⊢;obtain⟨a,xs,e1,h1,h2⟩:=h;exact⟨a,xs,e1,e.seq h1,ff.same e h2⟩
 |.tuple ds,_,h=>by unfold IsD at h ⊢;obtain⟨a,xs,e1,h1,h2⟩:=h;exact⟨a,xs,e1,e.tupS h1,ff.same e h2⟩
 |.dict _,_,h=>by unfold IsD at h;exact h.elim
theorem ff.same {K:PySem.W.Frag} {H H':Hp} (e:ax H H'):∀{ds:List PyData} {vs:List V},ff K H ds vs->ff K H' ds vs
 |[],_,h=>by unfold ff at h ⊢;exact h
 |d::ds,_,h=>by unfold ff at h ⊢;obtain⟨v,r,e1,h1,h2⟩:=h;exact⟨v,r,e1,IsD.same e h1,ff.same e h2⟩
end
section
theorem uz {i:Int}:IsD K H (.int i) (.int i):=by unfold IsD;rfl
theorem D3 {b:Bool}:IsD K H (.bool b) (.bl b):=by unfold IsD;rfl
theorem Dv:IsD K H .none .non:=by unfold IsD;rfl
theorem FI:IsD K H (.str x) (.str x):=by unfold IsD;rfl
theorem Fh (h:SqT K H a xs) (h2:ff K H ds xs):IsD K H (.tuple ds) (.ref a):=by unfold IsD;exact⟨a,xs,rfl,h,h2⟩
theorem ug (h:SqL K H a xs) (h2:ff K H ds xs):IsD K H (.list ds) (.ref a):=by unfold IsD;exact⟨a,xs,rfl,h,h2⟩
theorem pA:ff K H [] []:=by unfold ff;rfl
theorem rY {d:PyData} (h:IsD K H d v) (h2:ff K H ds vs):ff K H (d::ds) (v::vs):=by unfold ff;exact⟨v,vs,rfl,h,h2⟩
theorem IsD.ofInt {i:Int} (h:IsD K H (.int i) v):v=.int i:=by unfold IsD at h;exact h
theorem IsD.ofBool {i:Bool} (h:IsD K H (.bool i) v):v=.bl i:=by unfold IsD at h;exact h
theorem IsD.ofNone (h:IsD K H .none v):v=.non:=by unfold IsD at h;exact h
theorem IsD.ofStr (h:IsD K H (.str x) v):v=.str x:=by unfold IsD at h;exact h
theorem IsD.ofTup (h:IsD K H (.tuple ds) v):∃a xs,v=.ref a/\SqT K H a xs/\ff K H ds xs:=by unfold IsD at h;exact h
theorem IsD.ofLst (h:IsD K H (.list ds) v):∃a xs,v=.ref a/\SqL K H a xs/\ff K H ds xs:=by unfold IsD at h;exact h
theorem ff.nil_of (h:ff K H [] vs):vs=[]:=by unfold ff at h;exact h
theorem ff.cons_of {d:PyData} (h:ff K H (d::ds) vs):∃v r,vs=v::r/\IsD K H d v/\ff K H ds r:=by unfold ff at h;exact h
theorem rD:∀(ns:List Int),ff K H (ns.map PyData.int) (ns.map V.int)
 |[]=>pA
 |_::r=>rY uz (rD r)
end
section
mutual
theorem Inv.reads (I:Inv X pins σ H s):∀{d:PyData} {v:V} {u:Value},IsD X.K H d v->RelV v u->∃as,Reads s.heap u d as
 |.none,_,_,h,r=>by rw[h.ofNone]at r;cases r;exact⟨_,.none⟩
 |.bool _,_,_,h,r=>by rw[h.ofBool]at r;cases r;exact⟨_,.bool _⟩
 |.int _,_,_,h,r=>by rw[h.ofInt]at r;obtain⟨t,rfl⟩:=r;exact⟨_,.int _ _⟩
 |.str _,_,_,h,r=>by rw[h.ofStr]at r;obtain⟨t,rfl⟩:=r;exact⟨_,.str _ _⟩
 |.list ds,_,_,h,r=>by obtain⟨a,xs,e,h1,h2⟩:=h.ofLst;subst e;cases r;obtain⟨b,f,⟨o,n,g,c,_,d⟩,_⟩:=I.list h1;obtain⟨as,i⟩:=Inv.readsAll I h2 f;exact⟨_,.list g c d (by simpa using i)⟩
 |.tuple ds,_,_,h,r=>by obtain⟨a,xs,e,h1,h2⟩:=h.ofTup;subst e;cases r;obtain⟨b,f,⟨o,g,c,n,d⟩,_⟩:=I.tuple h1;obtain⟨as,i⟩:=Inv.readsAll I h2 f;exact⟨_,.tuple g c d (by simpa using i)⟩
 |.dict _,_,_,h,_=>by unfold IsD at h;exact h.elim
theorem Inv.readsAll (I:Inv X pins σ H s):∀{ds:List PyData} {vs:List V} {us:List Value},ff X.K H ds vs->Vals vs us->∃as,ReadsAll s.heap us ds as
 |[],_,_,h,r=>by rw[h.nil_of]at r;cases r;exact⟨_,.nil⟩
 |d::ds,_,_,h,r=>by
  obtain⟨v,t,e,h1,h2⟩:=h.cons_of;subst e;cases r with
  |cons r1 r2 =>obtain⟨as,a⟩:=Inv.reads I h1 r1;obtain⟨bs,b⟩:=Inv.readsAll I h2 r2;exact⟨_,.cons a b⟩
end
open PySem.SeqAt in
theorem xm (a:X.A.units+64<cLine):OpR X (compareOp .Eq) (λx y H Q=>∃d e,IsD X.K H d x/\IsD X.K H e y/\shaped d=true/\shaped e=true/\Q (.bl (PyData.eqv d e)) H):=by intro pins s σ H x y v u Q I b c h;obtain⟨d,e,hd,f,g,i,q⟩:=h;obtain⟨as,j⟩:=I.reads hd b;obtain⟨bs,l⟩:=I.reads f c;exact eq_dataH j l g i a ⟨.bl _,H,I,rfl,q⟩
open PySem.SeqAt in
theorem HK (a:X.A.units+64<cLine):OpR X (compareOp .NotEq) (λx y H Q=>∃d e,IsD X.K H d x/\IsD X.K H e y/\shaped d=true/\shaped e=true/\Q (.bl (!PyData.eqv d e)) H):=by intro pins s σ H x y v u Q I b c h;obtain⟨d,e,hd,f,g,i,q⟩:=h;obtain⟨as,j⟩:=I.reads hd b;obtain⟨bs,l⟩:=I.reads f c;exact ne_dataH j l g i a ⟨.bl _,H,I,rfl,q⟩
def tyD:PyData->String
 |.none=>"NoneType"
 |.bool _=>"bool"
 |.int _=>"int"
 |.str _=>"str"
 |.list _=>"list"
 |.tuple _=>"tuple"
 |.dict _=>"dict"
def um (d:PyData) (T:String):Bool:=tyD d==T||(T=="int"&&tyD d=="bool")
theorem G5 (K:PySem.W.Frag) {a T:String} (ha:a∈["NoneType", "bool", "int", "str", "list", "tuple"]) (b:T∈["bool", "int", "list", "tuple"]) :
  PySem.W.kitOne K (.type a) (.type T)=some (a==T||(T=="int"&&a=="bool")):=by
 simp only[M7,MI,or_false]at ha b;rcases ha with rfl|rfl|rfl|rfl|rfl|rfl <;> rcases b with rfl|rfl|rfl|rfl <;> rfl
theorem G1 {d:PyData} (h:IsD K H d v):tyD d∈["NoneType", "bool", "int", "str", "list", "tuple"]:=by
 cases d with
 |dict _=>unfold IsD at h;exact h.elim
 |_=>simp[tyD]
theorem wW:jH X (.builtin "isinstance") (λxs H Q=>∃d v T,xs=[v,.ty T]/\IsD X.K H d v/\T∈["bool", "int", "list", "tuple"]/\Q (.bl (um d T)) H):=by
 intro pins s σ H xs us Q I r h;obtain⟨d,v,T,rfl,hd,l,q⟩:=h;obtain⟨u,c,rfl,f,m⟩:=vals2 r;cases m;have e:PySem.W.kitOne X.K (.type (tyD d)) (.type T)=some (um d T):=G5 X.K (G1 hd) l;have fin:∀tk,EP X pins σ Q (.bool (um d T)) { s with toks:=tk }:=λtk=>⟨.bl _,H,I.tok tk,rfl,q⟩
 cases d with
 |none=>rw[hd.ofNone]at f;cases f;exact PySem.W.kia_one PySem.W.kitx_none I.kIn True.intro e (λz=>nomatch z) fin
 |bool b=>rw[hd.ofBool]at f;cases f;exact PySem.W.kia_one PySem.W.kitx_bool I.kIn True.intro e (λz=>nomatch z) fin
 |int i=>rw[hd.ofInt]at f;obtain⟨t,rfl⟩:=f;exact PySem.W.kia_one PySem.W.kitx_int I.kIn True.intro e (λz=>nomatch z) fin
 |str x=>rw[hd.ofStr]at f;obtain⟨t,rfl⟩:=f;exact PySem.W.kia_one PySem.W.kitx_str I.kIn True.intro e (λz=>nomatch z) fin
 |list ds =>obtain⟨a,xs,e1,h1,h2⟩:=hd.ofLst;subst e1;cases f;obtain⟨j,p,⟨o,n,g,c,_,_⟩,_⟩:=I.list h1;exact PySem.W.kia_one PySem.W.kitx_list I.kIn ⟨o,g,c⟩ e (λz=>nomatch z) fin
 |tuple ds =>obtain⟨a,xs,e1,h1,h2⟩:=hd.ofTup;subst e1;cases f;obtain⟨j,p,⟨o,g,c,n,_⟩,_⟩:=I.tuple h1;exact PySem.W.kia_one PySem.W.kitx_tuple I.kIn ⟨o,g,c⟩ e (λz=>nomatch z) fin
 |dict _=>unfold IsD at hd;exact hd.elim
theorem oV:∀{bs:List Bool} {us:List Value},Vals (bs.map V.bl) us->LSm.BoolsAre us bs
 |[],_,.nil=>.nil
 |b::r,_,.cons h t=>by cases (show _=Value.bool b from h);exact .cons b (oV t)
theorem DT (hc:X.calm=true):jH X (.builtin "all") (λxs H Q=>∃(a:Addr) (bs:List Bool),xs=[.ref a]/\SqL X.K H a (bs.map V.bl)/\Q (.bl (bs.all id)) H):=by
 intro pins s σ H xs us Q I r h;obtain⟨a,bs,rfl,l,q⟩:=h;obtain⟨u,rfl,m⟩:=vals1 r;cases m;obtain⟨c,n,p,_⟩:=I.list l;have hl:=p.isList;have g:=oV n;have f:a<s.heap.objs.size:=by obtain⟨_,e,_⟩:=hl;exact Mx e
 refine call_all_walk (wpAny_pyIter_list hl ?_);refine⟨s.heap.objs.size,[s.heap.objs.size,a],[s.heap.objs.size],c.toArray.size,_,_,λi=>(bs[i]?).getD true,rfl,Walks.list (A:=X.A.in1) (I.ok.hd hc) _ a (MB f) c.toArray,
  ⟨⟨_,Mz _ rfl,rfl,rfl⟩,hl.push _⟩,λi v s' Q' E' o j=>?_,λh' tk t=>?_⟩
 ·obtain⟨b,e,rfl⟩:=g.get i v (by simpa using o);simp only[e,Option.getD_some]at j;exact wpAny_truthy_bool j
 ·have e:((List.range c.toArray.size).all λi=>(bs[i]?).getD true)=bs.all id:=by rw[My,g.length];exact LSm.range_all bs
  rw[e];exact⟨.bl _,H,I.kept (LSm.kept_iter t),rfl,q⟩
theorem Dz (hc:X.calm=true):jH X (.builtin "sum") (λxs H Q=>∃(a:Addr) (ns:List Int),xs=[.ref a]/\SqL X.K H a (ns.map V.int)/\Q (.int ns.sum) H):=by
 intro pins s σ H xs us Q I r h;obtain⟨a,ns,rfl,f,q⟩:=h;obtain⟨u,rfl,g⟩:=vals1 r;cases g;obtain⟨b,i,p,_⟩:=I.list f;have hi:IntsAre b ns:=intsAre_of i;obtain⟨xs,e⟩:=hi.allInts.items;have c:s.heap.IsList a (intItems xs):=e▸p.isList;refine sum_intListG (I.ok.hd hc) c λh' tk t' j=>?_
 have e1:ns=xs.toList.map (·.1):=by rw[<-nums_intItems,<-e];exact (show numsOf b.toArray.toList=ns from hi.numsOf).symm
 have e2:preSum (numAt xs) xs.size=ns.sum:=by rw[preSum_eq,List.take_of_length_le (by simp),e1]
 rw[e2];exact⟨.int _,H,I.kept j,⟨_,rfl⟩,q⟩
end
structure LW (P:Program) (w:World) (outer:List Env) (H:Hp) (s:Shared) (H':Hp) (B:Heap) (ea:Addr) (cls a0:Value) (s':Shared):Prop where
 os:s'.os=s.os
 bare:AllBare s'.gens
 hok:HOk P w H' B
 keep:∀b o,s.heap.get? b=some o->H b=none->b∉frs outer->B.get? b=some o
 there:∀b o,s.heap.get? b=some o->b∉frs outer->∃o',B.get? b=some o'
 slot:∀b o,s.heap.get? b=some o->b∈frs outer->∃sl,s'.heap.get? b=some { o with slots:=sl }
 free:∀b o,s.heap.get? b=some o->H b=none->H' b=none
 tups:∀b xs,H b=some (.tup xs)->H' b=some (.tup xs)
 frzs:∀b o u,H b=some (.frz o u)->H' b=some (.frz o u)
 tbls:∀b q,H b=some (.tbl q)->H' b=some (.tbl q)
 fly:Heap.FlyingW B outer ea cls a0 s'.heap
def CXW (P:Program) (w:World):CXT:=λouter H s E e s'=>∃ea cls a0 H' B,e=.ref ea/\E cls none H'/\LW P w outer H s H' B ea cls a0 s'
section
variable {f:Addr} {A:Around}
theorem v9 {L:Addr} (a:env.frame=some L):frs (env::outer)=L::frs outer:=by unfold frs;rw[NU,a]
theorem xg {CX:CXT} {g:Shared} {ea:Addr} {cls:Value} {vs:List Value}
  (I:Inv (c8 (CXW P w) P w K mg base N qual scope f cd A outer s H E) pins σ H1 g) (p:Heap.MadeExcOf g.heap h' ea cls vs) (hE:E cls none H1) :
  (c8 (CXW P w) P w K mg base N qual scope f cd A outer s H E).xe (.ref ea) { g with heap:=h' }:=by
 have i:=I.stack;have j:frs (c8 (CXW P w) P w K mg base N qual scope f cd A outer s H E).stack=s.heap.objs.size::frs outer:=v9 rfl;have l:∀env∈(c8 (CXW P w) P w K mg base N qual scope f cd A outer s H E).stack,∀b,env.frame=some b->b∈frs (c8 (CXW P w) P w K mg base N qual scope f cd A outer s H E).stack:=λenv r b c=>Og.mpr ⟨env,r,c⟩
 have out:∀b o,s.heap.get? b=some o->b∉frs outer->b∉frs (c8 (CXW P w) P w K mg base N qual scope f cd A outer s H E).stack:=λb o e n z=>by
  rw[j]at z;rcases M7.mp z with z|z
  ·rw[z]at e;exact absurd (Mx e) (Nv _)
  ·exact n z
 refine wpAny_leaves_madeW (base:=PySem.W.hideAll g.heap (frs (c8 (CXW P w) P w K mg base N qual scope f cd A outer s H E).stack)) I.ok.frames rfl (λb o q=>PySem.W.of_hideAll _ q) (PySem.W.funFrames_hide i l) p λh2 t x1 x2 x3 x4=>?_
 refine⟨ea,cls,.ref t,H1,_,rfl,hE,⟨I.os,I.bare,?_,?_,?_,?_,?_,I.base.tups,I.base.frzs,I.base.tbls,x1⟩⟩
 ·intro a o e;refine (I.hok a o e).stay (λb u c q=>PySem.W.hideAll_get _ q λz=>?_) (λ_ q=>q) λ_ _ q=>q
  have:=I.stkFree b z;rcases c with c|c
  ·rw[c,e]at this;cases this
  ·rw[c]at this;cases this
 ·intro b o e n c;exact PySem.W.hideAll_get _ (I.base.keep b o e n c (MI)) (out b o e c)
 ·intro b o e c;obtain⟨o',q⟩:=I.base.there b o e (MI);exact⟨o',PySem.W.hideAll_get _ q (out b o e c)⟩
 ·intro b o e c;obtain⟨sl,q⟩:=I.base.slot b o e (I.ok.frf b c) c (MI);obtain⟨_,v,h,d2⟩:=I.ok.funs.mem c;have h:s.heap.get? b=some v:=h;rw[e]at h;cases h;obtain⟨m,x⟩:=x4 b _ (p.keeps b _ q) d2;exact⟨m,x⟩
 ·intro b o e n;exact I.base.free b o e n (MI)
theorem F8:Passes (CXW P w) (c8 (CXW P w) P w K mg base N qual scope f cd A outer s H E) E:=by
 intro pins σ H1 s1 e s2 I hc;obtain⟨ea,cls,a0,H2,B,rfl,hE,F⟩:=hc;have c:frs (c8 (CXW P w) P w K mg base N qual scope f cd A outer s H E).stack=s.heap.objs.size::frs outer:=v9 rfl;have out:∀b o,s.heap.get? b=some o->b∉frs outer->b∉frs (c8 (CXW P w) P w K mg base N qual scope f cd A outer s H E).stack:=λb o e n z=>by
  rw[c]at z;rcases M7.mp z with z|z
  ·rw[z]at e;exact absurd (Mx e) (Nv _)
  ·exact n z
 refine wpAny_leaves_onW I.ok.frames rfl F.fly λh2 x1 x2=>⟨ea,cls,a0,H2,B,rfl,hE,⟨F.os.trans I.os,F.bare,F.hok,?_,?_,?_,?_,?_,?_,?_,x1⟩⟩
 ·intro b o e n a;exact F.keep b o (I.base.keep b o e n a (MI)) (I.base.free b o e n (MI)) (out b o e a)
 ·intro b o e a;obtain⟨o',q⟩:=I.base.there b o e (MI);exact F.there b o' q (out b o e a)
 ·intro b o e a;obtain⟨sl,q⟩:=I.base.slot b o e (I.ok.frf b a) a (MI);obtain⟨_,i,g,d2⟩:=I.ok.funs.mem a;have g:s.heap.get? b=some i:=g;rw[e]at g;cases g;obtain⟨sl1,j⟩:=F.slot b _ q (by rw[c];exact M4 _ a);obtain⟨h,l⟩:=x2 b _ j d2;exact⟨h,l⟩
 ·intro b o e n;obtain⟨o',q⟩:=I.base.there b o e (MI);exact F.free b o' q (I.base.free b o e n (MI))
 ·intro b xs e;exact F.tups b xs (I.base.tups b xs e)
 ·intro b o u e;exact F.frzs b o u (I.base.frzs b o u e)
 ·intro b ps e;exact F.tbls b ps (I.base.tbls b ps e)
end
theorem GR {a:List Value} (X:K.In h) (q:PySem.W.excIn K C a newId=true) :
  ∃bm N nm r bs hdct sn sub ab col dd k0 k1 k2 k3 k5 mN,h.get? C=some (excClassObj nm r C N bs bm hdct sn sub ab col dd k0 k1 k2 k3 k5 newId)/\h.Ns N mN/\mN "__init__"=none/\OwnTail h a bm:=by
 unfold PySem.W.excIn at q;split at q
 ·rename_i d1 c1 l1 g1;split at q
  ·rename_i C2 b g i j m n2 n hm s;simp only[M8,beq_iff_eq,Ol]at q;obtain⟨⟨⟨⟨⟨t,u⟩,o⟩,v⟩,c⟩,p⟩:=q;subst t;subst u;obtain⟨z1,z2,z3,w,x,y,z,A,B,e,z11⟩:=c1;dsimp only at hm o c p;subst hm;subst o;have hl:l1=#[g,i,j,m,some (.builtin n2),n]:=by obtain⟨l⟩:=l1;have f:l=_:=s;rw[f]
   subst hl;exact⟨b,w,z1,x,z2,y,z,A,B,e,d1,g,i,j,m,n,_,X _ _ g1,.of_isNs (PySem.W.isNs_of_in X c),PySem.W.nsMap_none_of_in X c p,PySem.W.tail_of_in X v⟩
  ·cases q
 ·cases q
def yd (X:Cx) (E:XK):Prop:=∀(pins:List (Addr×Obj)) (σ:St) (H:Hp) (s:Shared) (h':Heap) (ea:Addr) (cls:Value) (vs:List Value),Inv X pins σ H s->Heap.MadeExcOf s.heap h' ea cls vs->E cls none H->X.xe (.ref ea) { s with heap:=h' }
def Je (C:Addr) (E:XK) (t:TA):TS:=λ_ σ H=>t σ H λvs H1=>vs.length<=sizeLine/\E (.ref C) none H1
theorem C8 {B a:String} {bm:List Value} {m:Pos} {t:TA} (hc:X.calm=true) (M:yd X E) (FB:ExcBaseFacts B newId a bm) (n:Gl X x) (hm:X.mg x=some (.ref C)) (o:PySem.W.excIn X.K C bm newId=true)
  (ha:PA X (e::es) t) (c:(x==("__debug__":Str))=false:=by decide) (j:starEach (e::es) X.env=(false,eval e X.env)::starEach es X.env:=by rfl) (f:(backTo cpos (starEach es X.env)).any (·.1)=false:=by rfl) :
  PS X (.Raise (some (.Call (.Name x m) (e::es) [] cpos)) none pos) (Je C E t):=by
 intro pins s σ H D I h;obtain⟨tl,N,nm,q,bs,hdct,sn,sub,ab,col,dd,k0,k1,k2,k3,k5,mN,g,p,i,T⟩:=GR I.mod.kin o;refine wpAny_Raise_call_subT (C:=C) (nm:=nm) (q:=q) (N:=N) (bs:=bs) (bm:=tl) (hdct:=hdct) (sn:=sn) (sub:=sub) (ab:=ab) (col:=col) (dd:=dd) (k0:=k0) (k1:=k1) (k2:=k2) (k3:=k3) (k5:=k5)
  FB (mN:=mN) (T.hasType FB.hasBase) (I.ok.hd hc) (by rw[j];show (false||(backTo cpos (starEach es X.env)).any (·.1))=false;rw[f];rfl) i (oh I n hm ⟨rfl,?_⟩ c)
 have l:=ha cpos pins s σ H _ I h;rw[j]at l ⊢;refine Calls.evalArgs_plain (wpAny_mono l (λus s2 h2=>?_) λ_ _ y=>y);obtain⟨vs,H2,b,r,z,hE⟩:=h2;exact⟨rfl,by rw[<-r.length];exact z,b.bk _ _ g,p.keeps b.bk,T.keeps b.bk,λh' ea u=>M pins σ H2 s2 h' ea _ _ b u hE⟩
theorem hU (h:H D=none):ax H (upd H D o):=λb u e=>by rw[aA (aK e h)];exact e
theorem ax.put (s:ax H H') (h:H D=none):ax H (upd H' D o):=λb u e=>by rw[aA (aK e h)];exact s b u e
mutual
def fo:PyData->Bool
 |.list _=>false
 |.tuple ds=>kT ds
 |.dict _=>false
 |_=>true
def kT:List PyData->Bool
 |[]=>true
 |d::ds=>fo d&&kT ds
end
theorem set_own (σ:St) (x:Option V) (v:V) (a:St) (h:a.length=1):(σ++a).set σ.length (some v)=σ++[some v]:=by obtain⟨y,rfl⟩:=List.length_eq_one_iff.mp h;simp
structure Rows (H H':Hp) (D:Addr) (qs:List Addr) (rs:List (List Int)):Prop where
 d:H' D=some (.lst (qs.map V.ref))
 len:qs.length=rs.length
 at':∀(i:Nat) q r,qs[i]?=some q->rs[i]?=some r->H' q=some (.lst (r.map V.int))
 new:∀q∈qs,H q=none
 nd:qs.Nodup
 nD:D∉qs
section
variable {A:Around} {E:Value->Shared->Prop}
theorem yk {a:Array Value} {x:Value} (hi:s.heap.IsTupleIter it t i) (e:s.heap.IsTuple t a) (f:a[i]?=some x)
  (g:∀h',h'.IsTupleIter it t (i+1)->Heap.SameBut it s.heap h'->Q x { s with heap:=h' }):wpAny (model prog w) A (Builtin.SmallTypes.nextOf (.ref it)) Q E s:=by
 obtain⟨oi,c,h,b⟩:=id hi;obtain⟨ot,j,_,nt,l⟩:=e;unfold Builtin.SmallTypes.nextOf;refine wpAny_bind (wpAny_callSpecial?_slot (name:=Str.ofString "__next__") hi.typeIs F.slot_tuple_iterator_next (wpAny_call_entry F.slot_tuple_iterator_next hi.typeIs F.entry_tuple_iterator_next ?_ (F.args_tuple_iterator_next_1 _)));refine wpAny_bind (m:=field (.ref it) 0) (wpAny_field c b (x:=.ref t) rfl ?_);show wpAny (model prog w) _ (if (Value.ref t==Value.none)=true then _ else _) _ _ s;have n:¬ (Value.ref t==Value.none)=true:=λq=>MG q
 rw[if_neg n];refine wpAny_bind (m:=field (.ref it) 1) (wpAny_field c b (x:=.int i 0) rfl ?_);refine wpAny_bind (m:=seqItems? (.ref t)) (wpAny_seqItems j l ?_);simp only[MT,f];refine wpAny_bind (wpAny_setField c b (by simp) (wpAny_pure ⟨x,rfl,wpAny_pure (g _ ⟨_,NM _ c (Obj.isFreed_of_fields (Obj.data_mapFields b _)),(Obj.cls_mapFields ..).trans h,?_⟩ (Heap.SameBut.update ..))⟩));rw[Obj.data_mapFields b];simp[rawInt]
theorem qp {c:Array Value} (h:A.handled=none) (hi:s.heap.IsTupleIter it t i) (j:s.heap.IsTuple t c) (l:c[i]?=none)
  (hE:∀h' e,Heap.ExtBut it s.heap h'->(∃o,h'.get? e=some o/\o.cls=.type "StopIteration")->E (.ref e) { s with heap:=h' }):wpAny (model prog w) A (Builtin.SmallTypes.nextOf (.ref it)) Q E s:=by
 obtain⟨oi,f,ci,g⟩:=id hi;obtain⟨ot,n,_,nt,p⟩:=j;unfold Builtin.SmallTypes.nextOf;refine wpAny_bind (wpAny_callSpecial?_slot (name:=Str.ofString "__next__") hi.typeIs F.slot_tuple_iterator_next (wpAny_call_entry F.slot_tuple_iterator_next hi.typeIs F.entry_tuple_iterator_next ?_ (F.args_tuple_iterator_next_1 _)));refine wpAny_bind (m:=field (.ref it) 0) (wpAny_field f g (x:=.ref t) rfl ?_);show wpAny (model prog w) _ (if (Value.ref t==Value.none)=true then _ else _) _ _ s;have r:¬ (Value.ref t==Value.none)=true:=λq=>MG q
 rw[if_neg r];refine wpAny_bind (m:=field (.ref it) 1) (wpAny_field f g (x:=.int i 0) rfl ?_);refine wpAny_bind (m:=seqItems? (.ref t)) (wpAny_seqItems n p ?_);simp only[MT,l];refine wpAny_bind (wpAny_rule (wpAny_bind (wpAny_setField f g (by simp) ?_)));refine wpAny_bind (m:=newExc (.type "StopIteration") []) ?_;unfold newExc newTuple;refine wpAny_bind (wpAny_newObj_type ?_ (by size_fits ));refine wpAny_bind (m:=firstArgMember _ _) (wpAny_of_eq (a:=Value.none) (by first|rfl|(unfold firstArgMember;rfl)) ?_);refine wpAny_newObj_type ?_ (by size_fits );unfold raiseNew;refine wpAny_bind (wpAny_handled ?_)
 first|rw[show A.in1.handled=none from h]|rw[h]
 refine wpAny_bind (wpAny_pure (wpAny_throw ?_));refine hE _ _ (λb o u e=>?_) ⟨_,Mz _ rfl,rfl⟩;exact M0 _ (M0 _ ((N5 _ _ (Ne.symm u)).trans e))
theorem mI (j:A.handled=none) (it t:Addr) (c:t≠it) (a:Array Value):Draws prog w A it [it,t] a.size (λi v=>a[i]?=some v) (λi h=>h.IsTupleIter it t i/\h.IsTuple t a) where
 live:=λ_ _ st=>by obtain⟨⟨o,g,_⟩,_⟩:=st;exact⟨o,g⟩
 frame:=λ_ _ _ st k=>by obtain⟨⟨o,g,r⟩,⟨b,g2,e⟩⟩:=st;exact⟨⟨o,k it (by simp) o g,r⟩,⟨b,k t (by simp) b g2,e⟩⟩
 item:=λi s Q E hi st l=>yk st.1 st.2 (x:=a[i]) (by simp[hi]) λh' i' f=>by refine l _ h' s.toks (by simp[hi]) ⟨i',?_⟩ f;obtain⟨b,g2,e⟩:=st.2;exact⟨b,(f.2 t c).trans g2,e⟩
 done:=λs Q E st hE=>qp j st.1 st.2 (by simp) hE
end
structure mf (z TI TO i1 i2:Addr) (f1 f2:List Addr):Prop where
 TIz:TI≠z
 TOz:TO≠z
 z1:i1≠z
 z2:i2≠z
 TIO:TI≠TO
 TI1:TI≠i1
 TI2:TI≠i2
 TO1:TO≠i1
 TO2:TO≠i2
 i12:i1≠i2
 a1:∀b∈f1,b≠z/\b≠TO/\b≠i2
 a2:∀b∈f2,b≠z/\b≠TO/\b≠i1
section
variable {A:Around} {E:Value->Shared->Prop} {z TI TO i1 i2:Addr} {f1 f2:List Addr} {n1 n2 k:Nat} {P1 P2:Nat->Value->Prop} {S1 S2:Nat->Heap->Prop} {a b:Value}
theorem CS (n:Draws prog w A i1 f1 n1 P1 S1) (p:Draws prog w A i2 f2 n2 P2 S2) (Z:mf z TI TO i1 i2 f1 f2) (h:IsZip s.heap z TI TO .none) (X:IsPair s.heap TI (.ref i1) (.ref i2)) (Y:IsPair s.heap TO a b)
  (C:S1 k s.heap) (D:S2 k s.heap) (k1:k<n1) (k2:k<n2)
  (hQ:∀h' x y tk,P1 k x->P2 k y->IsZip h' z TI TO (rawInt s.heap.objs.size)->IsPair h' TO x y->S1 (k+1) h'->S2 (k+1) h'->IsPair h' s.heap.objs.size x y ->
   (∀c o,c≠z->c≠TO->c≠i1->c≠i2->s.heap.get? c=some o->h'.get? c=some o)->Q (.ref s.heap.objs.size) { s with heap:=h',toks:=tk }) :
  wpAny (model prog w) A (Builtin.«zip.__next__» ⟨[.ref z],[]⟩) (λfin s'=>∃v,fin=.done (.ret v)/\Q v s') E s:=by
 refine wpAny_bind (m:=field (.ref z) 2) (wpAny_field h rfl (x:=.bool false) rfl ?_);refine wpAny_bind (m:=field (.ref z) 3) (wpAny_field h rfl (x:=.ref TI) rfl ?_);refine wpAny_bind (wpAny_seqItems X rfl ?_);refine wpAny_bind (m:=Builtin.SmallTypes.ownedTupleIsFree (.ref z)) ?_;unfold Builtin.SmallTypes.ownedTupleIsFree;refine wpAny_bind (wpAny_field h rfl (x:=.none) rfl (wpAny_pure ?_));rw[if_pos (by rfl)];refine wpAny_bind (wpAny_rule (wpAny_bind (wpAny_field h rfl (x:=.ref TO) rfl (wpAny_bind (wpAny_setField_rec h (by simp) λg1 F e1=>?_)))));have F:IsZip g1 z TI TO .ellipsis:=F;refine wpAny_bind ?_;simp only[List.zipIdx_cons,List.zipIdx_nil,NY,List.forIn_nil];refine wpAny_bind (wpAny_bind (wpAny_onRaise (wpAny_bind (m:=Builtin.SmallTypes.nextOf (.ref i1)) ?_)));have u1:S1 k g1:=n.frame _ _ _ C λb f o e=>(e1.2 b (Z.a1 b f).1).trans e
 refine n.item k { s with heap:=g1 } _ _ k1 u1 λx g2 N px v1 e2=>wpAny_pure ?_
 have O:IsPair g2 TO a b:=(e2.2 TO Z.TO1).trans ((e1.2 TO Z.TOz).trans Y);refine wpAny_bind (wpAny_seqItems (s:={ s with heap:=g2,toks:=N }) O rfl (wpAny_bind (wpAny_updateSeq_pair O λG H i=>?_)));have H:IsPair G TO x b:=H;refine wpAny_bind (wpAny_letGo (wpAny_pure (wpAny_bind (wpAny_bind (wpAny_onRaise (wpAny_bind (m:=Builtin.SmallTypes.nextOf (.ref i2)) ?_))))));have u2:S2 k G:=p.frame _ _ _ D λb f o e=>(i.2 b (Z.a2 b f).2.1).trans ((e2.2 b (Z.a2 b f).2.2).trans ((e1.2 b (Z.a2 b f).1).trans e))
 refine p.item k { s with heap:=G,toks:=N } _ _ k2 u2 λy P I py v2 j=>wpAny_pure ?_
 have R:IsPair P TO x b:=(j.2 TO Z.TO2).trans H;refine wpAny_bind (wpAny_seqItems (s:={ s with heap:=P,toks:=I }) R rfl (wpAny_bind (wpAny_updateSeq_pair R λg q l=>?_)));have q:IsPair g TO x y:=q;refine wpAny_bind (wpAny_letGo (wpAny_pure (wpAny_pure (wpAny_bind (wpAny_seqItems (s:={ s with heap:=g,toks:=I }) q rfl (wpAny_bind (wpAny_newTuple ?_)))))));have sz:g.objs.size=s.heap.objs.size:=by rw[l.1,j.1,i.1,e2.1,e1.1]
 have S:IsZip g z TI TO .ellipsis:=(l.2 z Z.TOz.symm).trans ((j.2 z Z.z2.symm).trans ((i.2 z Z.TOz.symm).trans ((e2.2 z Z.z1.symm).trans F)));have J:∀c o,c≠z->c≠TO->c≠i1->c≠i2->s.heap.get? c=some o->g.get? c=some o:=λc o c1 r K L e =>
  (l.2 c r).trans ((j.2 c L).trans ((i.2 c r).trans ((e2.2 c K).trans ((e1.2 c c1).trans e))))
 have w1:S1 (k+1) g:=n.frame _ _ _ v1 λb f o e=>(l.2 b (Z.a1 b f).2.1).trans ((j.2 b (Z.a1 b f).2.2).trans ((i.2 b (Z.a1 b f).2.1).trans e))
 have w2:S2 (k+1) g:=p.frame _ _ _ v2 λb f o e=>(l.2 b (Z.a2 b f).2.1).trans e
 have zl:z<g.objs.size:=Mx S;refine wpAny_bind (m:=Builtin.SmallTypes.ownedTupleHandOut (.ref z) (.ref g.objs.size)) ?_;unfold Builtin.SmallTypes.ownedTupleHandOut;have y6:IsZip (g.push { cls:=.type "tuple",data:=.seq #[x,y] }) z TI TO .ellipsis:=M0 _ S;refine wpAny_bind (wpAny_setField_rec y6 (by simp) λg7 M T=>?_);have M:IsZip g7 z TI TO (rawInt g.objs.size):=M;refine wpAny_setField_rec M (by simp) λt u U=>?_
 have u:IsZip t z TI TO (rawInt g.objs.size):=u;have B:∀c o,c≠z->g.get? c=some o->t.get? c=some o:=λc o c1 e=>(U.2 c c1).trans ((T.2 c c1).trans (M0 _ e))
 have W:IsPair t g.objs.size x y:=(U.2 _ (Ng zl)).trans ((T.2 _ (Ng zl)).trans (Mz _ rfl));refine wpAny_pure ⟨_,rfl,?_⟩;rw[sz]at u W;show Q (.ref g.objs.size) _;rw[sz];exact hQ t x y I px py u (B _ _ Z.TOz q) (n.frame _ _ _ w1 λb f o e=>B b o (Z.a1 b f).1 e) (p.frame _ _ _ w2 λb f o e=>B b o (Z.a2 b f).1 e) W λc o c1 r K L e=>B c o c1 (J c o c1 r K L e)
theorem CV (j:Draws prog w A i1 f1 n1 P1 S1) (Z:mf z TI TO i1 i2 f1 f2) {Q:Fin->Shared->Prop} (f:IsZip s.heap z TI TO .none) (r:IsPair s.heap TI (.ref i1) (.ref i2)) (hO:IsPair s.heap TO a b) (g:S1 n1 s.heap)
  (hE:∀h' e,(∀c o,c≠z->c≠TO->c≠i1->c≠i2->s.heap.get? c=some o->h'.get? c=some o)->(∃o,h'.get? e=some o/\o.cls=.type "StopIteration")->E (.ref e) { s with heap:=h' }) :
  wpAny (model prog w) A (Builtin.«zip.__next__» ⟨[.ref z],[]⟩) Q E s:=by
 refine wpAny_bind (m:=field (.ref z) 2) (wpAny_field f rfl (x:=.bool false) rfl ?_);refine wpAny_bind (m:=field (.ref z) 3) (wpAny_field f rfl (x:=.ref TI) rfl ?_);refine wpAny_bind (wpAny_seqItems r rfl ?_);refine wpAny_bind (m:=Builtin.SmallTypes.ownedTupleIsFree (.ref z)) ?_;unfold Builtin.SmallTypes.ownedTupleIsFree;refine wpAny_bind (wpAny_field f rfl (x:=.none) rfl (wpAny_pure ?_));rw[if_pos (by rfl)];refine wpAny_bind (wpAny_rule (wpAny_bind (wpAny_field f rfl (x:=.ref TO) rfl (wpAny_bind (wpAny_setField_rec f (by simp) λg1 h e1=>?_)))));have h:IsZip g1 z TI TO .ellipsis:=h;refine wpAny_bind ?_;simp only[List.zipIdx_cons,List.zipIdx_nil,NY,List.forIn_nil];refine wpAny_bind (wpAny_bind (wpAny_onRaise (wpAny_bind (m:=Builtin.SmallTypes.nextOf (.ref i1)) ?_)));have u1:S1 n1 g1:=j.frame _ _ _ g λb t o e=>(e1.2 b (Z.a1 b t).1).trans e
 refine j.done { s with heap:=g1 } _ _ u1 λg2 e x2 u=>?_
 obtain⟨oe,ge,l⟩:=u;have n:IsZip g2 z TI TO .ellipsis:=x2 _ _ Z.z1.symm h;have i:e≠z:=λq=>by subst q;rw[n]at ge;cases ge;simp at l
 refine wpAny_setField_rec n (by simp) λv _ p=>hE v e (λc o c1 _ y _ q=>(p.2 c c1).trans (x2 _ _ y ((e1.2 c c1).trans q))) ⟨oe,(p.2 e i).trans ge,l⟩
theorem yg (i:Draws prog w A.in1 i1 f1 n1 P1 S1) (j:Draws prog w A.in1 i2 f2 n2 P2 S2) (Z:mf z TI TO i1 i2 f1 f2) {Q:Option Value->Shared->Prop} (g:IsZip s.heap z TI TO .none) (l:IsPair s.heap TI (.ref i1) (.ref i2)) (m:IsPair s.heap TO a b)
  (e:S1 k s.heap) (f:S2 k s.heap) (k1:k<n1) (k2:k<n2)
  (n:∀h' x y tk,P1 k x->P2 k y->IsZip h' z TI TO (rawInt s.heap.objs.size)->IsPair h' TO x y->S1 (k+1) h'->S2 (k+1) h'->IsPair h' s.heap.objs.size x y ->
   (∀c o,c≠z->c≠TO->c≠i1->c≠i2->s.heap.get? c=some o->h'.get? c=some o)->Q (some (.ref s.heap.objs.size)) { s with heap:=h',toks:=tk }):wpAny (model prog w) A (pyNext (.ref z)) Q E s:=by
 have h:s.TypeIs (.ref z) "zip":=⟨_,g,rfl⟩
 unfold pyNext;refine wpAny_bind (wpAny_attempt (wpAny_callSpecial?_slot (name:=Str.ofString "__next__") h F.slot_zip_next (wpAny_call_entry F.slot_zip_next h F.entry_zip_next (CS i j Z g l m e f k1 k2 λh' x y tk p1 p2 c1 p q r t u=>?_) (F.args_zip_next_1 _))));exact wpAny_pure (n h' x y tk p1 p2 c1 p q r t u)
theorem qc (i:Draws prog w A.in1 i1 f1 n1 P1 S1) (Z:mf z TI TO i1 i2 f1 f2) {Q:Option Value->Shared->Prop} (g:IsZip s.heap z TI TO .none) (j:IsPair s.heap TI (.ref i1) (.ref i2)) (l:IsPair s.heap TO a b) (f:S1 n1 s.heap)
  (m:∀h',(∀c o,c≠z->c≠TO->c≠i1->c≠i2->s.heap.get? c=some o->h'.get? c=some o)->Q none { s with heap:=h' }):wpAny (model prog w) A (pyNext (.ref z)) Q E s:=by
 have h:s.TypeIs (.ref z) "zip":=⟨_,g,rfl⟩
 unfold pyNext;refine wpAny_bind (wpAny_attempt (wpAny_callSpecial?_slot (name:=Str.ofString "__next__") h F.slot_zip_next (wpAny_call_entry F.slot_zip_next h F.entry_zip_next (CV i Z g j l f λh' e k0 n=>?_) (F.args_zip_next_1 _))));obtain⟨o,p,hc⟩:=n;exact wpAny_bind (wpAny_isInstance (T:="StopIteration") (b:=true) ⟨o,p,hc⟩ isSubtype_stop (wpAny_pure (m _ k0)))
abbrev zH1 (h:Heap) (t:Addr):Heap:=h.push { cls:=.type "tuple_iterator",data:=.fields #[.ref t,.int 0 0] }
abbrev zH2 (h:Heap) (t l:Addr):Heap:=(zH1 h t).push { cls:=.type "list_iterator",data:=.fields #[.ref l,.int 0 0] }
abbrev zH3 (h:Heap) (t l:Addr):Heap:=(zH2 h t l).push { cls:=.type "tuple",data:=.seq #[.ref h.objs.size,.ref (zH1 h t).objs.size] }
abbrev zH4 (h:Heap) (t l:Addr):Heap:=(zH3 h t l).push { cls:=.type "tuple",data:=.seq #[.none,.none] }
abbrev zH5 (h:Heap) (t l:Addr):Heap:=(zH4 h t l).push { cls:=.type "zip",data:=.fields #[.none,.bool false,.bool false,.ref (zH2 h t l).objs.size,.ref (zH3 h t l).objs.size] }
theorem vc (t l:Addr) (xs ys:Array Value):Meets (Builtin.«zip.__new__» ⟨[.type "zip",.ref t,.ref l],[]⟩) (λ_ R s=>s.heap.IsTuple t xs/\s.heap.IsList l ys/\R (.ok (.ret (.ref (zH4 s.heap t l).objs.size))) { s with heap:=zH5 s.heap t l }) :=
 .of_wp λprog w A R s h=>by
  obtain⟨c,g,d,tk,os⟩:=s;obtain⟨e,hl,h⟩:=h;have sb:isSubtype (.type "zip") (.type "zip")=pure true:=by rw[isSubtype_type];kernel_rfl
  have a:Heap.IsTuple (Shared.heap ⟨c,g,d,tk,os⟩) t xs:=e;have b:Heap.IsList (Shared.heap ⟨c.push { cls:=.type "tuple_iterator",data:=.fields #[.ref t,.int 0 0] },g,d,tk,os⟩) l ys:=Heap.IsList.push hl _
  wp_walk using wpAny_pyIter_tuple a,wpAny_pyIter_list b
  exact⟨_,rfl,h⟩
theorem yo {l:Addr} {xs ys:Array Value} (a:s.heap.IsTuple t xs) (hl:s.heap.IsList l ys) (h:Q (.ref (zH4 s.heap t l).objs.size) { s with heap:=zH5 s.heap t l }) :
  wpAny (model prog w) A (call (.type "zip") [.ref t,.ref l]) Q E s:=by
 refine callType_new F.called_zip (by decide) (F.typeCall_zip_2 _ _) (F.newCall_zip_2 _ _) (λobj=>F.args_object_init_3 obj _ _) F.entry_zip_new (vc t l xs ys) ⟨a,hl,?_⟩;exact⟨⟨_,Mz _ rfl,rfl⟩,h⟩
end
section
variable {σ:L2.St}
theorem Inv.turnLay {t':Nat} {T:Addr} (I:Inv X pins σ H s) (g:∀b∈ch,pU X pins H b) (h:s.heap.objs.size<=T) (k:∀b u,b∉ch->s.heap.get? b=some u->h'.get? b=some u)
  (new:dg X.prog X.w (upd H T o) h' T o):Inv X pins σ (upd H T o) { s with heap:=h',toks:=t' }:=by
 have hn:H T=none:=I.hok.fresh h;have a:∀b u,H b=some u->b∉ch:=λb u e z=>by rw[(g b z).1]at e;cases e
 have neT:∀b u,s.heap.get? b=some u->b≠T:=λb u e=>MB (ME (Mx e) h)
 refine I.step (g':=s.gens) (d':=s.drawn) (ch:=ch) (λb f=>?_) (λb u _ _ hc e _=>k b u hc e) (λb u _ _ hc e _=>⟨u.slots,k b u hc e⟩) (λb u _ e n=>by rw[aA (neT b u e)];exact n)
  (λb u hc e=>⟨u,k b u hc e⟩) (λb xs e=>by rw[aA (aK e hn)];exact e) (λb u v e=>by rw[aA (aK e hn)];exact e) (λb ps e=>by rw[aA (aK e hn)];exact e) (λm hm=>?_) (λb u e=>?_) I.bare
 ·obtain⟨f0,f1,f2,j,l,p⟩:=g b f;exact⟨j,f1,l,p⟩
 ·obtain⟨i,es,t,x,r⟩:=hm;exact⟨i,es,t,k _ i (λz=>(g _ z).2.1 rfl) x,r⟩
 ·by_cases f:b=T
  ·subst f;rw[aH]at e;cases e;exact new
  ·rw[aA f]at e;refine (I.hok b u e).stay (λc v hc q=>k c v ?_ q) (λc q=>by rw[aA (aK q hn)];exact q) (λc xs q=>by rw[aA (aK q hn)];exact q) λc o' w' q=>by rw[aA (aK q hn)];exact q
   rcases hc with z|z
   ·rw[z];exact a b u e
   ·exact a c _ z
theorem Inv.turneds {t':Nat} (I:Inv X pins σ H s) (f:∀b∈ch,pU X pins H b) (k:∀b u,b∉ch->s.heap.get? b=some u->h'.get? b=some u):Inv X pins σ H { s with heap:=h',toks:=t' }:=by
 have a:∀b u,H b=some u->b∉ch:=λb u e z=>by rw[(f b z).1]at e;cases e
 refine I.step (g':=s.gens) (d':=s.drawn) (ch:=ch) (λb h=>?_) (λb u _ _ hc e _=>k b u hc e) (λb u _ _ hc e _=>⟨u.slots,k b u hc e⟩) (λb u _ e n=>n)
  (λb u hc e=>⟨u,k b u hc e⟩) (λb xs e=>e) (λb u v e=>e) (λb ps e=>e) (λm hm=>?_) (λb u e=>?_) I.bare
 ·obtain⟨f0,f1,f2,i,j,l⟩:=f b h;exact⟨i,f1,j,l⟩
 ·obtain⟨g,es,o,p,r⟩:=hm;exact⟨g,es,o,k _ g (λz=>(f _ z).2.1 rfl) p,r⟩
 ·refine (I.hok b u e).stay (λc v hc q=>k c v ?_ q) (λ_ q=>q) λ_ _ q=>q
  rcases hc with z|z
  ·rw[z];exact a b u e
  ·exact a c _ z
end
def Itz (K:PySem.W.Frag) (a b:Addr) (n:Nat):It :=
 ⟨λi H=>i<n/\∃xs ys,SqT K H a xs/\SqL K H b ys/\xs.length=n/\ys.length=n,
  λi H v H'=>∃t x y,v=.ref t/\H t=none/\H'=upd H t (.tup [x,y])/\(∀xs,SqT K H a xs->xs[i]?=some x)/\∀ys,SqL K H b ys->ys[i]?=some y,
  λi H=>i=n/\∃xs ys,SqT K H a xs/\SqL K H b ys/\xs.length=n/\ys.length=n⟩
theorem Ep {tp:Pos} {z TI TO i1 i2:Addr} {n:Nat} (Z:mf z TI TO i1 i2 [i1,a] [i2,b]) :
  Turn P w K (.Tuple elts x1 tp) (Itz K a b n) [z,TI,TO,i1,i2] z (λi h=>IsZip h z TI TO .none/\IsPair h TI (.ref i1) (.ref i2)/\(∃u v,IsPair h TO u v)/\h.IsTupleIter i1 a i/\h.IsListIter i2 b i) where
 mem:=by simp
 obj:=λi h st c hc=>by
  obtain⟨h1,h2,⟨u,v,r⟩,⟨t,j,_,d4⟩,⟨C,m,_,d5⟩⟩:=st;simp only[M7,MI,or_false]at hc;rcases hc with rfl|rfl|rfl|rfl|rfl
  ·exact⟨_,h1,λv q=>by cases q⟩
  ·exact⟨_,h2,λv q=>by cases q⟩
  ·exact⟨_,r,λv q=>by cases q⟩
  ·exact⟨_,j,λv q=>by rw[d4]at q;cases q⟩
  ·exact⟨_,m,λv q=>by rw[d5]at q;cases q⟩
 keep:=λi h h' st k=>by obtain⟨h1,h2,⟨u,v,r⟩,⟨t,j,r4⟩,⟨C,m,r5⟩⟩:=st;exact⟨k z (by simp) _ h1,k TI (by simp) _ h2,⟨u,v,k TO (by simp) _ r⟩,⟨t,k i1 (by simp) _ j,r4⟩,⟨C,k i2 (by simp) _ m,r5⟩⟩
 item:=by
  intro X hP hw hK hc i pins s σ H E I R st hg;subst hP hw hK;obtain⟨hi,xs,ys,S,hy,lx,ly⟩:=hg;obtain⟨h1,h2,⟨u,v,r⟩,D,T⟩:=st;obtain⟨f,U,p,_⟩:=I.tuple S;obtain⟨G,J,p',_⟩:=I.list hy;have la:=U.length;have lb:=J.length;have Y:X.A.in1.handled=none:=I.ok.hd hc;have na:a≠i1:=λq=>by obtain⟨o,g,c,_⟩:=p;obtain⟨t,j,L,_⟩:=D;rw[q,j]at g;cases g;rw[L]at c;exact absurd (Value.type.inj c) (by decide)
  have nb:b≠i2:=λq=>by obtain⟨o,n,g,c,_⟩:=p';obtain⟨C,m,c5,_⟩:=T;rw[q,m]at g;cases g;rw[c5]at c;exact absurd (Value.type.inj c) (by decide)
  have pt:s.heap.IsTuple a f.toArray:=p;refine yg (mI Y i1 a na f.toArray) (Draws.list Y i2 b nb G.toArray) Z h1 h2 r ⟨D,pt⟩ ⟨T,p'.isList⟩ (by simp;omega) (by simp;omega) λh' x y tk px py c1 c2 c3 L c5 c6=>⟨_,rfl,?_⟩
  refine wpAny_letOwnedTupleGo_zip (s:={ s with heap:=h',toks:=tk }) c1 λh2' d1 d2=>?_
  have zl:z<s.heap.objs.size:=Mx h1;have F:∀c o,c≠z->h'.get? c=some o->h2'.get? c=some o:=λc o hc e=>(d2.2 c hc).trans e
  have nT:s.heap.objs.size≠z:=Ng zl;obtain⟨M,ex,rx⟩:∃M,xs[i]?=some M/\RelV M x:=by
   have l:i<xs.length:=by omega
   obtain⟨u',e1,e2⟩:=U.get (M1 l);refine⟨xs[i],M1 l,?_⟩;have N:f[i]?=some x:=by simpa using px
   rw[e1]at N;cases N;exact e2
  obtain⟨O,ey,ry⟩:∃O,ys[i]?=some O/\RelV O y:=by
   have l:i<ys.length:=by omega
   obtain⟨u',e1,e2⟩:=J.get (M1 l);refine⟨ys[i],M1 l,?_⟩;have Q:G[i]?=some y:=by simpa using py
   rw[e1]at Q;cases Q;exact e2
  have fr:H s.heap.objs.size=none:=I.hok.fresh (Mu _);refine⟨.ref s.heap.objs.size,upd H s.heap.objs.size (.tup [M,O]),?_,rfl,⟨_,M,O,rfl,fr,rfl,λxs' h=>by rw[I.tuple_inj h S];exact ex,λys' h=>by rw[I.list_inj h hy];exact ey⟩,?_,λc B=>?_⟩
  ·refine I.turnLay (t':=tk) (ch:=[z,TI,TO,i1,i2]) R (Mu _) (λc o hn e=>?_) ⟨by show 2<=sizeLine;decide,[x,y],.cons rx (.cons ry .nil),⟨_,F _ _ nT c5,rfl,rfl,_,rfl⟩⟩;simp only[M7,MI,or_false,not_or]at hn;exact F c o hn.1 (c6 c o hn.1 hn.2.2.1 hn.2.2.2.1 hn.2.2.2.2 e)
  ·obtain⟨⟨t,j,r4⟩,_⟩:=c3;obtain⟨⟨C,m,r5⟩,_⟩:=L;exact⟨d1,F _ _ Z.TIz (c6 _ _ Z.TIz Z.TIO Z.TI1 Z.TI2 h2),⟨x,y,F _ _ Z.TOz c2⟩,⟨t,F _ _ Z.z1 j,r4⟩,⟨C,F _ _ Z.z2 m,r5⟩⟩
  ·have h0:=(R c B).1;obtain⟨oc,gc⟩:∃oc,s.heap.get? c=some oc:=by
    simp only[M7,MI,or_false]at B;rcases B with rfl|rfl|rfl|rfl|rfl
    ·exact⟨_,h1⟩
    ·exact⟨_,h2⟩
    ·exact⟨_,r⟩
    ·obtain⟨t,j,_⟩:=D;exact⟨_,j⟩
    ·obtain⟨C,m,_⟩:=T;exact⟨_,m⟩
   rw[aA (MB (Mx gc))];exact h0
 done:=by
  intro X hP hw hK hc i pins s σ H E I R st hg;subst hP hw hK;obtain⟨hi,xs,ys,S,hy,lx,ly⟩:=hg;obtain⟨h1,h2,⟨u,v,r⟩,D,T⟩:=st;obtain⟨f,U,p,_⟩:=I.tuple S;have la:=U.length;have Y:X.A.in1.handled=none:=I.ok.hd hc;have na:a≠i1:=λq=>by obtain⟨o,g,c,_⟩:=p;obtain⟨t,j,L,_⟩:=D;rw[q,j]at g;cases g;rw[L]at c;exact absurd (Value.type.inj c) (by decide)
  have pt:s.heap.IsTuple a f.toArray:=p;have e:f.toArray.size=i:=by simp;omega
  refine qc (mI Y i1 a na f.toArray) Z h1 h2 r ⟨by rw[e];exact D,pt⟩ λh' k=>⟨rfl,?_⟩
  refine I.turneds (t':=s.toks) (ch:=[z,TI,TO,i1,i2]) R λc o hn q=>?_
  simp only[M7,MI,or_false,not_or]at hn;exact k c o hn.1 hn.2.2.1 hn.2.2.2.1 hn.2.2.2.2 q
 self:=λ_ _ _ _ _ st h=>wpAny_pyIter_zip st.1 h
theorem boot_zip:bootBuiltins "zip"=some (.type "zip"):=by decide +kernel
def L5 (K:PySem.W.Frag) (ta:TA):TI:=λσ H R=>ta σ H λvs H1=>∃a b xs ys,vs=[.ref a,.ref b]/\SqT K H1 a xs/\SqL K H1 b ys/\ys.length=xs.length/\R (Itz K a b xs.length) H1
theorem Jm {A:Pos} {a b:Expr} (B:Gl X "zip") (hm:X.mg "zip"=none) (ha:PA X [a,b] ta) (C:starEach [a,b] X.env=[(false,eval a X.env),(false,eval b X.env)]:=by rfl) (r:starEach [b] X.env=[(false,eval b X.env)]:=by rfl) :
  PI X (.Tuple elts x1 A) (.Call (.Name "zip" p) [a,b] [] pos) (L5 X.K ta):=by
 intro pins s σ H R I h;refine Call_ (gp I B hm boot_zip (PyProof.Rows.callWith_type1 (thn (ha pos pins s σ H _ I h) λus f v=>?_) (by rw[C,r]) (by rw[r];rfl)));obtain⟨vs,H1,t,D,E⟩:=v;obtain⟨l,m,xs,ys,e,F,G,hl,q⟩:=E;subst e;obtain⟨u1,u2,e1,J,L⟩:=vals2 D;subst e1;cases J;cases L;obtain⟨w,rv,pt,_⟩:=t.tuple F;obtain⟨jts,rw',pl,_⟩:=t.list G;have u:f.heap.IsTuple l w.toArray:=pt;have x:l<f.heap.objs.size:=by obtain⟨_,g,_⟩:=u;exact Mx g
 have bl:m<f.heap.objs.size:=by obtain⟨_,_,g,_⟩:=pl;exact Mx g
 refine yo u pl.isList ?_;have z1:(zH1 f.heap l).objs.size=f.heap.objs.size+1:=Heap.size_push ..;have z2:(zH2 f.heap l m).objs.size=f.heap.objs.size+2:=by rw[Heap.size_push,z1]
 have z3:(zH3 f.heap l m).objs.size=f.heap.objs.size+3:=by rw[Heap.size_push,z2]
 have y:(zH4 f.heap l m).objs.size=f.heap.objs.size+4:=by rw[Heap.size_push,z3]
 have z:IsZip (zH5 f.heap l m) (zH4 f.heap l m).objs.size (zH2 f.heap l m).objs.size (zH3 f.heap l m).objs.size .none:=Mz _ rfl;have M:IsPair (zH5 f.heap l m) (zH3 f.heap l m).objs.size .none .none:=M0 _ (Mz _ rfl);have N:IsPair (zH5 f.heap l m) (zH2 f.heap l m).objs.size (.ref f.heap.objs.size) (.ref (zH1 f.heap l).objs.size):=M0 _ (M0 _ (Mz _ rfl));have g2:(zH5 f.heap l m).IsListIter (zH1 f.heap l).objs.size m 0:=⟨_,M0 _ (M0 _ (M0 _ (Mz _ rfl))),rfl,rfl⟩
 have g1:(zH5 f.heap l m).IsTupleIter f.heap.objs.size l 0:=⟨_,M0 _ (M0 _ (M0 _ (M0 _ (Mz _ rfl)))),rfl,rfl⟩
 have O:∀c o,f.heap.get? c=some o->(zH5 f.heap l m).get? c=some o:=λc o e=>M0 _ (M0 _ (M0 _ (M0 _ (M0 _ e))))
 have P:Inv X pins σ H1 { f with heap:=zH5 f.heap l m }:=t.kept (t':=f.toks) O;have Z:mf (zH4 f.heap l m).objs.size (zH2 f.heap l m).objs.size (zH3 f.heap l m).objs.size f.heap.objs.size (zH1 f.heap l).objs.size [f.heap.objs.size,l] [(zH1 f.heap l).objs.size,m]:=by
  rw[z1,z2,z3,y];have n:∀i j:Nat,i≠j->f.heap.objs.size+i≠f.heap.objs.size+j:=λi j h q=>h (Nat.add_left_cancel q)
  refine⟨n 2 4 (by decide),n 3 4 (by decide),n 0 4 (by decide),n 1 4 (by decide),n 2 3 (by decide),n 2 0 (by decide),n 2 1 (by decide),n 3 0 (by decide),n 3 1 (by decide),n 0 1 (by decide),λc hc=>?_,λc hc=>?_⟩
  ·simp only[M7,MI,or_false]at hc;rcases hc with rfl|rfl
   ·exact⟨n 0 4 (by decide),n 0 3 (by decide),n 0 1 (by decide)⟩
   ·exact⟨MB (ME x (Nh _ _)),MB (ME x (Nh _ _)),MB (ME x (Nh _ _))⟩
  ·simp only[M7,MI,or_false]at hc;rcases hc with rfl|rfl
   ·exact⟨n 1 4 (by decide),n 1 3 (by decide),n 1 0 (by decide)⟩
   ·exact⟨MB (ME bl (Nh _ _)),MB (ME bl (Nh _ _)),MB bl⟩
 have big:∀c∈[(zH4 f.heap l m).objs.size,(zH2 f.heap l m).objs.size,(zH3 f.heap l m).objs.size,f.heap.objs.size,(zH1 f.heap l).objs.size],f.heap.objs.size<=c:=λc hc=>by
  simp only[M7,MI,or_false]at hc;rcases hc with rfl|rfl|rfl|rfl|rfl
  ·rw[y];exact Nh _ _
  ·rw[z2];exact Nh _ _
  ·rw[z3];exact Nh _ _
  ·exact Mu _
  ·rw[z1];exact Nh _ _
 refine wpAny_pyIter_zip z ⟨_,_,_,_,H1,rfl,P,Ep Z,⟨z,N,⟨_,_,M⟩,g1,g2⟩,λc hc=>?_,q⟩;exact t.fpOk (big c hc) (t.hok.fresh (big c hc))
inductive Rs (α:Type) where
 |ok (a:α)
 |rz (C:Addr)
 |no
namespace Rs
def bind {α β:Type}:Rs α->(α->Rs β)->Rs β
 |ok a,f=>f a
 |rz C,_=>rz C
 |no,_=>no
def fc {α:Type}:Option α->Rs α
 |some a=>ok a
 |none=>no
def calm {α:Type}:Rs α->Rs α
 |ok a=>ok a
 |_=>no
@[simp]theorem ag (a:α) (f:α->Rs β):(ok a).bind f=f a:=rfl
@[simp]theorem eP (C:Addr) (f:α->Rs β):(rz C).bind f=rz C:=rfl
@[simp]theorem bH (f:α->Rs β):(no:Rs α).bind f=no:=rfl
@[simp]theorem ai (a:α):fc (some a)=ok a:=rfl
@[simp]theorem Io:fc (none:Option α)=no:=rfl
@[simp]theorem dz (a:α):(ok a).calm=ok a:=rfl
end Rs
variable {gf:List PyData->Rs PyData}
def del (H:Hp) (A:List Addr):Hp:=λb=>if b∈A then none else H b
theorem zR:del H []=H:=by funext b;simp[del]
theorem gW (h:b∈A):del H A b=none:=by simp[del,h]
theorem aP (h:b∉A):del H A b=H b:=by simp[del,h]
theorem bf (h:del H A b=some o):b∉A/\H b=some o:=by
 by_cases z:b∈A
 ·rw[gW z]at h;cases h
 ·rw[aP z]at h;exact⟨z,h⟩
theorem aB:ax (del H A) H:=λ_ _ e=>(bf e).2
theorem ax.del (s:ax H H'):ax (del H A) (L2.del H' A):=λb o e=>by obtain⟨z,e⟩:=bf e;rw[aP z];exact s b o e
def Ja:HO->Bool
 |.lst _=>true
 |.dK _=>true
 |.dT _=>true
 |_=>false
def Ls (H:Hp) (A:List Addr):Prop:=∀a∈A,∃o,H a=some o/\Ja o=true
theorem Ls.same (h:Ls H A) (s:ax H H'):Ls H' A:=λa ha=>by obtain⟨o,e,q⟩:=h a ha;exact⟨o,s _ _ e,q⟩
theorem Ls.nil:Ls H []:=λ_ h=>by cases h
theorem Ls.new {p:Addr} (h:Ls H A) (a:H p=none):p∉A:=λz=>by obtain⟨xs,e,_⟩:=h p z;rw[a]at e;cases e
def ao (ns:List Int):PyData:=.dict [(.none,.list (ns.map .int))]
abbrev dtK (l:List ((Int×Int)×Int)):List (PyData×PyData):=(.bool true,.none)::l.map λp=>(.tuple [.int p.1.1,.int p.1.2],.int p.2)
abbrev dtO (l:List ((Int×Int)×Int)):HO:=.dT (l.map λp=>([.inl p.1.1,.inl p.1.2],V.int p.2))
def HX (kvs:List (PyData×PyData)) (o:HO):Prop:=(∃l:List (Int×Int),kvs=l.map (λp=>(PyData.int p.1,PyData.int p.2))/\o=.dK (l.map λp=>(.inl p.1,V.int p.2)))\/∃l,kvs=dtK l/\o=dtO l
mutual
def Is (K:PySem.W.Frag) (H:Hp):PyData->V->Prop
 |.none,v=>v=.non
 |.bool b,v=>v=.bl b
 |.int i,v=>v=.int i
 |.str x,v=>v=.str x
 |.list ds,v=>∃a xs,v=.ref a/\H a=some (.lst xs)/\Iss K H ds xs
 |.tuple ds,v=>∃a xs,v=.ref a/\H a=some (.tup xs)/\Iss K H ds xs
 |.dict kvs,v=>((∃a ns,v=.ref a/\kvs=[(PyData.none,PyData.list (List.map PyData.int ns))]/\SqL K H a (List.map V.int ns)) \/
  ∃(a:Addr) (o:HO),v=.ref a/\HX kvs o/\H a=some o) \/
  ∃(a C dx:Addr) (fs:List (Str×V)),v=.ref a/\H a=some (.ins C dx fs)/\fs.lookup ("@":Str)=none/\(Isk K H kvs (("",.int (C:Int))::fs)\/Isk K H kvs (("",.int (C:Int))::("@",.int (a:Int))::fs))
def Iss (K:PySem.W.Frag) (H:Hp):List PyData->List V->Prop
 |[],vs=>vs=[]
 |d::ds,vs=>∃v r,vs=v::r/\Is K H d v/\Iss K H ds r
def Isk (K:PySem.W.Frag) (H:Hp):List (PyData×PyData)->List (Str×V)->Prop
 |[],fs=>fs=[]
 |(k,d)::r,fs=>∃f v fs',fs=(f,v)::fs'/\k=.str f/\Is K H d v/\Isk K H r fs'
end
def cA (C a:Addr) (fds:List (Str×PyData)):PyData:=.dict ((.str "",.int (C:Int))::(.str "@",.int (a:Int))::fds.map λp=>(.str p.1,p.2))
def DF (C:Addr) (fds:List (Str×PyData)):PyData:=.dict ((.str "",.int (C:Int))::fds.map λp=>(.str p.1,p.2))
section
theorem bP {i:Int}:Is K H (.int i) (.int i):=by unfold Is;rfl
theorem is_bool {b:Bool}:Is K H (.bool b) (.bl b):=by unfold Is;rfl
theorem is_none:Is K H .none .non:=by unfold Is;rfl
theorem DJ:Is K H (.str x) (.str x):=by unfold Is;rfl
theorem iz (h:H a=some (.tup xs)) (h2:Iss K H ds xs):Is K H (.tuple ds) (.ref a):=by unfold Is;exact⟨a,xs,rfl,h,h2⟩
theorem jC (h:H a=some (.lst xs)) (h2:Iss K H ds xs):Is K H (.list ds) (.ref a):=by unfold Is;exact⟨a,xs,rfl,h,h2⟩
theorem BB (h:SqL K H a (ns.map V.int)):Is K H (ao ns) (.ref a):=by unfold ao Is;exact .inl (.inl ⟨a,ns,rfl,rfl,h⟩)
theorem cR:Iss K H [] []:=by unfold Iss;rfl
theorem cG {d:PyData} (h:Is K H d v) (h2:Iss K H ds vs):Iss K H (d::ds) (v::vs):=by unfold Iss;exact⟨v,vs,rfl,h,h2⟩
theorem i8 {d:PyData} (h:Is K H d v):Iss K H [d] [v]:=cG h cR
theorem Is.ofInt {i:Int} (h:Is K H (.int i) v):v=.int i:=by unfold Is at h;exact h
theorem Is.ofBool {i:Bool} (h:Is K H (.bool i) v):v=.bl i:=by unfold Is at h;exact h
theorem Is.ofNone (h:Is K H .none v):v=.non:=by unfold Is at h;exact h
theorem Is.ofStr (h:Is K H (.str x) v):v=.str x:=by unfold Is at h;exact h
theorem Is.ofTup (h:Is K H (.tuple ds) v):∃a xs,v=.ref a/\H a=some (.tup xs)/\Iss K H ds xs:=by unfold Is at h;exact h
theorem Is.ofLst (h:Is K H (.list ds) v):∃a xs,v=.ref a/\H a=some (.lst xs)/\Iss K H ds xs:=by unfold Is at h;exact h
theorem Is.ofScript (h:Is K H (ao ns) v):∃a,v=.ref a/\SqL K H a (ns.map V.int):=by
 unfold ao Is at h;rcases h with (h|⟨a,l,_,e,_⟩)|⟨a,C,dx,fs,_,_,_,h|h⟩
 case inl.inr=>rcases e with⟨m,e,_⟩|⟨m,e,_⟩ <;> first|(cases e;done)|(cases m <;> cases e)
 case inr.inl=>unfold Isk at h;obtain⟨f,_,_,_,h,_⟩:=h;cases h
 case inr.inr=>unfold Isk at h;obtain⟨f,_,_,_,h,_⟩:=h;cases h
 obtain⟨a,g,e,e2,h⟩:=h;have i:ns.map PyData.int=g.map PyData.int:=by injection e2 with e2 _;injection e2 with _ e2;injection e2
 have j:ns=g:=by
  have inj:∀(a b:List Int),a.map PyData.int=b.map PyData.int->a=b:=by
   intro a
   induction a with
   |nil=>intro b c;cases b with|nil=>rfl|cons _ _=>simp at c
   |cons x r ih =>
    intro b c;cases b with
    |nil=>simp at c
    |cons y s =>simp only[M5,List.cons.injEq,PyData.int.injEq]at c;rw[c.1,ih s c.2]
  exact inj _ _ i
 subst j;exact⟨a,e,h⟩
theorem Iss.nil_of (h:Iss K H [] vs):vs=[]:=by unfold Iss at h;exact h
theorem Iss.cons_of {d:PyData} (h:Iss K H (d::ds) vs):∃v r,vs=v::r/\Is K H d v/\Iss K H ds r:=by unfold Iss at h;exact h
theorem Iss.length:∀{ds:List PyData} {vs:List V},Iss K H ds vs->vs.length=ds.length
 |[],_,h=>by rw[h.nil_of];rfl
 |_::_,_,h=>by obtain⟨v,r,e,_,h2⟩:=h.cons_of;rw[e,MC,MC,Iss.length h2]
mutual
theorem Is.same (e:ax H H'):∀{d:PyData} {v:V},Is K H d v->Is K H' d v
 |.none,_,h=>by unfold Is at h ⊢;exact h
 |.bool _,_,h=>by unfold Is at h ⊢;exact h
 |.int _,_,h=>by unfold Is at h ⊢;exact h
 |.str _,_,h=>by unfold Is at h ⊢;exact h
 |.list ds,_,h=>by unfold Is at h ⊢;obtain⟨a,xs,e1,h1,h2⟩:=h;exact⟨a,xs,e1,e _ _ h1,Iss.same e h2⟩
 |.tuple ds,_,h=>by unfold Is at h ⊢;obtain⟨a,xs,e1,h1,h2⟩:=h;exact⟨a,xs,e1,e _ _ h1,Iss.same e h2⟩
 |.dict _,_,h=>by
  unfold Is at h ⊢;rcases h with (⟨a,ns,e1,e2,h2⟩|⟨a,l,e1,e2,h2⟩)|⟨a,C,dx,fs,e1,h1,hn,h2|h2⟩
  ·exact .inl (.inl ⟨a,ns,e1,e2,e.seq h2⟩)
  ·exact .inl (.inr ⟨a,l,e1,e2,e _ _ h2⟩)
  ·exact .inr ⟨a,C,dx,fs,e1,e _ _ h1,hn,.inl (Isk.same e h2)⟩
  ·exact .inr ⟨a,C,dx,fs,e1,e _ _ h1,hn,.inr (Isk.same e h2)⟩
theorem Iss.same (e:ax H H'):∀{ds:List PyData} {vs:List V},Iss K H ds vs->Iss K H' ds vs
 |[],_,h=>by unfold Iss at h ⊢;exact h
 |d::ds,_,h=>by unfold Iss at h ⊢;obtain⟨v,r,e1,h1,h2⟩:=h;exact⟨v,r,e1,Is.same e h1,Iss.same e h2⟩
theorem Isk.same (e:ax H H'):∀{ds:List (PyData×PyData)} {fs:List (Str×V)},Isk K H ds fs->Isk K H' ds fs
 |[],_,h=>by unfold Isk at h ⊢;exact h
 |(k,d)::ds,_,h=>by unfold Isk at h ⊢;obtain⟨f,v,r,e1,e2,h1,h2⟩:=h;exact⟨f,v,r,e1,e2,Is.same e h1,Isk.same e h2⟩
end
theorem oC:Isk K H [] []:=by unfold Isk;rfl
theorem dY {f:Str} {d:PyData} {r:List (PyData×PyData)} {fs:List (Str×V)} (h:Is K H d v) (h2:Isk K H r fs):Isk K H ((.str f,d)::r) ((f,v)::fs):=by unfold Isk;exact⟨f,v,fs,rfl,rfl,h,h2⟩
theorem IB {fds:List (Str×PyData)} {fs:List (Str×V)} (h:H a=some (.ins C dx fs)) (hn:fs.lookup ("@":Str)=none) (h2:Isk K H (fds.map λp=>(.str p.1,p.2)) fs):Is K H (DF C fds) (.ref a):=by unfold DF Is;exact .inr ⟨a,C,dx,fs,rfl,h,hn,.inl (dY bP h2)⟩
theorem D5 {fds:List (Str×PyData)} {fs:List (Str×V)} (h:H a=some (.ins C dx fs)) (hn:fs.lookup ("@":Str)=none) (h2:Isk K H (fds.map λp=>(.str p.1,p.2)) fs):Is K H (cA C a fds) (.ref a):=by unfold cA Is;exact .inr ⟨a,C,dx,fs,rfl,h,hn,.inr (dY bP (dY bP h2))⟩
theorem JL (b:Ls H A) (h:H a=some (.tup xs)):del H A a=some (.tup xs):=by rw[aP (λq=>by obtain⟨ys,e2,c⟩:=b a q;rw[h]at e2;cases e2;cases c)];exact h
mutual
theorem Is.dl {A:List Addr} (b:Ls H A):∀{d:PyData} {v:V},fo d=true->Is K H d v->Is K (del H A) d v
 |.none,_,_,h=>by unfold Is at h ⊢;exact h
 |.bool _,_,_,h=>by unfold Is at h ⊢;exact h
 |.int _,_,_,h=>by unfold Is at h ⊢;exact h
 |.str _,_,_,h=>by unfold Is at h ⊢;exact h
 |.list _,_,n,_=>by unfold fo at n;cases n
 |.dict _,_,n,_=>by unfold fo at n;cases n
 |.tuple ds,_,n,h=>by unfold fo at n;obtain⟨a,xs,e,h1,h2⟩:=h.ofTup;subst e;exact iz (JL b h1) (Iss.dl b n h2)
theorem Iss.dl {A:List Addr} (a:Ls H A):∀{ds:List PyData} {vs:List V},kT ds=true->Iss K H ds vs->Iss K (del H A) ds vs
 |[],_,_,h=>by rw[h.nil_of];exact cR
 |d::ds,_,n,h=>by unfold kT at n;obtain⟨n1,n2⟩:=Nb.mp n;obtain⟨v,r,e,h1,h2⟩:=h.cons_of;subst e;exact cG (Is.dl a n1 h1) (Iss.dl a n2 h2)
end
mutual
def aG:PyData->Bool
 |.list ds=>dw ds
 |.tuple ds=>dw ds
 |.dict _=>false
 |_=>true
def dw:List PyData->Bool
 |[]=>true
 |d::ds=>aG d&&dw ds
end
mutual
theorem Is.isd:∀{d:PyData} {v:V},aG d=true->Is K H d v->IsD K H d v
 |.none,_,_,h=>by rw[h.ofNone];exact Dv
 |.bool _,_,_,h=>by rw[h.ofBool];exact D3
 |.int _,_,_,h=>by rw[h.ofInt];exact uz
 |.str _,_,_,h=>by rw[h.ofStr];exact FI
 |.list ds,_,n,h=>by unfold aG at n;obtain⟨a,xs,e,h1,h2⟩:=h.ofLst;subst e;exact ug (SqL.of h1) (Iss.isd n h2)
 |.tuple ds,_,n,h=>by unfold aG at n;obtain⟨a,xs,e,h1,h2⟩:=h.ofTup;subst e;exact Fh (SqT.of h1) (Iss.isd n h2)
 |.dict _,_,n,_=>by unfold aG at n;cases n
theorem Iss.isd:∀{ds:List PyData} {vs:List V},dw ds=true->Iss K H ds vs->ff K H ds vs
 |[],_,_,h=>by rw[h.nil_of];exact pA
 |d::ds,_,n,h=>by unfold dw at n;obtain⟨n1,n2⟩:=Nb.mp n;obtain⟨v,r,e,h1,h2⟩:=h.cons_of;subst e;exact rY (Is.isd n1 h1) (Iss.isd n2 h2)
end
def gD:PyData->Bool
 |.none=>true
 |.bool _=>true
 |.int _=>true
 |.str _=>true
 |_=>false
theorem IsD.is {d:PyData} (n:gD d=true) (h:IsD K H d v):Is K H d v:=by
 cases d with
 |none=>rw[h.ofNone];exact is_none
 |bool _=>rw[h.ofBool];exact is_bool
 |int _=>rw[h.ofInt];exact bP
 |str _=>rw[h.ofStr];exact DJ
 |_=>cases n
theorem yi {d:PyData} (n:gD d=true):fo d=true:=by
 cases d with
 |list _=>cases n
 |tuple _=>cases n
 |dict _=>cases n
 |_=>unfold fo;rfl
theorem Iss.get:∀{ds:List PyData} {vs:List V} {i:Nat} {v:V},Iss K H ds vs->vs[i]?=some v->∃d,ds[i]?=some d/\Is K H d v
 |[],_,i,v,h,e=>by rw[h.nil_of]at e;simp at e
 |d::ds,_,i,v,h,e=>by
  obtain⟨w,r,e1,h1,h2⟩:=h.cons_of;subst e1;cases i with
  |zero=>simp at e;subst e;exact⟨d,rfl,h1⟩
  |succ i=>simpa using Iss.get (i:=i) h2 (by simpa using e)
theorem Iss.getD:∀{ds:List PyData} {vs:List V} {i:Nat} {d:PyData},Iss K H ds vs->ds[i]?=some d->∃v,vs[i]?=some v/\Is K H d v
 |[],_,i,v,h,e=>by simp at e
 |d::ds,_,i,v,h,e=>by
  obtain⟨w,r,e1,h1,h2⟩:=h.cons_of;subst e1;cases i with
  |zero=>simp at e;subst e;exact⟨w,rfl,h1⟩
  |succ i=>simpa using Iss.getD (i:=i) h2 (by simpa using e)
theorem Iss.append:∀{ds es:List PyData} {vs us:List V},Iss K H ds vs->Iss K H es us->Iss K H (ds++es) (vs++us)
 |[],_,_,_,h,h'=>by rw[h.nil_of];exact h'
 |d::ds,es,_,us,h,h'=>by obtain⟨v,r,e,h1,h2⟩:=h.cons_of;subst e;exact cG h1 (Iss.append h2 h')
theorem Iss.take:∀{ds:List PyData} {vs:List V} (n:Nat),Iss K H ds vs->Iss K H (ds.take n) (vs.take n)
 |[],_,n,h=>by rw[h.nil_of];simpa using cR
 |d::ds,_,0,h=>by simpa using cR
 |d::ds,_,n+1,h=>by obtain⟨v,r,e,h1,h2⟩:=h.cons_of;subst e;exact cG h1 (Iss.take n h2)
theorem Iss.drop:∀{ds:List PyData} {vs:List V} (n:Nat),Iss K H ds vs->Iss K H (ds.drop n) (vs.drop n)
 |[],_,n,h=>by rw[h.nil_of];simpa using cR
 |d::ds,_,0,h=>h
 |d::ds,_,n+1,h=>by obtain⟨v,r,e,h1,h2⟩:=h.cons_of;subst e;exact Iss.drop n h2
theorem Iss.set {d:PyData} {v:V} (hv:Is K H d v):∀{ds:List PyData} {vs:List V} (i:Nat),Iss K H ds vs->Iss K H (ds.set i d) (vs.set i v)
 |[],_,n,h=>by rw[h.nil_of];simpa using cR
 |e::ds,_,0,h=>by obtain⟨u,r,z,h1,h2⟩:=h.cons_of;subst z;exact cG hv h2
 |e::ds,_,n+1,h=>by obtain⟨u,r,z,h1,h2⟩:=h.cons_of;subst z;exact cG h1 (Iss.set hv n h2)
theorem Iss.eraseIdx:∀{ds:List PyData} {vs:List V} (i:Nat),Iss K H ds vs->Iss K H (ds.eraseIdx i) (vs.eraseIdx i)
 |[],_,n,h=>by rw[h.nil_of];simpa using cR
 |e::ds,_,0,h=>by obtain⟨u,r,z,h1,h2⟩:=h.cons_of;subst z;exact h2
 |e::ds,_,n+1,h=>by obtain⟨u,r,z,h1,h2⟩:=h.cons_of;subst z;exact cG h1 (Iss.eraseIdx n h2)
theorem Iss.rep {ds:List PyData} {vs:List V} (h:Iss K H ds vs):∀k:Nat,Iss K H (List.replicate k ds).flatten (List.replicate k vs).flatten
 |0=>cR
 |k+1=>by rw[Nr,Nr,Nx,Nx];exact h.append (Iss.rep h k)
theorem vK:∀(ns:List Int),Iss K H (ns.map PyData.int) (ns.map V.int)
 |[]=>cR
 |_::r=>cG bP (vK r)
theorem Iss.ofInts:∀{ns:List Int} {vs:List V},Iss K H (ns.map PyData.int) vs->vs=ns.map V.int
 |[],_,h=>h.nil_of
 |n::r,_,h=>by obtain⟨v,t,e,h1,h2⟩:=h.cons_of;rw[e,h1.ofInt,Iss.ofInts h2];rfl
theorem Iss.ofBools:∀{ns:List Bool} {vs:List V},Iss K H (ns.map PyData.bool) vs->vs=ns.map V.bl
 |[],_,h=>h.nil_of
 |n::r,_,h=>by obtain⟨v,t,e,h1,h2⟩:=h.cons_of;rw[e,h1.ofBool,Iss.ofBools h2];rfl
theorem Is.isNone {d:PyData} (h:Is K H d v):(v=.non)↔d=.none:=by
 cases d with
 |none=>simp[h.ofNone]
 |bool b=>simp[h.ofBool]
 |int i=>simp[h.ofInt]
 |str x=>simp[h.ofStr]
 |list ds=>obtain⟨a,xs,e,_⟩:=h.ofLst;simp[e]
 |tuple ds=>obtain⟨a,xs,e,_⟩:=h.ofTup;simp[e]
 |dict _=>unfold Is at h;rcases h with (⟨a,ns,e,_⟩|⟨a,l,e,_⟩)|⟨a,C,dx,fs,e,_⟩ <;> simp[e]
theorem bL {p:Addr} (h:H p=none):ax H (upd H p o):=hU h
theorem kn {p:Addr} (h:p∈A):del (upd H p o) A=del H A:=by
 funext b;by_cases z:b∈A
 ·rw[gW z,gW z]
 ·rw[aP z,aP z,aA (by rintro rfl;exact z h)]
theorem lA {p:Addr} (b:Ls H A) (a:H p=none) (h:Iss K (del H A) ds xs):Is K (del (upd H p (.tup xs)) A) (.tuple ds) (.ref p) :=
 iz (by rw[aP (b.new a)];exact aH) (h.same (ax.del (bL a)))
theorem ko {p:Addr} (b:Ls H A) (a:H p=none) (h:Iss K (del H A) ds xs):Is K (del (upd H p (.lst xs)) A) (.list ds) (.ref p) :=
 jC (by rw[aP (b.new a)];exact aH) (h.same (ax.del (bL a)))
end
abbrev Ds:=List (Option PyData)
variable {cond:Ds->Rs Bool} {gs:Ds->Rs (List PyData)} {δ:Ds} {tgt:PyData->Option Ds} {ge:Ds->Rs PyData}
structure dC (K:PySem.W.Frag) (H:Hp) (A:List Addr) (δ:Ds) (σ:St):Prop where
 ls:Ls H A
 len:δ.length=σ.length
 get:∀(i:Nat) (d:PyData),δ[i]?=some (some d)->∃v,σ[i]?=some (some v)/\Is K (del H A) d v
theorem dC.same (R:dC K H A δ σ) (s:ax H H'):dC K H' A δ σ :=
 ⟨R.ls.same s,R.len,λi d e=>by obtain⟨v,e1,h⟩:=R.get i d e;exact⟨v,e1,h.same s.del⟩⟩
def hZ (K:PySem.W.Frag) (E:XK) (A:List Addr) (H:Hp) (r:Rs PyData) (Q:VK):Prop:=match r with
 |.ok d=>∀v H',ax H H'->Is K (del H' A) d v->Q v H'
 |.rz C=>∀H',ax H H'->E (.ref C) none H'
 |.no=>False
def L0 (K:PySem.W.Frag) (E:XK) (A:List Addr) (H:Hp) (r:Rs (List PyData)) (Q:List V->Hp->Prop):Prop:=match r with
 |.ok d=>∀v H',ax H H'->Iss K (del H' A) d v->Q v H'
 |.rz C=>∀H',ax H H'->E (.ref C) none H'
 |.no=>False
def wz (E:XK) (H:Hp) (r:Rs Bool) (Q:Bool->Hp->Prop):Prop:=match r with
 |.ok d=>∀H',ax H H'->Q d H'
 |.rz C=>∀H',ax H H'->E (.ref C) none H'
 |.no=>False
def eD (K:PySem.W.Frag) (E:XK) (g:Ds->Rs PyData):TE:=λσ H Q=>∃A δ,dC K H A δ σ/\hZ K E A H (g δ) Q
def aD (K:PySem.W.Frag) (E:XK) (g:Ds->Rs (List PyData)):TA:=λσ H Q=>∃A δ,dC K H A δ σ/\L0 K E A H (g δ) Q
def cD (K:PySem.W.Frag) (E:XK) (g:Ds->Rs Bool):TT:=λσ H Q=>∃A δ,dC K H A δ σ/\wz E H (g δ) Q
def PD (X:Cx) (E:XK) (e:Expr) (g:Ds->Rs PyData):Prop:=PE X e (eD X.K E g)
def PAD (X:Cx) (E:XK) (es:List Expr) (g:Ds->Rs (List PyData)):Prop:=PA X es (aD X.K E g)/\∀δ ds,g δ=.ok ds->ds.length=es.length
def PCD (X:Cx) (E:XK) (e:Expr) (g:Ds->Rs Bool):Prop:=PT X e (cD X.K E g)
def PWD (X:Cx) (E:XK) (e:Expr) (g:Ds->Rs Bool):Prop:=PW X e (cD X.K E g)
theorem PE.imp {t t':TE} (h:PE X e t) (k:∀σ H Q,t' σ H Q->t σ H Q):PE X e t':=λpins s σ H Q I q=>h pins s σ H Q I (k σ H Q q)
theorem PT.imp {t t':TT} (h:PT X e t) (k:∀σ H Q,t' σ H Q->t σ H Q):PT X e t':=λpins s σ H Q I q=>h pins s σ H Q I (k σ H Q q)
theorem PW.imp {t t':TT} (h:PW X e t) (k:∀σ H Q,t' σ H Q->t σ H Q):PW X e t':=λw pins s σ H Q I q=>h w pins s σ H Q I (k σ H Q q)
theorem PA.imp {e:List Expr} {t t':TA} (h:PA X e t) (k:∀σ H Q,t' σ H Q->t σ H Q):PA X e t':=λp pins s σ H Q I q=>h p pins s σ H Q I (k σ H Q q)
theorem PS.imp {e:Stmt} {t t':TS} (h:PS X e t) (k:∀D σ H,t' D σ H->t D σ H):PS X e t':=λpins s σ H D I q=>h pins s σ H D I (k D σ H q)
theorem PSs.imp {e:List Stmt} {t t':TS} (h:PSs X e t) (k:∀D σ H,t' D σ H->t D σ H):PSs X e t':=λpins s σ H D I q=>h pins s σ H D I (k D σ H q)
theorem hZ.mono {r:Rs PyData} {Q:VK} (h:hZ K E A H r Q) (s:ax H H1):hZ K E A H1 r Q:=by
 cases r with
 |ok d=>exact λv H' s' q=>h v H' (s.trans s') q
 |rz C=>exact λH' s'=>h H' (s.trans s')
 |no=>exact h
theorem wz.mono {r:Rs Bool} {Q:Bool->Hp->Prop} (h:wz E H r Q) (s:ax H H1):wz E H1 r Q:=by
 cases r with
 |ok d=>exact λH' s'=>h H' (s.trans s')
 |rz C=>exact λH' s'=>h H' (s.trans s')
 |no=>exact h
theorem eD.run {g:Ds->Rs PyData} {Q:VK} (R:dC K H A δ σ)
  (ok:∀d,g δ=.ok d->∀v H',ax H H'->dC K H' A δ σ->Is K (del H' A) d v->Q v H') (rz:∀C,g δ=.rz C->∀H',ax H H'->E (.ref C) none H') (no:g δ=.no->False):eD K E g σ H Q:=by
 refine⟨A,δ,R,?_⟩;cases e:g δ with
 |ok d=>exact λv H' s q=>ok d e v H' s (R.same s) q
 |rz C=>exact λH' s=>rz C e H' s
 |no=>exact no e
theorem aD.run {g:Ds->Rs (List PyData)} {Q:List V->Hp->Prop} (R:dC K H A δ σ)
  (ok:∀d,g δ=.ok d->∀v H',ax H H'->dC K H' A δ σ->Iss K (del H' A) d v->Q v H') (rz:∀C,g δ=.rz C->∀H',ax H H'->E (.ref C) none H') (no:g δ=.no->False):aD K E g σ H Q:=by
 refine⟨A,δ,R,?_⟩;cases e:g δ with
 |ok d=>exact λv H' s q=>ok d e v H' s (R.same s) q
 |rz C=>exact λH' s=>rz C e H' s
 |no=>exact no e
theorem cD.run {g:Ds->Rs Bool} {Q:Bool->Hp->Prop} (R:dC K H A δ σ)
  (ok:∀d,g δ=.ok d->∀H',ax H H'->dC K H' A δ σ->Q d H') (rz:∀C,g δ=.rz C->∀H',ax H H'->E (.ref C) none H') (no:g δ=.no->False):cD K E g σ H Q:=by
 refine⟨A,δ,R,?_⟩;cases e:g δ with
 |ok d=>exact λH' s=>ok d e H' s (R.same s)
 |rz C=>exact λH' s=>rz C e H' s
 |no=>exact no e
def af (i:Nat):Ds->Rs PyData:=λδ=>match δ[i]? with
 |some (some d)=>.ok d
 |_=>.no
def gC (d:PyData):Ds->Rs PyData:=λ_=>.ok d
def g1 (f:PyData->Option PyData) (a:Ds->Rs PyData):Ds->Rs PyData:=λδ=>(a δ).bind λx=>Rs.fc (f x)
def g2 (f:PyData->PyData->Option PyData) (a b:Ds->Rs PyData):Ds->Rs PyData:=λδ=>(a δ).bind λx=>(b δ).bind λy=>Rs.fc (f x y)
def gF (f:List PyData->Option PyData) (as:Ds->Rs (List PyData)):Ds->Rs PyData:=λδ=>(as δ).bind λds=>Rs.fc (f ds)
def ah:Ds->Rs (List PyData):=λ_=>.ok []
def ae (a:Ds->Rs PyData) (r:Ds->Rs (List PyData)):Ds->Rs (List PyData):=λδ=>(a δ).bind λx=>(r δ).bind λxs=>.ok (x::xs)
def fD (as:Ds->Rs (List PyData)):Ds->Rs PyData:=λδ=>(as δ).bind λds=>.ok (.tuple ds)
def rh (as:Ds->Rs (List PyData)):Ds->Rs PyData:=λδ=>(as δ).bind λds=>.ok (.list ds)
def aq (gf:List PyData->Rs PyData) (as:Ds->Rs (List PyData)):Ds->Rs PyData:=λδ=>(as δ).bind gf
def truth:PyData->Rs Bool
 |.bool b=>.ok b
 |_=>.no
def gT (a:Ds->Rs PyData):Ds->Rs Bool:=λδ=>(a δ).bind truth
def gK (a:Ds->Rs Bool):Ds->Rs Bool:=λδ=>(a δ).bind λb=>.ok (!b)
def AW (a b:Ds->Rs Bool):Ds->Rs Bool:=λδ=>(a δ).bind λx=>if x=true then b δ else .ok false
def cOr (a b:Ds->Rs Bool):Ds->Rs Bool:=λδ=>(a δ).bind λx=>if x=true then .ok true else b δ
def BV (a b:Ds->Rs PyData):Ds->Rs PyData:=λδ=>(a δ).bind λx=>(truth x).bind λt=>if t=true then b δ else .ok (.bool false)
def gOr (a b:Ds->Rs PyData):Ds->Rs PyData:=λδ=>(a δ).bind λx=>(truth x).bind λt=>if t=true then .ok (.bool true) else b δ
def LX (a:Ds->Rs PyData):Ds->Rs PyData:=λδ=>(a δ).bind λx=>(truth x).bind λt=>.ok (.bool (!t))
def gIf (c:Ds->Rs Bool) (a b:Ds->Rs PyData):Ds->Rs PyData:=λδ=>(c δ).bind λx=>if x=true then a δ else b δ
section
variable {a b c:Expr} {ga gb gc:Ds->Rs PyData}
theorem Il (i:Nat) (c:X.N[i]?=some x) (hv:Vis X.env.scope x) (hd:(x==("__debug__":Str))=false)
  (a:(x==("__classdict__":Str))=false):PD X E (.Name x pos) (af i) :=
 (kS c hv hd a).imp λσ H Q b=>by
  obtain⟨A,δ,R,o⟩:=b;unfold af at o;split at o
  ·rename_i d e;obtain⟨v,e1,h⟩:=R.get i d e;exact⟨v,e1,o v H (ax.refl H) h⟩
  ·exact o.elim
theorem Ew {d:PyData} (h:PE X e (tC v)) (hi:∀K H,Is K H d v):PD X E e (gC d):=h.imp λσ H Q a=>(by obtain⟨A,δ,R,o⟩:=a;exact o v H (ax.refl H) (hi _ _))
theorem Jn {i j pos}:PD X E (.Constant (.int i) j pos) (gC (.int i)):=Ew gm λ_ _=>bP
theorem Lo {i j pos}:PD X E (.Constant (.bool i) j pos) (gC (.bool i)):=Ew Ll λ_ _=>is_bool
theorem Iy {j pos}:PD X E (.Constant .none j pos) (gC .none):=Ew HZ λ_ _=>is_none
theorem HB {i j pos}:PD X E (.Constant (.str i) j pos) (gC (.str i)):=Ew JE λ_ _=>DJ
theorem GS {i:Int} (hm:∃t,X.mg x=some (.int i t)) (a:Gl X x) (hd:(x==("__debug__":Str))=false):PD X E (.Name x pos) (gC (.int i)):=by obtain⟨t,hm⟩:=hm;exact Ew (G8 (v:=.int i) a hm ⟨_,rfl⟩ hd) λ_ _=>bP
def OpD (K:PySem.W.Frag) (f:PyData->PyData->Option PyData) (r:R2):Prop :=
 ∀(d1 d2 d:PyData) (x y:V) (H:Hp) (A:List Addr) (Q:VK),f d1 d2=some d->Ls H A->Is K (del H A) d1 x->Is K (del H A) d2 y->(∀v H',ax H H'->Is K (del H' A) d v->Q v H')->r x y H Q
theorem g2.read {r:R2} {Q:VK} (b:OpD K f r) (R:dC K H A δ σ) (o:hZ K E A H (g2 f ga gb δ) Q) :
  tOp r (eD K E ga) (eD K E gb) σ H Q:=by
 unfold g2 at o;refine eD.run R (λd1 e1 v H1 a c h1=>?_) (λC e1 H' s'=>?_) (λe1=>?_)
 ·rw[e1]at o;refine eD.run c (λd2 e2 u H2 s2 R2 h2=>?_) (λC e2 H' s'=>?_) (λe2=>?_)
  ·simp only[Rs.ag,e2]at o;cases e3:f d1 d2 with
   |none=>rw[e3]at o;exact o.elim
   |some d =>rw[e3]at o;exact b d1 d2 d v u H2 A Q e3 R2.ls (h1.same s2.del) h2 λw H' s q=>o w H' (a.trans (s2.trans s)) q
  ·simp only[Rs.ag,e2,Rs.eP]at o;exact o H' (a.trans s')
  ·simp only[Rs.ag,e2,Rs.bH]at o;exact o
 ·rw[e1]at o;exact o H' s'
 ·rw[e1]at o;exact o
theorem g9 {r:R2} (g:OpD X.K f r) (ha:PD X E a ga) (h:PD X E b gb) (mk:∀{ta tb:TE},PE X a ta->PE X b tb->PE X e (tOp r ta tb)):PD X E e (g2 f ga gb) :=
 (mk ha h).imp λσ H Q c=>(by obtain⟨A,δ,R,o⟩:=c;exact g2.read g R o)
theorem l9 {r:R2} (g:OpD X.K f r) (ha:PD X E a ga) (i:PD X E b gb) (mk:∀{ta tb:TE},PE X a ta->PE X b tb->PT X e (Hr (tOp r ta tb))):PCD X E e (gT (g2 f ga gb)) :=
 (mk ha i).imp λσ H Q c=>by
  obtain⟨A,δ,R,o⟩:=c;refine g2.read (Q:=λx H'=>∃k,x=.bl k/\Q k H') g R ?_;unfold gT at o;cases q:g2 f ga gb δ with
  |no=>rw[q]at o;exact o
  |rz C=>rw[q]at o;exact o
  |ok d =>
   rw[q]at o;cases d with
   |bool k=>exact λv H' s h=>⟨k,h.ofBool,o H' s⟩
   |_=>exact o.elim
def dI (f:Int->Int->Option PyData):PyData->PyData->Option PyData
 |.int i,.int j=>f i j
 |_,_=>none
theorem zr {f:Int->Int->Option PyData} {d1 d2 d:PyData} (h:dI f d1 d2=some d):∃i j,d1=.int i/\d2=.int j/\f i j=some d:=by
 unfold dI at h;split at h
 ·exact⟨_,_,rfl,rfl,h⟩
 ·cases h
def gy:=dI λi j=>some (.int (i-j))
def eJ:=dI λi j=>if 0<j then some (.int (i % j)) else none
def iV:=dI λi j=>if 0<j/\j<1073741824 then some (.int (i / j)) else none
def Dt:=dI λi j=>if 0<=j/\j<=1000000/\i.natAbs<2 ^ 64 then some (.int (i ^ j.toNat)) else none
def dLt:=dI λi j=>some (.bool (decide (i<j)))
def dLe:=dI λi j=>some (.bool (decide (i<=j)))
def dGt:=dI λi j=>some (.bool (decide (j<i)))
def dGe:=dI λi j=>some (.bool (decide (j<=i)))
theorem jG {f:Int->Int->PyData} {v:Int->Int->V} (hv:∀i j K H,Is K H (f i j) (v i j)):OpD K (dI λi j=>some (f i j)) (rI0 v):=λd1 d2 d x y H A Q e hA h1 h2 k=>by obtain⟨i,j,rfl,rfl,e⟩:=zr e;cases e;exact⟨i,j,h1.ofInt,h2.ofInt,k _ H (ax.refl H) (hv _ _ _ _)⟩
theorem DD {C a:Int->Int->Prop} [∀i j,Decidable (a i j)] {f:Int->Int->PyData} {v:Int->Int->V} (hc:∀i j,a i j->C i j) (hv:∀i j K H,Is K H (f i j) (v i j)):OpD K (dI λi j=>if a i j then some (f i j) else none) (rI C v):=λd1 d2 d x y H A Q e hA h1 h2 k=>by
 obtain⟨i,j,rfl,rfl,e2⟩:=zr e;by_cases z:a i j
 ·simp only[if_pos z]at e2;cases e2;exact⟨i,j,h1.ofInt,h2.ofInt,hc i j z,k _ H (ax.refl H) (hv _ _ _ _)⟩
 ·simp only[if_neg z]at e2;cases e2
theorem Ig (ha:PD X E a ga) (c:PD X E b gb):PD X E (.BinOp a .Sub b pos) (g2 gy ga gb):=g9 (jG λ_ _ _ _=>bP) ha c (eZ IT)
theorem Km (ha:PD X E a ga) (c:PD X E b gb):PD X E (.BinOp a .Mod b pos) (g2 eJ ga gb):=g9 (DD (λ_ _ h=>h) λ_ _ _ _=>bP) ha c (eZ qa)
theorem IF (ha:PD X E a ga) (c:PD X E b gb):PD X E (.BinOp a .FloorDiv b pos) (g2 iV ga gb):=g9 (DD (C:=Li) (λ_ _ h=>h) λ_ _ _ _=>bP) ha c (eZ Gd)
theorem HM (ha:PD X E a ga) (c:PD X E b gb):PD X E (.BinOp a .Pow b pos) (g2 Dt ga gb):=g9 (DD (C:=K1) (λ_ _ h=>h) λ_ _ _ _=>bP) ha c (eZ Kf)
theorem Ky (ha:PD X E a ga) (c:PD X E b gb):PD X E (.Compare a [.Lt] [b] pos) (g2 dLt ga gb):=g9 (jG λ_ _ _ _=>is_bool) ha c λh1 h2=>oj Ci h1 h2 (jj _)
theorem Lg (ha:PD X E a ga) (c:PD X E b gb):PD X E (.Compare a [.LtE] [b] pos) (g2 dLe ga gb):=g9 (jG λ_ _ _ _=>is_bool) ha c λh1 h2=>oj AB h1 h2 (jj _)
theorem Jj (ha:PD X E a ga) (c:PD X E b gb):PCD X E (.Compare a [.Lt] [b] pos) (gT (g2 dLt ga gb)):=l9 (jG λ_ _ _ _=>is_bool) ha c λh1 h2=>kr Ci h1 h2 (jj _)
theorem JI (ha:PD X E a ga) (c:PD X E b gb):PCD X E (.Compare a [.LtE] [b] pos) (gT (g2 dLe ga gb)):=l9 (jG λ_ _ _ _=>is_bool) ha c λh1 h2=>kr AB h1 h2 (jj _)
theorem Jf (ha:PD X E a ga) (c:PD X E b gb):PCD X E (.Compare a [.Gt] [b] pos) (gT (g2 dGt ga gb)):=l9 (jG λ_ _ _ _=>is_bool) ha c λh1 h2=>kr LI h1 h2 (jj _)
open PySem.SeqAt in
def dEq (x y:PyData):Option PyData:=if aG x&&aG y&&shaped x&&shaped y then some (.bool (PyData.eqv x y)) else none
open PySem.SeqAt in
def dNe (x y:PyData):Option PyData:=if aG x&&aG y&&shaped x&&shaped y then some (.bool (!PyData.eqv x y)) else none
open PySem.SeqAt in
theorem Ej:OpD K dEq (λx y H Q=>∃d e,IsD K H d x/\IsD K H e y/\shaped d=true/\shaped e=true/\Q (.bl (PyData.eqv d e)) H):=λd1 d2 d x y H A Q e hA h1 h2 k=>by
 unfold dEq at e;split at e
 ·rename_i z;simp only[M8]at z;cases e;exact⟨d1,d2,(h1.same aB).isd z.1.1.1,(h2.same aB).isd z.1.1.2,z.1.2,z.2,k _ H (ax.refl H) is_bool⟩
 ·cases e
open PySem.SeqAt in
theorem Kj:OpD K dNe (λx y H Q=>∃d e,IsD K H d x/\IsD K H e y/\shaped d=true/\shaped e=true/\Q (.bl (!PyData.eqv d e)) H):=λd1 d2 d x y H A Q e hA h1 h2 k=>by
 unfold dNe at e;split at e
 ·rename_i z;simp only[M8]at z;cases e;exact⟨d1,d2,(h1.same aB).isd z.1.1.1,(h2.same aB).isd z.1.1.2,z.1.2,z.2,k _ H (ax.refl H) is_bool⟩
 ·cases e
theorem LA (c:X.A.units+64<cLine) (ha:PD X E a ga) (e:PD X E b gb):PD X E (.Compare a [.Eq] [b] pos) (g2 dEq ga gb):=g9 Ej ha e λh1 h2=>oj (xm c) h1 h2 (jj _)
theorem Ih (c:X.A.units+64<cLine) (ha:PD X E a ga) (e:PD X E b gb):PCD X E (.Compare a [.Eq] [b] pos) (gT (g2 dEq ga gb)):=l9 Ej ha e λh1 h2=>kr (xm c) h1 h2 (jj _)
theorem Kc (c:X.A.units+64<cLine) (ha:PD X E a ga) (e:PD X E b gb):PCD X E (.Compare a [.NotEq] [b] pos) (gT (g2 dNe ga gb)):=l9 Kj ha e λh1 h2=>kr (HK c) h1 h2 (jj _)
def eN:PyData->Bool
 |.none=>true
 |_=>false
def m8 (x:PyData):Option PyData:=some (.bool (eN x))
def iu (x:PyData):Option PyData:=some (.bool (!eN x))
theorem g1.read {tt:(VK)->VK} {f:PyData->Option PyData} {Q:VK} (R:dC K H A δ σ) (o:hZ K E A H (g1 f ga δ) Q)
  (b:∀d1 d x H',f d1=some d->Ls H' A->ax H H'->Is K (del H' A) d1 x->(∀v H2,ax H' H2->Is K (del H2 A) d v->Q v H2)->tt Q x H'):eD K E ga σ H (tt Q):=by
 unfold g1 at o;refine eD.run R (λd1 e1 v H1 a c h1=>?_) (λC e1 H' s'=>?_) (λe1=>?_)
 ·simp only[e1,Rs.ag]at o;cases e3:f d1 with
  |none=>rw[e3]at o;exact o.elim
  |some d=>rw[e3]at o;exact b d1 d v H1 e3 c.ls a h1 λw H' s q=>o w H' (a.trans s) q
 ·rw[e1]at o;exact o H' s'
 ·rw[e1]at o;exact o
theorem yq {d:PyData} (h:Is K H d v):decide (v=.non)=eN d:=by
 by_cases z:v=.non
 ·rw[decide_eq_true z,h.isNone.mp z];rfl
 ·rw[decide_eq_false z];have:d≠.none:=λq=>z (h.isNone.mpr q)
  cases d <;> first|(exact absurd rfl this)|rfl
theorem Ik {j pos'} (ha:PD X E a ga):PD X E (.Compare a [.Is] [.Constant .none j pos'] pos) (g1 m8 ga) :=
 (JU (C3 ha)).imp λσ H Q ⟨A,δ,R,o⟩=>g1.read (tt:=λQ x H1=>Q (.bl (decide (x=.non))) H1) R o λd1 d x H' e _ _ h k=>by cases e;rw[yq h];exact k _ H' (ax.refl _) is_bool
theorem xO {t:TE} (h:PT X e (tB t)) (k:∀σ H Q,eD X.K E ga σ H Q->t σ H Q):PCD X E e (gT ga):=h.imp λσ H Q ⟨A,δ,R,o⟩=>k σ H _ ⟨A,δ,R,by
 unfold gT at o;cases q:ga δ with
 |no=>rw[q]at o;exact o
 |rz C=>rw[q]at o;exact o
 |ok d =>
  rw[q]at o;cases d with
  |bool c=>exact λv H' s h=>⟨c,h.ofBool,o H' s⟩
  |_=>exact o.elim⟩
theorem Gk (h:PD X E e ga) (a:∀whole,isTrue e X.env whole=(do let v <-whole;standAt e.pos;holding [v] (truthy v))):PCD X E e (gT ga):=xO (Kb h a) λ_ _ _ h=>h
theorem FN {j pos'} (ha:PD X E a ga):PCD X E (.Compare a [.Is] [.Constant .none j pos'] pos) (gT (g1 m8 ga)) :=
 xO (yP (C3 ha)) λσ H Q ⟨A,δ,R,o⟩=>g1.read (tt:=λQ x H1=>Q (.bl (decide (x=.non))) H1) R o λd1 d x H' e _ _ h k=>by cases e;rw[yq h];exact k _ H' (ax.refl _) is_bool
theorem CH {j pos'} (ha:PD X E a ga):PCD X E (.Compare a [.IsNot] [.Constant .none j pos'] pos) (gT (g1 iu ga)) :=
 xO (yP (Fs ha)) λσ H Q ⟨A,δ,R,o⟩=>g1.read (tt:=λQ x H1=>Q (.bl (!decide (x=.non))) H1) R o λd1 d x H' e _ _ h k=>by cases e;rw[yq h];exact k _ H' (ax.refl _) is_bool
theorem Eu {ca:Ds->Rs Bool} {f:Bool->Rs Bool} {Q:Bool->Hp->Prop} {t:Bool->Hp->Prop} (R:dC K H A δ σ) (o:wz E H ((ca δ).bind f) Q)
  (k:∀b H1,ax H H1->dC K H1 A δ σ->wz E H1 (f b) Q->t b H1):cD K E ca σ H t:=by
 refine cD.run R (λb e H1 a c=>?_) (λC e H' s'=>?_) (λe=>?_)
 ·rw[e]at o;exact k b H1 a c (wz.mono (show wz E H (f b) Q from o) a)
 ·rw[e]at o;exact o H' s'
 ·rw[e]at o;exact o
variable {ca cb:Ds->Rs Bool} {rest:List Expr}
theorem F7 (ha:PCD X E a ca):PCD X E (.UnaryOp .Not a pos) (gK ca):=(IC ha).imp λσ H Q c=>(by obtain⟨A,δ,R,o⟩:=c;exact Eu R o λb H1 s1 R1 o=>o H1 (ax.refl _))
theorem DQ (ha:PCD X E a ca):PWD X E (.BoolOp .And [a] pos) ca:=FO ha
theorem GO (ha:PCD X E a ca):PWD X E (.BoolOp .Or [a] pos) ca:=JR ha
theorem zt (ha:PCD X E a ca) (c:PWD X E (.BoolOp .And (b::rest) pos) cb):PWD X E (.BoolOp .And (a::b::rest) pos) (AW ca cb):=PW.imp (HP ha c) λσ H Q ⟨A,δ,R,o⟩=>Eu R o λb H1 s1 e o=>by
 cases b with
 |true=>exact⟨A,δ,e,o⟩
 |false=>exact o H1 (ax.refl _)
theorem Dp (ha:PCD X E a ca) (c:PWD X E (.BoolOp .Or (b::rest) pos) cb):PWD X E (.BoolOp .Or (a::b::rest) pos) (cOr ca cb):=PW.imp (LH ha c) λσ H Q ⟨A,δ,R,o⟩=>Eu R o λb H1 s1 e o=>by
 cases b with
 |false=>exact⟨A,δ,e,o⟩
 |true=>exact o H1 (ax.refl _)
theorem Hw (h:PWD X E e ca):PCD X E e ca:=PW.pt h
theorem Hq {f:PyData->Rs PyData} {Q:VK} {t:VK} (R:dC K H A δ σ) (o:hZ K E A H ((ga δ).bind f) Q)
  (k:∀d v H1,ax H H1->dC K H1 A δ σ->Is K (del H1 A) d v->hZ K E A H1 (f d) Q->t v H1):eD K E ga σ H t:=by
 refine eD.run R (λd e v H1 a b h1=>?_) (λC e H' s'=>?_) (λe=>?_)
 ·rw[e]at o;exact k d v H1 a b h1 (hZ.mono (show hZ K E A H (f d) Q from o) a)
 ·rw[e]at o;exact o H' s'
 ·rw[e]at o;exact o
theorem qv {d:PyData} {f:Bool->Rs PyData} {Q:VK} (o:hZ K E A H ((truth d).bind f) Q):∃t,d=.bool t/\hZ K E A H (f t) Q:=by
 cases d with
 |bool t=>exact⟨t,rfl,o⟩
 |_=>exact o.elim
theorem JZ {op} (ha:PD X E a ga):PD X E (.BoolOp op [a] pos) ga:=HV ha
theorem IH (ha:PD X E a ga) (c:PD X E (.BoolOp .And (b::rest) pos) gb):PD X E (.BoolOp .And (a::b::rest) pos) (BV ga gb):=(ID ha c).imp λσ H Q ⟨A,δ,R,o⟩=>Hq R o λd v H1 s1 e h1 o=>by
 obtain⟨t,rfl,o⟩:=qv o;refine⟨t,h1.ofBool,?_⟩;cases t with
 |true=>exact⟨A,δ,e,o⟩
 |false=>exact o _ H1 (ax.refl _) is_bool
theorem Lq (ha:PD X E a ga) (c:PD X E (.BoolOp .Or (b::rest) pos) gb):PD X E (.BoolOp .Or (a::b::rest) pos) (gOr ga gb):=(KO ha c).imp λσ H Q ⟨A,δ,R,o⟩=>Hq R o λd v H1 s1 e h1 o=>by
 obtain⟨t,rfl,o⟩:=qv o;refine⟨t,h1.ofBool,?_⟩;cases t with
 |false=>exact⟨A,δ,e,o⟩
 |true=>exact o _ H1 (ax.refl _) is_bool
theorem K2 (hc:PCD X E c ca) (ha:PD X E a ga) (h:PD X E b gb):PD X E (.IfExp c a b pos) (gIf ca ga gb):=(CI hc ha h).imp λσ H Q f=>by
 obtain⟨A,δ,R,o⟩:=f;unfold gIf at o;refine cD.run R (λt e H1 i g=>?_) (λC e H' s'=>?_) (λe=>?_)
 ·rw[e]at o;have o:=hZ.mono (show hZ X.K E A H (if t=true then ga δ else gb δ) Q from o) i;cases t with
  |true=>exact⟨A,δ,g,o⟩
  |false=>exact⟨A,δ,g,o⟩
 ·rw[e]at o;exact o H' s'
 ·rw[e]at o;exact o
def mZ:PyData->Option PyData
 |.int i=>some (.int (-i))
 |_=>none
theorem Ka (ha:PD X E a ga):PD X E (.UnaryOp .USub a pos) (g1 mZ ga):=(Lb Im ha).imp λσ H Q ⟨A,δ,R,o⟩=>g1.read (tt:=λQ x H1=>∃i,x=.int i/\Q (.int (-i)) H1) R o λd1 d x H' e _ _ h k=>by
 cases d1 with
 |int i=>cases e;exact⟨i,h.ofInt,k _ H' (ax.refl _) bP⟩
 |_=>cases e
theorem Hd:PAD X E [] ah:=⟨f9.imp λσ H Q a=>(by obtain⟨A,δ,R,o⟩:=a;exact o [] H (ax.refl _) cR),λδ ds e=>by cases e;rfl⟩
theorem El (ha:PD X E a ga) (b:PAD X E es gs) (f:starEach (a::es) X.env=(false,eval a X.env)::starEach es X.env):PAD X E (a::es) (ae ga gs):=by
 refine⟨(ej ha b.1 f).imp λσ H Q ⟨A,δ,R,o⟩=>?_,λδ ds e=>?_⟩
 ·unfold ae at o;refine eD.run R (λd e v H1 c g h1=>?_) (λC e H' s'=>?_) (λe=>?_)
  ·simp only[e,Rs.ag]at o;refine aD.run g (λds e2 vs H2 s2 R2 h2=>?_) (λC e2 H' s'=>?_) (λe2=>?_)
   ·simp only[e2,Rs.ag]at o;exact o _ H2 (c.trans s2) (cG (h1.same s2.del) h2)
   ·simp only[e2,Rs.eP]at o;exact o H' (c.trans s')
   ·simp only[e2,Rs.bH]at o;exact o
  ·simp only[e,Rs.eP]at o;exact o H' s'
  ·simp only[e,Rs.bH]at o;exact o
 ·unfold ae at e;cases q:ga δ with
  |ok d =>
   cases q2:gs δ with
   |ok l =>simp only[q,q2,Rs.ag]at e;cases e;simp[b.2 δ l q2]
   |rz C=>simp only[q,q2,Rs.ag,Rs.eP]at e;cases e
   |no=>simp only[q,q2,Rs.ag,Rs.bH]at e;cases e
  |rz C=>simp only[q,Rs.eP]at e;cases e
  |no=>simp only[q,Rs.bH]at e;cases e
theorem rW {f:List PyData->Rs PyData} {Q:VK} {t:List V->Hp->Prop} (R:dC K H A δ σ) (o:hZ K E A H ((gs δ).bind f) Q)
  (k:∀ds vs H1,gs δ=.ok ds->ax H H1->dC K H1 A δ σ->Iss K (del H1 A) ds vs->hZ K E A H1 (f ds) Q->t vs H1):aD K E gs σ H t:=by
 refine aD.run R (λd e v H1 a b h1=>?_) (λC e H' s'=>?_) (λe=>?_)
 ·rw[e]at o;exact k d v H1 e a b h1 (hZ.mono (show hZ K E A H (f d) Q from o) a)
 ·rw[e]at o;exact o H' s'
 ·rw[e]at o;exact o
theorem Kl {x1} (h:PAD X E es gs) (hl:es.length<=1000):PD X E (.Tuple es x1 pos) (fD gs):=(Jz h.1).imp λσ H Q ⟨A,δ,R,o⟩=>rW R o λds vs H1 e s1 b h1 o=>by have n:=h.2 δ ds e;have m:=h1.length;exact⟨by rw[sizeLine_eq];omega,λp a=>o _ _ (bL a) (lA b.ls a h1)⟩
theorem IK (h:PAD X E es gs) (hl:es.length<=1000):PD X E (.List es pos) (rh gs):=(yU h.1).imp λσ H Q ⟨A,δ,R,o⟩=>rW R o λds vs H1 e s1 b h1 o=>by have n:=h.2 δ ds e;have m:=h1.length;exact⟨by rw[sizeLine_eq];omega,λp a=>o _ _ (bL a) (ko b.ls a h1)⟩
def spD (K:PySem.W.Frag) (n:Nat) (gf:List PyData->Rs PyData):Sp:=λvs H Q E=>∃A ds,Ls H A/\Iss K (del H A) ds vs/\ds.length=n/\hZ K E A H (gf ds) Q
structure iA (P:Program) (w:World) (K:PySem.W.Frag) (mg:Str->Option Value) (base:Heap) (k:Nat) (x:Str) (n:Nat) (gf:List PyData->Rs PyData):Prop where
 ex:∃f fd ps,gM P w K mg base (CXW P w) k f fd ps (spD K n gf)/\mg x=some (.ref f)/\PySem.W.keepIn K (.ref f)=true/\Binds K fd ps []
theorem wb:Passes (CXW X.prog X.w) X E0:=λ_ _ _ _ _ _ _ a=>(by obtain⟨_,_,_,_,_,_,h,_⟩:=a;exact h.elim)
theorem E2 {k:Nat} (D:iA X.prog X.w X.K X.mg X.base k x (e::es).length gf) (h:cw j X.A) (i:Passes (CXW X.prog X.w) X E) (ha:PAD X E (e::es) gs) (l:k<=j) (m:Gl X x)
  (a:(x==("__debug__":Str))=false) (n:starEach (e::es) X.env=(false,eval e X.env)::starEach es X.env) (b:(backTo pos (starEach es X.env)).any (·.1)=false) :
  PD X E (.Call (.Name x p) (e::es) [] pos) (aq gf gs):=by
 obtain⟨f,fd,ps,F,hm,c,q⟩:=D.ex;refine (Ag F (h.mono l) m hm c q .nil i ha.1 a n b).imp λσ H Q g=>?_
 obtain⟨A,δ,R,o⟩:=g;refine rW R o λds vs H1 e s1 r h1 o=>?_
 refine⟨A,ds,r.ls,by simpa using h1,ha.2 δ ds e,o⟩
def FnD (K:PySem.W.Frag) (f:List PyData->Option PyData) (r:List V->Hp->VK->Prop):Prop :=
 ∀(ds:List PyData) (d:PyData) (vs:List V) (H:Hp) (A:List Addr) (Q:VK),f ds=some d->Ls H A->Iss K (del H A) ds vs->(∀v H',ax H H'->Is K (del H' A) d v->Q v H')->r vs H Q
theorem fT {r:List V->Hp->VK->Prop} {f:List PyData->Option PyData} (a:FnD X.K f r) (ha:PAD X E es gs) (mk:∀{t:TA},PA X es t->PE X e (tCB r t)):PD X E e (gF f gs) :=
 (mk ha.1).imp λσ H Q ⟨A,δ,R,o⟩=>rW R o λds vs H1 e s1 b h1 o=>by
  cases q:f ds with
  |none=>rw[q]at o;exact o.elim
  |some d=>rw[q]at o;exact a ds d vs H1 A Q q b.ls h1 o
end
section
variable {a b c:Expr} {ga gb gc:Ds->Rs PyData}
def Hj (K:PySem.W.Frag):R2:=λx y H Q=>∃a b xs ys,x=.ref a/\y=.ref b/\SqT K H a xs/\SqT K H b ys/\xs.length+ys.length<=sizeLine /\
 (xs=[]->Q (.ref b) H)/\(xs≠[]->ys=[]->Q (.ref a) H)/\(xs≠[]->ys≠[]->∀p,H p=none->Q (.ref p) (upd H p (.tup (xs++ys))))
theorem Gz:OpR X (binaryOp .Add) (Hj X.K):=by
 intro pins s σ H x y v u Q I i j h;obtain⟨a,b,xs,ys,rfl,rfl,ha,l,o,p,q,r⟩:=h;by_cases hx:xs=[]
 ·cases i;cases j;obtain⟨vs,t,p1,_⟩:=I.tuple ha;obtain⟨ws,r2,p2,_⟩:=I.tuple l;obtain⟨⟨cls,dd,data,w⟩,m,hc,n,hd⟩:=id p1;obtain⟨⟨cls2,f,data2,g⟩,c,e,n2,hd2⟩:=id p2;simp only at hc hd e hd2;subst hc hd e hd2;have hv:vs=[]:=t.nil_iff.mpr hx;exact concat_meets ⟨_,m,rfl⟩ ⟨_,c,rfl⟩ noFill_tuple_add seq_tuple_add PySem.F.slot_tuple_add PySem.F.entry_tuple_add (PySem.F.args_tuple_add_2 _ _)
   (tuple_addW0 a b vs.toArray ws.toArray n n2 dd f w g (by simp[hv])) ⟨m,c,⟨.ref b,H,I,rfl,p hx⟩⟩
 ·exact F9 pins s σ H _ _ v u Q I i j ⟨a,b,xs,ys,rfl,rfl,ha,l,hx,o,q hx,r hx⟩
def ba:PyData->PyData->Option PyData
 |.int i,.int j=>some (.int (i+j))
 |.list x,.list y=>if x.length+y.length<=1000000 then some (.list (x++y)) else none
 |.tuple x,.tuple y=>if x.length+y.length<=1000000 then some (.tuple (x++y)) else none
 |_,_=>none
theorem Ge:OpD K ba (λx y H Q=>rI0 (λi j=>.int (i+j)) x y H Q\/KJ x y H Q\/Hj K x y H Q):=λd1 d2 d x y H A Q e h h1 h2 k=>by
 unfold ba at e;split at e
 ·cases e;exact .inl ⟨_,_,h1.ofInt,h2.ofInt,k _ H (ax.refl _) bP⟩
 ·rename_i l1 l2;split at e
  ·rename_i l;cases e;obtain⟨p,xs,rfl,f,a⟩:=h1.ofLst;obtain⟨q,ys,rfl,g,b⟩:=h2.ofLst;refine .inr (.inl ⟨p,q,xs,ys,rfl,rfl,aB _ _ f,aB _ _ g,by rw[a.length,b.length,sizeLine_eq];omega,λr c=>k _ _ (bL c) (ko h c (a.append b))⟩)
  ·cases e
 ·rename_i l1 l2;split at e
  ·rename_i l;cases e;obtain⟨p,xs,rfl,f,a⟩:=h1.ofTup;obtain⟨q,ys,rfl,g,b⟩:=h2.ofTup;refine .inr (.inr ⟨p,q,xs,ys,rfl,rfl,SqT.of (aB _ _ f),SqT.of (aB _ _ g),by rw[a.length,b.length,sizeLine_eq];omega,λz=>?_,λ_ z=>?_,λ_ _ r c=>k _ _ (bL c) (lA h c (a.append b))⟩)
   ·subst z;have:l1=[]:=NG.mp (by rw[<-a.length];rfl);subst this;exact k _ H (ax.refl _) (iz g b)
   ·subst z;have:l2=[]:=NG.mp (by rw[<-b.length];rfl);subst this;rw[N4]at k;exact k _ H (ax.refl _) (iz f a)
  ·cases e
 ·cases e
theorem JB (ha:PD X E a ga) (c:PD X E b gb):PD X E (.BinOp a .Add b pos) (g2 ba ga gb):=g9 Ge ha c (eZ (mD.or (HN.or Gz)))
def dIx:PyData->PyData->Option PyData
 |.list x,.int i=>atI x i
 |.tuple x,.int i=>atI x i
 |_,_=>none
theorem Ah {i:Int} {d:PyData} (h:Iss K H ds vs) (e:atI ds i=some d):∃v,atI vs i=some v/\Is K H d v:=by
 unfold atI at e ⊢;rw[h.length];cases q:ixN ds.length i with
 |none=>rw[q]at e;cases e
 |some j=>rw[q]at e;exact h.getD e
theorem JJ:OpD K dIx (λx y H Q=>Kr K x y H Q\/KS K x y H Q):=λd1 d2 d x y H A Q e hA h1 h2 k=>by
 unfold dIx at e;split at e
 ·obtain⟨p,xs,rfl,a,b⟩:=h1.ofLst;obtain⟨v,ev,hv⟩:=Ah b e;exact .inl ⟨p,xs,_,v,rfl,h2.ofInt,SqL.of (aB _ _ a),ev,k _ H (ax.refl _) hv⟩
 ·obtain⟨p,xs,rfl,a,b⟩:=h1.ofTup;obtain⟨v,ev,hv⟩:=Ah b e;exact .inr ⟨p,xs,_,v,rfl,h2.ofInt,SqT.of (aB _ _ a),ev,k _ H (ax.refl _) hv⟩
 ·cases e
theorem KA (ha:PD X E a ga) (c:PD X E b gb) (e:zB b):PD X E (.Subscript a b pos) (g2 dIx ga gb):=g9 JJ ha c λh1 h2=>Ca (tV.or Ia) h1 h2 e
def b8:List PyData->Option PyData
 |[.list x]=>some (.int x.length)
 |[.tuple x]=>some (.int x.length)
 |_=>none
theorem kz {d:PyData} (h:Iss K H [d] vs):∃v,vs=[v]/\Is K H d v:=by obtain⟨v,r,rfl,h1,h2⟩:=h.cons_of;rw[h2.nil_of];exact⟨v,rfl,h1⟩
theorem E3 {d e:PyData} (h:Iss K H [d,e] vs):∃v u,vs=[v,u]/\Is K H d v/\Is K H e u:=by obtain⟨v,r,rfl,h1,h2⟩:=h.cons_of;obtain⟨u,rfl,a⟩:=kz h2;exact⟨v,u,rfl,h1,a⟩
theorem FA:FnD K b8 (λxs H Q=>∃p ys,xs=[.ref p]/\(SqL K H p ys\/SqT K H p ys)/\Q (.int ys.length) H):=λds d vs H A Q e hA h k=>by
 unfold b8 at e;split at e
 ·cases e;obtain⟨v,rfl,a⟩:=kz h;obtain⟨p,xs,rfl,b,c⟩:=a.ofLst;exact⟨p,xs,rfl,.inl (SqL.of (aB _ _ b)),k _ H (ax.refl _) (by rw[c.length];exact bP)⟩
 ·cases e;obtain⟨v,rfl,a⟩:=kz h;obtain⟨p,xs,rfl,b,c⟩:=a.ofTup;exact⟨p,xs,rfl,.inr (SqT.of (aB _ _ b)),k _ H (ax.refl _) (by rw[c.length];exact bP)⟩
 ·cases e
theorem Ij (hm:X.mg "len"=none) (ha:PAD X E (a::es) gs) (c:Gl X "len") (e:starEach (a::es) X.env=(false,eval a X.env)::starEach es X.env) (b:(backTo pos (starEach es X.env)).any (·.1)=false) :
 PD X E (.Call (.Name "len" p) (a::es) [] pos) (gF b8 gs):=fT FA ha λh=>fU i7 c hm PySem.boot_len h (by decide) (by decide) e b
theorem B9:bootBuiltins "int"=some (.type "int"):=by decide +kernel
theorem wQ:bootBuiltins "tuple"=some (.type "tuple"):=by decide +kernel
theorem tO:bootBuiltins "list"=some (.type "list"):=by decide +kernel
theorem Bc:bootBuiltins "isinstance"=some (.builtin "isinstance"):=by decide +kernel
theorem Jg:bootBuiltins "all"=some (.builtin "all"):=by decide +kernel
theorem JO:bootBuiltins "sum"=some (.builtin "sum"):=by decide +kernel
theorem Jk:bootBuiltins "min"=some (.builtin "min"):=by decide +kernel
theorem Ji:bootBuiltins "max"=some (.builtin "max"):=by decide +kernel
def fF:List PyData->Option (List Int)
 |[]=>some []
 |.int i::r=>(fF r).map (i::·)
 |_::_=>none
theorem d6:∀{ds:List PyData} {ns:List Int},fF ds=some ns->ds=ns.map PyData.int
 |[],_,h=>by cases h;rfl
 |.int i::r,ns,h=>by
  unfold fF at h;cases q:fF r with
  |none=>rw[q]at h;cases h
  |some l=>rw[q]at h;cases h;rw[d6 q];rfl
 |.none::_,_,h=>by cases h
 |.bool _::_,_,h=>by cases h
 |.str _::_,_,h=>by cases h
 |.list _::_,_,h=>by cases h
 |.tuple _::_,_,h=>by cases h
 |.dict _::_,_,h=>by cases h
theorem e9:∀(ns:List Int),fF (ns.map PyData.int)=some ns
 |[]=>rfl
 |n::r=>by rw[M5];unfold fF;rw[e9 r];rfl
def iB:List PyData->Option (List Bool)
 |[]=>some []
 |.bool i::r=>(iB r).map (i::·)
 |_::_=>none
theorem nE:∀{ds:List PyData} {ns:List Bool},iB ds=some ns->ds=ns.map PyData.bool
 |[],_,h=>by cases h;rfl
 |.bool i::r,ns,h=>by
  unfold iB at h;cases q:iB r with
  |none=>rw[q]at h;cases h
  |some l=>rw[q]at h;cases h;rw[nE q];rfl
 |.none::_,_,h=>by cases h
 |.int _::_,_,h=>by cases h
 |.str _::_,_,h=>by cases h
 |.list _::_,_,h=>by cases h
 |.tuple _::_,_,h=>by cases h
 |.dict _::_,_,h=>by cases h
theorem pj:∀(ns:List Bool),iB (ns.map PyData.bool)=some ns
 |[]=>rfl
 |n::r=>by rw[M5];unfold iB;rw[pj r];rfl
def qQ:List PyData->Option PyData
 |[.list x]=>(fF x).map λns=>.int ns.sum
 |_=>none
def n6:List PyData->Option PyData
 |[.list x]=>(iB x).map λns=>.bool (ns.all id)
 |_=>none
theorem GW:FnD K qQ (λxs H Q=>∃(a:Addr) (ns:List Int),xs=[.ref a]/\SqL K H a (ns.map V.int)/\Q (.int ns.sum) H):=λds d vs H A Q e hA h k=>by
 unfold qQ at e;split at e
 ·rename_i x;cases q:fF x with
  |none=>rw[q]at e;cases e
  |some ns =>rw[q]at e;cases e;obtain⟨v,rfl,f⟩:=kz h;obtain⟨p,xs,rfl,b,c⟩:=f.ofLst;rw[d6 q]at c;rw[c.ofInts]at b;exact⟨p,ns,rfl,SqL.of (aB _ _ b),k _ H (ax.refl _) bP⟩
 ·cases e
theorem Fd:FnD K n6 (λxs H Q=>∃(a:Addr) (ns:List Bool),xs=[.ref a]/\SqL K H a (ns.map V.bl)/\Q (.bl (ns.all id)) H):=λds d vs H A Q e hA h k=>by
 unfold n6 at e;split at e
 ·rename_i x;cases q:iB x with
  |none=>rw[q]at e;cases e
  |some ns =>rw[q]at e;cases e;obtain⟨v,rfl,f⟩:=kz h;obtain⟨p,xs,rfl,b,c⟩:=f.ofLst;rw[nE q]at c;rw[c.ofBools]at b;exact⟨p,ns,rfl,SqL.of (aB _ _ b),k _ H (ax.refl _) is_bool⟩
 ·cases e
theorem Jc (hc:X.calm=true) (hm:X.mg "sum"=none) (ha:PAD X E (a::es) gs) (c:Gl X "sum") (e:starEach (a::es) X.env=(false,eval a X.env)::starEach es X.env) (b:(backTo pos (starEach es X.env)).any (·.1)=false) :
 PD X E (.Call (.Name "sum" p) (a::es) [] pos) (gF qQ gs):=fT GW ha λh=>fU (Dz hc) c hm JO h (by decide) (by decide) e b
theorem HA (hc:X.calm=true) (hm:X.mg "all"=none) (ha:PAD X E (a::es) gs) (c:Gl X "all") (e:starEach (a::es) X.env=(false,eval a X.env)::starEach es X.env) (b:(backTo pos (starEach es X.env)).any (·.1)=false) :
 PD X E (.Call (.Name "all" p) (a::es) [] pos) (gF n6 gs):=fT Fd ha λh=>fU (DT hc) c hm Jg h (by decide) (by decide) e b
def kG:List PyData->Option PyData
 |[.int i,.int j]=>some (.int (if j<i then j else i))
 |_=>none
def iS:List PyData->Option PyData
 |[.int i,.int j]=>some (.int (if j>i then j else i))
 |_=>none
theorem CP:FnD K kG (λxs H Q=>∃i j,xs=[.int i,.int j]/\Q (.int (if j<i then j else i)) H):=λds d vs H A Q e hA h k=>by
 unfold kG at e;split at e
 ·cases e;obtain⟨v,u,rfl,h1,h2⟩:=E3 h;rw[h1.ofInt,h2.ofInt];exact⟨_,_,rfl,k _ H (ax.refl _) bP⟩
 ·cases e
theorem Ct:FnD K iS (λxs H Q=>∃i j,xs=[.int i,.int j]/\Q (.int (if j>i then j else i)) H):=λds d vs H A Q e hA h k=>by
 unfold iS at e;split at e
 ·cases e;obtain⟨v,u,rfl,h1,h2⟩:=E3 h;rw[h1.ofInt,h2.ofInt];exact⟨_,_,rfl,k _ H (ax.refl _) bP⟩
 ·cases e
theorem FG (hc:X.calm=true) (hm:X.mg "min"=none) (ha:PAD X E (a::es) gs) (c:Gl X "min") (e:starEach (a::es) X.env=(false,eval a X.env)::starEach es X.env) (b:(backTo pos (starEach es X.env)).any (·.1)=false) :
 PD X E (.Call (.Name "min" p) (a::es) [] pos) (gF kG gs):=fT CP ha λh=>fU (Bn hc) c hm Jk h (by decide) (by decide) e b
theorem Gb (hc:X.calm=true) (hm:X.mg "max"=none) (ha:PAD X E (a::es) gs) (c:Gl X "max") (e:starEach (a::es) X.env=(false,eval a X.env)::starEach es X.env) (b:(backTo pos (starEach es X.env)).any (·.1)=false) :
 PD X E (.Call (.Name "max" p) (a::es) [] pos) (gF iS gs):=fT Ct ha λh=>fU (BH hc) c hm Ji h (by decide) (by decide) e b
def BJ:List PyData->Option PyData
 |[.int i]=>some (.int i)
 |[.bool k]=>some (.int (if k then 1 else 0))
 |_=>none
theorem GF:FnD K BJ (λxs H Q=>(∃i,xs=[.int i]/\Q (.int i) H)\/∃k,xs=[.bl k]/\Q (.int (if k then 1 else 0)) H):=λds d vs H A Q e hA h k=>by
 unfold BJ at e;split at e
 ·cases e;obtain⟨v,rfl,h1⟩:=kz h;rw[h1.ofInt];exact .inl ⟨_,rfl,k _ H (ax.refl _) bP⟩
 ·cases e;obtain⟨v,rfl,h1⟩:=kz h;rw[h1.ofBool];exact .inr ⟨_,rfl,k _ H (ax.refl _) bP⟩
 ·cases e
theorem DW (hm:X.mg "int"=none) (ha:PAD X E (a::es) gs) (c:Gl X "int") (e:starEach (a::es) X.env=(false,eval a X.env)::starEach es X.env) (b:(backTo pos (starEach es X.env)).any (·.1)=false) :
 PD X E (.Call (.Name "int" p) (a::es) [] pos) (gF BJ gs):=fT GF ha λh=>mw Bd c hm B9 h (by decide) (by decide) e b
def fg:List PyData->Option PyData
 |[.list x]=>some (.tuple x)
 |[.tuple x]=>some (.tuple x)
 |_=>none
def vS:List PyData->Option PyData
 |[.list x]=>some (.list x)
 |[.tuple x]=>some (.list x)
 |_=>none
theorem BS:FnD K fg (λxs H Q=>∃p ys,xs=[.ref p]/\((SqL K H p ys/\∀l,H l=none->Q (.ref l) (upd H l (.tup ys)))\/(SqT K H p ys/\Q (.ref p) H))):=λds d vs H A Q e f h k=>by
 unfold fg at e;split at e
 ·cases e;obtain⟨v,rfl,b⟩:=kz h;obtain⟨p,xs,rfl,a,c⟩:=b.ofLst;exact⟨p,xs,rfl,.inl ⟨SqL.of (aB _ _ a),λl hl=>k _ _ (bL hl) (lA f hl c)⟩⟩
 ·cases e;obtain⟨v,rfl,b⟩:=kz h;obtain⟨p,xs,rfl,a,c⟩:=b.ofTup;exact⟨p,xs,rfl,.inr ⟨SqT.of (aB _ _ a),k _ H (ax.refl _) (iz a c)⟩⟩
 ·cases e
theorem Ei:FnD K vS (λxs H Q=>∃p ys,xs=[.ref p]/\(SqL K H p ys\/SqT K H p ys)/\∀l,H l=none->Q (.ref l) (upd H l (.lst ys))):=λds d vs H A Q e f h k=>by
 unfold vS at e;split at e
 ·cases e;obtain⟨v,rfl,a⟩:=kz h;obtain⟨p,xs,rfl,b,c⟩:=a.ofLst;exact⟨p,xs,rfl,.inl (SqL.of (aB _ _ b)),λl hl=>k _ _ (bL hl) (ko f hl c)⟩
 ·cases e;obtain⟨v,rfl,a⟩:=kz h;obtain⟨p,xs,rfl,b,c⟩:=a.ofTup;exact⟨p,xs,rfl,.inr (SqT.of (aB _ _ b)),λl hl=>k _ _ (bL hl) (ko f hl c)⟩
 ·cases e
theorem yx (hm:X.mg "tuple"=none) (ha:PAD X E (a::es) gs) (c:Gl X "tuple") (e:starEach (a::es) X.env=(false,eval a X.env)::starEach es X.env) (b:(backTo pos (starEach es X.env)).any (·.1)=false) :
 PD X E (.Call (.Name "tuple" p) (a::es) [] pos) (gF fg gs):=fT BS ha λh=>mw qS c hm wQ h (by decide) (by decide) e b
theorem Bj (hm:X.mg "list"=none) (ha:PAD X E (a::es) gs) (c:Gl X "list") (e:starEach (a::es) X.env=(false,eval a X.env)::starEach es X.env) (b:(backTo pos (starEach es X.env)).any (·.1)=false) :
 PD X E (.Call (.Name "list" p) (a::es) [] pos) (gF vS gs):=fT Ei ha λh=>mw uT c hm tO h (by decide) (by decide) e b
def k7 (T:String) (d:PyData):Option PyData:=if aG d then some (.bool (um d T)) else none
theorem Bp {T:Str} {b:String} {c:Pos} (hm:X.mg "isinstance"=none) (f:X.mg T=none) (q:bootBuiltins T=some (.type b)) (r:b∈["bool", "int", "list", "tuple"]) (ha:PD X E a ga)
  (s:Gl X "isinstance") (g:Gl X T) (hn:T≠"__name__") (i:(T==("__debug__":Str))=false) (n:starEach [a,.Name T c] X.env=(false,eval a X.env)::starEach [.Name T c] X.env)
  (j:starEach [.Name T c] X.env=(false,eval (.Name T c) X.env)::starEach [] X.env) (l:(backTo pos (starEach [.Name T c] X.env)).any (·.1)=false) :
  PD X E (.Call (.Name "isinstance" p) [a,.Name T c] [] pos) (g1 (k7 b) ga):=by
 refine (fU wW s hm Bc (ej ha (ej (ER (v:=.ty b) g f q rfl hn i) f9 j) n) (by decide) (by decide) n l).imp λσ H Q m=>?_
 obtain⟨A,δ,R,o⟩:=m;refine g1.read (tt:=λQ x H1=>∃d v T,[x,V.ty b]=[v,.ty T]/\IsD X.K H1 d v/\T∈["bool", "int", "list", "tuple"]/\Q (.bl (um d T)) H1) R o λd1 d x H' e _ _ h k=>?_
 unfold k7 at e;split at e
 ·rename_i z;cases e;exact⟨d1,x,b,rfl,(h.same aB).isd z,r,k _ H' (ax.refl _) is_bool⟩
 ·cases e
end
def Bl (K:PySem.W.Frag) (J:It) (ds:List PyData) (G:Hp):Prop:=∀(H1:Hp) (B:List Addr),ax G H1->Ls H1 B->(∀b∈B,G b=none) ->
 (∀i,i<ds.length->J.go i H1)/\J.stop ds.length H1/\∀i x H2,i<ds.length->J.yld i H1 x H2->ax H1 H2/\∃d,ds[i]?=some d/\Is K (del H2 B) d x
def outI (K:PySem.W.Frag) (E:XK) (A:List Addr) (H:Hp) (r:Rs (List PyData)) (R:It->Hp->Prop):Prop:=match r with
 |.ok ds=>∀J H',ax H H'->Bl K J ds (del H' A)->R J H'
 |.rz C=>∀H',ax H H'->E (.ref C) none H'
 |.no=>False
def iD (K:PySem.W.Frag) (E:XK) (g:Ds->Rs (List PyData)):TI:=λσ H R=>∃A δ,dC K H A δ σ/\outI K E A H (g δ) R
def PID (X:Cx) (E:XK) (tg iter:Expr) (g:Ds->Rs (List PyData)):Prop:=PI X tg iter (iD X.K E g)
theorem PI.imp {it:Expr} {t t':TI} (h:PI X tg it t) (k:∀σ H R,t' σ H R->t σ H R):PI X tg it t':=λpins s σ H R I q=>h pins s σ H R I (k σ H R q)
theorem PI.or {it:Expr} {t t':TI} (h:PI X tg it t) (h':PI X tg it t'):PI X tg it (λσ H R=>t σ H R\/t' σ H R):=λpins s σ H R I q=>q.elim (h pins s σ H R I) (h' pins s σ H R I)
section
variable {a:Expr} {ga:Ds->Rs PyData}
def zA:PyData->Rs (List PyData)
 |.list ds=>.ok ds
 |.tuple ds=>.ok ds
 |_=>.no
theorem lF (s:ax G H1) (hB:∀b∈B,G b=none):ax G (del H1 B):=λb o e=>by rw[aP (λz=>by rw[hB b z]at e;cases e)];exact s b o e
theorem BF {p:Addr} (b:G p=some (.lst xs)) (h:Iss K G ds xs):Bl K (Itl K p) ds G:=λH1 B s _ hB=>by have hl:=h.length;have a:SqL K H1 p xs:=SqL.of (s _ _ b);refine⟨λi hi=>⟨xs,xs[i]'(by omega),a,M1 _⟩,⟨xs,a,by omega⟩,λi x H2 hi y=>?_⟩;obtain⟨rfl,y⟩:=y;obtain⟨d,e,hd⟩:=h.get (y xs a);exact⟨ax.refl _,d,e,hd.same (lF s hB)⟩
theorem CC {p:Addr} (b:G p=some (.tup xs)) (h:Iss K G ds xs):Bl K (Itt K p) ds G:=λH1 B s _ hB=>by have hl:=h.length;have a:SqT K H1 p xs:=SqT.of (s _ _ b);refine⟨λi hi=>⟨xs,xs[i]'(by omega),a,M1 _⟩,⟨xs,a,by omega⟩,λi x H2 hi y=>?_⟩;obtain⟨rfl,y⟩:=y;obtain⟨d,e,hd⟩:=h.get (y xs a);exact⟨ax.refl _,d,e,hd.same (lF s hB)⟩
def bG (g:Ds->Rs PyData):Ds->Rs (List PyData):=λδ=>(g δ).bind zA
theorem FK (h:PD X E a ga):PID X E tg a (bG ga):=(PI.or (E1 h) (Jy h)).imp λσ H R c=>by
 obtain⟨A,δ,f,o⟩:=c;unfold bG at o;cases q:ga δ with
 |no=>rw[q]at o;exact o.elim
 |rz C=>rw[q]at o;exact .inl (eD.run f (λd e=>by rw[q]at e;cases e) (λj e H' s=>by rw[q]at e;cases e;exact o H' s) (λe=>by rw[q]at e;cases e))
 |ok d =>
  rw[q]at o;cases d with
  |list ds =>refine .inl (eD.run f (λd e v H1 g l h1=>?_) (λj e=>by rw[q]at e;cases e) (λe=>by rw[q]at e;cases e));rw[q]at e;cases e;obtain⟨p,xs,rfl,b,i⟩:=h1.ofLst;exact⟨p,rfl,⟨xs,SqL.of (aB _ _ b)⟩,o _ H1 g (BF b i)⟩
  |tuple ds =>refine .inr (eD.run f (λd e v H1 g l h1=>?_) (λj e=>by rw[q]at e;cases e) (λe=>by rw[q]at e;cases e));rw[q]at e;cases e;obtain⟨p,xs,rfl,b,i⟩:=h1.ofTup;exact⟨p,rfl,⟨xs,SqT.of (aB _ _ b)⟩,o _ H1 g (CC b i)⟩
  |_=>exact o.elim
def bX (lo:Int) (n:Nat):List PyData:=(List.range n).map λ(i:Nat)=>PyData.int (lo+(i:Int))
theorem dk (lo:Int) (n:Nat):(bX lo n).length=n:=by simp[bX]
theorem xn {lo:Int} {n:Nat}:Bl K (Itr lo n) (bX lo n) G:=λH1 B s _ hB=>by refine⟨λi hi=>by rw[dk]at hi;exact hi,by rw[dk];exact Mu _,λi x H2 hi y=>?_⟩;obtain⟨rfl,rfl⟩:=y;rw[dk]at hi;exact⟨ax.refl _,_,by simp[bX,hi],bP⟩
def FF:List PyData->Rs (List PyData)
 |[.int j]=>if -(2 ^ 62)<=j/\j<2 ^ 62 then .ok (bX 0 j.toNat) else .no
 |_=>.no
def KH:List PyData->Rs (List PyData)
 |[.int i,.int j]=>if -(2 ^ 62)<=i/\i<2 ^ 62/\-(2 ^ 62)<=j/\j<2 ^ 62 then .ok (bX i (j-i).toNat) else .no
 |_=>.no
def fW (g:Ds->Rs (List PyData)):Ds->Rs (List PyData):=λδ=>(g δ).bind FF
def K4 (g:Ds->Rs (List PyData)):Ds->Rs (List PyData):=λδ=>(g δ).bind KH
theorem yu {f:List PyData->Rs (List PyData)} {R:It->Hp->Prop} {t:List V->Hp->Prop} (b:dC K H A δ σ) (o:outI K E A H ((gs δ).bind f) R)
  (k:∀ds vs H1,gs δ=.ok ds->ax H H1->dC K H1 A δ σ->Iss K (del H1 A) ds vs->outI K E A H1 (f ds) R->t vs H1):aD K E gs σ H t:=by
 refine aD.run b (λd e v H1 a c h1=>?_) (λC e H' s'=>?_) (λe=>?_)
 ·rw[e]at o;refine k d v H1 e a c h1 ?_;have o:outI K E A H (f d) R:=o;cases q:f d with
  |ok ds=>rw[q]at o;exact λJ H' s j=>o J H' (a.trans s) j
  |rz C=>rw[q]at o;exact λH' s=>o H' (a.trans s)
  |no=>rw[q]at o;exact o
 ·rw[e]at o;exact o H' s'
 ·rw[e]at o;exact o
theorem xu (hm:X.mg "range"=none) (ha:PAD X E [a] gs) (b:Gl X "range") (c:starEach [a] X.env=[(false,eval a X.env)]) :
  PID X E tg (.Call (.Name "range" p) [a] [] pos) (fW gs):=(Bs b hm ha.1 c).imp λσ H R ⟨A,δ,Rp,o⟩=>yu Rp o λds vs H1 e s1 R1 h1 o=>by
 unfold FF at o;split at o
 ·split at o
  ·rename_i z;obtain⟨v,rfl,h⟩:=kz h1;rw[h.ofInt];exact⟨_,rfl,z.1,z.2,o _ H1 (ax.refl _) xn⟩
  ·exact o.elim
 ·exact o.elim
def TgD (K:PySem.W.Frag) (n0 n:Nat) (tgt:PyData->Option Ds) (g:TG):Prop:=∀(d:PyData) (v:V) (σ a:St) (H:Hp) (A:List Addr) (Q:St->Hp->Prop) (own:Ds),σ.length=n0->a.length=n->Ls H A->Is K (del H A) d v->tgt d=some own ->
 own.length=n/\((∀vs:St,vs.length=n->(∀(i:Nat) e,own[i]?=some (some e)->∃u,vs[i]?=some (some u)/\Is K (del H A) e u)->Q (σ++vs) H)->g v (σ++a) H Q)
def aI:PyData->Option Ds:=λd=>some [some d]
theorem Dh:TgD K n0 1 aI (j6 n0):=λd v σ a H A Q own h1 h2 hA hd e=>by
 cases e;refine⟨rfl,λk=>?_⟩;unfold j6;subst h1;rw[set_own σ none v a h2];refine k _ rfl λi e z=>?_
 match i,z with
 |0,z=>cases z;exact⟨v,rfl,hd⟩
def jI:PyData->Option Ds
 |.tuple [x,y]=>some [some x,some y]
 |_=>none
theorem wJ:TgD K n0 2 jI (L2.JH K 2 (L2.Aw (j6 n0) (L2.Aw (j6 (n0+1)) L2.IL))):=λd v σ a H A Q own h1 h2 hA hd e=>by
 unfold jI at e;split at e
 ·rename_i x y;cases e;refine⟨rfl,λk=>?_⟩;obtain⟨p,xs,rfl,b,c⟩:=hd.ofTup;obtain⟨u,w,rfl,f,hw⟩:=E3 c;subst h1;refine⟨p,_,rfl,SqT.of (aB _ _ b),rfl,u,[w],rfl,w,[],rfl,rfl,?_⟩
  match a,h2 with
  |[s1,s2],_ =>
   have:((σ++[s1,s2]).set σ.length (some u)).set (σ.length+1) (some w)=σ++[some u,some w]:=by rw[Oc _ _ (Mu _),Oc _ _ (by omega)];simp
   rw[this];refine k _ rfl λi e z=>?_
   match i,z with
   |0,z=>cases z;exact⟨u,rfl,f⟩
   |1,z=>cases z;exact⟨w,rfl,hw⟩
 ·cases e
def fe (cond:Ds->Rs Bool) (elt:Ds->Rs PyData) (tgt:PyData->Option Ds) (δ:Ds):List PyData->Rs (List PyData)
 |[]=>.ok []
 |d::r=>match tgt d with
  |none=>.no
  |some own=>(cond (δ++own)).calm.bind λb=>if b=true then (elt (δ++own)).calm.bind λx=>(fe cond elt tgt δ r).bind λxs=>.ok (x::xs) else fe cond elt tgt δ r
def a8 (n0:Nat) (src:Ds->Rs (List PyData)) (cond:Ds->Rs Bool) (elt:Ds->Rs PyData) (tgt:PyData->Option Ds):Ds->Rs (List PyData):=λδ=>if δ.length=n0 then (src δ).bind λds=>if ds.length<=1000000 then fe cond elt tgt δ ds else .no else .no
def bA:Ds->Rs Bool:=λ_=>.ok true
def E6 (K:PySem.W.Frag) (E:XK) (A:List Addr) (H:Hp) (r:Rs (List PyData)) (Q:VK):Prop:=match r with
 |.ok ds=>∀a xs H',H a=none->ax H H'->H' a=some (.lst xs)->Iss K (del H' (a::A)) ds xs->Q (.ref a) H'
 |.rz C=>∀H',ax H H'->E (.ref C) none H'
 |.no=>False
def lD (K:PySem.W.Frag) (E:XK) (g:Ds->Rs (List PyData)):TE:=λσ H Q=>∃A δ,dC K H A δ σ/\E6 K E A H (g δ) Q
def PLD (X:Cx) (E:XK) (e:Expr) (g:Ds->Rs (List PyData)):Prop:=PE X e (lD X.K E g)
def gL (g:Ds->Rs (List PyData)):Ds->Rs PyData:=λδ=>(g δ).bind λds=>.ok (.list ds)
theorem mM {a:Addr}:ax (del H (a::A)) (del H A):=λb o e=>by obtain⟨z,e⟩:=bf e;rw[aP (λq=>z (M4 _ q))];exact e
theorem JP {g:Ds->Rs (List PyData)} (h:PLD X E e g):PD X E e (gL g):=PE.imp h λσ H Q ⟨A,δ,R,o⟩=>⟨A,δ,R,by
 unfold gL at o;cases q:g δ with
 |no=>rw[q]at o;exact o
 |rz C=>rw[q]at o;exact o
 |ok ds =>rw[q]at o;intro a xs H' hn s hl hi;exact o _ H' s (jC (by rw[aP (R.ls.new hn)];exact hl) (hi.same mM))⟩
theorem Fy (h:PAD X E es gs) (hl:es.length<=1000):PLD X E (.List es pos) gs:=(yU h.1).imp λσ H Q a=>by
 obtain⟨A,δ,R,o⟩:=a;refine aD.run R (λds e vs H1 f R1 h1=>?_) (λC e H' s'=>by rw[e]at o;exact o H' s') (λe=>by rw[e]at o;exact o);rw[e]at o;have n:=h.2 δ ds e;have m:=h1.length;refine⟨by rw[sizeLine_eq];omega,λp c=>o p vs _ (f.free c) (f.trans (bL c)) aH (h1.same ?_)⟩;refine λb o e=>?_
 obtain⟨z,e⟩:=bf e;have:b≠p:=aK e c;rw[aP (by simp[this,z]),aA this];exact e
theorem Cw {T:Ds->Rs (List PyData)} {tt:TT} (hT:TgD K n0 own.length tgt g) (U:∀σ H Q,cD K E0 cond σ H Q->tt σ H Q) :
  ∀σ H Q,lD K E (a8 n0 T cond ge tgt) σ H Q->tLC own.length (iD K E T) g tt (eD K E0 ge) σ H Q:=by
 intro σ H Q ⟨A,δ,R,o⟩;unfold a8 at o;by_cases hn0:δ.length=n0
 case neg=>rw[if_neg hn0]at o;exact o.elim
 rw[if_pos hn0]at o;have X:σ.length=n0:=by rw[<-R.len];exact hn0
 refine⟨A,δ,R,?_⟩;cases q:T δ with
 |no=>rw[q]at o;exact o
 |rz C=>rw[q]at o;exact o
 |ok ds =>
  rw[q]at o;have o:E6 K E A H (if ds.length<=1000000 then fe cond ge tgt δ ds else .no) Q:=o;by_cases hz:ds.length<=1000000
  case neg=>rw[if_neg hz]at o;exact o.elim
  rw[if_pos hz]at o;intro J H1 Y hJ D p;have P:=R.same Y;have nD:D∉A:=P.ls.new p;cases qo:fe cond ge tgt δ ds with
  |rz C =>
   exfalso;have:∀l,fe cond ge tgt δ l≠.rz C:=by
    intro l
    induction l with
    |nil=>intro z;cases z
    |cons d r ih =>
     intro z;unfold fe at z;split at z
     ·cases z
     ·rename_i f _;cases c1:cond (δ++f) with
      |ok b =>
       simp only[c1,Rs.dz,Rs.ag]at z;split at z
       ·cases h:ge (δ++f) with
        |ok x =>
         simp only[h,Rs.dz,Rs.ag]at z;cases j:fe cond ge tgt δ r with
         |ok l=>simp only[j,Rs.ag]at z;cases z
         |rz C'=>simp only[j,Rs.eP]at z;cases z;exact ih j
         |no=>simp only[j,Rs.bH]at z;cases z
        |rz C'=>simp only[h,Rs.calm,Rs.bH]at z;cases z
        |no=>simp only[h,Rs.calm,Rs.bH]at z;cases z
       ·exact ih z
      |rz C'=>simp only[c1,Rs.calm,Rs.bH]at z;cases z
      |no=>simp only[c1,Rs.calm,Rs.bH]at z;cases z
   exact this ds qo
  |no=>rw[qo]at o;exact o.elim
  |ok out =>
   rw[qo]at o;have base:ax (del H1 A) (del (upd H1 D (.lst [])) (D::A)):=λb o e=>by obtain⟨z,e⟩:=bf e;have nb:b≠D:=aK e p;rw[aP (by simp[nb,z]),aA nb];exact e
   refine⟨λi m ys H'=>m=ds.length-i/\i<=ds.length/\ax H1 H'/\H' D=some (.lst ys)/\ys.length<=i/\∃w rest,fe cond ge tgt δ (ds.drop i)=.ok rest/\out=w++rest/\Iss K (del H' (D::A)) w ys,
    ⟨ds.length,by simp,Nd _,bL p,aH,Mu _,[],out,qo,rfl,cR⟩,?_⟩
   rintro i m ys H' ⟨rfl,hi,s,hl,hy,w,rest,c1,h,j⟩
   refine⟨hl,?_⟩;have sG:ax (del H1 A) H':=aB.trans s;have B:∀b∈D::A,(del H1 A) b=none:=λb F=>by
    rcases M7.mp F with z|z
    ·rw[z,aP nD];exact p
    ·exact gW z
   obtain⟨jg,js,jy⟩:=hJ H' (D::A) sG (λb F=>by
    rcases M7.mp F with z|z
    ·exact⟨_,by rw[z];exact hl,rfl⟩
    ·exact (P.ls.same s) b z) B
   by_cases hlt:i<ds.length
   ·refine .inr ⟨jg i hlt,λx H2 Z G y=>?_⟩;obtain⟨s2,d,ed,hd⟩:=jy i x H2 hlt y;have edr:ds.drop i=d::ds.drop (i+1):=by
     rw[NZ hlt];have:ds[i]=d:=by have:=M1 hlt;rw[this]at ed;exact Option.some.inj ed
     rw[this]
    rw[edr]at c1;unfold fe at c1;cases et:tgt d with
    |none=>rw[et]at c1;cases c1
    |some ow =>
     rw[et]at c1;have l2:H2 D=some (.lst ys):=s2 _ _ hl;have I:Ls H2 (D::A):=λb F=>by
      rcases M7.mp F with z|z
      ·exact⟨_,by rw[z];exact l2,rfl⟩
      ·exact (P.ls.same (s.trans s2)) b z
     obtain⟨hol,hgo⟩:=hT d x σ Z H2 (D::A) (λc H2=>tt c H2 λb H3 =>
      if b=true then eD K E0 ge c H3 λv L=>L D=some (.lst ys)/\ys.length<sizeLine/\(∃a,c=σ++a/\a.length=own.length)/\∃m',m' < ds.length-i/\_
      else (∃a,c=σ++a/\a.length=own.length)/\∃m',m' < ds.length-i/\_) ow X G I hd et
     refine hgo λvs n M=>?_
     have N:ax (del H1 A) (del H2 (D::A)):=lF (sG.trans s2) B;have RE:dC K H2 (D::A) (δ++ow) (σ++vs):=by
      refine⟨I,by rw[Mv,Mv,R.len,n,hol],λk e S=>?_⟩;by_cases hk:k<δ.length
      ·rw[ML hk]at S;obtain⟨u,e1,hu⟩:=P.get k e S;exact⟨u,by rw[ML (by rw[<-R.len];exact hk)];exact e1,hu.same N⟩
      ·rw[MO (by omega)]at S;obtain⟨u,e1,hu⟩:=M _ e S;exact⟨u,by rw[MO (by rw[<-R.len];omega),<-R.len];exact e1,hu⟩
     have bad:∀r:Rs Bool,r=.rz 0->r.calm=.no:=λr e=>by rw[e];rfl
     refine U _ _ _ (cD.run RE (λb O H3 t R3=>?_) (λC O=>?_) (λO=>?_))
     ·simp only[O,Rs.dz,Rs.ag]at c1;cases b with
      |true =>
       simp only[if_true]at c1;refine eD.run R3 (λxd ex v L s4 R4 hv=>?_) (λC ex=>?_) (λex=>?_)
       ·simp only[ex,Rs.dz,Rs.ag]at c1;cases cr:fe cond ge tgt δ (ds.drop (i+1)) with
        |ok rs =>
         simp only[cr,Rs.ag]at c1;cases c1;have l4:L D=some (.lst ys):=s4 _ _ (t _ _ l2);have dU:del (upd L D (.lst (ys++[v]))) (D::A)=del L (D::A):=kn (M6);refine⟨l4,by rw[sizeLine_eq];omega,⟨vs,rfl,n⟩,ds.length-(i+1),by omega,rfl,hlt,?_,aH,by simp;omega,w++[xd],rs,cr,by rw[h];simp,?_⟩
         ·exact ax.put (((s.trans s2).trans t).trans s4) p
         ·rw[dU];exact (j.same (ax.del (s2.trans (t.trans s4)))).append (i8 hv)
        |rz C=>simp only[cr,Rs.eP]at c1;cases c1
        |no=>simp only[cr,Rs.bH]at c1;cases c1
       ·simp only[ex,Rs.calm,Rs.bH]at c1;cases c1
       ·simp only[ex,Rs.calm,Rs.bH]at c1;cases c1
      |false =>simp only[MJ,if_false]at c1;exact⟨⟨vs,rfl,n⟩,ds.length-(i+1),by omega,rfl,hlt,(s.trans s2).trans t,t _ _ l2,by omega,w,rest,c1,h,j.same (ax.del (s2.trans t))⟩
     ·simp only[O,Rs.calm,Rs.bH]at c1;cases c1
     ·simp only[O,Rs.calm,Rs.bH]at c1;cases c1
   ·have e:i=ds.length:=by omega
    subst e;rw[Ou]at c1;cases c1;rw[N4]at h;subst h;exact .inl ⟨js,o D ys H' (Y.free p) (Y.trans s) hl j⟩
def fQ:Expr->List Str
 |.Name x _=>[x]
 |.Tuple [.Name x _,.Name y _] _ _=>[x,y]
 |_=>[]
def Hs (own N:List Str):List Str:=N.map λx=>bif own.elem x then x++"__" else x
abbrev bk (X:Cx) (tg:Expr) (scope:Scope):=blk X (Hs (fQ tg) X.N) scope (fQ tg)
abbrev JW (X:Cx) (tg:Expr) (scope:Scope):Bool:=rZ X.N (Hs (fQ tg) X.N) X.env.scope scope (fQ tg)
inductive PIf (X:Cx):List Expr->(Ds->Rs Bool)->Prop
 |nil:PIf X [] bA
 |one {c:Expr} {g:Ds->Rs Bool} (h:PCD X E0 c g):PIf X [c] g
def Lc (K:PySem.W.Frag) (ifs:List Expr) (g:Ds->Rs Bool):TT:=match ifs with
 |[]=>wd
 |_=>cD K E0 g
theorem PIf.pts {g:Ds->Rs Bool} (h:PIf X ifs g):PTs X ifs (Lc X.K ifs g):=by
 cases h with
 |nil=>exact .nil
 |one h=>exact .one h
theorem PIf.tt {g:Ds->Rs Bool} (h:PIf X ifs g):∀σ H Q,cD K E0 g σ H Q->Lc K ifs g σ H Q:=by
 cases h with
 |nil=>exact λσ H Q a=>(by obtain⟨A,δ,R,o⟩:=a;exact o H (ax.refl _))
 |one h=>exact λ_ _ _ h=>h
theorem EC {a:Ds->Rs (List PyData)} (hc:X.calm=true) (hi:PID X E tg iter a)
  (c:TgD X.K n0 (fQ tg).length tgt g) (e:∀C s2 H2 fp,PG (bk X tg scope C s2 H2 fp) tg g) (b:∀C s2 H2 fp,PIf (bk X tg scope C s2 H2 fp) ifs cond) (f:∀C s2 H2 fp,PD (bk X tg scope C s2 H2 fp) E0 elt ge)
  (hB:JW X tg scope=true) (h:∀x,foldedSetIterable iter X.env x=pure x):PLD X E (.ListComp elt [⟨tg,iter,ifs,0⟩] scope pos) (a8 n0 a cond ge tgt) :=
 (B2 (own:=fQ tg) (te:=eD X.K E0 ge) hc hi e (λC s2 H2 fp=>(b C s2 H2 fp).pts) (λC s2 H2 fp=>f C s2 H2 fp) hB h).imp (Cw c (PIf.tt (b 0 X.s₀ X.H₀ [])))
def PLS (X:Cx) (E:XK) (i:Nat) (st:Stmt) (a:Ds->Rs (List PyData)):Prop:=PS X st (EH (lD X.K E a) (j6 i))
theorem xc {c:Ds->Rs (List PyData)} (a:swapsWith (.ListComp elt [⟨tg,iter,ifs,0⟩] scope pos) (some (.Name x pos')) spos.line X.env=pure true) (hc:X.calm=true) (f:X.N.Nodup) (hi:PID X E tg iter c)
  (j:TgD X.K n0 (fQ tg).length tgt g) (l:∀C s2 H2 fp,PG (bk X tg scope C s2 H2 fp) tg g) (e:∀C s2 H2 fp,PIf (bk X tg scope C s2 H2 fp) ifs cond) (m:∀C s2 H2 fp,PD (bk X tg scope C s2 H2 fp) E0 elt ge)
  (b:X.N[i]?=some x) (n:Loc X.env.scope x) (hB:JW X tg scope=true) (o:∀x,foldedSetIterable iter X.env x=pure x) (p:X.fn x=true\/X.env.scope.names.lookup x=some .local) :
  PLS X E i (.Assign [.Name x pos'] (.ListComp elt [⟨tg,iter,ifs,0⟩] scope pos) spos) (a8 n0 c cond ge tgt) :=
 PS.imp (pX (own:=fQ tg) (te:=eD X.K E0 ge) hc f b n a hi l (λC s2 H2 fp=>(e C s2 H2 fp).pts) (λC s2 H2 fp=>m C s2 H2 fp) hB o p) λD σ H h=>Cw j (PIf.tt (e 0 X.s₀ X.H₀ [])) σ H _ h
end
inductive Sr where
 |nx (δ:Ds)
 |rt (d:PyData)
 |rz (C:Addr)
 |bk (δ:Ds)
 |ct (δ:Ds)
 |no
def iw (K:PySem.W.Frag) (G:Hp):PyData->HO->Prop
 |.list ds,.lst xs=>Iss K G ds xs
 |.dict kvs,o=>HX kvs o
 |_,_=>False
theorem iw.same {G':Hp} {d:PyData} (h:iw K G d o) (s:ax G G'):iw K G' d o:=by
 unfold iw at h ⊢;split at h
 ·exact Iss.same s h
 ·exact h
 ·exact h.elim
theorem iw.is {d:PyData} (h:iw K G d o) (ha:G a=some o):Is K G d (.ref a):=by
 unfold iw at h;split at h
 ·exact jC ha h
 ·unfold Is;exact .inl (.inr ⟨a,_,rfl,h,ha⟩)
 ·exact h.elim
theorem iw.lst (h:iw K G (.list ds) o):∃xs,o=.lst xs/\Iss K G ds xs:=by
 unfold iw at h;split at h
 ·rename_i e;cases e;exact⟨_,rfl,h⟩
 ·rename_i e;cases e
 ·exact h.elim
structure bY (K:PySem.W.Frag) (H0:Hp) (A0:List Addr) (H:Hp) (A:List Addr) (O:List Nat) (δ:Ds) (σ:St):Prop where
 same:ax H0 H
 ls0:Ls H0 A0
 new:∀a∈A,H0 a=none
 ls:Ls H A
 len:δ.length=σ.length
 pl:∀(i:Nat) d,i∉O->δ[i]?=some (some d)->∃v,σ[i]?=some (some v)/\Is K (del H (A++A0)) d v
 own:∀(i:Nat) d,i∈O->δ[i]?=some (some d)->∃a o d',σ[i]?=some (some (.ref a))/\a∈A/\H a=some o/\d=d'/\iw K (del H (A++A0)) d' o
 inj:∀(i j:Nat) d e a,i∈O->j∈O->δ[i]?=some (some d)->δ[j]?=some (some e)->σ[i]?=some (some (.ref a))->σ[j]?=some (some (.ref a))->i=j
def mask (O:List Nat) (δ:Ds):Ds:=if O=[] then δ else δ.mapIdx λi d=>if i∈O then none else d
theorem lr (δ:Ds):mask [] δ=δ:=by simp[mask]
theorem EJ {d:PyData} (h:(mask O δ)[i]?=some (some d)):i∉O/\δ[i]?=some (some d):=by
 unfold mask at h;split at h
 ·rename_i z;subst z;exact⟨by simp,h⟩
 ·rw[NB]at h;cases q:δ[i]? with
  |none=>rw[q]at h;cases h
  |some x =>
   rw[q]at h;simp only[Nn,Option.some.injEq]at h;by_cases z:i∈O
   ·rw[if_pos z]at h;cases h
   ·rw[if_neg z]at h;exact⟨z,by rw[h]⟩
theorem wm:(mask O δ).length=δ.length:=by unfold mask;split <;> simp
theorem wM:ax (del H (A++B)) (del H B):=λb o e=>by obtain⟨z,e⟩:=bf e;rw[aP (λq=>z (Mt _ q))];exact e
section
theorem bY.lsA (R:bY K H0 A0 H A O δ σ):Ls H (A++A0):=λa h=>(MM.mp h).elim (R.ls a) λz=>(R.ls0.same R.same) a z
theorem bY.step (R:bY K H0 A0 H A O δ σ) (s:ax H H1):bY K H0 A0 H1 A O δ σ where
 same:=R.same.trans s
 ls0:=R.ls0
 new:=R.new
 ls:=R.ls.same s
 len:=R.len
 pl:=λi d h e=>by obtain⟨v,e1,h1⟩:=R.pl i d h e;exact⟨v,e1,h1.same s.del⟩
 own:=λi d h e=>by obtain⟨a,xs,ds,e1,h1,h2,b,c⟩:=R.own i d h e;exact⟨a,xs,ds,e1,h1,s _ _ h2,b,c.same s.del⟩
 inj:=R.inj
theorem bY.apart (R:bY K H0 A0 H A O δ σ) (h:a∈A):a∉A0:=λz=>by obtain⟨xs,e,_⟩:=R.ls0 a z;rw[R.new a h]at e;cases e
theorem bY.ownL (R:bY K H0 A0 H A O δ σ) (h:i∈O) (e:δ[i]?=some (some (.list ds))):∃a xs b,σ[i]?=some (some (.ref a))/\a∈A/\H a=some (.lst xs)/\PyData.list ds=.list b/\Iss K (del H (A++A0)) b xs:=by obtain⟨a,o,d',e1,h1,h2,c,f⟩:=R.own i _ h e;subst c;obtain⟨xs,rfl,g⟩:=f.lst;exact⟨a,xs,ds,e1,h1,h2,rfl,g⟩
theorem bY.full (R:bY K H0 A0 H A O δ σ):dC K H A0 δ σ where
 ls:=R.ls0.same R.same
 len:=R.len
 get:=λi d e=>by
  by_cases h:i∈O
  ·obtain⟨a,xs,ds,e1,h1,h2,b,c⟩:=R.own i d h e;subst b;exact⟨_,e1,(c.same wM).is (by rw[aP (R.apart h1)];exact h2)⟩
  ·obtain⟨v,e1,h1⟩:=R.pl i d h e;exact⟨v,e1,h1.same wM⟩
theorem bY.part (R:bY K H0 A0 H A O δ σ):dC K H (A++A0) (mask O δ) σ where
 ls:=R.lsA
 len:=by rw[wm];exact R.len
 get:=λi d e=>by obtain⟨h,e⟩:=EJ e;exact R.pl i d h e
theorem get_set {l:List α} {x y:α} (h:(l.set i x)[j]?=some y):(i=j/\y=x)\/(i≠j/\l[j]?=some y):=by
 by_cases z:i=j
 ·subst z;rw[List.getElem?_set_self']at h;cases q:l[i]? with
  |none=>rw[q]at h;cases h
  |some w=>rw[q]at h;simp at h;exact .inl ⟨rfl,h.symm⟩
 ·rw[MP z]at h;exact .inr ⟨z,h⟩
theorem kq {l:List α} {x y:α} (hn:i≠j) (h:l[j]?=some y):(l.set i x)[j]?=some y:=by rw[MP hn];exact h
theorem bY.set {d:PyData} (R:bY K H0 A0 H A O δ σ) (hi:i∉O) (hl:i<δ.length) (h:Is K (del H (A++A0)) d v):bY K H0 A0 H A O (δ.set i (some d)) (σ.set i (some v)) where
 same:=R.same
 ls0:=R.ls0
 new:=R.new
 ls:=R.ls
 len:=by simp[R.len]
 pl:=λj e b q=>by
  rcases get_set q with⟨z,q⟩|⟨z,q⟩
  ·cases q;subst z;exact⟨v,by rw[N1 (by rw[<-R.len];exact hl)],h⟩
  ·obtain⟨u,e1,h1⟩:=R.pl j e b q;exact⟨u,kq z e1,h1⟩
 own:=λj e b q=>by
  rcases get_set q with⟨z,q⟩|⟨z,q⟩
  ·subst z;exact absurd b hi
  ·obtain⟨a,xs,ds,e1,h1⟩:=R.own j e b q;exact⟨a,xs,ds,kq z e1,h1⟩
 inj:=λj k d' e a b c f g p1 p2=>by
  have n1:i≠j:=λz=>hi (z▸b)
  have n2:i≠k:=λz=>hi (z▸c)
  rw[MP n1]at f p1;rw[MP n2]at g p2;exact R.inj j k d' e a b c f g p1 p2
theorem bY.setOwn (R:bY K H0 A0 H A O δ σ) (hi:i∈O) (hl:i<δ.length) (hn:H a=none) (s:ax H H1) (ha:H1 a=some (.lst xs)) (h:Iss K (del H1 (a::(A++A0))) ds xs) :
  bY K H0 A0 H1 (a::A) O (δ.set i (some (.list ds))) (σ.set i (some (.ref a))) where
 same:=R.same.trans s
 ls0:=R.ls0
 new:=λb m=>by
  rcases M7.mp m with z|z
  ·rw[z];exact R.same.free hn
  ·exact R.new b z
 ls:=λb m=>by
  rcases M7.mp m with z|z
  ·exact⟨_,by rw[z];exact ha,rfl⟩
  ·exact (R.ls.same s) b z
 len:=by simp[R.len]
 pl:=λj e c q=>by
  rcases get_set q with⟨z,q⟩|⟨z,q⟩
  ·subst z;exact absurd hi c
  ·obtain⟨u,e1,h1⟩:=R.pl j e c q;refine⟨u,kq z e1,h1.same λb o e=>?_⟩;obtain⟨y,e⟩:=bf e;have n:b≠a:=aK e hn;rw[aP (by simpa[n] using y)];exact s _ _ e
 own:=λj e c q=>by
  have r:∀b o,del H (A++A0) b=some o->del H1 (a::A++A0) b=some o:=λb o e=>by obtain⟨y,e⟩:=bf e;have n:b≠a:=aK e hn;rw[aP (by simpa[n] using y)];exact s _ _ e
  rcases get_set q with⟨z,q⟩|⟨z,q⟩
  ·cases q;subst z;exact⟨a,_,_,by rw[N1 (by rw[<-R.len];exact hl)],M6,ha,rfl,h⟩
  ·obtain⟨b,ys,es,e1,h1,h2,t,v⟩:=R.own j e c q;exact⟨b,ys,es,kq z e1,M4 _ h1,s _ _ h2,t,v.same r⟩
 inj:=λj k d' e b c f g l p1 p2=>by
  have old:∀k,k∈O->i≠k->∀e,δ[k]?=some (some e)->σ[k]?=some (some (.ref a))->False:=λk f _ e q p=>by obtain⟨b,ys,es,e1,h1,h2,_⟩:=R.own k e f q;rw[p]at e1;cases e1;rw[hn]at h2;cases h2
  by_cases z1:i=j
  ·by_cases z2:i=k
   ·rw[<-z1,z2]
   ·subst z1;rw[N1 (by rw[<-R.len];exact hl)]at p1;cases p1;rw[MP z2]at l p2;exact (old k f z2 e l p2).elim
  ·by_cases z2:i=k
   ·subst z2;rw[N1 (by rw[<-R.len];exact hl)]at p2;cases p2;rw[MP z1]at g p1;exact (old j c z1 d' g p1).elim
   ·rw[MP z1]at g p1;rw[MP z2]at l p2;exact R.inj j k d' e b c f g l p1 p2
theorem bY.put {l:PyData} (R:bY K H0 A0 H A O δ σ) (hi:i∈O) (hd:δ[i]?=some (some l)) (p:σ[i]?=some (some (.ref a))) (ha:a∈A) (h:Iss K (del H (A++A0)) ds ys) :
  bY K H0 A0 (upd H a (.lst ys)) A O (δ.set i (some (.list ds))) σ:=by
 have m:del (upd H a (.lst ys)) (A++A0)=del H (A++A0):=kn (MW _ ha);have hl:i<δ.length:=(MQ.mp hd).1;refine⟨λb o e=>?_,R.ls0,R.new,λb s=>?_,by simp[R.len],λj e c q=>?_,λj e c q=>?_,λj k d' e b c r f g p1 p2=>?_⟩
 ·have n:b≠a:=λz=>by rw[z,R.new a ha]at e;cases e
  rw[aA n];exact R.same b o e
 ·by_cases z:b=a
  ·exact⟨_,by rw[z,aH],rfl⟩
  ·rw[aA z];exact R.ls b s
 ·rcases get_set q with⟨z,q⟩|⟨z,q⟩
  ·subst z;exact absurd hi c
  ·rw[m];exact R.pl j e c q
 ·rcases get_set q with⟨z,q⟩|⟨z,q⟩
  ·cases q;subst z;exact⟨a,_,_,p,ha,aH,rfl,by rw[m];exact h⟩
  ·obtain⟨b,zs,es,e1,h1,h2,t,u⟩:=R.own j e c q;have n:b≠a:=λw=>z (R.inj i j _ _ a hi c hd q p (by rw[<-w];exact e1))
   exact⟨b,zs,es,e1,h1,by rw[aA n];exact h2,t,by rw[m];exact u⟩
 ·rcases get_set f with⟨z1,f⟩|⟨z1,f⟩ <;> rcases get_set g with⟨z2,g⟩|⟨z2,g⟩
  ·rw[<-z1,z2]
  ·subst z1;exact R.inj i k l e b hi r hd g p1 p2
  ·subst z2;exact R.inj j i d' l b c hi f hd p1 p2
  ·exact R.inj j k d' e b c r f g p1 p2
def un (H0 G:Hp):Hp:=λb=>match H0 b with|some o=>some o|none=>G b
theorem Ez:ax H0 (un H0 G):=λb o e=>by unfold un;rw[e]
theorem Mh (a:ax H0 H) (c:ax G H):ax G (un H0 G):=λb o e=>by
 unfold un;cases q:H0 b with
 |none=>exact e
 |some o2=>have h2:=a b o2 q;rw[c b o e]at h2;exact h2.symm
theorem LJ (a:ax H0 H) (c:ax G H):ax (un H0 G) H:=λb o e=>by
 unfold un at e;cases q:H0 b with
 |none=>rw[q]at e;exact c b o e
 |some o2=>rw[q]at e;rw[<-Option.some.inj e];exact a b o2 q
theorem bY.more (R:bY K H0 A0 H A O δ σ):bY K (un H0 (del H (A++A0))) A0 H A O δ σ :=
 ⟨LJ R.same aB,R.ls0.same Ez,λa h=>by unfold un;rw[R.new a h];exact gW (MW _ h),R.ls,R.len,R.pl,R.own,R.inj⟩
theorem bY.less {b:Hp} (R:bY K b A0 H A O δ σ) (s:ax H0 b) (l:Ls H0 A0):bY K H0 A0 H A O δ σ:=⟨s.trans R.same,l,λa h=>s.free (R.new a h),R.ls,R.len,R.pl,R.own,R.inj⟩
end
def mB (K:PySem.W.Frag) (E:XK) (H0:Hp) (A0:List Addr) (O:List Nat) (r:Sr) (D:Ends):Prop:=match r with
 |.nx δ=>∀A σ H,bY K H0 A0 H A O δ σ->D.nx σ H
 |.rt d=>∀v H,ax H0 H->Is K (del H A0) d v->D.rt v H
 |.rz C=>∀H,ax H0 H->E (.ref C) none H
 |.bk δ=>∀A σ H,bY K H0 A0 H A O δ σ->D.bk σ H
 |.ct δ=>∀A σ H,bY K H0 A0 H A O δ σ->D.ct σ H
 |.no=>False
def sD (K:PySem.W.Frag) (E:XK) (O:List Nat) (G:Ds->Sr):TS:=λD σ H=>∃H0 A0 A δ,bY K H0 A0 H A O δ σ/\mB K E H0 A0 O (G δ) D
def PSD (X:Cx) (E:XK) (O:List Nat) (s:Stmt) (G:Ds->Sr):Prop:=PS X s (sD X.K E O G)
def PBD (X:Cx) (E:XK) (O:List Nat) (ss:List Stmt) (G:Ds->Sr):Prop:=PSs X ss (sD X.K E O G)
def aY:Ds->Sr:=λδ=>.nx δ
def az (a b:Ds->Sr):Ds->Sr:=λδ=>match a δ with
 |.nx δ'=>b δ'
 |r=>r
def ofR {α:Type} (r:Rs α) (k:α->Sr):Sr:=match r with
 |.ok a=>k a
 |.rz C=>.rz C
 |.no=>.no
@[simp]theorem av (a:α) (k:α->Sr):ofR (.ok a) k=k a:=rfl
@[simp]theorem mV (C:Addr) (k:α->Sr):ofR (.rz C) k=.rz C:=rfl
@[simp]theorem mh (k:α->Sr):ofR (.no:Rs α) k=.no:=rfl
def sIf (c:Ds->Rs Bool) (a b:Ds->Sr):Ds->Sr:=λδ=>ofR (c δ) λt=>if t=true then a δ else b δ
def bh (g:Ds->Rs PyData):Ds->Sr:=λδ=>ofR (g δ) .rt
def j4 (g:Ds->Rs PyData):Ds->Sr:=λδ=>ofR (g δ) λ_=>.nx δ
def aL (O:List Nat) (i:Nat) (g:Ds->Rs PyData):Ds->Sr:=λδ=>if i<δ.length then ofR (g (mask O δ)) λd=>.nx (δ.set i (some d)) else .no
def qM (i:Nat) (g:Ds->Rs PyData):Ds->Sr:=λδ=>if i<δ.length then ofR (g δ) λd=>if fo d then .nx (δ.set i (some d)) else .no else .no
def eV (O:List Nat) (i:Nat) (g:Ds->Rs (List PyData)):Ds->Sr:=λδ=>if i<δ.length then ofR (g (mask O δ)) λds=>.nx (δ.set i (some (.list ds))) else .no
def gH (O:List Nat) (i:Nat) (g:Ds->Rs PyData):Ds->Sr:=λδ=>match δ[i]? with
 |some (some (.list ds))=>ofR (g (mask O δ)) λd=>if ds.length<1000000 then .nx (δ.set i (some (.list (ds++[d])))) else .no
 |_=>.no
section
variable {ss:List Stmt} {G G':Ds->Sr} {a b c:Expr} {ga gb:Ds->Rs PyData} {ca:Ds->Rs Bool}
theorem uE:PBD X E O [] aY:=uf.imp λD σ H a=>(by obtain⟨H0,A0,A,δ,R,o⟩:=a;exact o A σ H R)
theorem iJ (h1:PSD X E O st G) (h2:PBD X E O ss G'):PBD X E O (st::ss) (az G G'):=(cH h1 h2).imp λD σ H ⟨H0,A0,A,δ,R,o⟩=>⟨H0,A0,A,δ,R,by
 unfold az at o;cases q:G δ with
 |nx δ'=>rw[q]at o;exact λa σ' H' b=>⟨H0,A0,a,δ',b,o⟩
 |rt d=>rw[q]at o;exact o
 |rz C=>rw[q]at o;exact o
 |bk d=>rw[q]at o;exact o
 |ct d=>rw[q]at o;exact o
 |no=>rw[q]at o;exact o⟩
theorem oy (h1:PSD X E O st G):PBD X E O [st] G:=(ib h1).imp λD σ H h=>h
theorem Dg {a:List Stmt} (hc:PCD X E c ca) (h1:PBD X E O ss G) (h2:PBD X E O a G'):PSD X E O (.If c ss a pos) (sIf ca G G'):=(Am hc h1 h2).imp λD σ H e=>by
 obtain⟨H0,A0,A,δ,R,o⟩:=e;unfold sIf at o;refine cD.run R.full (λt b H1 f R1=>?_) (λC b H' s'=>?_) (λb=>?_)
 ·rw[b]at o;cases t with
  |true=>exact⟨H0,A0,A,δ,R.step f,o⟩
  |false=>exact⟨H0,A0,A,δ,R.step f,o⟩
 ·rw[b]at o;exact o H' (R.same.trans s')
 ·rw[b]at o;exact o
theorem ux (h:PD X E e ga):PSD X E O (.Return (some e) pos) (bh ga):=(p5 h).imp λD σ H a=>by
 obtain⟨H0,A0,A,δ,R,o⟩:=a;unfold bh at o;refine eD.run R.full (λd c v H1 f R1 hv=>?_) (λC b H' s'=>?_) (λb=>?_)
 ·rw[c]at o;exact o v H1 (R.same.trans f) hv
 ·rw[b]at o;exact o H' (R.same.trans s')
 ·rw[b]at o;exact o
theorem DV (h:PD X E e ga) (c:swapsWith e none pos.line X.env=pure false):PSD X E O (.Expr e pos) (j4 ga):=(om h c).imp λD σ H a=>by
 obtain⟨H0,A0,A,δ,R,o⟩:=a;unfold j4 at o;refine eD.run R.full (λd f v H1 g R1 hv=>?_) (λC b H' s'=>?_) (λb=>?_)
 ·rw[f]at o;exact o A σ H1 (R.step g)
 ·rw[b]at o;exact o H' (R.same.trans s')
 ·rw[b]at o;exact o
theorem FU (h:PD X E e ga) (c:X.N.Nodup) (f:i∉O) (hi:X.N[i]?=some x) (g:Loc X.env.scope x) (j:swapsWith e (some (.Name x pos')) pos.line X.env=pure false)
  (l:X.fn x=true\/X.env.scope.names.lookup x=some .local):PSD X E O (.Assign [.Name x pos'] e pos) (aL O i ga):=(pZ c hi g h j l).imp λD σ H a=>by
 obtain⟨H0,A0,A,δ,R,o⟩:=a;unfold aL at o;split at o
 ·rename_i hl;refine eD.run R.part (λd m v H1 n R1 hv=>?_) (λC b H' s'=>?_) (λb=>?_)
  ·rw[m]at o;exact o A _ H1 ((R.step n).set f hl hv)
  ·rw[b]at o;exact o H' (R.same.trans s')
  ·rw[b]at o;exact o
 ·exact o.elim
theorem Cb (h:PD X E e ga) (f:X.N.Nodup) (g:i∉O) (hi:X.N[i]?=some x) (j:Loc X.env.scope x) (l:swapsWith e (some (.Name x pos')) pos.line X.env=pure false)
  (m:X.fn x=true\/X.env.scope.names.lookup x=some .local):PSD X E O (.Assign [.Name x pos'] e pos) (qM i ga):=(pZ f hi j h l m).imp λD σ H a=>by
 obtain⟨H0,A0,A,δ,R,o⟩:=a;unfold qM at o;split at o
 ·rename_i hl;refine eD.run R.full (λd n v H1 c R1 hv=>?_) (λC b H' s'=>?_) (λb=>?_)
  ·rw[n]at o;have o:mB X.K E H0 A0 O (if fo d=true then .nx (δ.set i (some d)) else .no) D:=o;split at o
   ·rename_i hd;exact o A _ H1 ((R.step c).set g hl ((hv.same aB).dl (R.step c).lsA hd))
   ·exact o.elim
  ·rw[b]at o;exact o H' (R.same.trans s')
  ·rw[b]at o;exact o
 ·exact o.elim
theorem Hc {a:Ds->Rs (List PyData)} (h:PLD X E e a) (f:X.N.Nodup) (g:i∈O) (hi:X.N[i]?=some x) (j:Loc X.env.scope x) (l:swapsWith e (some (.Name x pos')) pos.line X.env=pure false)
  (m:X.fn x=true\/X.env.scope.names.lookup x=some .local):PSD X E O (.Assign [.Name x pos'] e pos) (eV O i a):=(pZ f hi j h l m).imp λD σ H b=>by
 obtain⟨H0,A0,A,δ,R,o⟩:=b;unfold eV at o;split at o
 ·rename_i hl;refine⟨A++A0,mask O δ,R.part,?_⟩;cases q:a (mask O δ) with
  |ok ds =>rw[q]at o;exact λp xs H' hn s n c=>o (p::A) _ H' (R.setOwn g hl hn s n c)
  |rz C=>rw[q]at o;exact λH' s'=>o H' (R.same.trans s')
  |no=>rw[q]at o;exact o
 ·exact o.elim
theorem Cy {a:Ds->Rs (List PyData)} (h:PLS X E i st a) (e:i∈O):PSD X E O st (eV O i a):=PS.imp h λD σ H b=>by
 obtain⟨H0,A0,A,δ,R,o⟩:=b;unfold eV at o;split at o
 ·rename_i hl;refine⟨A++A0,mask O δ,R.part,?_⟩;cases q:a (mask O δ) with
  |ok ds =>rw[q]at o;exact λp xs H' hn s f c=>o (p::A) _ H' (R.setOwn e hl hn s f c)
  |rz C=>rw[q]at o;exact λH' s'=>o H' (R.same.trans s')
  |no=>rw[q]at o;exact o
 ·exact o.elim
theorem Ea {a:Ds->Rs (List PyData)} (h:PLS X E i st a) (f:i∉O):PSD X E O st (aL O i (gL a)):=PS.imp h λD σ H b=>by
 obtain⟨H0,A0,A,δ,R,o⟩:=b;unfold aL gL at o;split at o
 ·rename_i hl;have e:=R.part;refine⟨A++A0,mask O δ,e,?_⟩;cases q:a (mask O δ) with
  |ok ds =>rw[q]at o;intro p xs H' hn s g c;exact o A _ H' ((R.step s).set f hl (jC (by rw[aP (e.ls.new hn)];exact g) (c.same mM)))
  |rz C=>rw[q]at o;exact λH' s'=>o H' (R.same.trans s')
  |no=>rw[q]at o;exact o
 ·exact o.elim
theorem tyL {p:Addr} (h:H p=some (.lst xs)):tyV K "list" (.ref p) H:=.inl ⟨rfl,xs,SqL.of h⟩
theorem Gw {j c:Pos} (h:PD X E e ga) (s:i∈O) (hi:X.N[i]?=some x) (hv:Vis X.env.scope x)
  (hd:(x==("__debug__":Str))=false) (l:(x==("__classdict__":Str))=false) (f:starEach [e] X.env=(false,eval e X.env)::starEach [] X.env)
  (a:attributeBase (.Name x pn) "append" X.env (eval (.Name x pn) X.env)=eval (.Name x pn) X.env)
  (g:((backTo c (starEach [e] X.env)).all (λx=>!x.1)&&(backToKw c (keywordEach [] X.env)).all (λx=>x.1.isSome)&&decide (([e]:List Expr).length+([]:List Keyword).length+(if ([]:List Keyword).isEmpty then 0 else 1)<30))=true)
  (b:(j.endLine==c.line)=true) (u:swapsWith (.Call (.Attribute (.Name x pn) "append" j) [e] [] c) none pos.line X.env=pure false) :
  PSD X E O (.Expr (.Call (.Attribute (.Name x pn) "append" j) [e] [] c) pos) (gH O i ga) :=
 (om (Dj PySem.F.plainAttrs_list PySem.F.slot_list_append PySem.F.type_list_append mL (kS hi hv hd l) (ej h f9 f) a g b f rfl) u).imp λD σ H m=>by
  obtain⟨H0,A0,A,δ,R,o⟩:=m;unfold gH at o;split at o
  ·rename_i ds q;obtain⟨p,xs,ds',e1,w,hl,e2,t⟩:=R.ownL s q;cases e2;refine⟨_,e1,tyL hl,?_⟩;refine eD.run R.part (λd y v H1 n R1 hv=>?_) (λC r H' s'=>?_) (λr=>?_)
   ·rw[y]at o;have o:mB X.K E H0 A0 O (if ds.length<1000000 then .nx (δ.set i (some (.list (ds++[d])))) else .no) D:=o;split at o
    ·rename_i hz;refine⟨p,xs,v,rfl,rfl,n _ _ hl,by rw[t.length,sizeLine_eq];omega,?_⟩;exact o A _ _ ((R.step n).put s q e1 w ((t.same n.del).append (i8 hv)))
    ·exact o.elim
   ·rw[r]at o;exact o H' (R.same.trans s')
   ·rw[r]at o;exact o
  ·exact o.elim
def TgS (K:PySem.W.Frag) (O:List Nat) (tgt:PyData->Ds->Option Ds) (g:TG):Prop:=∀(d:PyData) (v:V) (H0:Hp) (A0:List Addr) (H:Hp) (A:List Addr) (δ a:Ds) (σ:St) (Q:St->Hp->Prop),bY K H0 A0 H A O δ σ->Is K (del H (A++A0)) d v->tgt d δ=some a ->
 (∀b,bY K H0 A0 H A O a b->Q b H)->g v σ H Q
def bw (i:Nat):PyData->Ds->Option Ds:=λd δ=>if i<δ.length then some (δ.set i (some d)) else none
theorem Co (hi:i∉O):TgS K O (bw i) (j6 i):=λd v H0 A0 H A δ δ' σ Q R h e k=>by
 unfold bw at e;split at e
 ·rename_i hl;cases e;exact k _ (R.set hi hl h)
 ·cases e
def mE:List Nat->List PyData->Ds->Option Ds
 |[],[],δ=>some δ
 |i::is,d::ds,δ=>if i<δ.length then mE is ds (δ.set i (some d)) else none
 |_,_,_=>none
def fZ (is:List Nat):PyData->Ds->Option Ds
 |.tuple ds,δ=>mE is ds δ
 |_,_=>none
def yI:List Nat->TGs
 |[]=>L2.IL
 |i::is=>L2.Aw (j6 i) (yI is)
theorem nK {K:PySem.W.Frag}:∀(is:List Nat) (ds:List PyData) (vs:List V) (H0:Hp) (A0:List Addr) (H:Hp) (A:List Addr) (δ a:Ds) (σ:St) (Q:St->Hp->Prop),(∀i∈is,i∉O)->bY K H0 A0 H A O δ σ->Iss K (del H (A++A0)) ds vs->mE is ds δ=some a ->
  (∀b,bY K H0 A0 H A O a b->Q b H)->yI is vs σ H Q
 |[],[],vs,H0,A0,H,A,δ,a,σ,Q,_,R,h,e,k=>by cases e;exact⟨h.nil_of,k σ R⟩
 |i::is,d::ds,vs,H0,A0,H,A,δ,a,σ,Q,hO,R,h,e,k=>by
  obtain⟨v,r,rfl,h1,h2⟩:=h.cons_of;unfold mE at e;split at e
  ·rename_i hl;exact⟨v,r,rfl,nK is ds r H0 A0 H A _ a _ Q (λj c=>hO j (M4 _ c)) (R.set (hO i M6) hl h1) h2 e k⟩
  ·cases e
 |[],_::_,_,_,_,_,_,_,_,_,_,_,_,_,e,_=>by cases e
 |_::_,[],_,_,_,_,_,_,_,_,_,_,_,_,e,_=>by cases e
theorem qz:∀{is:List Nat} {ds:List PyData} {δ a:Ds},mE is ds δ=some a->ds.length=is.length
 |[],[],_,_,_=>rfl
 |_::is,_::ds,δ,a,e=>by
  unfold mE at e;split at e
  ·simp[qz e]
  ·cases e
 |[],_::_,_,_,e=>by cases e
 |_::_,[],_,_,e=>by cases e
theorem FL {is:List Nat} (hi:∀i∈is,i∉O):TgS K O (fZ is) (L2.JH K is.length (yI is)):=λd v H0 A0 H A δ a σ Q R h e k=>by
 unfold fZ at e;split at e
 ·obtain⟨p,xs,rfl,c,b⟩:=h.ofTup;exact⟨p,xs,rfl,SqT.of (aB _ _ c),by rw[b.length,qz e],nK is _ xs H0 A0 H A δ a σ Q hi R b e k⟩
 ·cases e
def forL (tgt:PyData->Ds->Option Ds) (body:Ds->Sr):List PyData->Ds->Sr
 |[],δ=>.nx δ
 |d::r,δ=>match tgt d δ with
  |none=>.no
  |some δ1=>match body δ1 with
   |.nx δ2=>forL tgt body r δ2
   |.ct δ2=>forL tgt body r δ2
   |.bk δ2=>.nx δ2
   |.rt v=>.rt v
   |.rz C=>.rz C
   |.no=>.no
def fA (O:List Nat) (src:Ds->Rs (List PyData)) (tgt:PyData->Ds->Option Ds) (body:Ds->Sr):Ds->Sr:=λδ=>ofR (src (mask O δ)) λds=>forL tgt body ds δ
theorem F3 {t:Ds->Rs (List PyData)} {tgt:PyData->Ds->Option Ds} (Q:PassesOwn (model X.prog X.w) X.A X.env X.xe) (hc:X.calm=true) (hi:PID X E tg iter t) (S:TgS X.K O tgt g) (T:PG X tg g) (u:PBD X E O ss G)
  (U:∀x,foldedSetIterable iter X.env x=pure x):PSD X E O (.For tg iter ss [] pos) (fA O t tgt G):=(JA Q hc hi T u U).imp λD σ H B=>by
 obtain⟨H0,A0,A,δ,R,o⟩:=B;unfold fA at o;refine⟨A++A0,mask O δ,R.part,?_⟩;cases q:t (mask O δ) with
 |no=>rw[q]at o;exact o
 |rz C=>rw[q]at o;exact λH' s'=>o H' (R.same.trans s')
 |ok ds =>
  rw[q]at o;intro J H1 M W;have Y:=(R.step M).more;have o:mB X.K E H0 A0 O (forL tgt G ds δ) D:=o;refine⟨λi m f H'=>m=ds.length-i/\i<=ds.length/\∃l c,bY X.K (un H0 (del H1 (A++A0))) A0 H' l O c f/\mB X.K E H0 A0 O (forL tgt G (ds.drop i) c) D,⟨ds.length,by simp,Nd _,A,δ,Y,o⟩,?_⟩
  rintro i m f H' ⟨rfl,hi',l,c,n,o'⟩
  have N:ax (del H1 (A++A0)) (un H0 (del H1 (A++A0))):=Mh (R.same.trans M) aB;have hB:∀b∈l++A0,(del H1 (A++A0)) b=none:=λb u=>by
   rcases MM.mp u with z|z
   ·exact N.free (n.new b z)
   ·exact gW (Mt _ z)
  obtain⟨Z,js,jy⟩:=W H' (l++A0) (N.trans n.same) n.lsA hB;by_cases hlt:i<ds.length
  ·refine .inr ⟨Z i hlt,?_⟩;have F:ds.drop i=ds[i]::ds.drop (i+1):=NZ hlt;rw[F]at o';unfold forL at o';refine⟨λp H2=>∃I a,bY X.K (un H0 (del H1 (A++A0))) A0 H2 I O a p/\mB X.K E H0 A0 O (forL tgt G (ds.drop (i+1)) a) D,λp H2 ⟨I,a,R2,o2⟩=>⟨ds.length-(i+1),by omega,rfl,hlt,I,a,R2,o2⟩,λx H2 y=>?_⟩;obtain⟨s2,d,P,hd⟩:=jy i x H2 hlt y;have:ds[i]=d:=by have:=M1 hlt;rw[this]at P;exact Option.some.inj P
   rw[this]at o';cases et:tgt d c with
   |none=>rw[et]at o';exact o'.elim
   |some δ1 =>
    simp only[et]at o';refine S d x _ _ _ _ _ _ _ _ (n.step s2) hd et λσ3 R3=>⟨_,_,_,_,R3,?_⟩
    cases eb:G δ1 with
    |nx a=>rw[eb]at o';exact λr h j s=>⟨r,a,s,o'⟩
    |ct a=>rw[eb]at o';exact λr h j s=>⟨r,a,s,o'⟩
    |bk a=>rw[eb]at o';exact λr h j s=>o' r h j (s.less Ez R.ls0)
    |rt v=>rw[eb]at o';exact λv4 j L h4=>o' v4 j (Ez.trans L) h4
    |rz C=>rw[eb]at o';exact λj L=>o' j (Ez.trans L)
    |no=>rw[eb]at o';exact o'
  ·have e:i=ds.length:=by omega
   subst e;rw[Ou]at o';exact .inl ⟨js,o' l f H' (n.less Ez R.ls0)⟩
end
section
variable {ss:List Stmt} {G G':Ds->Sr} {a b c:Expr} {ga gb gk:Ds->Rs PyData} {ca:Ds->Rs Bool}
def bU (c:Ds->Rs Bool) (b:Ds->Sr):Nat->Ds->Sr
 |0,_=>.no
 |n+1,δ=>ofR (c δ) λt=>if t=true then (match b δ with
  |.nx δ2=>bU c b n δ2
  |.ct δ2=>bU c b n δ2
  |.bk δ2=>.nx δ2
  |.rt v=>.rt v
  |.rz C=>.rz C
  |.no=>.no) else .nx δ
theorem BM (fuel:Nat) (j:PassesOwn (model X.prog X.w) X.A X.env X.xe) (hc:PCD X E c ca) (l:PBD X E O ss G):PSD X E O (.While c ss [] pos) (λδ=>bU ca G fuel δ):=(vW j hc l).imp λD σ H e=>by
 obtain⟨H0,A0,A,δ,R,o⟩:=e;refine⟨λm σ H=>∃A δ,bY X.K H0 A0 H A O δ σ/\mB X.K E H0 A0 O (bU ca G m δ) D,⟨fuel,A,δ,R,o⟩,?_⟩
 rintro m σ H ⟨A,δ,R,o⟩
 cases m with
 |zero=>exact o.elim
 |succ m =>
  unfold bU at o;refine cD.run R.full (λt a H1 i R1=>?_) (λC a H' s'=>?_) (λa=>?_)
  ·rw[a]at o;cases t with
   |false=>exact o A σ H1 (R.step i)
   |true =>
    refine⟨λb H'=>∃A δ,bY X.K H0 A0 H' A O δ b/\mB X.K E H0 A0 O (bU ca G m δ) D,λb H' q=>⟨m,Ny m,q⟩,H0,A0,A,δ,R.step i,?_⟩;have o:mB X.K E H0 A0 O (match G δ with
     |.nx δ2=>bU ca G m δ2
     |.ct δ2=>bU ca G m δ2
     |.bk δ2=>.nx δ2
     |.rt v=>.rt v
     |.rz C=>.rz C
     |.no=>.no) D:=o
    cases eb:G δ with
    |nx δ2=>rw[eb]at o;exact λf g n h=>⟨f,δ2,h,o⟩
    |ct δ2=>rw[eb]at o;exact λf g n h=>⟨f,δ2,h,o⟩
    |bk δ2=>rw[eb]at o;exact o
    |rt v=>rw[eb]at o;exact o
    |rz C=>rw[eb]at o;exact o
    |no=>rw[eb]at o;exact o
  ·rw[a]at o;exact o H' (R.same.trans s')
  ·rw[a]at o;exact o
def q9 (i:Nat) (gk ge:Ds->Rs PyData):Ds->Sr:=λδ=>match δ[i]? with
 |some (some (.list ds))=>ofR (ge δ) λd=>ofR (gk δ) λk=>match k with
  |.int k=>match ixN ds.length k with
   |some j=>if fo d then .nx (δ.set i (some (.list (ds.set j d)))) else .no
   |none=>.no
  |_=>.no
 |_=>.no
theorem Hf {k:Expr} {ps:Pos} (h:PD X E e ga) (n:PD X E k gk) (g:i∈O) (hi:X.N[i]?=some x) (hv:Vis X.env.scope x)
  (hd:(x==("__debug__":Str))=false) (c:(x==("__classdict__":Str))=false)
  (ha:∀v,assign (.Subscript (.Name x pn) k ps) X.env v=(do
   let ov <-holding [v] (eval (.Name x pn) X.env);let iv <-holding [v,ov] (eval k X.env)
   standAt ps
   holding [v,ov,iv] (setItem ov iv v)
   release [v,ov,iv] []))
  (r:swapsWithSole [.Subscript (.Name x pn) k ps] e pos.line X.env=pure false) (hw:swappedStores [.Subscript (.Name x pn) k ps] e X.env=pure none)
  (h1:(assignEach [.Subscript (.Name x pn) k ps] X.env).map (·.2)=[assign (.Subscript (.Name x pn) k ps) X.env]):PSD X E O (.Assign [.Subscript (.Name x pn) k ps] e pos) (q9 i gk ga) :=
 (IE h (JS (kS hi hv hd c) n set_list ha) r hw h1).imp λD σ H f=>by
  obtain⟨H0,A0,A,δ,R,o⟩:=f;unfold q9 at o;split at o
  ·rename_i ds q;obtain⟨p,xs,ds',e1,s,hl,e2,l⟩:=R.ownL g q;cases e2;refine eD.run R.full (λd t v H1 m w hv=>?_) (λC b H' s'=>?_) (λb=>?_)
   ·simp only[t,av]at o;refine⟨_,e1,?_⟩;refine eD.run w (λkd y u H2 s2 R2 z=>?_) (λC b H' s'=>?_) (λb=>?_)
    ·simp only[y,av]at o;split at o
     ·rename_i B;split at o
      ·rename_i j F;split at o
       ·rename_i hn;have a:=m.trans s2;refine⟨p,xs,B,j,rfl,z.ofInt,a _ _ hl,by rw[l.length];exact F,?_⟩;exact o A _ _ ((R.step a).put g q e1 s (Iss.set (((hv.same s2.del).same aB).dl (R.step a).lsA hn) j (l.same a.del)))
       ·exact o.elim
      ·exact o.elim
     ·exact o.elim
    ·simp only[b,mV]at o;exact o H' (R.same.trans (m.trans s'))
    ·simp only[b,mh]at o;exact o
   ·simp only[b,mV]at o;exact o H' (R.same.trans s')
   ·simp only[b,mh]at o;exact o
  ·exact o.elim
structure qR (K:PySem.W.Frag) (mg:Str->Option Value) (x:Str) (C:Addr):Prop where
 m:mg x=some (.ref C)
 e:PySem.W.excIn K C [.type "ValueError",.type "Exception",.type "BaseException",.type "object"] "ValueError.__new__"=true
def iY (C:Addr) (gs:Ds->Rs (List PyData)):Ds->Sr:=λδ=>ofR (gs δ) λ_=>.rz C
theorem AR {i:Pos} (hc:X.calm=true) (M:yd X E) (g:qR X.K X.mg x C) (ha:PAD X E (e::es) gs) (hl:(e::es).length<=1000) (j:Gl X x)
  (a:(x==("__debug__":Str))=false) (l:starEach (e::es) X.env=(false,eval e X.env)::starEach es X.env) (b:(backTo cpos (starEach es X.env)).any (·.1)=false) :
  PSD X E O (.Raise (some (.Call (.Name x i) (e::es) [] cpos)) none pos) (iY C gs) :=
 (C8 hc M PySem.F.excBase_ValueError j g.m g.e ha.1 a l b).imp λD σ H c=>by
  obtain⟨H0,A0,A,δ,R,o⟩:=c;unfold iY at o;refine aD.run R.full (λds h vs H1 n R1 hv=>?_) (λC f H' s'=>?_) (λf=>?_)
  ·simp only[h,av]at o;exact⟨by rw[hv.length,ha.2 δ ds h,sizeLine_eq];omega,o H1 (R.same.trans n)⟩
  ·simp only[f,mV]at o;exact o H' (R.same.trans s')
  ·simp only[f,mh]at o;exact o
end
section
theorem lH {f:Addr} {k:Nat} (F:Fun K x qual st f fd) (S:cX N ps (aE st)) (len:∀vs H Q E,sp vs H Q E->vs.length=ps.length)
  (a:∀(cdv:Value) (A:Around) (outer:List Env) (s:Shared) (H:Hp) (vs:List V) (Q:VK) (E:XK),cw k (A.deeper (envOfC qual (aE st) s.heap.objs.size f cdv))->sp vs H Q E ->
   ∃t,PSs (c8 CX P w K mg base N qual (aE st) f cdv A outer s H E) (cj st) t/\t { nx:=λ_ H'=>Q .non H',rt:=Q } (start N vs) H):gM P w K mg base CX (k+1) f fd ps sp:=by
 obtain⟨oc,od,kV,doc,pm,an,cdv,ct,osl,rfl,e,b⟩:=F.ex;exact Ce e b S len λA outer s H vs Q E g c=>a cdv A outer s H vs Q E g c
def bc:Sr->Rs PyData
 |.rt d=>.ok d
 |.nx _=>.ok .none
 |.rz C=>.rz C
 |_=>.no
theorem IV {f:Addr} {A:Around}:yd (c8 (CXW P w) P w K mg base N qual scope f cd A outer s H E) E :=
 λ_ _ _ _ _ _ _ _ I a hE=>xg (CX:=CX0) I a hE
theorem bY.start (f:Ls H A0) (hi:Iss K (del H A0) ds vs) (hl:ds.length=ps.length) (c:∀i∈O,ps.length<=i) :
  bY K H A0 H [] O (ds.map some++List.replicate (N.length-ps.length) none) (L2.start N vs):=by
 have hv:=hi.length;have at':∀(i:Nat) d,(ds.map some++List.replicate (N.length-ps.length) none)[i]?=some (some d)->i<ds.length/\ds[i]?=some d:=λi d e=>by
  by_cases h:i<ds.length
  ·rw[ML (by simpa using h),MA]at e;refine⟨h,?_⟩;cases q:ds[i]? with
   |none=>rw[q]at e;cases e
   |some z=>rw[q]at e;simp at e;rw[e]
  ·rw[MO (by simpa using h),O3]at e;split at e <;> cases e
 refine⟨ax.refl _,f,(λa h=>by cases h),(λa h=>by cases h),?_,λi d _ e=>?_,λi d h e=>?_,λi j d e a h _ q _ _ _=>?_⟩
 ·unfold L2.start;simp[hv,hl]
 ·obtain⟨b,e⟩:=at' i d e;obtain⟨v,ev,hd⟩:=hi.getD e;refine⟨v,?_,hd⟩;unfold L2.start;rw[ML (by simp;omega),MA,ev];rfl
 ·obtain⟨b,_⟩:=at' i d e;exact absurd (c i h) (by omega)
 ·obtain⟨b,_⟩:=at' i d q;exact absurd (c i h) (by omega)
theorem iA.of {f:Addr} {k:Nat} {G:Ds->Sr} (F:Fun K x qual st f fd) (S:cX N ps (aE st)) (b:Binds K fd ps []) (m:mg x=some (.ref f)) (e:∀i∈O,ps.length<=i)
  (body:∀(cdv:Value) (A:Around) (outer:List Env) (s:Shared) (H:Hp) (E:XK),cw k (A.deeper (envOfC qual (aE st) s.heap.objs.size f cdv))->PBD (c8 (CXW P w) P w K mg base N qual (aE st) f cdv A outer s H E) E O (cj st) G)
  (g:∀ds,ds.length=ps.length->gf ds≠.no->bc (G (ds.map some++List.replicate (N.length-ps.length) none))=gf ds):iA P w K mg base (k+1) x ps.length gf:=by
 refine⟨f,fd,ps,lH F S (λvs H Q E h=>?_) (λcdv A outer s H vs Q E j h=>?_),m,F.kp,b⟩
 ·obtain⟨A,ds,c,hi,hl,o⟩:=h;rw[hi.length,hl]
 ·obtain⟨A0,ds,c,hi,hl,o⟩:=h;refine⟨_,body cdv A outer s H E j,H,A0,[],_,bY.start c hi hl e,?_⟩;have a:=g ds hl (λz=>by rw[z]at o;exact o);cases q:G (ds.map some++List.replicate (N.length-ps.length) none) with
  |rt d=>rw[q]at a;rw[<-a]at o;exact λv H' s' hv=>o v H' s' hv
  |nx δ=>rw[q]at a;rw[<-a]at o;exact λA' σ H' l=>o .non H' l.same is_none
  |rz C=>rw[q]at a;rw[<-a]at o;exact λH' s'=>o H' s'
  |bk δ=>rw[q]at a;rw[<-a]at o;exact o.elim
  |ct δ=>rw[q]at a;rw[<-a]at o;exact o.elim
  |no=>rw[q]at a;rw[<-a]at o;exact o.elim
theorem iA.old {f:Addr} {k:Nat} (F:gM P w K mg base CX0 k f fd ps sp) (m:mg x=some (.ref f)) (kp:PySem.W.keepIn K (.ref f)=true) (b:Binds K fd ps [])
  (h:∀ds,ds.length=ps.length->gf ds≠.no->∃d,gf ds=.ok d/\gD d=true/\∀vs H Q,Iss K H ds vs->(∀v H',ax H H'->IsD K H' d v->Q v H')->sp vs H Q E0):iA P w K mg base k x ps.length gf:=by
 refine⟨f,fd,ps,⟨λvs H Q E h'=>?_,λA outer s H args us vs Q E j l n hv h'=>?_⟩,m,kp,b⟩
 ·obtain⟨A,ds,g,hi,hl,o⟩:=h';rw[hi.length,hl]
 ·obtain⟨A0,ds,g,hi,hl,o⟩:=h';obtain⟨d,e,i,c⟩:=h ds hl (λz=>by rw[z]at o;exact o);rw[e]at o;refine codeAny_mono (F.run A outer s H args us vs Q E0 j l n hv (c vs H Q (hi.same aB) λv H' s' hd=>o v H' s' ((hd.is i).dl (g.same s') (yi i)))) λr s' a=>?_
  cases r with
  |error ev=>exact False.elim a
  |ok fl =>
   cases fl with
   |ret u=>exact a
   |next=>exact False.elim a
   |brk=>exact False.elim a
   |cont=>exact False.elim a
end
open AutoSeq1 (wpAny_loadPart')
theorem mn:fillsNumberSlot (.type "tuple") "mul"=pure false :=
 PySem.fillsNumberSlot_seq (id:="tuple.__mul__") (r:=some (.builtin "tuple.__rmul__")) PySem.F.slot_tuple_mul.lookup (by decide +kernel) PySem.F.slot_tuple_rmul.lookup (by decide +kernel)
theorem tK:seqRepeat? (.type "tuple")=pure (some (.builtin "tuple.__mul__")):=by unfold seqRepeat?;rw[PySem.seqSlot_of (T:="tuple") (name:="__mul__") (id:="tuple.__mul__") PySem.F.slot_tuple_mul.lookup (by decide +kernel),PySem.seqSlot_of (T:="tuple") (name:="__rmul__") (id:="tuple.__rmul__") PySem.F.slot_tuple_rmul.lookup (by decide +kernel)];rfl
theorem uu (a:Int) (t:Tok) (l:Addr) (items:Array Value) (n:Nat) (dd:Option Addr) (b:Array (Option Value)) :
  Meets (Builtin.«int.__rmul__» ⟨[.int a t,.ref l],[]⟩) (λ_ R s=>s.heap.get? l=some { cls:=.type "tuple",dict:=dd,data:=.seq items n,slots:=b }/\R (.ok (.ret Value.notImplemented)) s) :=
 .of_wp λprog w A R s h=>by obtain⟨hp,g,d,tk,os⟩:=s;obtain⟨hl,h⟩:=h;wp_walk;exact⟨_,rfl,h⟩
theorem EG (l:Addr) (items:Array Value) (n:Nat) (x:Int) (u:Tok) (dd:Option Addr) (a:Array (Option Value)) (h1:(decide (x < -(2 ^ 63))||decide (x≥2 ^ 63))=false) (h2:(items.isEmpty||x==1)=false) (h3:(decide (x<=0)||items.isEmpty)=false)
  (b:decide ((items.size:Int)*x>(2 ^ 63-1) / 8)=false) (h5:Builtin.Tuple.tupleTooMany ((items.size:Int)*x)=false) (hsz:(List.foldl (λx1 x2=>x1++x2) #[] (List.replicate x.toNat items)).size<=sizeLine) :
  Meets (Builtin.«tuple.__mul__» ⟨[.ref l,.int x u],[]⟩) (λ_ R s=>s.heap.get? l=some { cls:=.type "tuple",dict:=dd,data:=.seq items n,slots:=a }/\R (.ok (.ret (Value.ref s.heap.objs.size))) { s with heap:=s.heap.push { cls:=Value.type "tuple",data:=Data.seq (List.foldl (λx1 x2=>x1++x2) #[] (List.replicate x.toNat items)) } }) :=
 .of_wp λprog w A R s h=>by
  obtain⟨hp,g,d,tk,os⟩:=s;obtain⟨hl,h⟩:=h;have f1:=AutoSeq1.idx_int;have f2:=AutoSeq1.sub_tuple_tuple
  wp_walk using wpAny_loadPart' hl
  refine wpAny_ite_false (by rw[h1];rfl) ?_
  wp_walk using wpAny_loadPart' hl
  refine wpAny_ite_false b ?_
  wp_walk using wpAny_loadPart' hl
  exact⟨_,rfl,h⟩
section
variable {a b c:Expr} {ga gb gc:Ds->Rs PyData}
def Hy (K:PySem.W.Frag):R2:=λx y H Q=>∃l k xs,x=.ref l/\y=.int k/\SqT K H l xs/\xs≠[]/\2<=k/\k<1000000/\xs.length*k.toNat<=1000000/\∀p,H p=none->Q (.ref p) (upd H p (.tup (List.replicate k.toNat xs).flatten))
theorem Gu:OpR X (binaryOp .Mult) (Hy X.K):=by
 intro pins s σ H x y v u Q I m p h;obtain⟨l,k,xs,rfl,rfl,hl,i,hk1,hk2,w,q⟩:=h;cases m;obtain⟨t,rfl⟩:=p;obtain⟨a,r,p1,_⟩:=I.tuple hl;obtain⟨⟨cls,dd,data,j⟩,g,hc,n,hd⟩:=id p1;simp only at hc hd;subst hc hd;have hlen:=r.length;have e:a≠[]:=λz=>i (r.nil_iff.mp z)
 have hpos:0<a.length:=Nt.mpr e;have c:List.foldl (λx1 x2=>x1++x2) #[] (List.replicate k.toNat a.toArray)=(List.replicate k.toNat a).flatten.toArray:=by have:=foldl_rep a k.toNat [];rw[MS]at this;exact this
 have f:a.toArray.isEmpty=false:=by simp[e]
 have hmul:(a.length:Int)*k<=1000000:=by
  have e1:((a.length*k.toNat:Nat):Int)=(a.length:Int)*k:=by rw[Int.natCast_mul,Nu (by omega)]
  rw[<-e1,<-hlen];omega
 have hsz2:(List.replicate k.toNat a).flatten.length<=1000000:=by rw[len_rep,Nat.mul_comm,<-hlen];exact w
 refine wpAny_binaryOp_repeat_ref (T:="tuple") (U:="int") (by decide) ⟨_,g,rfl⟩ (λs'=>typeIs_int s' k t) mn PySem.F.fills_int_mul PySem.F.slot_int_rmul tK PySem.F.slot_int_index.lookup
  (call_meets PySem.F.slot_int_rmul (typeIs_int s k t) PySem.F.entry_int_rmul (PySem.F.args_int_rmul_2 _ _) (uu k t l a.toArray n dd j)
   ⟨g,rfl,⟨_,g,rfl⟩,call_meets PySem.F.slot_tuple_mul ⟨_,g,rfl⟩ PySem.F.entry_tuple_mul (PySem.F.args_tuple_mul_2 _ _) (EG l a.toArray n k t dd j ?_ ?_ ?_ ?_ ?_ ?_) ⟨g,?_⟩⟩)
 ·rw[decide_eq_false (by omega),decide_eq_false (by omega)];rfl
 ·rw[f,Bool.false_or];simp;omega
 ·rw[f,Bool.or_false];exact decide_eq_false (by omega)
 ·rw[My];exact decide_eq_false (by omega)
 ·rw[My];unfold Builtin.Tuple.tupleTooMany;rw[sizeLine_eq];exact decide_eq_false (by omega)
 ·rw[c,My,sizeLine_eq];omega
 ·rw[c];refine⟨.ref s.heap.objs.size,_,I.laid (t':=s.toks) (o:=.tup (List.replicate k.toNat xs).flatten) (λb ob q=>M0 _ q) (Mu _) ?_,rfl,q _ (I.hok.fresh (Mu _))⟩;exact⟨by rw[len_rep,Nat.mul_comm,sizeLine_eq];omega,_,r.rep k.toNat,uM.new _ _⟩
def b0:PyData->PyData->Option PyData
 |.int i,.int j=>if (-(2 ^ 64)<i/\i<2 ^ 64)\/(-(2 ^ 64)<j/\j<2 ^ 64) then some (.int (i*j)) else none
 |.list x,.int k=>if 0<=k/\k<1000000/\x.length*k.toNat<=1000000 then some (.list (List.replicate k.toNat x).flatten) else none
 |.tuple x,.int k=>if x≠[]/\2<=k/\k<1000000/\x.length*k.toNat<=1000000 then some (.tuple (List.replicate k.toNat x).flatten) else none
 |_,_=>none
theorem E5:OpD K b0 (λx y H Q=>rI EX (λi j=>.int (i*j)) x y H Q\/KW x y H Q\/Hy K x y H Q):=λd1 d2 d x y H A Q e f h1 h2 k=>by
 unfold b0 at e;split at e
 ·split at e
  ·rename_i z;cases e;exact .inl ⟨_,_,h1.ofInt,h2.ofInt,z,k _ H (ax.refl _) bP⟩
  ·cases e
 ·split at e
  ·rename_i z;cases e;obtain⟨p,xs,rfl,c,a⟩:=h1.ofLst;exact .inr (.inl ⟨p,_,xs,rfl,h2.ofInt,aB _ _ c,by omega,by omega,by rw[a.length,sizeLine_eq];omega,λr b=>k _ _ (bL b) (ko f b (a.rep _))⟩)
  ·cases e
 ·split at e
  ·rename_i z;cases e;obtain⟨p,xs,rfl,c,a⟩:=h1.ofTup;refine .inr (.inr ⟨p,_,xs,rfl,h2.ofInt,SqT.of (aB _ _ c),λq=>z.1 ?_,z.2.1,z.2.2.1,by rw[a.length];exact z.2.2.2,λr b=>k _ _ (bL b) (lA f b (a.rep _))⟩);exact NG.mp (by rw[<-a.length,q];rfl)
  ·cases e
 ·cases e
theorem Js (ha:PD X E a ga) (c:PD X E b gb):PD X E (.BinOp a .Mult b pos) (g2 b0 ga gb):=g9 E5 ha c (eZ (mJ.or (HJ.or Gu)))
end
section
variable {A:Around} {E:Value->Shared->Prop}
theorem kA {i j:Value} (a:IsTup s.heap t items) (l:s.heap.IsSliceOf c i j .none) (pl:IsPart i lo) (n:IsPart j hi)
  (hw:HT.sIx items.size 0 lo=0/\HT.sIx items.size items.size hi=items.size) (h:Q (.ref t) s):wpAny (model prog w) A (getItem (.ref t) (.ref c)) Q E s:=by
 obtain⟨os,e,f,hds⟩:=id l;have g:s.TypeIs (.ref c) "slice":=⟨os,e,f⟩
 unfold getItem
 try with_reducible refine wpAny_holding ?_
 first|refine wpAny_bind (wpAny_pure ?_)|skip
 refine wpAny_bind (wpAny_sequenceKey a.typeIs (by decide) ?_);refine wpAny_bind (wpAny_callSpecial?_slot (name:=Str.ofString "__getitem__") a.typeIs PyProof.Rows.slot_tuple_getitem
  (wpAny_call_entry PyProof.Rows.slot_tuple_getitem a.typeIs entry_tuple_getitem ?_ (args_tuple_getitem _ _)))
 show wpAny _ _ (Builtin.Tuple.tupleItemsOf (.ref t) >>= _) _ _ s;refine wpAny_bind (tupleItemsOf_ a ?_);refine wpAny_bind (wpAny_typeOf g ?_);rw[if_pos (by decide)];refine wpAny_bind (HT.iW l pl n ?_);have b:(((HT.sIx items.size 0 lo:Nat):Int)==0&&(1:Int)==1&&(HT.sIx items.size items.size hi-HT.sIx items.size 0 lo)==items.size)=true:=by rw[hw.1,hw.2];simp
 show wpAny _ _ (if (((HT.sIx items.size 0 lo:Nat):Int)==0&&(1:Int)==1&&(HT.sIx items.size items.size hi-HT.sIx items.size 0 lo)==items.size)=true then _ else _) _ _ s;rw[if_pos b];refine wpAny_bind (m:=Builtin.Tuple.tupleIsExact (.ref t)) (wpAny_bind (wpAny_typeOf a.typeIs (wpAny_pure ?_)));rw[if_pos (by decide)]
 first
  |exact wpAny_bind (wpAny_rule (wpAny_pure ⟨_,rfl,wpAny_pure h⟩))
  |(refine wpAny_bind (wpAny_rule ?_);trace_state;exact wpAny_pure ⟨_,rfl,wpAny_pure h⟩)
end
end L2
variable {δ:L2.Ds} {gf:List PyData->L2.Rs PyData} {gs src gi:L2.Ds->L2.Rs (List PyData)} {cond:L2.Ds->L2.Rs Bool} {tgt:PyData->Option L2.Ds} {ga gb:L2.Ds->L2.Rs PyData}
namespace L2
open PySem PySem.Spec PyProof.Rows
section
variable {E:XK} {a b c e:Expr} {gc:Ds->Rs PyData} {es:List Expr}
def Lx (K:PySem.W.Frag):V->Option Int->Option Int->Hp->VK->Prop:=λx lo hi H Q=>∃a xs,x=.ref a/\SqT K H a xs/\(HT.sIx xs.length 0 lo=0/\HT.sIx xs.length xs.length hi=xs.length)/\Q (.ref a) H
theorem G7:SlR X (Lx X.K):=by
 intro pins s σ H x v vl vu lo hi sl Q I e f pl g h;obtain⟨a,xs,rfl,i,hw,q⟩:=h;cases e;obtain⟨b,r,c,hz⟩:=I.tuple i;have hlen:b.toArray.size=xs.length:=by rw[My,r.length]
 refine⟨"tuple",_,PyProof.Rows.slot_tuple_getitem.lookup,c.typeIs,?_⟩;exact kA c f pl g (by rw[hlen];exact hw) ⟨.ref a,H,I,rfl,q⟩
def cutD (xs:List PyData) (lo hi:Option Int):List PyData:=(xs.drop (HT.sIx xs.length 0 lo)).take (HT.sIx xs.length xs.length hi-HT.sIx xs.length 0 lo)
def Fw:PyData->Option Int->Option Int->Option PyData
 |.list x,lo,hi=>some (.list (cutD x lo hi))
 |.tuple x,lo,hi=>some (.tuple (cutD x lo hi))
 |_,_,_=>none
def CF:PyData->Rs (Option Int)
 |.int i=>.ok (some i)
 |_=>.no
def fN:Ds->Rs (Option Int):=λ_=>.ok none
def jV (g:Ds->Rs PyData):Ds->Rs (Option Int):=λδ=>(g δ).bind CF
def Ma (E:XK) (H:Hp) (r:Rs (Option Int)) (Q:Option Int->Hp->Prop):Prop:=match r with
 |.ok o=>∀H',ax H H'->Q o H'
 |.rz C=>∀H',ax H H'->E (.ref C) none H'
 |.no=>False
def oD (K:PySem.W.Frag) (E:XK) (g:Ds->Rs (Option Int)):TO:=λσ H Q=>∃A δ,dC K H A δ σ/\Ma E H (g δ) Q
def POD (X:Cx) (E:XK) (e:Option Expr) (g:Ds->Rs (Option Int)):Prop:=PO X e (oD X.K E g)
theorem PO.imp {e:Option Expr} {t t':TO} (h:PO X e t) (k:∀σ H Q,t' σ H Q->t σ H Q):PO X e t':=λpins s σ H Q I q=>h pins s σ H Q I (k σ H Q q)
theorem Cc:POD X E none fN:=GX.imp λσ H Q a=>(by obtain⟨A,δ,R,o⟩:=a;exact o H (ax.refl _))
theorem EI (h:PD X E e ga):POD X E (some e) (jV ga):=(Fj h).imp λσ H Q ⟨A,δ,R,o⟩=>⟨A,δ,R,by
 unfold jV at o;cases q:ga δ with
 |no=>rw[q]at o;exact o
 |rz C=>rw[q]at o;exact o
 |ok d =>
  rw[q]at o;cases d with
  |int i=>exact λv H' s h=>⟨i,h.ofInt,o H' s⟩
  |_=>exact o.elim⟩
theorem oD.run {g:Ds->Rs (Option Int)} {Q:Option Int->Hp->Prop} (R:dC K H A δ σ)
  (ok:∀d,g δ=.ok d->∀H',ax H H'->dC K H' A δ σ->Q d H') (rz:∀C,g δ=.rz C->∀H',ax H H'->E (.ref C) none H') (no:g δ=.no->False):oD K E g σ H Q:=by
 refine⟨A,δ,R,?_⟩;cases e:g δ with
 |ok d=>exact λH' s=>ok d e H' s (R.same s)
 |rz C=>exact λH' s=>rz C e H' s
 |no=>exact no e
def hV (g:Ds->Rs PyData) (lo hi:Ds->Rs (Option Int)):Ds->Rs PyData:=λδ=>(g δ).bind λd=>(lo δ).bind λl=>(hi δ).bind λh=>Rs.fc (Fw d l h)
theorem Iss.cut (h:Iss K H ds vs) (lo hi:Option Int):Iss K H (cutD ds lo hi) (vI vs lo hi):=by unfold cutD vI;rw[h.length];exact (h.drop _).take _
theorem De {lo hi:Option Expr} {n r:Ds->Rs (Option Int)} (u:PD X E e ga) (hl:POD X E lo n) (w:POD X E hi r):PD X E (.Subscript e (.Slice lo hi none p2) pos) (hV ga n r) :=
 (Di (F6.or (IU.or G7)) u hl w).imp λσ H Q j=>by
  obtain⟨A,δ,R,o⟩:=j;unfold hV at o;refine eD.run R (λd x v H1 m y hv=>?_) (λC a H' s'=>by rw[a]at o;exact o H' s') (λa=>by rw[a]at o;exact o);simp only[x,Rs.ag]at o;refine oD.run y (λl z H2 s2 R2=>?_) (λC a H' s'=>by rw[a]at o;exact o H' (m.trans s')) (λa=>by rw[a]at o;exact o);simp only[z,Rs.ag]at o;refine oD.run R2 (λh B H3 s t=>?_) (λC a H' s'=>by rw[a]at o;exact o H' (m.trans (s2.trans s'))) (λa=>by rw[a]at o;exact o);simp only[B,Rs.ag]at o;have f:=hv.same (s2.trans s).del;have b:=m.trans (s2.trans s);cases d with
  |list ds =>obtain⟨p,xs,rfl,g,c⟩:=f.ofLst;exact .inl ⟨p,xs,rfl,SqL.of (aB _ _ g),λq i=>o _ _ (b.trans (bL i)) (ko t.ls i (c.cut l h))⟩
  |tuple ds =>
   obtain⟨p,xs,rfl,g,c⟩:=f.ofTup;by_cases hw:HT.sIx xs.length 0 l=0/\HT.sIx xs.length xs.length h=xs.length
   ·refine .inr (.inr ⟨p,xs,rfl,SqT.of (aB _ _ g),hw,o _ _ b ?_⟩);have e:cutD ds l h=ds:=by unfold cutD;rw[<-c.length,hw.1,hw.2];simp[c.length]
    show Is X.K _ (.tuple (cutD ds l h)) _;rw[e];exact iz g c
   ·exact .inr (.inl ⟨p,xs,rfl,SqT.of (aB _ _ g),hw,λq i=>o _ _ (b.trans (bL i)) (lA t.ls i (c.cut l h))⟩)
  |_=>exact o.elim
def toV:PyData->V
 |.none=>.non
 |.bool b=>.bl b
 |.int i=>.int i
 |.str x=>.str x
 |_=>.non
def inD (x:PyData) (xs:List PyData):Bool:=inV (toV x) (xs.map toV)
def D0 (neg:Bool):PyData->PyData->Option PyData
 |x,.list xs=>if gD x&&xs.all gD then some (.bool (if neg then !inD x xs else inD x xs)) else none
 |x,.tuple xs=>if gD x&&xs.all gD then some (.bool (if neg then !inD x xs else inD x xs)) else none
 |_,_=>none
theorem Is.flat {d:PyData} (h:Is K H d v) (f:gD d=true):v=toV d/\jr v=true:=by
 cases d with
 |none=>rw[h.ofNone];exact⟨rfl,rfl⟩
 |bool b=>rw[h.ofBool];exact⟨rfl,rfl⟩
 |int i=>rw[h.ofInt];exact⟨rfl,rfl⟩
 |str x=>rw[h.ofStr];exact⟨rfl,rfl⟩
 |_=>cases f
theorem Iss.flat {K:PySem.W.Frag} {H:Hp}:∀{ds:List PyData} {vs:List V},Iss K H ds vs->ds.all gD=true->vs=ds.map toV/\vs.all jr=true
 |[],_,h,_=>by rw[h.nil_of];exact⟨rfl,rfl⟩
 |d::ds,_,h,f=>by rw[NR,M8]at f;obtain⟨v,r,rfl,h1,h2⟩:=h.cons_of;obtain⟨e1,f1⟩:=h1.flat f.1;obtain⟨e2,f2⟩:=Iss.flat h2 f.2;exact⟨by rw[e1,e2];rfl,by rw[NR,f1,f2];rfl⟩
theorem Iv {neg:Bool}:OpD K (D0 neg) (rIn K neg):=λd1 d2 d x y H A Q e hA h1 h2 k=>by
 unfold D0 at e;split at e
 ·split at e
  ·rename_i z;rw[M8]at z;cases e;obtain⟨p,xs,rfl,a,b⟩:=h2.ofLst;obtain⟨e1,f1⟩:=h1.flat z.1;obtain⟨e2,f2⟩:=b.flat z.2;refine⟨p,xs,rfl,.inl (SqL.of (aB _ _ a)),f1,f2,?_⟩;rw[e1,e2];exact k _ H (ax.refl _) is_bool
  ·cases e
 ·split at e
  ·rename_i z;rw[M8]at z;cases e;obtain⟨p,xs,rfl,a,b⟩:=h2.ofTup;obtain⟨e1,f1⟩:=h1.flat z.1;obtain⟨e2,f2⟩:=b.flat z.2;refine⟨p,xs,rfl,.inr (SqT.of (aB _ _ a)),f1,f2,?_⟩;rw[e1,e2];exact k _ H (ax.refl _) is_bool
  ·cases e
 ·cases e
theorem LD (ha:PD X E a ga) (c:PD X E b gb) (hm:behindInMarks .In b=false):PD X E (.Compare a [.In] [b] pos) (g2 (D0 false) ga gb):=g9 Iv ha c λh1 h2=>oj Bx h1 h2 hm
def nz (f e:PyData->PyData->Option PyData) (a b c:Ds->Rs PyData):Ds->Rs PyData:=λδ=>(a δ).bind λx=>(b δ).bind λy=>(Rs.fc (f x y)).bind λz=>(truth z).bind λt=>if t=true then (c δ).bind λw=>Rs.fc (e y w) else .ok (.bool false)
theorem DY {g:CmpOp} {r p:R2} {f i:PyData->PyData->Option PyData} (y:OpR X (compareOp op) r) (l:OpR X (compareOp g) p) (B:OpD X.K f r) (m:OpD X.K i p) (ha:PD X E a ga) (D:PD X E b gb) (hc:PD X E c gc)
  (hm:lastMarks [op,g] [b,c]=false:=by with_unfolding_all rfl):PD X E (.Compare a [op,g] [b,c] pos) (nz f i ga gb gc):=(DB y l ha D hc hm).imp λσ H Q n=>by
 obtain⟨A,δ,R,o⟩:=n;unfold nz at o;refine eD.run R (λd1 e1 v H1 j F h1=>?_) (λC e H' s'=>by rw[e]at o;exact o H' s') (λe=>by rw[e]at o;exact o);simp only[e1,Rs.ag]at o;refine eD.run F (λd2 e2 u H2 s2 R2 h2=>?_) (λC e H' s'=>by rw[e]at o;exact o H' (j.trans s')) (λe=>by rw[e]at o;exact o);simp only[e2,Rs.ag]at o;cases e3:f d1 d2 with
 |none=>rw[e3]at o;exact o.elim
 |some z =>
  simp only[e3,Rs.ai,Rs.ag]at o;refine B d1 d2 z v u H2 A _ e3 R2.ls (h1.same s2.del) h2 λw G h I=>?_
  obtain⟨t,rfl,o⟩:=qv o;refine⟨t,I.ofBool,?_⟩;cases t with
  |false=>exact o _ G (j.trans (s2.trans h)) is_bool
  |true =>
   have o:hZ X.K E A H ((gc δ).bind λw=>Rs.fc (i d2 w)) Q:=o;refine eD.run (R2.same h) (λq J L M s N O=>?_) (λC e H' s'=>by rw[e]at o;exact o H' (j.trans (s2.trans (h.trans s')))) (λe=>by rw[e]at o;exact o);simp only[J,Rs.ag]at o;cases e5:i d2 q with
   |none=>rw[e5]at o;exact o.elim
   |some d=>rw[e5]at o;exact m d2 q d u L M A Q e5 N.ls (h2.same (h.trans s).del) O λx P S T=>o x P (j.trans (s2.trans (h.trans (s.trans S)))) T
theorem F2 (ha:PD X E a ga) (e:PD X E b gb) (hc:PD X E c gc) (hm:lastMarks [.LtE,.LtE] [b,c]=false):PD X E (.Compare a [.LtE,.LtE] [b,c] pos) (nz dLe dLe ga gb gc):=DY AB AB (jG λ_ _ _ _=>is_bool) (jG λ_ _ _ _=>is_bool) ha e hc hm
end
section
variable {E:XK} {a b c:Expr}
def Ml (i j c:Int):Nat:=(Builtin.Range.rangeSize i j c).toNat
def J9 (i j c:Int):Bool:=decide (-(1000000)<=i/\i<=1000000/\-(1000000)<=j/\j<=1000000/\-(1000000)<=c/\c<=1000000/\c≠0)&&Builtin.Range.small i j c
def Iu (lo c:Int) (n:Nat):List PyData:=(List.range n).map λ(i:Nat)=>PyData.int (lo+(i:Int)*c)
def KY:List PyData->Rs (List PyData)
 |[.int i,.int j,.int c]=>if J9 i j c then .ok (Iu i c (Ml i j c)) else .no
 |_=>.no
def Ku (g:Ds->Rs (List PyData)):Ds->Rs (List PyData):=λδ=>(g δ).bind KY
def tLR (ta:TA):TE:=λσ H Q=>ta σ H λvs H1=>∃j:Int,vs=[.int j]/\0<=j/\j<=1000000/\∀p,H1 p=none->Q (.ref p) (upd H1 p (.lst ((List.range j.toNat).map λ(i:Nat)=>V.int (i:Int))))
theorem J1 {s2:Shared} {Q:VK} {j:Int} {tk:Nat} {a:Array Value} {c':Nat} (c:Inv X pins σ H1 s2) (g:∀b o,s2.heap.get? b=some o->h'.get? b=some o)
 (hl:h'.get? s2.heap.objs.size=some { cls:=.type "list",dict:=none,data:=.seq a c',slots:=#[] }) (hi:ItemsOf (λi v=>∃t,v=.int ((0:Int)+(i:Int)*1) t) a j.toNat) (q1:0<=j) (q2:j<=1000000)
 (q:∀p,H1 p=none->Q (.ref p) (upd H1 p (.lst ((List.range j.toNat).map λ(i:Nat)=>V.int (i:Int))))):EP X pins σ Q (.ref s2.heap.objs.size) { s2 with heap:=h',toks:=tk }:=by
 have hv:Vals ((List.range j.toNat).map λ(i:Nat)=>V.int (i:Int)) a.toList:=by
  have aux:∀(l:List Value) (k:Nat),(∀(m:Nat) v,l[m]?=some v->∃t,v=.int ((0:Int)+((k+m:Nat):Int)*1) t)->Vals ((List.range' k l.length).map λ(i:Nat)=>V.int (i:Int)) l:=by
   intro l
   induction l with
   |nil=>intro k _;exact .nil
   |cons x r ih =>
    intro k f;rw[MC,Ov,M5];refine .cons ?_ (ih (k+1) λm v hm=>?_)
    ·obtain⟨t,e⟩:=f 0 x rfl;exact⟨t,by rw[e];simp⟩
    ·obtain⟨t,e⟩:=f (m+1) v (by simpa using hm);exact⟨t,by rw[e,show k+(m+1)=k+1+m by omega]⟩
  have h1:=aux a.toList 0 (λm v hm=>by obtain⟨t,e⟩:=hi.2 m v (by rw[<-Ob];exact hm);exact⟨t,by rw[e];simp⟩)
  rw[Nq,hi.1]at h1;rw[List.range_eq_range'];exact h1
 exact⟨.ref s2.heap.objs.size,_,c.laid (t':=tk) g (Mu _) (show dg X.prog X.w _ h' _ (.lst ((List.range j.toNat).map λ(i:Nat)=>V.int (i:Int))) from⟨by rw[M3,Om,sizeLine_eq];omega,a.toList,c',hv,by simpa using hl⟩),rfl,q _ (c.hok.fresh (Mu _))⟩
theorem uW {c:Pos} (hc:X.calm=true) (v:Gl X "range") (hm:X.mg "range"=none) (g:Gl X "list") (i:X.mg "list"=none) (ha:PA X [a] ta) (w:starEach [a] X.env=[(false,eval a X.env)]:=by rfl)
  (f:starEach [.Call (.Name "range" p) [a] [] pos] X.env=[(false,eval (.Call (.Name "range" p) [a] [] pos) X.env)]:=by rfl) :
  PE X (.Call (.Name "list" p2) [.Call (.Name "range" p) [a] [] pos] [] c) (tLR ta):=by
 intro pins s σ H Q I h;refine Call_ (gp I g i tO (PyProof.Rows.callWith_type1 ?_ f rfl));rw[f];show wpAny _ _ (spliced ((false,eval (.Call (.Name "range" p) [a] [] pos) X.env)::backTo c [])) _ _ s;refine Calls.spliced_cons (Call_ (gp I v hm boot_range (PyProof.Rows.callWith_type1 (thn (ha pos pins s σ H _ I h) λus s1 l=>?_) w rfl)));obtain⟨vs,H1,u,x,m⟩:=l;obtain⟨j,e,m,y,q⟩:=m;subst e;cases x with
 |cons r rr =>
  cases rr;obtain⟨t,rfl⟩:=r;refine call_range_1 (Calls.spliced_nil ?_);have e2:Builtin.Range.rangeSize 0 j 1=((j.toNat:Nat):Int):=by rw[rangeSize_one];split <;> omega
  refine call_list_range (n:=j.toNat) (u.ok.hd hc) (IsRange.new ..) (small_one (by omega) (by omega) (by omega) (by omega)) e2 (by omega) λh' tk acc' c' z hl hi=>?_
  exact J1 (u.kept λb o e=>M0 _ e) z hl hi m y q
def tN:List PyData->Rs (List PyData)
 |[.int j]=>if 0<=j/\j<=1000000 then .ok (bX 0 j.toNat) else .no
 |_=>.no
def gLR (g:Ds->Rs (List PyData)):Ds->Rs (List PyData):=λδ=>(g δ).bind tN
theorem AJ {b:Pos} (hc:X.calm=true) (hm:X.mg "range"=none) (c:X.mg "list"=none) (ha:PAD X E [a] gs) (r:Gl X "range") (f:Gl X "list") (s:starEach [a] X.env=[(false,eval a X.env)])
  (g:starEach [.Call (.Name "range" p) [a] [] pos] X.env=[(false,eval (.Call (.Name "range" p) [a] [] pos) X.env)]):PLD X E (.Call (.Name "list" p2) [.Call (.Name "range" p) [a] [] pos] [] b) (gLR gs) :=
 (uW hc r hm f c ha.1 s g).imp λσ H Q l=>by
  obtain⟨A,δ,R,o⟩:=l;unfold gLR at o;refine aD.run R (λds e vs H1 m R1 h1=>?_) (λC e H' s'=>by rw[e]at o;exact o H' s') (λe=>by rw[e]at o;exact o);simp only[e,Rs.ag]at o;unfold tN at o;split at o
  ·split at o
   ·rename_i j z;obtain⟨v,rfl,h⟩:=kz h1;rw[h.ofInt];refine⟨j,rfl,z.1,z.2,λq n=>o q _ _ (m.free n) (m.trans (bL n)) aH ?_⟩;have:bX 0 j.toNat=((List.range j.toNat).map λ(i:Nat)=>(i:Int)).map PyData.int:=by unfold bX;rw[MF];congr 1;funext i;simp
    rw[this,show ((List.range j.toNat).map λ(i:Nat)=>V.int (i:Int))=((List.range j.toNat).map λ(i:Nat)=>(i:Int)).map V.int by rw[MF];rfl];exact vK _
   ·exact o.elim
  ·exact o.elim
end
theorem wN (t:Addr) (xs:Array Value):Meets (Builtin.«enumerate.__new__» ⟨[.type "enumerate",.ref t],[]⟩) (λ_ R s=>s.heap.IsTuple t xs /\
   R (.ok (.ret (.ref (s.heap.push { cls:=.type "tuple_iterator",data:=.fields #[.ref t,.int 0 0] }).objs.size)))
    { s with heap:=(s.heap.push { cls:=.type "tuple_iterator",data:=.fields #[.ref t,.int 0 0] }).push { cls:=.type "enumerate",data:=.fields #[.none,.bool false,.ref s.heap.objs.size,rawInt 0,.none,.none] } }) :=
 .of_wp λprog w A R s h=>by
  obtain⟨b,g,d,tk,os⟩:=s;obtain⟨hl,h⟩:=h;have hsub:=sub_enumerate;have a:Heap.IsTuple (Shared.heap ⟨b,g,d,tk,os⟩) t xs:=hl
  wp_walk
  refine wpAny_stack_any λst=>wpAny_pure ?_
  split
  ·rename_i c _ _ _ _ _;cases (c==Value.type "enumerate")
   ·wp_walk using wpAny_pyIter_tuple a
    exact⟨_,rfl,h⟩
   ·wp_walk using wpAny_pyIter_tuple a
    exact⟨_,rfl,h⟩
  ·wp_walk using wpAny_pyIter_tuple a
   exact⟨_,rfl,h⟩
theorem xl {A:Around} {l:Addr} (f:s.heap.IsTuple l items)
  (h:∀h',IsEnum h' (s.heap.objs.size+1) s.heap.objs.size 0 .none->h'.IsTupleIter s.heap.objs.size l 0->(∀b o,s.heap.get? b=some o->h'.get? b=some o)->Q (.ref (s.heap.objs.size+1)) { s with heap:=h' }) :
  wpAny (model prog w) A (call (.type "enumerate") [.ref l]) Q E s:=by
 refine callType_new PySem.F.called_enumerate (by decide) (PySem.F.typeCall_enumerate_1 _) (PySem.F.newCall_enumerate_1 _) (λobj=>PySem.F.args_object_init_2 obj _) PySem.F.entry_enumerate_new (wN l items) ⟨f,?_⟩;have a:(s.heap.push { cls:=.type "tuple_iterator",data:=.fields #[.ref l,.int 0 0] }).objs.size=s.heap.objs.size+1:=Heap.size_push ..;show _/\_;rw[a];have c:IsEnum ((s.heap.push { cls:=.type "tuple_iterator",data:=.fields #[.ref l,.int 0 0] }).push
   { cls:=.type "enumerate",data:=.fields #[.none,.bool false,.ref s.heap.objs.size,rawInt 0,.none,.none] }) (s.heap.objs.size+1) s.heap.objs.size 0 .none:=by
  have:=Mz (s.heap.push { cls:=.type "tuple_iterator",data:=.fields #[.ref l,.int 0 0] })
   (o:={ cls:=.type "enumerate",data:=.fields #[.none,.bool false,.ref s.heap.objs.size,rawInt 0,.none,.none] }) rfl
  rw[a]at this;exact this
 refine⟨⟨_,c,rfl⟩,h _ c ⟨_,M0 _ (Mz _ rfl),rfl,rfl⟩ λb o e=>M0 _ (M0 _ e)⟩
def Ite (P:Hp->List V->Prop) (n:Nat):It :=
 ⟨λi H=>i<n/\∃xs,P H xs/\xs.length=n,
  λi H v H'=>∃t x,v=.ref t/\H t=none/\H'=upd H t (.tup [.int i,x])/\∀xs,P H xs->xs[i]?=some x,
  λi H=>i=n/\∃xs,P H xs/\xs.length=n⟩
theorem sM {Q:Pos} {e:Addr} {n:Nat} {r:Hp->List V->Prop} {S:Nat->Heap->Prop} {B:Heap->Array Value->Prop} (f:e≠it) (z:e≠a)
  (L:∀(A:Around),A.handled=none->∀b:Array Value,Draws P w A it [it,a] b.size (λi v=>b[i]?=some v) (λi h=>S i h/\B h b))
  (hB:∀(X:Cx),X.prog=P->X.w=w->X.K=K->∀{pins:List (Addr×Obj)} {s:Shared} {σ:St} {H:Hp} {xs:List V},Inv X pins σ H s->r H xs->∃b:List Value,Vals xs b/\B s.heap b.toArray)
  (R:∀(X:Cx),X.prog=P->X.w=w->X.K=K->∀{pins:List (Addr×Obj)} {s:Shared} {σ:St} {H:Hp} {xs ys:List V},Inv X pins σ H s->r H xs->r H ys->xs=ys)
  (M:∀i h,S i h->∃o,h.get? it=some o/\∀v,o.data≠.cell v) (hK:∀i h h',S i h->(∀o,h.get? it=some o->h'.get? it=some o)->S i h') :
  Turn P w K (.Tuple elts x1 Q) (Ite r n) [e,it] e (λi h=>(∃old,IsEnum h e it i old)/\S i h) where
 mem:=by simp
 obj:=λi h st c hc=>by
  obtain⟨⟨old,h1⟩,h2⟩:=st;simp only[M7,MI,or_false]at hc;rcases hc with rfl|rfl
  ·exact⟨_,h1,λv q=>by cases q⟩
  ·exact M i h h2
 keep:=λi h h' st k=>by obtain⟨⟨old,h1⟩,h2⟩:=st;exact⟨⟨old,k e (by simp) _ h1⟩,hK i h h' h2 λo q=>k it (by simp) o q⟩
 item:=by
  intro X C hw g hc i pins s σ H E I t st D;subst C hw g;obtain⟨hi,xs,u,T⟩:=D;obtain⟨⟨old,h1⟩,h2⟩:=st;obtain⟨b,y,F⟩:=hB X rfl rfl rfl I u;have la:=y.length;refine wpAny_pyNext_enum_itemD (L X.A.in1 (I.ok.hd hc) b.toArray) h1 ⟨h2,F⟩ (by simp;omega) f (by simp[f,z]) λx h' tk U Y Z hT hsz hk=>⟨_,rfl,?_⟩
  refine wpAny_letOwnedTupleGo_enum (s:={ s with heap:=h',toks:=tk+1 }) Y λG d1 d2=>?_
  have N:e<s.heap.objs.size:=Mx h1;have il:it<s.heap.objs.size:=by obtain⟨o,q,_⟩:=M i _ h2;exact Mx q
  have J:∀c o,c≠e->h'.get? c=some o->G.get? c=some o:=λc o hc q=>(d2.2 c hc).trans q
  obtain⟨l,ex,rx⟩:∃l,xs[i]?=some l/\RelV l x:=by
   have m:i<xs.length:=by omega
   obtain⟨u',e1,e2⟩:=y.get (M1 m);refine⟨xs[i],M1 m,?_⟩;have p:b[i]?=some x:=by simpa using U
   rw[e1]at p;cases p;exact e2
  have fr:H s.heap.objs.size=none:=I.hok.fresh (Mu _);refine⟨.ref s.heap.objs.size,upd H s.heap.objs.size (.tup [.int i,l]),?_,rfl,⟨_,l,rfl,fr,rfl,λys h=>by rw[R X rfl rfl rfl I h u];exact ex⟩,?_,λc j=>?_⟩
  ·refine I.turnLay (t':=tk+1) (ch:=[e,it]) t (Mu _) (λc o hn q=>?_) ⟨by show 2<=sizeLine;decide,[.int i tk,x],.cons ⟨tk,rfl⟩ (.cons rx .nil),⟨_,J _ _ (Ng N) hT,rfl,rfl,_,rfl⟩⟩;simp only[M7,MI,or_false,not_or]at hn;exact J c o hn.1 (hk c o hn.1 hn.2 q)
  ·exact⟨⟨x,by simpa using d1⟩,hK _ _ _ Z.1 λo q=>J it o f.symm q⟩
  ·have O:=(t c j).1;simp only[M7,MI,or_false]at j;rcases j with rfl|rfl
   ·rw[aA (MB N)];exact O
   ·rw[aA (MB il)];exact O
 done:=by
  intro X C hw g hc i pins s σ H E I t st D;subst C hw g;obtain⟨hi,xs,u,T⟩:=D;obtain⟨⟨old,h1⟩,h2⟩:=st;obtain⟨b,y,F⟩:=hB X rfl rfl rfl I u;have la:=y.length;have e':b.toArray.size=i:=by simp;omega
  refine wpAny_pyNext_enum_endD (L X.A.in1 (I.ok.hd hc) b.toArray) h1 ⟨by rw[e'];exact h2,F⟩ λh' k=>⟨rfl,?_⟩
  refine I.turneds (t':=s.toks) (ch:=[e,it]) t λc o hn q=>?_
  simp only[M7,MI,or_false,not_or]at hn;exact k c o hn.2 q
 self:=λ_ _ _ _ _ st h=>by obtain⟨⟨old,h1⟩,_⟩:=st;exact wpAny_pyIter_enum h1 h
theorem Hg:bootBuiltins "enumerate"=some (.type "enumerate"):=by decide +kernel
def K6 (K:PySem.W.Frag) (ta:TA):TI:=λσ H R=>ta σ H λvs H1=>∃a xs,vs=[.ref a]/\((SqT K H1 a xs/\R (Ite (λH ys=>SqT K H a ys) xs.length) H1)\/(SqL K H1 a xs/\R (Ite (λH ys=>SqL K H a ys) xs.length) H1))
theorem GQ {F:Pos} {a:Expr} (G:Gl X "enumerate") (hm:X.mg "enumerate"=none) (ha:PA X [a] ta) (J:starEach [a] X.env=[(false,eval a X.env)]:=by rfl) :
  PI X (.Tuple elts x1 F) (.Call (.Name "enumerate" p) [a] [] pos) (K6 X.K ta):=by
 intro pins s σ H R I h;refine Call_ (gp I G hm Hg (PyProof.Rows.callWith_type1 (thn (ha pos pins s σ H _ I h) λus f x=>?_) J rfl));obtain⟨vs,H1,l,L,M⟩:=x;obtain⟨j,xs,e,q⟩:=M;subst e;obtain⟨u1,e1,N⟩:=vals1 L;subst e1;cases N;have big:∀c∈[f.heap.objs.size+1,f.heap.objs.size],f.heap.objs.size<=c:=λc hc=>by
  simp only[M7,MI,or_false]at hc;rcases hc with rfl|rfl
  ·exact NT _
  ·exact Mu _
 have m:f.heap.objs.size+1≠f.heap.objs.size:=Nat.succ_ne_self _;rcases q with⟨y,q⟩|⟨y,q⟩
 ·obtain⟨b,n,pt,_⟩:=l.tuple y;have t:f.heap.IsTuple j b.toArray:=pt;have u:j<f.heap.objs.size:=by obtain⟨_,g,_⟩:=t;exact Mx g
  refine xl t λh' w hit z=>wpAny_pyIter_enum w ?_
  have C:Inv X pins σ H1 { f with heap:=h' }:=l.kept (t':=f.toks) z;refine⟨_,_,_,_,H1,rfl,C,sM (a:=j) (S:=λi h=>h.IsTupleIter f.heap.objs.size j i) (B:=λh b=>h.IsTuple j b) m (Ng (Nf u)) (λA D b=>mI D f.heap.objs.size j (MB u) b)
   (λX' _ _ hK {_ _ _ _ _} I h=>?_) (λX' _ _ hK {_ _ _ _ _ _} I h1 h2=>?_) (λi h st=>?_) (λi h E st k=>?_),⟨⟨_,w⟩,hit⟩,λc hc=>l.fpOk (big c hc) (l.hok.fresh (big c hc)),q⟩
  ·rw[<-hK]at h;obtain⟨b,n,p,_⟩:=I.tuple h;exact⟨b,n,p⟩
  ·rw[<-hK]at h1 h2;exact I.tuple_inj h1 h2
  ·obtain⟨o,g,_,d⟩:=st;exact⟨o,g,λv q=>by rw[d]at q;cases q⟩
  ·obtain⟨o,g,r⟩:=st;exact⟨o,k o g,r⟩
 ·obtain⟨b,n,pl,_⟩:=l.list y;have u:j<f.heap.objs.size:=by obtain⟨_,_,g,_⟩:=pl;exact Mx g
  refine call_enumerate_list pl.isList λh' w hit hz z=>wpAny_pyIter_enum w ?_
  have C:Inv X pins σ H1 { f with heap:=h' }:=l.kept (t':=f.toks) z;refine⟨_,_,_,_,H1,rfl,C,sM (a:=j) (S:=λi h=>h.IsListIter f.heap.objs.size j i) (B:=λh b=>h.IsList j b) m (Ng (Nf u)) (λA D b=>Draws.list D f.heap.objs.size j (MB u) b)
   (λX' _ _ hK {_ _ _ _ _} I h=>?_) (λX' _ _ hK {_ _ _ _ _ _} I h1 h2=>?_) (λi h st=>?_) (λi h E st k=>?_),⟨⟨_,w⟩,hit⟩,λc hc=>l.fpOk (big c hc) (l.hok.fresh (big c hc)),q⟩
  ·rw[<-hK]at h;obtain⟨b,n,p,_⟩:=I.list h;exact⟨b,n,p.isList⟩
  ·rw[<-hK]at h1 h2;exact I.list_inj h1 h2
  ·obtain⟨o,g,_,d⟩:=st;exact⟨o,g,λv q=>by rw[d]at q;cases q⟩
  ·obtain⟨o,g,r⟩:=st;exact⟨o,k o g,r⟩
def ik (ds:List PyData):List PyData:=ds.mapIdx λi d=>.tuple [.int i,d]
theorem ki (ds:List PyData):(ik ds).length=ds.length:=by simp[ik]
theorem sX {f:Hp->List V->Prop} (h:Iss K G ds xs) (a:∀H1,ax G H1->f H1 xs):Bl K (Ite f xs.length) (ik ds) G:=λH1 B s j hB=>by have hl:=h.length;rw[ki];refine⟨λi hi=>⟨by omega,xs,a H1 s,rfl⟩,⟨hl.symm,xs,a H1 s,rfl⟩,λi x H2 hi y=>?_⟩;obtain⟨t,x0,rfl,c,rfl,l⟩:=y;obtain⟨d,e,hd⟩:=h.get (l xs (a H1 s));refine⟨bL c,.tuple [.int i,d],by unfold ik;rw[NB,e];rfl,?_⟩;have m:t∉B:=j.new c;exact iz (by rw[aP m];exact aH) (cG bP (i8 (hd.same (λb o q=>by have g:=s b o q;have nt:b≠t:=aK g c;rw[aP (λz=>by rw[hB b z]at q;cases q),aA nt];exact g))))
section
variable {E:XK} {a b c e k:Expr} {gk:Ds->Rs PyData} {es:List Expr}
def qi:List PyData->Rs (List PyData)
 |[.list ds]=>.ok (ik ds)
 |[.tuple ds]=>.ok (ik ds)
 |_=>.no
def iO (g:Ds->Rs (List PyData)):Ds->Rs (List PyData):=λδ=>(g δ).bind qi
theorem B4 {f:Pos} (hm:X.mg "enumerate"=none) (ha:PAD X E [a] gs) (g:Gl X "enumerate") (i:starEach [a] X.env=[(false,eval a X.env)]) :
  PID X E (.Tuple elts x1 f) (.Call (.Name "enumerate" p) [a] [] pos) (iO gs):=(GQ g hm ha.1 i).imp λσ H R ⟨A,δ,Rp,o⟩=>yu Rp o λds vs H1 e s1 R1 h1 o=>by
 unfold qi at o;split at o
 ·obtain⟨v,rfl,h⟩:=kz h1;obtain⟨p,xs,rfl,b,c⟩:=h.ofLst;exact⟨p,xs,rfl,.inr ⟨SqL.of (aB _ _ b),o _ H1 (ax.refl _) (sX c λH2 s2=>SqL.of (s2 _ _ b))⟩⟩
 ·obtain⟨v,rfl,h⟩:=kz h1;obtain⟨p,xs,rfl,b,c⟩:=h.ofTup;exact⟨p,xs,rfl,.inl ⟨SqT.of (aB _ _ b),o _ H1 (ax.refl _) (sX c λH2 s2=>SqT.of (s2 _ _ b))⟩⟩
 ·exact o.elim
def i5 (y x:Nat) (gk:Ds->Rs PyData):Ds->Sr:=λδ=>match δ[y]?,δ[x]? with
 |some (some (.list ys)),some (some (.list xs))=>ofR (gk δ) λk=>match k with
  |.int k=>if -(1000000)<=k/\k<=1000000/\ys.length<1000000 then (match ixN xs.length k with
   |some j=>match xs[j]? with
    |some d=>.nx ((δ.set x (some (.list (xs.eraseIdx j)))).set y (some (.list (ys++[d]))))
    |none=>.no
   |none=>.no) else .no
  |_=>.no
 |_,_=>.no
theorem xC {y x:Nat} {a nx:Str} {t L v b h c:Pos} (hk:PD X E k gk) (B:x≠y) (i:y∈O) (l:x∈O) (M:X.N[y]?=some a) (P:X.N[x]?=some nx)
  (Q:Vis X.env.scope a) (S:Vis X.env.scope nx)
  (T:(a==("__debug__":Str))=false) (G:(a==("__classdict__":Str))=false) (U:(nx==("__debug__":Str))=false) (I:(nx==("__classdict__":Str))=false)
  (J:starEach [k] X.env=(false,eval k X.env)::starEach [] X.env) (g:starEach [.Call (.Attribute (.Name nx b) "pop" h) [k] [] c] X.env=(false,eval (.Call (.Attribute (.Name nx b) "pop" h) [k] [] c) X.env)::starEach [] X.env)
  (m:attributeBase (.Name nx b) "pop" X.env (eval (.Name nx b) X.env)=eval (.Name nx b) X.env) (e:attributeBase (.Name a t) "append" X.env (eval (.Name a t) X.env)=eval (.Name a t) X.env)
  (K:((backTo c (starEach [k] X.env)).all (λx=>!x.1)&&(backToKw c (keywordEach [] X.env)).all (λx=>x.1.isSome)&&decide (([k]:List Expr).length+([]:List Keyword).length+(if ([]:List Keyword).isEmpty then 0 else 1)<30))=true)
  (n:((backTo v (starEach [.Call (.Attribute (.Name nx b) "pop" h) [k] [] c] X.env)).all (λx=>!x.1)&&(backToKw v (keywordEach [] X.env)).all (λx=>x.1.isSome)&&decide (([.Call (.Attribute (.Name nx b) "pop" h) [k] [] c]:List Expr).length+([]:List Keyword).length+(if ([]:List Keyword).isEmpty then 0 else 1)<30))=true)
  (q:(h.endLine==c.line)=true) (f:(L.endLine==v.line)=true)
  (hs:swapsWith (.Call (.Attribute (.Name a t) "append" L) [.Call (.Attribute (.Name nx b) "pop" h) [k] [] c] [] v) none pos.line X.env=pure false) :
  PSD X E O (.Expr (.Call (.Attribute (.Name a t) "append" L) [.Call (.Attribute (.Name nx b) "pop" h) [k] [] c] [] v) pos) (i5 y x gk) :=
 (om (Dj PySem.F.plainAttrs_list PySem.F.slot_list_append PySem.F.type_list_append mL (kS M Q T G) (ej (Dj PySem.F.plainAttrs_list PySem.F.slot_list_pop PySem.F.type_list_pop DS (kS P S U I) (ej hk f9 J) m K q J rfl) f9 g) e n f g rfl) hs).imp λD σ H W=>by
  obtain⟨H0,A0,A,δ,R,o⟩:=W;unfold i5 at o;split at o
  ·rename_i ys xs Y Z;obtain⟨p,vy,dy,e1,hp,hl,e2,hx⟩:=R.ownL i Y;cases e2;obtain⟨r,vx,dx,f1,hr,hm,f2,hz⟩:=R.ownL l Z;cases f2;have npr:p≠r:=λz=>B (R.inj x y _ _ p l i Z Y (by rw[z];exact f1) e1)
   refine⟨_,e1,tyL hl,_,f1,tyL hm,?_⟩;refine eD.run R.full (λkd ek u H1 s R1 hu=>?_) (λC et H' s'=>by rw[et]at o;exact o H' (R.same.trans s')) (λet=>by rw[et]at o;exact o);simp only[ek,av]at o;split at o
   ·rename_i kk;split at o
    ·rename_i hb;split at o
     ·rename_i j hj;split at o
      ·rename_i d hd;obtain⟨w,hw,hwd⟩:=hz.getD hd;have hj':=hj;obtain⟨g1,g2,g3,g4⟩:=uS hj;have RS:=R.step s;have RS2:=RS.put (ds:=xs.eraseIdx j) (ys:=vx.eraseIdx j) l Z f1 hr ((hz.same s.del).eraseIdx j);refine⟨r,vx,kk,j,w,rfl,by rw[hu.ofInt],s _ _ hm,by omega,by omega,by rw[hz.length];exact g1,hw,?_⟩;have dU:del (upd H1 r (.lst (vx.eraseIdx j))) (A++A0)=del H1 (A++A0):=kn (MW _ hr);refine⟨p,vy,w,rfl,rfl,by rw[aA npr];exact s _ _ hl,by rw[hx.length,sizeLine_eq];omega,?_⟩;refine o A _ _ (RS2.put (ds:=ys++[d]) i (by rw[MP B];exact Y) e1 hp ?_);rw[dU];exact (hx.same s.del).append (i8 (hwd.same s.del))
      ·exact o.elim
     ·exact o.elim
    ·exact o.elim
   ·exact o.elim
  ·exact o.elim
end
theorem vN:isSubtype (.type "tuple") (.type "set")=pure false:=by rw[isSubtype_type];kernel_rfl
theorem w6:isSubtype (.type "tuple") (.type "frozenset")=pure false:=by rw[isSubtype_type];kernel_rfl
section
variable {A:Around}
def seen (ns:List Int) (n:Nat):List Int:=firstMet (λi=>ns.getD i 0) n
theorem BY {a:Array Value} (G:A.handled=none) (H:s.heap.IsTuple f a) (hi:IntsAre a.toList ns) (l:a.size+1<scanBound)
  (I:∀(h':Heap) (tk:Nat),h'.SetOf (intKind prog w) s.heap.objs.size (λk=>(seen ns a.size).any (·==k)) (seen ns a.size).length->(∀b o,b<s.heap.objs.size->s.heap.get? b=some o->h'.get? b=some o)->Q (.ref s.heap.objs.size) { s with heap:=h',toks:=tk }) :
  wpAny (model prog w) A (call (.type "set") [.ref f]) Q E s:=by
 obtain⟨c,tl,mro⟩:=PySem.F.called_set.mro;have m1:=PySem.F.called_set.made;have m2:=PySem.F.called_set.sub;refine wpAny_call (codeAny_of_tree ?_);show wpAny _ _ (callAny (.type "set") _) _ _ _;refine wpAny_pure ⟨Code.quiet_builtin _ (by decide +kernel),codeAny_builtin PySem.F.entry_type_call ?_⟩;rw[Around.under_plain (weight_type_call_type "set" [.ref f] []) rfl];have m3:=PySem.F.called_set.notType;have m4:=PySem.F.called_set.canCreate;have m5:=PySem.F.typeCall_set_1 (.ref f)
 repeat (any_goals (first|assumption|wp_step))
 refine codeAny_mono (PySem.code_set_new_1 (.ref f) (E:=E) (Q₁:=λy z=>∃led:Bool,y=.ref s.heap.objs.size/\z={ s with heap:=s.heap.push { cls:=.type "set",dict:=none,data:=.set #[] 0 (.fresh 0 0 led) } }) λled=>⟨led,rfl,rfl⟩) λr z n=>?_
 cases r with
 |error ev=>exact n
 |ok fl =>
  cases fl with
  |ret y =>
   obtain⟨led,rfl,rfl⟩:=n;have B:(s.heap.push { cls:=.type "set",dict:=none,data:=.set #[] 0 (.fresh 0 0 led) }).get? s.heap.objs.size=some { cls:=.type "set",dict:=none,data:=.set #[] 0 (.fresh 0 0 led) }:=Mz _ rfl;have J:Shared.TypeIs { s with heap:=s.heap.push { cls:=.type "set",dict:=none,data:=.set #[] 0 (.fresh 0 0 led) } } (.ref s.heap.objs.size) "set":=⟨_,B,rfl⟩
   have m6:=PySem.F.called_set.init.lookup;have m7:=PySem.F.called_set.init.bind (.ref s.heap.objs.size)
   repeat (any_goals (first|assumption|wp_step))
   refine codeAny_mono (codeAny_call_builtin (R:=wants (λC s2=>C=.none/\∃h' tk,s2={ s with heap:=h',toks:=tk }/\h'.SetOf (intKind prog w) s.heap.objs.size (λk=>(seen ns a.size).any (·==k)) (seen ns a.size).length /\
     (∀b o,b<s.heap.objs.size->s.heap.get? b=some o->h'.get? b=some o)) E) PySem.F.called_set.init.plain PySem.F.entry_set_init (PySem.check_set_init_1 J ?_)) λK s2 g=>?_
   ·obtain⟨⟨oc,od,oda,osl⟩,go,gc,p,D⟩:=H;simp only at gc D;subst gc;subst D;have go':(s.heap.push { cls:=.type "set",dict:=none,data:=.set #[] 0 (.fresh 0 0 led) }).get? f=some { cls:=.type "tuple",dict:=od,data:=.seq a p,slots:=osl }:=M0 _ go;have n1:=vN;have n2:=w6;have n3:(Value.type "tuple"==Value.type "dict")=false:=by decide
    have L:(s.heap.push { cls:=.type "set",dict:=none,data:=.set #[] 0 (.fresh 0 0 led) }).IsTuple f a:=⟨_,go',rfl,p,rfl⟩
    unfold Builtin.«set.__init__» noKeywords Builtin.Frozenset.updateFrom;generalize zz:pyIter=PI
    wp_walk
    subst zz;refine wpAny_pyIter_tuple L (wpAny_bind (wpAny_runValue ?_));have j:f<s.heap.objs.size:=Mx go;have M:A.in1.in1.in1.handled=none:=by simp[G]
    have ne1:f≠(s.heap.push { cls:=.type "set",dict:=none,data:=.set #[] 0 (.fresh 0 0 led) }).objs.size:=by rw[Heap.size_push];exact MB (Nf j)
    have q:s.heap.objs.size∉[(s.heap.push { cls:=.type "set",dict:=none,data:=.set #[] 0 (.fresh 0 0 led) }).objs.size,f]:=by rw[Heap.size_push];simp only[M7,Mw,MI,or_false,not_or];exact⟨MB (Ny _),Ng j⟩
    have N:∀(i:Nat) (v:Value),a[i]?=some v->∃t,v=.int ((λi=>ns.getD i 0) i) t:=λi v hv=>IntsAre.int_at hi i v (by rw[Ob];exact hv)
    refine codeAny_set_update_loopS ((Walks.tuple M _ f ne1 a).toS) s.heap.objs.size q (λi=>ns.getD i 0) N l (a.size-0) 0 _ (by omega) (Nd _) ⟨⟨_,Mz _ rfl,rfl,rfl⟩,⟨_,M0 _ go',rfl,p,rfl⟩⟩ ?_ ?_
    ·have O:((s.heap.push { cls:=.type "set",dict:=none,data:=.set #[] 0 (.fresh 0 0 led) }).push { cls:=.type "tuple_iterator",data:=.fields #[.ref f,.int 0 0] }).get? s.heap.objs.size=some { cls:=.type "set",dict:=none,data:=.set #[] 0 (.fresh 0 0 led) }:=M0 _ B;exact SetOf_congr ((setObjOf_fresh (knd:=intKind prog w) led).setOf O (by unfold scanBound;omega)) (λ_=>rfl) rfl
    ·intro s' m h;obtain⟨h',g',d',u,x⟩:=s';have e1:g'=s.gens:=m.gens;have e2:d'=s.drawn:=m.drawn;have P:x=s.os:=m.os;subst e1;subst e2;subst P;show wpAny _ _ _ _ _ _;refine wpAny_pure ?_;show wpAny _ _ (ret Value.none) _ _ _;refine wpAny_pure ⟨rfl,h',u,rfl,h,λb o l e=>?_⟩;have S:b≠(s.heap.push { cls:=.type "set",dict:=none,data:=.set #[] 0 (.fresh 0 0 led) }).objs.size:=by rw[Heap.size_push];exact MB (Nf l)
     exact m.heap b o (by simp only[M7,Mw,MI,or_false,not_or];exact⟨MB l,S⟩) (M0 _ (M0 _ e))
   ·cases K with
    |error ev=>exact g
    |ok fl2 =>
     cases fl2 with
     |ret C =>
      obtain⟨rfl,h',tk,rfl,h,T⟩:=g
      repeat (any_goals (first|assumption|wp_step))
      exact I _ _ h T
     |_=>exact g.elim
  |_=>exact n.elim
end
section
variable {E:XK} {a b c e:Expr} {gc:Ds->Rs PyData} {es:List Expr}
theorem Jh:bootBuiltins "set"=some (.type "set"):=by decide +kernel
def tLS (K:PySem.W.Frag) (ta:TA):TE:=λσ H Q=>ta σ H λvs H1=>∃(p:Addr) (ns:List Int),vs=[.ref p]/\SqT K H1 p (ns.map V.int)/\ns.length<=1000/\Q (.int (seen ns ns.length).length) H1
theorem Bz {c:Pos} (hc:X.calm=true) (y:Gl X "set") (hm:X.mg "set"=none) (i:Gl X "len") (j:X.mg "len"=none) (ha:PA X [a] ta) (z:starEach [a] X.env=[(false,eval a X.env)]:=by rfl)
  (f:starEach [.Call (.Name "set" p) [a] [] pos] X.env=(false,eval (.Call (.Name "set" p) [a] [] pos) X.env)::starEach [] X.env:=by rfl) (l:(backTo c (starEach [] X.env)).any (·.1)=false:=by rfl) :
  PE X (.Call (.Name "len" p2) [.Call (.Name "set" p) [a] [] pos] [] c) (tLS X.K ta):=by
 intro pins s σ H Q I h;refine wpAny_Call_Name_kw (gp I i j PySem.boot_len ?_);refine PyProof.Rows.callWith_builtin1 ?_ f l;rw[f];show wpAny _ _ (spliced ((false,eval (.Call (.Name "set" p) [a] [] pos) X.env)::backTo c [])) _ _ s;refine Calls.spliced_cons (Call_ (gp I y hm Jh (PyProof.Rows.callWith_type1 (thn (ha pos pins s σ H _ I h) λus v m=>?_) z rfl)));obtain⟨vs,H1,n,A,B⟩:=m;obtain⟨q,ns,e,C,hz,fin⟩:=B;subst e;obtain⟨u,rfl,D⟩:=vals1 A;cases D;obtain⟨g,w,pt,_⟩:=n.tuple C;have hl:=w.length;rw[M3]at hl;refine BY (n.ok.hd hc) (show v.heap.IsTuple q g.toArray from pt) (intsAre_of w) (by rw[My];unfold scanBound;omega) λh' tk x E=>Calls.spliced_nil ?_
 have F:Inv X pins σ H1 { v with heap:=h',toks:=tk }:=n.kept λb o e=>E b o (Mx e) e
 have r:g.toArray.size=ns.length:=by rw[My];exact hl.symm
 rw[r]at x;obtain⟨o,es',ep,t,G,ex,hd,_,_,J,L,hsz⟩:=x;refine PySem.call_len_set G ex hd L (by unfold scanBound at J;omega) ⟨.int (seen ns ns.length).length,H1,F.tok _,⟨_,by rw[hsz]⟩,fin⟩
def lK:List PyData->Option PyData
 |[.tuple x]=>(fF x).bind λns=>if ns.length<=1000 then some (.int (seen ns ns.length).length) else none
 |_=>none
theorem Br {b:Pos} (hc:X.calm=true) (hm:X.mg "set"=none) (c:X.mg "len"=none) (ha:PAD X E [a] gs) (l:Gl X "set") (f:Gl X "len") (m:starEach [a] X.env=[(false,eval a X.env)])
  (g:starEach [.Call (.Name "set" p) [a] [] pos] X.env=(false,eval (.Call (.Name "set" p) [a] [] pos) X.env)::starEach [] X.env) (h:(backTo b (starEach [] X.env)).any (·.1)=false) :
  PD X E (.Call (.Name "len" p2) [.Call (.Name "set" p) [a] [] pos] [] b) (gF lK gs):=(Bz hc l hm f c ha.1 m g h).imp λσ H Q ⟨A,δ,R,o⟩=>rW R o λds vs H1 e s1 R1 h1 o=>by
 unfold lK at o;split at o
 ·rename_i x;cases q:fF x with
  |none=>rw[q]at o;exact o.elim
  |some ns =>
   rw[q]at o;obtain⟨v,rfl,n⟩:=kz h1;obtain⟨p,xs,rfl,i,j⟩:=n.ofTup;rw[d6 q]at j;rw[j.ofInts]at i;by_cases z:ns.length<=1000
   ·simp only[NP,if_pos z]at o;exact⟨p,ns,rfl,SqT.of (aB _ _ i),z,o _ H1 (ax.refl _) bP⟩
   ·simp only[NP,if_neg z]at o;exact o.elim
 ·exact o.elim
end
open AutoSeq1 (wpAny_loadPart')
open SeqAt (EqAt)
theorem vE {prog:Program} {w:World} {A:Around} {E:Value->Shared->Prop} {s:Shared} {a:Array Value} {x:Value} {e:Value->Bool} {j:Nat} {Q:Option PySem.Fin×Unit->Shared->Prop} (f:j<a.size) (hit:e a[j]=true) (c:∀m (hm:m<a.size),m<j->e a[m]=false)
  (g:∀y,y∈a->EqAt A s y x (e y)) (h:Q (some (.done (.ret (.int j s.toks))),()) { s with toks:=s.toks+1 }):∀(k i m:Nat),i+k=j->j<i+m ->
  wpAny (model prog w) A (forIn (List.range' i m) ((none:Option PySem.Fin),()) λ(i:Nat) _=>match a[i]? with
   |some y=>do
    let b <-eqBool y x
    if b=true then do
      let r <-retInt (i:Int)
      pure (ForInStep.done (some r,()))
     else pure (ForInStep.yield (none,()))
   |_=>pure (ForInStep.yield (none,()))) Q E s
 |0,i,0,h1,h2=>by omega
 |0,i,m+1,h1,h2=>by
  have:i=j:=by omega
  subst this;rw[Ov,NY];have q:a[i]?=some a[i]:=by simp[f]
  simp only[q];refine wpAny_bind (wpAny_bind (g _ (Array.getElem_mem f) prog w _ _ ?_));rw[hit,if_pos rfl];unfold retInt;exact wpAny_bind (wpAny_bind (wpAny_mkInt (wpAny_pure (wpAny_pure (wpAny_pure h)))))
 |k+1,i,0,h1,h2=>by omega
 |k+1,i,m+1,h1,h2=>by
  have hi:i<a.size:=by omega
  rw[Ov,NY];have q:a[i]?=some a[i]:=by simp[hi]
  simp only[q];refine wpAny_bind (wpAny_bind (g _ (Array.getElem_mem hi) prog w _ _ ?_));rw[c i hi (by omega),if_neg MG];exact wpAny_pure (vE f hit c g h k (i+1) m (by omega) (by omega))
theorem BG (c:Addr) (a:Array Value) (n:Nat) (dd:Option Addr) (f:Array (Option Value)) (x:Value) (e:Value->Bool) (j:Nat) (h:j<a.size) (hit:e a[j]=true) (b:∀m (hm:m<a.size),m<j->e a[m]=false) :
  Meets (Builtin.«tuple.index» ⟨[.ref c,x],[]⟩)
   (λA R s=>s.heap.get? c=some { cls:=.type "tuple",dict:=dd,data:=.seq a n,slots:=f }/\(∀y,y∈a->EqAt A.in1 s y x (e y))/\R (.ok (.ret (.int j s.toks))) { s with toks:=s.toks+1 }):=by
 intro prog w A R s i;obtain⟨hp,g,d,tk,os⟩:=s;obtain⟨hl,l,o⟩:=i;unfold Builtin.«tuple.index»;simp only[Std.Legacy.Range.forIn_eq_forIn_range',Std.Legacy.Range.size];generalize hF:(@forIn Sem (List Nat))=F
 wp_walk using wpAny_loadPart' hl
 subst hF;refine vE h hit b l ?_ j 0 _ (by omega) (by simp;omega);exact wpAny_pure o
section
variable {E:XK} {a o e:Expr} {go:Ds->Rs PyData} {es:List Expr}
def Ju:V->List V->Hp->VK->Prop:=λx vs H Q=>∃l xs y j,x=.ref l/\vs=[y]/\H l=some (.tup xs)/\jr y=true/\xs.all jr=true/\(xs.findIdx? λz=>eqV z y)=some j/\Q (.int j) H
def tIx (to:TE) (t:TA):TE:=λσ H Q=>to σ H λx H1=>(∃l xs,x=.ref l/\H1 l=some (.tup xs))/\t σ H1 λvs H2=>Ju x vs H2 Q
theorem B5 {to:TE} {t:TA} {apos:Pos} (U:PE X o to) (ha:PA X [e] t) (c:attributeBase o "index" X.env (eval o X.env)=eval o X.env:=by rfl)
  (r:((backTo cpos (starEach [e] X.env)).all (λx=>!x.1)&&(backToKw cpos (keywordEach [] X.env)).all (λx=>x.1.isSome)&&decide (([e]:List Expr).length+([]:List Keyword).length+(if ([]:List Keyword).isEmpty then 0 else 1)<30))=true:=by rfl)
  (f:(apos.endLine==cpos.line)=true:=by rfl) (W:starEach [e] X.env=(false,eval e X.env)::starEach [] X.env:=by rfl) (b:(backTo cpos (starEach [] X.env)).any (·.1)=false:=by rfl) :
  PE X (.Call (.Attribute o "index" apos) [e] [] cpos) (tIx to t):=by
 intro pins s σ H Q I h;refine wpAny_Call_method_late c r f rfl (thn (U pins s σ H _ I h) λv Y g=>?_);obtain⟨x,H1,O,Z,⟨l,xs,hx,hl⟩,q1⟩:=g;subst hx;cases Z;obtain⟨P,its,rv,R,ge,gc,gd,n,gq⟩:=O.hok l _ hl;refine⟨"tuple", "tuple.index",PySem.F.plainAttrs_tuple,PySem.F.slot_tuple_index,PySem.F.type_tuple_index,⟨R,ge,gc⟩,λa ea=>by cases ea;exact⟨R,ge,gd⟩,?_⟩;have S:=ha cpos pins Y σ H1 _ O q1;rw[W]at S ⊢;refine Calls.callWith_builtin (by show (false||(backTo cpos (starEach [] X.env)).any (·.1))=false;rw[b];rfl) (Calls.evalArgs_plain ?_);refine thn S λus s2 g=>?_
 obtain⟨vs,H2,T,r2,q2⟩:=g;obtain⟨l',i,y,j,e1,e2,D,fy,fs,hj,q⟩:=q2;cases e1;subst e2;obtain⟨hz',its',p,E,w,A,B,n',C⟩:=T.hok l _ D;obtain⟨u,rfl,ru⟩:=vals1 r2;obtain⟨oc,od,oda,osl⟩:=E;simp only at A B C;subst A B C;have hlen:=p.length;obtain⟨G,J,K⟩:=List.findIdx?_eq_some_iff_getElem.mp hj;have at':∀(m:Nat) (hm:m<i.length),eqU y (its'[m]'(by omega))=eqV i[m] y:=λm hm=>by
  obtain⟨w',hw,L⟩:=p.get (M1 hm);have:its'[m]'(by omega)=w':=by have h2:=M1 (show m<its'.length by omega);rw[h2]at hw;exact Option.some.inj hw
  rw[this];exact xX L (MD.mp fs _ (MZ hm))
 refine call_meets PySem.F.slot_tuple_index ⟨_,w,rfl⟩ PySem.F.entry_tuple_index (PySem.F.args_tuple_index_2 _ _) (BG l its'.toArray n' none osl u (eqU y) j (by simp;omega) (by simpa[at' j G] using J) (λm hm M=>?_)) ⟨w,λz P=>lY ru fy p fs z (by simpa using P),⟨.int j,H2,T.tok _,⟨_,rfl⟩,q⟩⟩;have N:m<i.length:=by simp at hm;omega
 have:=K m M;simpa[at' m N] using this
def mT (xs:List PyData) (y:PyData):Option PyData:=if gD y&&xs.all gD then ((xs.map toV).findIdx? λz=>eqV z (toV y)).map λj=>.int j else none
def kW (go ga:Ds->Rs PyData):Ds->Rs PyData:=λδ=>(go δ).bind λd=>match d with
 |.tuple xs=>(ga δ).bind λy=>Rs.fc (mT xs y)
 |_=>.no
theorem Cj {apos:Pos} (r:PD X E o go) (ha:PD X E e ga) (c:attributeBase o "index" X.env (eval o X.env)=eval o X.env)
  (h:((backTo cpos (starEach [e] X.env)).all (λx=>!x.1)&&(backToKw cpos (keywordEach [] X.env)).all (λx=>x.1.isSome)&&decide (([e]:List Expr).length+([]:List Keyword).length+(if ([]:List Keyword).isEmpty then 0 else 1)<30))=true)
  (f:(apos.endLine==cpos.line)=true) (l:starEach [e] X.env=(false,eval e X.env)::starEach [] X.env) (b:(backTo cpos (starEach [] X.env)).any (·.1)=false) :
  PD X E (.Call (.Attribute o "index" apos) [e] [] cpos) (kW go ga):=(B5 r (ej ha f9 l) c h f l b).imp λσ H Q i=>by
 obtain⟨A,δ,R,a⟩:=i;unfold kW at a;refine eD.run R (λd1 e1 v H1 m s h1=>?_) (λC g H' s'=>by rw[g]at a;exact a H' s') (λg=>by rw[g]at a;exact a);simp only[e1,Rs.ag]at a;cases d1 with
 |tuple xs =>
  obtain⟨p,vs,rfl,n,t⟩:=h1.ofTup;refine⟨⟨p,vs,rfl,aB _ _ n⟩,?_⟩;have a:hZ X.K E A H ((ga δ).bind λy=>Rs.fc (mT xs y)) Q:=a;refine eD.run s (λd2 e2 u H2 s2 R2 h2=>?_) (λC g H' s'=>by rw[g]at a;exact a H' (m.trans s')) (λg=>by rw[g]at a;exact a);simp only[e2,Rs.ag]at a;unfold mT at a;split at a
  ·rename_i z;rw[M8]at z;obtain⟨f1,f2⟩:=h2.flat z.1;obtain⟨w,B⟩:=t.flat z.2;cases q:((xs.map toV).findIdx? λz=>eqV z (toV d2)) with
   |none=>rw[q]at a;exact a.elim
   |some j =>rw[q]at a;exact⟨p,vs,u,j,rfl,rfl,s2 _ _ (aB _ _ n),f2,B,by rw[f1,w];exact q,a _ H2 (m.trans s2) bP⟩
  ·exact a.elim
 |_=>exact a.elim
end
end L2
namespace L2
open PySem PySem.Spec PyProof.Rows
def vU:List Int->Option Int
 |[]=>none
 |x::r=>some (r.foldl (λa b=>if b>a then b else a) x)
theorem fold_max:∀(r:List Int) (x:Int),(r.foldl (λa b=>if b>a then b else a) x)∈x::r/\∀a∈x::r,a<=r.foldl (λa b=>if b>a then b else a) x
 |[],x=>⟨M6,λa ha=>by cases Mw.mp ha;exact NA _⟩
 |y::r,x=>by
  obtain⟨h1,h2⟩:=fold_max r (if y>x then y else x);rw[NI];have c:=h2 _ M6;refine⟨?_,λa ha=>?_⟩
  ·rcases M7.mp h1 with z|z
   ·rw[z];split <;> simp
   ·exact M4 _ (M4 _ z)
  ·have e:x<=(if y>x then y else x):=by split <;> omega
   have f:y<=(if y>x then y else x):=by split <;> omega
   rcases M7.mp ha with rfl|ha
   ·exact Ow e c
   ·rcases M7.mp ha with rfl|ha
    ·exact Ow f c
    ·exact h2 a (M4 _ ha)
theorem FE {M m:Int} (h1:M∈ns) (h2:∀a∈ns,a<=M) (e:vU ns=some m):M=m:=by
 cases ns with
 |nil=>cases e
 |cons x r =>cases e;obtain⟨g1,g2⟩:=fold_max r x;have a1:=h2 _ g1;have a2:=g2 _ h1;omega
section
variable {E:XK} {a:Expr} {es:List Expr}
theorem Ga:bootBuiltins "max"=some (.builtin "max"):=by decide +kernel
theorem Fb:bootBuiltins "min"=some (.builtin "min"):=by decide +kernel
end
section
variable {E:XK}
end
section
variable {E:XK} {a b c:Expr} {gc:Ds->Rs PyData}
end
section
variable {E:XK} {a:Expr} {es:List Expr}
end
section
variable {E:XK} {a:Expr}
end
end L2
namespace PyProof.Rows
open PySem
section
variable {A:Around}
end
end PyProof.Rows
namespace L2
open PySem PySem.Spec PyProof.Rows
section
variable {E:XK} {a:Expr} {es:List Expr}
end
end L2
namespace L2
open PySem PySem.Spec PySem.Calls PyProof.Rows PySem.W PySem.Builtin PySem.Builtin.ObjectAttr PySem.Builtin.Getset_descriptor
section
variable {A:Around} {K:Frag} {x:Addr} {ox:Obj}
structure Hu (h:Heap) (x:Addr) (D:Addr):Prop where
 ex:∃o,h.get? x=some o/\o.cls=.ref D
theorem Hu.type {M:Model} (I:Hu h x D):Looks M h (typeOf (.ref x)) (.ref D):=by obtain⟨o,h1,h2⟩:=I.ex;exact h2▸(Looks.ld h1).andThen .now
end
end L2
namespace L2
open PySem PySem.Spec PyProof.Rows
section
variable {E:XK} {ea:Addr} {oe:Obj}
end
section
variable {E:XK} {ea:Addr} {oe:Obj}
end
def yH (O:List Nat) (i:Nat) (g:Ds->Rs PyData):Ds->Sr:=λδ=>match δ[i]? with
 |some (some (.int a))=>ofR (g (mask O δ)) λd=>match d with
  |.int b=>.nx (δ.set i (some (.int (a+b))))
  |_=>.no
 |_=>.no
section
variable {E:XK} {e a b:Expr} {es:List Expr}
theorem Gp (h:PD X E e ga) (g:X.N.Nodup) (c:i∉O) (hi:X.N[i]?=some x) (j:Loc X.env.scope x)
  (l:X.fn x=true\/X.env.scope.names.lookup x=some .local):PSD X E O (.AugAssign (.Name x pos') .Add e pos) (yH O i ga):=(Jv g hi j h J5 l).imp λD σ H a=>by
 obtain⟨H0,A0,A,δ,R,o⟩:=a;unfold yH at o;split at o
 ·rename_i z f;obtain⟨v,ev,hv⟩:=R.pl i _ c f;have hl:i<δ.length:=(MQ.mp f).1;refine⟨v,ev,?_⟩;refine eD.run R.part (λd m u H1 n R1 p=>?_) (λC b H' s'=>?_) (λb=>?_)
  ·rw[m,av]at o;split at o
   ·refine⟨_,_,hv.ofInt,p.ofInt,o A _ H1 ((R.step n).set c hl bP)⟩
   ·exact o.elim
  ·rw[b,mV]at o;exact o H' (R.same.trans s')
  ·rw[b,mh]at o;exact o
 ·exact o.elim
def jv (f:Str):List (PyData×PyData)->Option PyData
 |[]=>none
 |(k,d)::r=>match k with
  |.str g=>if g=f then some d else jv f r
  |_=>none
def bB (C:Addr) (f:Str):PyData->Option PyData
 |.dict (k::r)=>match k with
  |(.str z,.int c)=>if z=""/\c=(C:Int) then jv f r else none
  |_=>none
 |_=>none
theorem Isk.jv {K:PySem.W.Frag} {H:Hp}:∀{r:List (PyData×PyData)} {fs:List (Str×V)} {f:Str} {d:PyData},Isk K H r fs->L2.jv f r=some d->∃v,fs.lookup f=some v/\Is K H d v
 |[],_,f,d,_,l=>by simp[L2.jv]at l
 |(k,x)::r,fs,f,d,h,l=>by
  unfold Isk at h;obtain⟨g,v,fs',rfl,rfl,h1,h2⟩:=h;simp only[L2.jv]at l;rw[MN];by_cases z:g=f
  ·subst z;rw[if_pos rfl]at l;cases l;exact⟨v,by simp,h1⟩
  ·rw[if_neg z]at l;have:(f==g)=false:=by simpa using λq=>z q.symm
   rw[this];exact Isk.jv h2 l
theorem FX {f:Str} {d x:PyData} (s:f≠"@") (e:bB C f d=some x) (h:Is K H d v):∃a dx fs u,v=.ref a/\H a=some (.ins C dx fs)/\fs.lookup f=some u/\Is K H x u:=by
 unfold bB at e;split at e
 ·rename_i k r;split at e
  ·rename_i z c;split at e
   ·rename_i q;obtain⟨rfl,rfl⟩:=q;unfold Is at h;rcases h with (⟨a,ns,_,b,_⟩|⟨a,l,_,b,_⟩)|⟨a,p,dx,fs,ev,h1,hn,h2|h2⟩
    ·injection b with b _;cases b
    ·rcases b with⟨m,b,_⟩|⟨m,b,_⟩ <;> first|(cases b;done)|(cases m <;> cases b)
    ·unfold Isk at h2;obtain⟨g,u,fs',e1,e2,j,n⟩:=h2;cases e1;have i:=j.ofInt;injection i with i
     obtain rfl:p=C:=Int.ofNat.inj i;obtain⟨u,l,o⟩:=n.jv e;exact⟨a,dx,fs,u,ev,h1,l,o⟩
    ·unfold Isk at h2;obtain⟨g,u,fs',e1,e2,j,n⟩:=h2;cases e1;have i:=j.ofInt;injection i with i
     obtain rfl:p=C:=Int.ofNat.inj i;obtain⟨u,l,o⟩:=n.jv e;rw[MN,show (f==("@":Str))=false by simpa using s]at l;exact⟨a,dx,fs,u,ev,h1,l,o⟩
   ·cases e
  ·cases e
 ·cases e
theorem Ic {f:Str} (cl:Cls X.K C) (n:fw X.K C f) (ha:PD X E a ga) (b:attributeBase a f X.env (eval a X.env)=eval a X.env) (c:f≠"@"):PD X E (.Attribute a f pos) (g1 (bB C f) ga) :=
 (Ki ha b).imp λσ H Q ⟨A,δ,R,o⟩=>g1.read (tt:=λQ x H1=>∃a C dx fs v,x=.ref a/\H1 a=some (.ins C dx fs)/\Cls X.K C/\fw X.K C f/\fs.lookup f=some v/\Q v H1) R o λd1 d x H' e _ _ h k=>by obtain⟨p,dx,fs,u,rfl,g,l,i⟩:=FX c e h;exact⟨p,C,dx,fs,u,rfl,aB _ _ g,cl,n,l,k _ H' (ax.refl _) i⟩
def JX (C:Addr) (names:List Str):Sp:=λvs H Q _=>∃(x dx:Addr) (args:List V),vs=.ref x::args/\args.length=names.length/\H x=some (.ins C dx []) /\
 ∀H':Hp,(∀b,b≠x->H' b=H b)->H' x=some (.ins C dx (names.zip args))->Q .non H'
structure pV (P:Program) (w:World) (K:PySem.W.Frag) (mg:Str->Option Value) (base:Heap) (k:Nat) (x:Str) (C:Addr) (names:List Str):Prop where
 ex:∃f fd ps,Mk K C f/\gM P w K mg base (CXW P w) k f fd ps (JX C names)/\Binds K fd ps []/\mg x=some (.ref C)
def sP (C:Addr) (names:List Str):List PyData->Rs PyData:=λds=>if ds.length=names.length then .ok (DF C (names.zip ds)) else .no
theorem uX {K:PySem.W.Frag} {H:Hp}:∀{names:List Str} {ds:List PyData} {vs:List V},Iss K H ds vs->Isk K H ((names.zip ds).map λp=>(.str p.1,p.2)) (names.zip vs)
 |[],_,_,_=>by simpa using oC
 |_::_,[],_,h=>by rw[h.nil_of];simpa using oC
 |n::ns,d::ds,_,h=>by obtain⟨v,r,rfl,h1,h2⟩:=h.cons_of;simp only[O0,M5];exact dY h1 (uX h2)
theorem yE {f:Str}:∀{names:List Str} {vs:List V},f∉names->(names.zip vs).lookup f=none
 |[],_,_=>rfl
 |_::_,[],_=>rfl
 |n::ns,v::vs,h=>by rw[O0,MN,show (f==n)=false by simpa using λq=>h (by rw[q];exact M6)];exact yE λq=>h (M4 _ q)
theorem Fp {k:Nat} (D:pV X.prog X.w X.K X.mg X.base k x C names) (m:cw j X.A) (n:Passes (CXW X.prog X.w) X E) (ha:PAD X E (e::es) gs) (r:k+1<=j) (s:Gl X x)
  (a:(x==("__debug__":Str))=false) (t:starEach (e::es) X.env=(false,eval e X.env)::starEach es X.env) (c:(backTo pos (starEach es X.env)).any (·.1)=false) (hn:("@":Str)∉names) :
  PD X E (.Call (.Name x p) (e::es) [] pos) (aq (sP C names) gs):=by
 obtain⟨f,fd,ps,M,F,u,hm⟩:=D.ex;refine (Ar M F (m.mono r) s hm u .nil n ha.1 a t c).imp λσ H Q g=>?_
 obtain⟨A,δ,R,o⟩:=g;refine rW R o λds vs H1 e s1 v h1 o=>?_
 unfold sP at o;split at o
 ·rename_i hl;intro x dx nx h ne;refine⟨x,dx,vs++[],rfl,by rw[N4,h1.length,hl],aH,λH' k1 k2=>⟨rfl,?_⟩⟩;rw[N4]at k2;have l:ax H1 H':=λb q i=>by have n1:b≠x:=aK i nx;rw[k1 b n1,aA n1,aA (aK i h)];exact i
  refine o (.ref x) H' l (IB (dx:=dx) (fs:=names.zip vs) ?_ (yE hn) (uX (h1.same l.del)));rw[aP (v.ls.new nx)];exact k2
 ·exact o.elim
def wG:PyData->PyData->Option PyData
 |.list x,.int d=>(fF x).map λns=>.int ((vU ns).getD d)
 |_,_=>none
end
section
variable {A:Around} {R:Result->Shared->Prop} {I:Addr} {wr:List Addr} {n:Nat} {T:Nat->Value->Prop} {St:Nat->Heap->Prop} {dv:Value}
theorem CL (a v:Value):argsOk "max" ⟨[a],[(Str.ofString "default",v)]⟩:=by unfold argsOk;kernel_rfl
theorem tW:(toString "max"++toString ".loop":String)="max.loop":=by decide
theorem pD (W:Walks prog w A.in1 I fp wr n T St) (g:Nat->Nat->Bool) (hc:CmpOf prog w A.in1 .Gt T g) (S:Addr) (m:S∉fp):∀(k j:Nat) (s:Shared) (f:Value) (c:Nat),n=j+1+k->St (j+1) s.heap->T (argBest g j) f ->
  s.heap.get? S=some { cls:=.type "list",dict:=none,data:=.seq #[f,f] c,slots:=#[] }->(∀v h' tk,T (argBest g (n-1)) v->(∀b o,b∉wr->b≠S->s.heap.get? b=some o->h'.get? b=some o)->R (.ok (.ret v)) { s with heap:=h',toks:=tk }) ->
  codeAny (model prog w) A (.builtin "max.loop" ⟨[.ref I,.none,.ref S],[(Str.ofString "default",dv)]⟩) R s
 |0,j,s,f,c,hn,hst,hb,hS,hR=>by
  have r:S∉wr:=λh=>m (W.sub _ h)
  refine codeAny_builtin F.entry_max_loop ?_;rw[Around.under_plainId F.plain_max_loop _];show wpAny _ A.in1 (seqItems? (.ref S) >>= _) _ _ s;refine wpAny_bind (wpAny_seqItems hS rfl ?_);show wpAny _ A.in1 (tryCatch (pyNext (.ref I)) _ >>= _) _ _ s;refine wpAny_bind (wpAny_tryCatch (W.done s _ _ (by rw[show n=j+1 from hn];exact hst) λh1 y k1=>?_));have a:=k1 S _ r hS;show wpAny _ A.in1 (updateSeq S (λ_=>#[]) >>= _) _ _ _;refine wpAny_bind (wpAny_updateSeq a rfl (wpAny_bind (wpAny_letGo (wpAny_pure ?_))));exact hR f _ y (by rw[show n-1=j by omega];exact hb) λb o i l z=>(N5 _ _ (Ne.symm l)).trans (k1 b o i z)
 |k+1,j,s,f,c,hn,hst,hb,hS,hR=>by
  have r:S∉wr:=λh=>m (W.sub _ h)
  refine codeAny_builtin F.entry_max_loop ?_;rw[Around.under_plainId F.plain_max_loop _];show wpAny _ A.in1 (seqItems? (.ref S) >>= _) _ _ s;refine wpAny_bind (wpAny_seqItems hS rfl ?_);show wpAny _ A.in1 (tryCatch (pyNext (.ref I)) _ >>= _) _ _ s;refine wpAny_bind (wpAny_tryCatch (W.item (j+1) s _ _ (by omega) hst λv h1 y hv p k1=>?_));have a:=k1 S _ r hS;show wpAny _ A.in1 (tryCatch (holding [v,v] (richCompare .Gt v f >>= _)) _ >>= _) _ _ _;refine wpAny_bind (wpAny_tryCatch (wpAny_holding (wpAny_bind (hc (j+1) (argBest g j) v f _ _ _ hv hb (wpAny_bind (wpAny_holding (wpAny_truthy_bool (wpAny_bind (wpAny_letGo (wpAny_pure ?_))))))))));cases q:g (j+1) (argBest g j) with
  |true =>
   rw[if_pos rfl];refine wpAny_bind (wpAny_updateSeq a rfl (wpAny_bind (wpAny_letGo ?_)));rw[tW];refine wpAny_pure ⟨plainId_quiet F.plain_max_loop _,pD W g hc S m k (j+1) _ v _ (by omega) (W.frame _ _ _ p λb t o e=>?_) (by unfold argBest;rw[q];exact hv) (NM _ a rfl) λu h2 x p2 k2=>?_⟩
   ·exact (N5 _ _ (λz:S=b=>m (z▸t))).trans e
   ·exact hR u h2 x p2 λb o i l z=>k2 b o i l ((N5 _ _ (Ne.symm l)).trans (k1 b o i z))
  |false =>rw[if_neg (by decide)];refine wpAny_bind (wpAny_letGo ?_);rw[tW];refine wpAny_pure ⟨plainId_quiet F.plain_max_loop _,pD W g hc S m k (j+1) _ f c (by omega) p (by unfold argBest;rw[q];exact hb) a λu h2 x p2 k2=>?_⟩;exact hR u h2 x p2 λb o i l z=>k2 b o i l (k1 b o i z)
variable {l:Addr} {xs:Array (Int×Tok)}
theorem Cd (t:A.handled=none) (hl:s.heap.IsList l (intItems xs))
  (u:xs.size=0->∀h' tk,(∀b o,s.heap.get? b=some o->h'.get? b=some o)->Q dv { s with heap:=h',toks:=tk })
  (h:0<xs.size->∀v h' tk,(intItems xs)[argBest (λi j=>decide (numAt xs i>numAt xs j)) (xs.size-1)]?=some v->(∀b o,s.heap.get? b=some o->h'.get? b=some o)->Q v { s with heap:=h',toks:=tk }) :
  wpAny (model prog w) A (call (.builtin "max") [.ref l] [(Str.ofString "default",dv)]) Q E s:=by
 refine kmk_tree F.kind_max F.plain_max F.entry_max (CL _ _) ?_;show wpAny _ A.in1 (Builtin.Builtins.bindParams "max" ["key", "default"] 0 ⟨[],[(Str.ofString "default",dv)]⟩ >>= _) _ _ s;refine wpAny_bind (wpAny_of_eq (show Builtin.Builtins.bindParams "max" ["key", "default"] 0 ⟨[],[(Str.ofString "default",dv)]⟩=pure [none,some dv] from rfl) (wpAny_bind (wpAny_pure ?_)));refine wpAny_bind (iter_intList hl λs2 e st g m=>wpAny_bind (wpAny_newObj_type ?_));subst e;have W:=Walks.list (prog:=prog) (w:=w) (A:=A.in1) t s.heap.objs.size l m (intItems xs);have hsz:(intItems xs).size=xs.size:=by simp[intItems]
 have a:(s.heap.push { cls:=.type "list_iterator",data:=.fields #[.ref l,.int 0 0] }).objs.size∉[s.heap.objs.size,l]:=λhm=>Nv _ (g _ hm)
 rw[tW];refine wpAny_pure ⟨plainId_quiet F.plain_max_loop _,codeAny_builtin F.entry_max_loop ?_⟩;rw[Around.under_plainId F.plain_max_loop _];show wpAny _ A.in1 (seqItems? (.ref _) >>= _) _ _ _;refine wpAny_bind (wpAny_seqItems (Mz _ rfl) rfl ?_);show wpAny _ A.in1 (tryCatch (pyNext (.ref _)) _ >>= _) _ _ _;have c:=W.frame _ _ _ st λb _ o e=>M0 { cls:=.type "list",data:=.seq #[] } e
 have x:(s.heap.push { cls:=.type "list_iterator",data:=.fields #[.ref l,.int 0 0] }).objs.size∉[s.heap.objs.size]:=λz=>a (M7.mpr (.inl (Mw.mp z)))
 have kp:∀b o,s.heap.get? b=some o->b∉[s.heap.objs.size]/\((s.heap.push { cls:=.type "list_iterator",data:=.fields #[.ref l,.int 0 0] }).push { cls:=.type "list",data:=.seq #[] }).get? b=some o/\b≠(s.heap.push { cls:=.type "list_iterator",data:=.fields #[.ref l,.int 0 0] }).objs.size:=λb o e=>by
  have n:b<s.heap.objs.size:=Mx e;refine⟨λz=>?_,M0 _ (M0 _ e),?_⟩
  ·rw[Mw.mp z]at n;exact Nv _ n
  ·rw[Heap.size_push];exact MB (Nf n)
 by_cases hz:xs.size=0
 ·refine wpAny_bind (wpAny_tryCatch (W.done _ _ _ (by rw[hsz,hz];exact c) λh1 r k1=>?_));show wpAny _ A.in1 (rule _ >>= _) _ _ _;refine wpAny_bind (wpAny_rule (wpAny_pure ?_));exact u hz h1 r λb o e=>k1 b o (kp b o e).1 (kp b o e).2.1
 ·refine wpAny_bind (wpAny_tryCatch (W.item 0 _ _ _ (by rw[hsz];omega) c λv h1 r hv p k1=>?_));have f:=k1 _ _ x (Mz _ rfl);show wpAny _ A.in1 (updateSeq _ (λ_=>#[v,v]) >>= _) _ _ _;refine wpAny_bind (wpAny_updateSeq f rfl ?_);rw[tW];refine wpAny_pure ⟨plainId_quiet F.plain_max_loop _,pD W _ (CmpOf.ints_gt (numAt xs) λ_ _=>intItems_at) _ a (xs.size-1) 0 _ v _ (by rw[hsz];omega) (W.frame _ _ _ p λb q o e=>?_) hv (NM _ f rfl) λy h2 B p2 k2=>?_⟩
  ·exact (N5 _ _ (λz:(s.heap.push { cls:=.type "list_iterator",data:=.fields #[.ref l,.int 0 0] }).objs.size=b=>a (by rw[z];exact q))).trans e
  ·refine h (by omega) y h2 B (by rw[hsz]at p2;exact p2) λb o e=>k2 b o (kp b o e).1 (kp b o e).2.2 ?_
   exact (N5 _ _ (Ne.symm (kp b o e).2.2)).trans (k1 b o (kp b o e).1 (kp b o e).2.1)
end
section
variable {E:XK} {e a b:Expr} {es:List Expr}
theorem A9 (h:ns.length=0) (d:Int):(vU ns).getD d=d:=by cases ns with|nil=>rfl|cons _ _=>simp at h
theorem eD.weak {g:Ds->Rs PyData} {Q a:VK} (h:eD K E g σ H Q) (k:∀v H',Q v H'->a v H'):eD K E g σ H a:=by
 obtain⟨A,δ,R,o⟩:=h;refine⟨A,δ,R,?_⟩;cases q:g δ with
 |ok d=>rw[q]at o;exact λv H' b h1=>k v H' (o v H' b h1)
 |rz C=>rw[q]at o;exact o
 |no=>rw[q]at o;exact o
theorem FP (hc:X.calm=true) (hm:X.mg "max"=none) (ha:PD X E a ga) (g:PD X E b gb) (G:Gl X "max") (r:starEach [a] X.env=[(false,eval a X.env)]) :
  PD X E (.Call (.Name "max" p) [a] [⟨some "default",b,kp⟩] pos) (g2 wG ga gb):=by
 have key:PE X (.Call (.Name "max" p) [a] [⟨some "default",b,kp⟩] pos) (tOp (λx y H Q=>∃(p:Addr) (ns:List Int) (d:Int),x=.ref p/\y=.int d/\SqL X.K H p (ns.map V.int)/\Q (.int ((vU ns).getD d)) H) (eD X.K E ga) (eD X.K E gb)):=by
  intro pins s σ H Q I h;refine wpAny_Call_Name_kw (gp I G hm Ga ?_ (by decide) (by decide));refine callWith_kw ?_ (by rw[r];rfl) (by rw[r];rfl) rfl rfl;refine thn ((ej ha f9 r) pos pins s σ H (λvs H1=>∃x,vs=[x]/\eD X.K E gb σ H1 λy H2=>∃(p:Addr) (ns:List Int) (d:Int),x=.ref p/\y=.int d/\SqL X.K H2 p (ns.map V.int)/\Q (.int ((vU ns).getD d)) H2) I
   (eD.weak h λx H1 q=>⟨x,rfl,q⟩)) λus s1 ⟨vs,H1,I1,r1,x,q0,q1⟩=>?_
  subst q0;obtain⟨u,rfl,J⟩:=vals1 r1;refine thn ((yZ g C5) pos pins s1 σ H1 (λvs H2=>∃y,vs=[y]/\∃(p:Addr) (ns:List Int) (d:Int),x=.ref p/\y=.int d/\SqL X.K H2 p (ns.map V.int)/\Q (.int ((vU ns).getD d)) H2) I1
   (eD.weak q1 λy H2 q=>⟨y,rfl,q⟩)) λws s2 ⟨zs,H2,I2,r2,y,q2,p,ns,d,ex,ey,hS,q3⟩=>?_
  subst q2;obtain⟨v,rfl,L⟩:=vals1 r2;subst ex ey;obtain rfl:u=Value.ref p:=J;obtain⟨td,rfl⟩:=(show ∃t,v=Value.int d t from L)
  obtain⟨w,M,pl,_⟩:=I2.list hS;have hi:IntsAre w ns:=intsAre_of M;obtain⟨xs,f⟩:=hi.allInts.items;have c:ns=xs.toList.map (·.1):=by rw[<-hi.numsOf,<-nums_intItems,<-f]
  have z:s2.heap.IsList p (intItems xs):=f▸pl.isList;have B:ns.length=xs.size:=by rw[c,M3,Nq]
  refine Cd (I2.ok.hd hc) z (λN h' tk C=>?_) λN v h' tk hv C=>?_
  ·rw[A9 (by omega) d]at q3;exact⟨.int d,H2,I2.kept C,⟨_,rfl⟩,q3⟩
  ·obtain⟨t,rfl⟩:=intItems_at hv;obtain⟨h1,h2⟩:=argBest_gt (numAt xs) (xs.size-1);obtain⟨m,D⟩:∃m,vU ns=some m:=by
    cases ns with
    |nil=>simp at B;omega
    |cons _ _=>exact⟨_,rfl⟩
   have e:numAt xs (argBest (λi j=>decide (numAt xs i>numAt xs j)) (xs.size-1))=m:=by
    refine FE ?_ (λb g=>?_) D
    ·rw[c,numAt_eq];exact getD_mem (by rw[M3,Nq];omega)
    ·rw[c]at g;obtain⟨j,O,rfl⟩:=mem_getD g;rw[M3,Nq]at O;rw[<-numAt_eq];exact h2 j (by omega)
   rw[D]at q3;exact⟨.int m,H2,I2.kept C,⟨_,by rw[<-e]⟩,q3⟩
 exact key.imp λσ H Q ⟨A,δ,R,o⟩=>g2.read (λd1 d2 d x y H' A' Q' n hA h1 h2 k=>by
  unfold wG at n;split at n
  ·rename_i l dd;obtain⟨ns,q,rfl⟩:=Nz.mp n;obtain⟨p,xs,rfl,F,f⟩:=h1.ofLst;rw[d6 q]at f;rw[f.ofInts]at F;exact⟨p,ns,dd,rfl,h2.ofInt,SqL.of (aB _ _ F),k _ H' (ax.refl _) bP⟩
  ·cases n) R o
end
theorem GZ {b:Array (Option Value)} {kV e:Value}
  (g:∀(kV doc pm:Value) (an:Option Addr) (cdv ct:Value) (us:List Value),us.length=ps.length->bindArgs (PySem.W.fnOf "__init__" qual (fi st) (cj st) (aE st) .none kV doc pm an cdv ct) ⟨us,[]⟩=pure (ps.zip us))
  (a:PySem.W.findIn K (.ref C) "__init__"=some (some (.ref f))) (i:PySem.W.isFn K (.ref f)=true)
  (l:K.lookup f=some ⟨oc,od,.func (PySem.W.fnOf "__init__" qual (fi st) (cj st) (aE st) .none kV e pm an cd ct),b⟩)
  (c:PySem.W.codeIn K cd qual=true) (k:PySem.W.keepIn K (.ref f)=true) (mk:PySem.W.makesIn K C=true) (h:PySem.W.keepIn K (.ref C)=true):∃f fd,Mk K C f/\Fun K "__init__" qual st f fd/\Binds K fd ps [] :=
 have F:=xH (st:=st) l c k
 ⟨f,_,⟨mk,a,i,h⟩,F,F.binds g⟩
end L2
namespace RS
open PySem
set_option genInjectivity true in
structure Er where
 every:Int
 due:Int
 late:Int
 parts:List (Int×Option Int)
def bg:Option Int->PyData
 |none=>.none
 |some i=>.int i
def aJ (p:Int×Option Int):PyData:=.tuple [.int p.1,bg p.2]
def Er.d (e:Er):PyData:=.tuple [.int e.every,.int e.due,.int e.late,.tuple (e.parts.map aJ)]
def aw (es:List Er):PyData:=.tuple (es.map Er.d)
def isWhole (d:PyData) (lo hi:Int):Bool:=match d with
 |.int i=>decide (lo<=i)&&decide (i<=hi)
 |_=>false
def cm (d:PyData) (lo hi:Int):Bool:=match d with
 |.tuple ds=>decide (lo<=(ds.length:Int))&&decide ((ds.length:Int)<=hi)
 |_=>false
def cZ (d:PyData):Bool:=match d with
 |.tuple [a,b]=>isWhole a 1 20&&(match b with|.none=>true|b=>isWhole b 0 3)
 |_=>false
def iQ (ds:List PyData):Bool:=match ds.getLast? with
 |some (.tuple [_,.none])=>true
 |_=>false
def dX (d:PyData):Bool:=match d with
 |.tuple ds=>decide (1<=ds.length)&&decide (ds.length<=4)&&ds.all cZ&&iQ ds
 |_=>false
def bQ (d:PyData):Bool:=match d with
 |.tuple [.int e,du,.int l,ps]=>decide (2<=e)&&decide (e<=60)&&(decide (0<=l)&&decide (l<=(if e-1<20 then e-1 else 20)))&&isWhole du 1 (e-l)&&dX ps
 |_=>false
def c9 (d:PyData):Bool:=match d with
 |.tuple ds=>decide (1<=ds.length)&&decide (ds.length<=6)&&ds.all bQ
 |_=>false
structure Er.Ok (e:Er):Prop where
 e1:2<=e.every
 e2:e.every<=60
 l1:0<=e.late
 l2:e.late<=20
 l3:e.late<e.every
 d1:1<=e.due
 d2:e.due<=e.every-e.late
 p1:e.parts≠[]
 p2:e.parts.length<=4
 pl:∀p∈e.parts,1<=p.1/\p.1<=20/\∀t,p.2=some t->0<=t/\t<=3
 la:∀p,e.parts.getLast?=some p->p.2=none
theorem AD {p:Int×Option Int} (h1:1<=p.1) (h2:p.1<=20) (c:∀t,p.2=some t->0<=t/\t<=3):cZ (aJ p)=true:=by
 obtain⟨l,t⟩:=p;cases t with
 |none=>simp[cZ,aJ,bg,isWhole,h1,h2]
 |some t =>obtain⟨a,b⟩:=c t rfl;simp[cZ,aJ,bg,isWhole,h1,h2,a,b]
theorem vz {e:Er} (h:e.Ok):bQ e.d=true:=by
 have f:(e.parts.map aJ).all cZ=true:=by rw[MD];intro d hd;obtain⟨p,f,rfl⟩:=M9.mp hd;obtain⟨a,b,c⟩:=h.pl p f;exact AD a b c
 have hl:iQ (e.parts.map aJ)=true:=by
  unfold iQ;rw[O4];cases q:e.parts.getLast? with
  |none=>exact absurd (List.getLast?_eq_none_iff.mp q) h.p1
  |some p =>obtain⟨l,t⟩:=p;have:t=none:=h.la _ q;subst this;rfl
 have hn:1<=e.parts.length:=by
  cases q:e.parts with
  |nil=>exact absurd q h.p1
  |cons _ _=>simp
 have h1:=h.e1;have h2:=h.e2;have i:=h.l1;have h4:=h.l2;have h5:=h.l3;have j:=h.d1;have m:=h.d2;have n:=h.p2;have g:e.late<=if e.every-1<20 then e.every-1 else 20:=by split <;> omega
 simp[bQ,Er.d,dX,isWhole,f,hl,hn,h1,h2,i,j,m,n,g]
theorem lR {es:List Er} (h1:1<=es.length) (h2:es.length<=6) (h:∀e∈es,e.Ok):c9 (aw es)=true:=by
 have a:(es.map Er.d).all bQ=true:=by rw[MD];intro d hd;obtain⟨e,b,rfl⟩:=M9.mp hd;exact vz (h e b)
 simp[c9,aw,h1,h2,a]
def cellAt (ns:List Int) (k:Int):Int :=
 if k<(ns.length:Int) then ns.getD k.toNat 0 else if ns=[] then 0 else ns.getD (k % (ns.length:Int)).toNat 0*31+k
def BR (ns:List Int) (k:Int):Int:=(cellAt ns k+7919*k+1)*48271 % 2147483647
def mixed (ns:List Int) (k many:Int):Int:=(BR ns k*BR ns k+7*BR ns k+k) % 2147483629 % many
theorem Gm (ns:List Int) (k:Int):0<=BR ns k:=Na _ (by decide)
theorem G9 (ns:List Int) (k:Int):BR ns k<2147483647:=Nw _ (by decide)
theorem cz (ns:List Int) (k:Int) (h:0<many):0<=mixed ns k many:=Na _ (by omega)
theorem cy (ns:List Int) (k:Int) (h:0<many):mixed ns k many<many:=Nw _ h
def kE (i:Int):Option Int:=if i=0 then some 0 else if i=1 then some 1 else if i=2 then some 1 else if i=3 then some 0 else none
def eR (ns:List Int) (j:Int) (a:Bool):Int×Option Int:=(1+mixed ns j 40 % 4,if a then kE (mixed ns j 40 / 4 % 5) else none)
def iF (ns:List Int) (at' every:Int):Int :=
 if every-1<mixed ns (at' + 1) 4*(if mixed ns (at' + 2) 3=0 then 1 else 0) then every-1 else mixed ns (at' + 1) 4*(if mixed ns (at' + 2) 3=0 then 1 else 0)
def nF (ns:List Int) (at' a:Int):Int:=if mixed ns (at' + 1) 3=0 then a-mixed ns (at' + 2) a else a
def mkE (ns:List Int) (at' top:Int) (a:Bool):Er where
 every:=3+mixed ns at' top
 late:=iF ns at' (3+mixed ns at' top)
 due:=nF ns at' (3+mixed ns at' top-iF ns at' (3+mixed ns at' top))
 parts:=((List.range (mixed ns (at' + 3) 3).toNat).map λ(k:Nat)=>eR ns (at' + 4+(k:Int)) a)++[(1+mixed ns (at' + 6) 3,none)]
def oa (ns:List Int) (at' most top:Int) (a:Bool):List Er:=(List.range (1+mixed ns at' most).toNat).map λ(k:Nat)=>mkE ns (at' + 1+7*(k:Int)) top a
theorem qE (ns:List Int) (at' every:Int) (h:3<=every):0<=iF ns at' every/\iF ns at' every<=3/\iF ns at' every<every:=by
 have h1:=cz ns (at' + 1) (many:=4) (by decide);have h2:=cy ns (at' + 1) (many:=4) (by decide);unfold iF;generalize mixed ns (at' + 1) 4=x at *;by_cases hc:mixed ns (at' + 2) 3=0
 ·simp only[hc,if_true,Int.mul_one];split <;> omega
 ·simp only[hc,if_false,Int.mul_zero];split <;> omega
theorem G2 (ns:List Int) (at' a:Int) (h:1<=a):1<=nF ns at' a/\nF ns at' a<=a:=by have h1:=cz ns (at' + 2) (many:=a) (by omega);have h2:=cy ns (at' + 2) (many:=a) (by omega);unfold nF;split <;> omega
theorem ET (i t:Int) (h:kE i=some t):0<=t/\t<=1:=by
 unfold kE at h
 repeat' split at h
 all_goals (first|(cases h;decide)|cases h)
theorem Du (ns:List Int) (j:Int) (a:Bool):1<=(eR ns j a).1/\(eR ns j a).1<=4/\∀t,(eR ns j a).2=some t->0<=t/\t<=1:=by
 have h1:0<=mixed ns j 40 % 4:=Na _ (by decide);have h2:mixed ns j 40 % 4<4:=Nw _ (by decide);refine⟨by unfold eR;simp only;omega,by unfold eR;simp only;omega,λt h=>?_⟩;unfold eR at h;simp only at h;cases a with
 |false=>simp at h
 |true=>simp at h;exact ET _ _ h
theorem HH (ns:List Int) (at' top:Int) (a:Bool) (h1:0<top) (h2:top<=58):(mkE ns at' top a).Ok:=by
 have a1:=cz ns at' h1;have a2:=cy ns at' h1;have l:=qE ns at' (3+mixed ns at' top) (by omega);have d:=G2 ns at' (3+mixed ns at' top-iF ns at' (3+mixed ns at' top)) (by omega);have n1:=cz ns (at' + 3) (many:=3) (by decide);have n2:=cy ns (at' + 3) (many:=3) (by decide);have n3:=cz ns (at' + 6) (many:=3) (by decide);have n4:=cy ns (at' + 6) (many:=3) (by decide);refine⟨?_,?_,l.1,?_,l.2.2,d.1,d.2,?_,?_,?_,?_⟩
 ·show 2<=3+mixed ns at' top;omega
 ·show 3+mixed ns at' top<=60;omega
 ·have:=l.2.1;show iF ns at' (3+mixed ns at' top)<=20;omega
 ·simp[mkE]
 ·simp only[mkE,Mv,M3,Om,MR];omega
 ·intro p b;simp only[mkE,MM,M9,Mw]at b;rcases b with⟨k,_,rfl⟩|rfl
  ·have:=Du ns (at' + 4+(k:Int)) a;refine⟨this.1,by omega,λt c=>?_⟩;have:=this.2.2 t c;omega
  ·exact⟨by simp only;omega,by simp only;omega,λt c=>by cases c⟩
 ·intro p b;simp only[mkE,List.getLast?_append,List.getLast?_singleton,Option.some_or]at b;cases b;rfl
theorem Dy (ns:List Int) (at' most top:Int) (a:Bool) (h:0<most):1<=(oa ns at' most top a).length/\((oa ns at' most top a).length:Int)<=most:=by have h1:=cz ns at' h;have h2:=cy ns at' h;simp only[oa,M3,Om];omega
theorem EV (ns:List Int) (at' most top:Int) (a:Bool) (h1:0<top) (h2:top<=58):∀e∈oa ns at' most top a,e.Ok:=by intro e b;simp only[oa,M9]at b;obtain⟨k,_,rfl⟩:=b;exact HH _ _ _ _ h1 h2
end RS
variable {e:RS.Er} {es:List RS.Er}
namespace RS
open PySem L2
structure Cs where
 RankError:Addr
 NoErrands:Addr
 NoRanks:Addr
 NoComings:Addr
 NoErrand:Addr
 NoNumber:Addr
 TooLong:Addr
 NoText:Addr
 Holding:Addr
 Jobs:Addr
abbrev Gf:=List PyData->Rs PyData
def bM (K:PySem.W.Frag) (mg:Str->Option Value) (x:Str) (st:Stmt) (ps:List Str):Prop:=∃f fd,Fun K x x st f fd/\Binds K fd ps []/\mg x=some (.ref f)
def jn (cs:Cs):Ds->Sr :=
 (az (sIf (cOr (gK (gT (g1 (k7 "int") (af 0)))) (gT (g1 (k7 "bool") (af 0)))) (bh (gC (.bool false))) aY)
  (bh (nz dLe dLe (af 1) (af 0) (af 2))))
def i4 (cs:Cs):Ds->Sr :=
 (bh (BV (g1 (k7 "tuple") (af 0)) (nz dLe dLe (af 1) (gF b8 (ae (af 0) ah)) (af 2))))
def gU (cs:Cs) (aO a9:Gf):Ds->Sr :=
 (az (sIf (cOr (gK (gT (aq a9 (ae (af 0) (ae (gC (.int 2)) (ae (gC (.int 2)) ah)))))) (gK (gT (aq aO (ae (g2 dIx (af 0) (gC (.int 0))) (ae (gC (.int 1)) (ae (gC (.int 20)) ah))))))) (bh (gC (.bool false))) aY)
  (bh (gOr (g1 m8 (g2 dIx (af 0) (gC (.int 1)))) (aq aO (ae (g2 dIx (af 0) (gC (.int 1))) (ae (gC (.int 0)) (ae (g2 gy (gC (.int 4)) (gC (.int 1))) ah)))))))
def fX (cs:Cs) (a9 a:Gf):Ds->Sr :=
 (az (sIf (cOr (gK (gT (aq a9 (ae (af 0) (ae (gC (.int 1)) (ae (gC (.int 4)) ah)))))) (gK (gT (gF n6 (ae (gL (a8 1 (bG (af 0)) bA (aq a (ae (af 1) ah)) aI)) ah))))) (bh (gC (.bool false))) aY)
  (bh (g1 m8 (g2 dIx (g2 dIx (af 0) (g1 mZ (gC (.int 1)))) (gC (.int 1))))))
def dS (cs:Cs) (aO a a9:Gf):Ds->Sr :=
 (az (sIf (gK (gT (aq a9 (ae (af 0) (ae (gC (.int 4)) (ae (gC (.int 4)) ah)))))) (bh (gC (.bool false))) aY)
  (az (aL [] 1 (g2 dIx (af 0) (gC (.int 0))))
  (az (aL [] 2 (g2 dIx (af 0) (gC (.int 1))))
  (az (aL [] 3 (g2 dIx (af 0) (gC (.int 2))))
  (az (sIf (gK (gT (aq aO (ae (af 1) (ae (gC (.int 2)) (ae (gC (.int 60)) ah)))))) (bh (gC (.bool false))) aY)
  (az (sIf (gK (gT (aq aO (ae (af 3) (ae (gC (.int 0)) (ae (gF kG (ae (gC (.int 20)) (ae (g2 gy (af 1) (gC (.int 1))) ah))) ah)))))) (bh (gC (.bool false))) aY)
  (bh (BV (aq aO (ae (af 2) (ae (gC (.int 1)) (ae (g2 gy (af 1) (af 3)) ah)))) (aq a (ae (g2 dIx (af 0) (gC (.int 3))) ah))))))))))
def iX (cs:Cs) (a9 a:Gf):Ds->Sr :=
 (az (sIf (cOr (gK (gT (aq a9 (ae (af 0) (ae (gC (.int 1)) (ae (gC (.int 6)) ah)))))) (gK (gT (gF n6 (ae (gL (a8 1 (bG (af 0)) bA (aq a (ae (af 1) ah)) aI)) ah))))) (iY cs.NoErrands (ae (gC (.str "errands are a tuple of 1 to 6 errands (every, due, late, parts)")) ah)) aY)
  (bh (af 0)))
def cL (cs:Cs) (a9 aO:Gf):Ds->Sr :=
 (az (aL [] 2 (g2 gy (gF b8 (ae (af 0) ah)) (gC (.int 1))))
  (az (sIf (cOr (gK (gT (aq a9 (ae (af 1) (ae (gF b8 (ae (af 0) ah)) (ae (gF b8 (ae (af 0) ah)) ah)))))) (gK (gT (gF n6 (ae (gL (a8 3 (bG (af 1)) bA (aq aO (ae (af 3) (ae (gC (.int 0)) (ae (af 2) ah)))) aI)) ah))))) (iY cs.NoRanks (ae (gC (.str "ranks are a tuple of the numbers of all errands")) ah)) aY)
  (az (sIf (gT (g2 dLt (gF lK (ae (af 1) ah)) (gF b8 (ae (af 1) ah)))) (iY cs.NoRanks (ae (gC (.str "ranks have each errand's number once")) ah)) aY)
  (bh (af 1)))))
def eo (cs:Cs) (aO:Gf):Ds->Sr :=
 (az (sIf (gK (gT (aq aO (ae (af 1) (ae (gC (.int 0)) (ae (g2 gy (gF b8 (ae (af 0) ah)) (gC (.int 1))) ah)))))) (iY cs.NoErrand (ae (gC (.str "no errand has this number")) ah)) aY)
  (bh (af 1)))
def fO (cs:Cs) (bD aV br:Gf):Ds->Sr :=
 (az (j4 (aq br (ae (af 0) ah)))
  (az (j4 (aq aV (ae (af 0) (ae (af 1) ah))))
  (j4 (aq bD (ae (af 0) (ae (af 2) ah))))))
def rF (cs:Cs):Ds->Sr :=
 (bh (gF qQ (ae (gL (a8 1 (bG (g2 dIx (af 0) (gC (.int 3)))) bA (g2 dIx (af 1) (gC (.int 0))) aI)) ah)))
def jh (cs:Cs):Ds->Sr :=
 (bh (g2 (D0 false) (af 1) (gL (a8 2 (bG (g2 dIx (af 0) (gC (.int 3)))) bA (g2 dIx (af 2) (gC (.int 1))) aI))))
def me (cs:Cs) (cC:Gf):Ds->Sr :=
 (az (fA [] (iO (ae (af 1) ah)) (fZ [3,4]) (sIf (gT (aq cC (ae (g2 dIx (af 0) (af 4)) (ae (af 2) ah)))) (bh (af 3)) aY))
  (bh (gC .none)))
def gN (cs:Cs) (dG:Gf):Ds->Sr :=
 (bh (gL (a8 2 (fW (ae (gC (.int 4)) ah)) bA (aq dG (ae (af 0) (ae (af 1) (ae (af 2) ah)))) aI)))
def ja (cs:Cs) (aR:Gf):Ds->Sr :=
 (az (aL [5] 3 (kW (af 1) (af 2)))
  (az (aL [5] 4 (aq aR (ae (af 0) (ae (af 1) ah))))
  (az (eV [5] 5 ah)
  (az (fA [5] (bG (hV (af 1) (jV (g2 ba (af 3) (gC (.int 1)))) fN)) (bw 6) (fA [5] (iO (ae (g2 dIx (g2 dIx (af 0) (af 6)) (gC (.int 3))) ah)) (fZ [7,8]) (sIf (AW (gT (g1 iu (g2 dIx (af 8) (gC (.int 1))))) (gT (g2 dLe (g2 dIx (af 4) (g2 dIx (af 8) (gC (.int 1)))) (af 3)))) (gH [5] 5 (aq (sP cs.Holding ["number", "part", "tool", "times"]) (ae (af 6) (ae (af 7) (ae (g2 dIx (af 8) (gC (.int 1))) (ae (g2 gy (g2 dIx (af 8) (gC (.int 0))) (gC (.int 1))) ah)))))) aY)))
  (bh (af 5))))))
def fq (cs:Cs) (cU:Gf):Ds->Sr :=
 (bh (g2 wG (gL (a8 3 (bG (aq cU (ae (af 0) (ae (af 1) (ae (af 2) ah))))) bA (g1 (bB cs.Holding "times") (af 3)) aI)) (gC (.int 0))))
def gP (cs:Cs):Ds->Sr :=
 (bh (g2 iV (g2 gy (g2 ba (af 0) (af 1)) (gC (.int 1))) (af 1)))
def ui (cs:Cs) (a bS:Gf):Ds->Sr :=
 (az (aL [] 5 (g2 ba (af 3) (aq a (ae (g2 dIx (af 0) (af 2)) ah))))
  (az (fA [] (bG (hV (af 1) fN (jV (kW (af 1) (af 2))))) (bw 6) (az (aL [] 7 (g2 dIx (af 0) (af 6)))
  (yH [] 5 (g2 b0 (aq a (ae (af 7) ah)) (aq bS (ae (g2 ba (af 4) (g2 dIx (af 7) (gC (.int 2)))) (ae (g2 dIx (af 7) (gC (.int 0))) ah)))))))
  (bh (af 5))))
def iq (cs:Cs) (cW:Gf):Ds->Sr :=
 (az (aL [5] 4 (g2 gy (g2 dIx (g2 dIx (af 0) (af 2)) (gC (.int 0))) (g2 dIx (g2 dIx (af 0) (af 2)) (gC (.int 2)))))
  (az (eV [5] 5 ah)
  (az (aL [5] 6 (aq cW (ae (af 0) (ae (af 1) (ae (af 2) (ae (af 3) (ae (gC (.int 1)) ah)))))))
  (az (λδ=>bU (gT (g2 dLe (af 6) (af 4))) (az (gH [5] 5 (af 6))
  (az (aL [5] 7 (aq cW (ae (af 0) (ae (af 1) (ae (af 2) (ae (af 3) (ae (af 6) ah)))))))
  (az (sIf (gT (g2 dEq (af 7) (af 6))) (bh (af 5)) aY)
  (aL [5] 6 (af 7))))) 1000000 δ)
  (bh (gC .none))))))
def fz (cs:Cs) (cT:Gf):Ds->Sr :=
 (az (aL [] 4 (aq cT (ae (af 0) (ae (af 1) (ae (af 2) (ae (af 3) ah))))))
  (bh (gIf (gT (g1 m8 (af 4))) (gC .none) (g2 dIx (af 4) (g1 mZ (gC (.int 1)))))))
def dQ (cs:Cs) (bo cB:Gf):Ds->Sr :=
 (bh (aq cB (ae (af 0) (ae (af 1) (ae (af 2) (ae (aq bo (ae (af 0) (ae (af 1) (ae (af 2) ah)))) ah))))))
def kl (cs:Cs) (bJ bz:Gf):Ds->Sr :=
 (az (j4 (aq bz (ae (af 0) (ae (af 1) (ae (af 2) ah)))))
  (bh (aq bJ (ae (af 0) (ae (af 1) (ae (af 2) ah))))))
def gE (cs:Cs) (aj:Gf):Ds->Sr :=
 (az (aL [7] 4 (g2 ba (gC (.int 3)) (aq aj (ae (af 0) (ae (af 1) (ae (af 2) ah))))))
  (az (aL [7] 5 (g2 b0 (aq aj (ae (af 0) (ae (g2 ba (af 1) (gC (.int 1))) (ae (gC (.int 4)) ah)))) (gF BJ (ae (g2 dEq (aq aj (ae (af 0) (ae (g2 ba (af 1) (gC (.int 2))) (ae (gC (.int 3)) ah)))) (gC (.int 0))) ah))))
  (az (aL [7] 5 (gF kG (ae (af 5) (ae (g2 gy (af 4) (gC (.int 1))) ah))))
  (az (aL [7] 6 (g2 gy (af 4) (af 5)))
  (az (sIf (gT (g2 dEq (aq aj (ae (af 0) (ae (g2 ba (af 1) (gC (.int 1))) (ae (gC (.int 3)) ah)))) (gC (.int 0)))) (aL [7] 6 (g2 gy (af 6) (aq aj (ae (af 0) (ae (g2 ba (af 1) (gC (.int 2))) (ae (af 6) ah)))))) aY)
  (az (eV [7] 7 ah)
  (az (fA [7] (fW (ae (aq aj (ae (af 0) (ae (g2 ba (af 1) (gC (.int 3))) (ae (gC (.int 3)) ah)))) ah)) (bw 8) (az (aL [7] 9 (aq aj (ae (af 0) (ae (g2 ba (g2 ba (af 1) (gC (.int 4))) (af 8)) (ae (gC (.int 40)) ah)))))
  (az (gH [7] 7 (fD (ae (g2 ba (gC (.int 1)) (g2 eJ (af 9) (gC (.int 4)))) (ae (g2 dIx (rh (ae (gC (.int 0)) (ae (gC (.int 1)) (ae (gC (.int 1)) (ae (gC (.int 0)) (ae (gC .none) ah)))))) (g2 eJ (g2 iV (af 9) (gC (.int 4))) (gC (.int 5)))) ah))))
  (sIf (gK (gT (af 3))) (q9 7 (g1 mZ (gC (.int 1))) (fD (ae (g2 dIx (g2 dIx (af 7) (g1 mZ (gC (.int 1)))) (gC (.int 0))) (ae (gC .none) ah)))) aY))))
  (bh (fD (ae (af 4) (ae (af 6) (ae (af 5) (ae (gF fg (ae (g2 ba (af 7) (rh (ae (fD (ae (g2 ba (gC (.int 1)) (aq aj (ae (af 0) (ae (g2 ba (af 1) (gC (.int 6))) (ae (gC (.int 3)) ah))))) (ae (gC .none) ah))) ah))) ah)) ah)))))))))))))
def fP (cs:Cs) (ck aj:Gf):Ds->Sr :=
 (az (aL [] 5 (g2 ba (gC (.int 1)) (aq aj (ae (af 0) (ae (af 1) (ae (af 2) ah))))))
  (bh (gF fg (ae (gL (a8 6 (fW (ae (af 5) ah)) bA (aq ck (ae (af 0) (ae (g2 ba (g2 ba (af 1) (gC (.int 1))) (g2 b0 (gC (.int 7)) (af 6))) (ae (af 3) (ae (af 4) ah))))) aI)) ah))))
def ia (cs:Cs) (aj:Gf):Ds->Sr :=
 (az (eV [3,4] 3 (gLR (ae (af 2) ah)))
  (az (eV [3,4] 4 ah)
  (az (fA [3,4] (fW (ae (af 2) ah)) (bw 5) (i5 4 3 (aq aj (ae (af 0) (ae (g2 ba (af 1) (af 5)) (ae (gF b8 (ae (af 3) ah)) ah))))))
  (bh (gF fg (ae (af 4) ah))))))
def pQ (cs:Cs):Ds->Sr :=
 (bh (gF qQ (ae (gL (a8 1 (bG (g2 dIx (af 0) (gC (.int 3)))) bA (g2 dIx (af 1) (gC (.int 0))) aI)) ah)))
def tU (cs:Cs) (bo bz:Gf):Ds->Sr :=
 (az (j4 (aq bz (ae (af 0) (ae (af 1) (ae (af 2) ah)))))
  (bh (aq bo (ae (af 0) (ae (af 1) (ae (af 2) ah))))))
end RS
set_option maxHeartbeats 1000000
variable {cs:RS.Cs}
namespace RS
open PySem L2
variable {xs:List PyData} {b a:Int} {g:PyData->Bool} {p:Int×Option Int}
theorem Fi (h:i∉O):(mask O δ)[i]?=δ[i]?:=by
 unfold mask;by_cases z:O=[]
 ·rw[if_pos z]
 ·rw[if_neg z,NB];cases δ[i]? with
  |none=>rfl
  |some d=>simp[h]
theorem aC (h:i∉O):af i (mask O δ)=af i δ:=by unfold af;rw[Fi h]
@[simp]theorem ak (d:PyData) (δ:Ds):af 0 (some d::δ)=.ok d:=rfl
@[simp]theorem ar (i:Nat) (x:Option PyData) (δ:Ds):af (i+1) (x::δ)=af i δ:=rfl
@[simp]theorem cF (d:PyData) (δ:Ds):gC d δ=.ok d:=rfl
@[simp]theorem gx (f:PyData->Option PyData) (a:Ds->Rs PyData) (δ:Ds):g1 f a δ=(a δ).bind λx=>Rs.fc (f x):=rfl
@[simp]theorem bK (f:PyData->PyData->Option PyData) (a b:Ds->Rs PyData) (δ:Ds):g2 f a b δ=(a δ).bind λx=>(b δ).bind λy=>Rs.fc (f x y):=rfl
@[simp]theorem fI (f:List PyData->Option PyData) (a:Ds->Rs (List PyData)) (δ:Ds):gF f a δ=(a δ).bind λx=>Rs.fc (f x):=rfl
@[simp]theorem aF (δ:Ds):ah δ=.ok []:=rfl
@[simp]theorem ay (a:Ds->Rs PyData) (r:Ds->Rs (List PyData)) (δ:Ds):ae a r δ=(a δ).bind λx=>(r δ).bind λxs=>.ok (x::xs):=rfl
@[simp]theorem jT (a:Ds->Rs (List PyData)) (δ:Ds):fD a δ=(a δ).bind λds=>.ok (.tuple ds):=rfl
@[simp]theorem yV (a:Ds->Rs (List PyData)) (δ:Ds):rh a δ=(a δ).bind λds=>.ok (.list ds):=rfl
@[simp]theorem bj (f:Gf) (a:Ds->Rs (List PyData)) (δ:Ds):aq f a δ=(a δ).bind f:=rfl
@[simp]theorem dH (a:Ds->Rs PyData) (δ:Ds):gT a δ=(a δ).bind truth:=rfl
@[simp]theorem aX (b:Bool):truth (.bool b)=.ok b:=rfl
@[simp]theorem tP (a:Ds->Rs Bool) (δ:Ds):gK a δ=(a δ).bind λb=>.ok (!b):=rfl
@[simp]theorem IX (a b:Ds->Rs Bool) (δ:Ds):AW a b δ=(a δ).bind λx=>if x=true then b δ else .ok false:=rfl
@[simp]theorem AA (a b:Ds->Rs Bool) (δ:Ds):cOr a b δ=(a δ).bind λx=>if x=true then .ok true else b δ:=rfl
@[simp]theorem ye (a b:Ds->Rs PyData) (δ:Ds):BV a b δ=(a δ).bind λx=>(truth x).bind λt=>if t=true then b δ else .ok (.bool false):=rfl
@[simp]theorem Mn (a b:Ds->Rs PyData) (δ:Ds):gOr a b δ=(a δ).bind λx=>(truth x).bind λt=>if t=true then .ok (.bool true) else b δ:=rfl
@[simp]theorem Mb (a:Ds->Rs PyData) (δ:Ds):LX a δ=(a δ).bind λx=>(truth x).bind λt=>.ok (.bool (!t)):=rfl
@[simp]theorem n5 (a:Ds->Rs (List PyData)) (δ:Ds):gL a δ=(a δ).bind λds=>.ok (.list ds):=rfl
@[simp]theorem mR (a:Ds->Rs PyData) (δ:Ds):bG a δ=(a δ).bind zA:=rfl
@[simp]theorem Mg (ds:List PyData):zA (.list ds)=.ok ds:=rfl
@[simp]theorem uv (ds:List PyData):zA (.tuple ds)=.ok ds:=rfl
@[simp]theorem kg (a:Ds->Rs (List PyData)) (δ:Ds):fW a δ=(a δ).bind FF:=rfl
@[simp]theorem LK (a:Ds->Rs (List PyData)) (δ:Ds):K4 a δ=(a δ).bind KH:=rfl
@[simp]theorem LM (a:Ds->Rs (List PyData)) (δ:Ds):Ku a δ=(a δ).bind KY:=rfl
@[simp]theorem Kv (a:Ds->Rs (List PyData)) (δ:Ds):gLR a δ=(a δ).bind tN:=rfl
@[simp]theorem An (a:Ds->Rs (List PyData)) (δ:Ds):iO a δ=(a δ).bind qi:=rfl
@[simp]theorem LL (ds:List PyData):qi [.list ds]=.ok (ik ds):=rfl
@[simp]theorem Au (ds:List PyData):qi [.tuple ds]=.ok (ik ds):=rfl
@[simp]theorem Lv (f f':PyData->PyData->Option PyData) (a b c:Ds->Rs PyData) (δ:Ds):nz f f' a b c δ=(a δ).bind λx=>(b δ).bind λy=>(Rs.fc (f x y)).bind λz=>(truth z).bind λt=>if t=true then (c δ).bind λw=>Rs.fc (f' y w) else .ok (.bool false):=rfl
@[simp]theorem mG (δ:Ds):fN δ=.ok none:=rfl
@[simp]theorem ud (g:Ds->Rs PyData) (δ:Ds):jV g δ=(g δ).bind CF:=rfl
@[simp]theorem tF (i:Int):CF (.int i)=.ok (some i):=rfl
@[simp]theorem pT (g:Ds->Rs PyData) (lo hi:Ds->Rs (Option Int)) (δ:Ds):hV g lo hi δ=(g δ).bind λd=>(lo δ).bind λl=>(hi δ).bind λh=>Rs.fc (Fw d l h):=rfl
@[simp]theorem Me (x:List PyData) (lo hi:Option Int):Fw (.list x) lo hi=some (.list (cutD x lo hi)):=rfl
@[simp]theorem yT (x:List PyData) (lo hi:Option Int):Fw (.tuple x) lo hi=some (.tuple (cutD x lo hi)):=rfl
@[simp]theorem aN (a b:Ds->Sr) (δ:Ds):az a b δ=match a δ with|.nx δ'=>b δ'|r=>r:=rfl
@[simp]theorem eO (δ:Ds):aY δ=.nx δ:=rfl
@[simp]theorem cJ (c:Ds->Rs Bool) (a b:Ds->Sr) (δ:Ds):sIf c a b δ=ofR (c δ) λt=>if t=true then a δ else b δ:=rfl
@[simp]theorem bW (g:Ds->Rs PyData) (δ:Ds):bh g δ=ofR (g δ) .rt:=rfl
@[simp]theorem oA (g:Ds->Rs PyData) (δ:Ds):j4 g δ=ofR (g δ) λ_=>.nx δ:=rfl
@[simp]theorem ij (i:Nat) (g:Ds->Rs PyData) (δ:Ds):aL [] i g δ=if i<δ.length then ofR (g δ) λd=>.nx (δ.set i (some d)) else .no:=by unfold aL;rw[lr]
@[simp]theorem Ld (C:Addr) (gs:Ds->Rs (List PyData)) (δ:Ds):iY C gs δ=ofR (gs δ) λ_=>.rz C:=rfl
theorem kU (O:List Nat) (src:Ds->Rs (List PyData)) (tgt:PyData->Ds->Option Ds) (body:Ds->Sr) (δ:Ds):fA O src tgt body δ=ofR (src (mask O δ)) λds=>forL tgt body ds δ:=rfl
@[simp]theorem aU (d:PyData):bc (.rt d)=.ok d:=rfl
@[simp]theorem Kn (δ:Ds):bc (.nx δ)=.ok .none:=rfl
@[simp]theorem Ko (C:Addr):bc (.rz C)=.rz C:=rfl
@[simp]theorem Kp:bc .no=.no:=rfl
@[simp]theorem dW (a b:Int):ba (.int a) (.int b)=some (.int (a+b)):=rfl
@[simp]theorem nU (a b:Int):gy (.int a) (.int b)=some (.int (a-b)):=rfl
@[simp]theorem rK (a b:Int):eJ (.int a) (.int b)=if 0<b then some (.int (a % b)) else none:=rfl
@[simp]theorem xk (a b:Int):iV (.int a) (.int b)=if 0<b/\b<1073741824 then some (.int (a / b)) else none:=rfl
@[simp]theorem HE (a b:Int):dLt (.int a) (.int b)=some (.bool (decide (a<b))):=rfl
@[simp]theorem J7 (a b:Int):dLe (.int a) (.int b)=some (.bool (decide (a<=b))):=rfl
@[simp]theorem Fq (a b:Int):dGt (.int a) (.int b)=some (.bool (decide (b<a))):=rfl
@[simp]theorem Mq (a b:Int):dGe (.int a) (.int b)=some (.bool (decide (b<=a))):=rfl
@[simp]theorem Ho (a:Int):mZ (.int a)=some (.int (-a)):=rfl
@[simp]theorem DK (d:PyData):m8 d=some (.bool (eN d)):=rfl
@[simp]theorem tq (d:PyData):iu d=some (.bool (!eN d)):=rfl
@[simp]theorem qI:eN .none=true:=rfl
@[simp]theorem rN (i:Int):eN (.int i)=false:=rfl
@[simp]theorem wx (x:List PyData) (i:Int):dIx (.tuple x) (.int i)=atI x i:=rfl
@[simp]theorem DG (x:List PyData) (i:Int):dIx (.list x) (.int i)=atI x i:=rfl
@[simp]theorem B1 (x:List PyData):b8 [.tuple x]=some (.int x.length):=rfl
@[simp]theorem jE (x:List PyData):b8 [.list x]=some (.int x.length):=rfl
@[simp]theorem yB (a b:Int):kG [.int a,.int b]=some (.int (if b<a then b else a)):=rfl
@[simp]theorem Cq (a b:Int):iS [.int a,.int b]=some (.int (if b>a then b else a)):=rfl
@[simp]theorem JK (b:Bool):BJ [.bool b]=some (.int (if b then 1 else 0)):=rfl
@[simp]theorem uI (x:List PyData):fg [.list x]=some (.tuple x):=rfl
@[simp]theorem Mf (x:List PyData):fg [.tuple x]=some (.tuple x):=rfl
@[simp]theorem jA (a b:Int):dEq (.int a) (.int b)=some (.bool (a==b)):=by
 have h:∀i:Int,PySem.SeqAt.shaped (.int i)=true:=λi=>by simp[PySem.SeqAt.shaped,PyData.canLay0,PyData.depth]
 unfold dEq;rw[h,h];simp[aG,PyData.eqv]
@[simp]theorem Lf (a b:Int):dNe (.int a) (.int b)=some (.bool (!(a==b))):=by
 have h:∀i:Int,PySem.SeqAt.shaped (.int i)=true:=λi=>by simp[PySem.SeqAt.shaped,PyData.canLay0,PyData.depth]
 unfold dNe;rw[h,h];simp[aG,PyData.eqv]
theorem mO {xs:List α} {i:Int} (h:i=j):atI xs i=xs[j]?:=by
 subst h;unfold atI ixN;by_cases z:(j:Int)<xs.length
 ·rw[if_pos (by omega),if_pos z];simp
 ·rw[if_pos (by omega),if_neg z];simp;omega
@[simp]theorem Mr (xs:List α):atI xs 0=xs[0]?:=mO (j:=0) rfl
@[simp]theorem Mo (xs:List α):atI xs 1=xs[1]?:=mO (j:=1) rfl
@[simp]theorem Ms (xs:List α):atI xs 2=xs[2]?:=mO (j:=2) rfl
@[simp]theorem Mp (xs:List α):atI xs 3=xs[3]?:=mO (j:=3) rfl
theorem kj (xs:List α):atI xs (-1)=xs.getLast?:=by
 unfold atI ixN;rw[if_neg (by decide)];by_cases z:xs=[]
 ·subst z;rfl
 ·have:0<xs.length:=Nt.mpr z;rw[if_pos (by omega),List.getLast?_eq_getElem?];simp only[NP];congr 1;omega
theorem iH (g:α->Bool) (xs:List α):n6 [.list (xs.map λd=>.bool (g d))]=some (.bool (xs.all g)):=by
 have a:iB (xs.map λd=>PyData.bool (g d))=some (xs.map g):=by rw[show (xs.map λd=>PyData.bool (g d))=(xs.map g).map PyData.bool by rw[MF];rfl];exact pj _
 show (iB (xs.map λd=>PyData.bool (g d))).map (λns=>PyData.bool (ns.all id))=_;rw[a,Nn,List.all_map];rfl
theorem wK (g:α->Int) (xs:List α):qQ [.list (xs.map λd=>.int (g d))]=some (.int (xs.map g).sum):=by
 have a:fF (xs.map λd=>PyData.int (g d))=some (xs.map g):=by rw[show (xs.map λd=>PyData.int (g d))=(xs.map g).map PyData.int by rw[MF];rfl];exact e9 _
 show (fF (xs.map λd=>PyData.int (g d))).map (λns=>PyData.int ns.sum)=_;rw[a,Nn]
theorem comp_map {elt:Ds->Rs PyData} {δ:Ds} {f:PyData->PyData}:∀(ds:List PyData),(∀d∈ds,elt (δ++[some d])=.ok (f d))->fe bA elt aI δ ds=.ok (ds.map f)
 |[],_=>rfl
 |d::r,h=>by unfold fe;simp only[aI,bA,Rs.dz,Rs.ag,if_true,h d M6,comp_map r λe a=>h e (M4 _ a),M5]
theorem cu {elt:Ds->Rs PyData} {f:PyData->PyData} (hn:δ.length=n0) (a:src δ=.ok ds) (hl:ds.length<=1000000) (h:∀d∈ds,elt (δ++[some d])=.ok (f d)) :
  a8 n0 src bA elt aI δ=.ok (ds.map f):=by
 unfold a8;rw[if_pos hn,a];simp only[Rs.ag,if_pos hl];exact comp_map ds h
theorem iZ:∀{ds:List PyData},dw ds=true->∀d∈ds,aG d=true
 |[],_,d,hd=>by cases hd
 |e::r,h,d,hd=>by
  unfold dw at h;obtain⟨h1,h2⟩:=Nb.mp h;rcases M7.mp hd with z|z
  ·rw[z];exact h1
  ·exact iZ h2 d z
theorem ee (h:aG (.tuple ds)=true):∀d∈ds,aG d=true:=by unfold aG at h;exact iZ h
def aO:Gf
 |[d,.int a,.int b]=>if aG d then .ok (.bool (isWhole d a b)) else .no
 |_=>.no
theorem oE {f:PyData->Int->Int->Rs PyData} (h:(match ds with|[a,.int x1,.int x2]=>f a x1 x2|_=>.no)≠.no):∃a x1 x2,ds=[a,.int x1,.int x2]/\f a x1 x2≠.no:=by
 rcases ds with _|⟨a,_|⟨x1,_|⟨x2,_|⟨y,ys⟩⟩⟩⟩
 ·exact absurd rfl h
 ·exact absurd rfl h
 ·first|exact absurd rfl h|(cases x1 <;> exact absurd rfl h)
 ·skip
  cases x1 with
  |int x1 =>
   cases x2 with
   |int x2 =>exact⟨_,_,_,rfl,h⟩
   |_=>exact absurd rfl h
  |_=>first|exact absurd rfl h|(cases x2 <;> exact absurd rfl h)
 ·first|exact absurd rfl h|(cases x1 <;> first|exact absurd rfl h|(cases x2 <;> exact absurd rfl h))
abbrev LLq (G:Ds->Sr) (n k:Nat) (g:Gf):Prop:=∀ds,ds.length=n->g ds≠.no->bc (G (ds.map some++List.replicate k none))=g ds
theorem xq (cs:Cs):LLq (jn cs) 3 0 aO:=by
 intro ds hl c;obtain⟨d,a,b,f,e⟩:=oE c;clear c;subst f;have c:=e;clear e;unfold aO
 ·skip
  split at c
  ·rename_i hd;simp only[hd,if_true];cases d with
   |int i=>by_cases h:a<=i <;> simp[jn,k7,hd,um,tyD,isWhole,h]
   |dict _=>simp[aG]at hd
   |_=>simp[jn,k7,hd,um,tyD,isWhole]
  ·exact absurd rfl c
def a9:Gf
 |[d,.int a,.int b]=>if aG d then .ok (.bool (cm d a b)) else .no
 |_=>.no
theorem yR (cs:Cs):LLq (i4 cs) 3 0 a9:=by
 intro ds hl c;obtain⟨d,a,b,f,e⟩:=oE c;clear c;subst f;have c:=e;clear e;unfold a9
 ·skip
  split at c
  ·rename_i hd;simp only[hd,if_true];cases d with
   |tuple x=>by_cases h:a<=(x.length:Int) <;> simp[i4,k7,hd,um,tyD,cm,h]
   |dict _=>simp[aG]at hd
   |_=>simp[i4,k7,hd,um,tyD,cm]
  ·exact absurd rfl c
def gz (g:PyData->Bool):Gf
 |[d]=>if aG d then .ok (.bool (g d)) else .no
 |_=>.no
theorem qh (h:gz g ds≠.no):∃d,ds=[d]/\aG d=true/\gz g ds=.ok (.bool (g d)):=by
 unfold gz at h ⊢;split at h
 ·rename_i d;split at h
  ·rename_i hd;exact⟨d,rfl,hd,by simp[hd]⟩
  ·exact absurd rfl h
 ·exact absurd rfl h
theorem p9 {d:PyData} (h:aG d=true):gz g [d]=.ok (.bool (g d)):=by unfold gz;simp[h]
@[simp]theorem Kq {d:PyData} (h:aG d=true):a9 [d,.int a,.int b]=.ok (.bool (cm d a b)):=by unfold a9;simp[h]
@[simp]theorem vZ {d:PyData} (h:aG d=true):aO [d,.int a,.int b]=.ok (.bool (isWhole d a b)):=by unfold aO;simp[h]
theorem vf {d:PyData} (h:cm d 2 2=true):∃a b,d=.tuple [a,b]:=by
 cases d with
 |tuple ds =>
  simp[cm]at h
  match ds,h with
  |[a,b],_=>exact⟨a,b,rfl⟩
  |[],h=>simp at h
  |[_],h=>simp at h
  |_::_::_::_,h=>simp at h;omega
 |_=>cases h
theorem BI (cs:Cs):LLq (gU cs aO a9) 1 0 (gz cZ):=by
 intro ds hl c;obtain⟨d,rfl,hd,e⟩:=qh c;rw[e];cases e1:cm d 2 2 with
 |false =>
  have:cZ d=false:=by
   unfold cZ;split
   ·simp[cm]at e1
   ·rfl
  simp[gU,hd,e1,this]
 |true =>
  obtain⟨a,b,rfl⟩:=vf e1;have ha:=ee hd a (by simp);have f:=ee hd b (by simp);cases e2:isWhole a 1 20 with
  |false=>simp[gU,hd,ha,e1,e2,cZ]
  |true =>
   cases b with
   |none=>simp[gU,hd,ha,e1,e2,cZ]
   |_=>simp[gU,hd,ha,f,e1,e2,cZ,eN]
theorem wo (cs:Cs):LLq (fX cs a9 (gz cZ)) 1 0 (gz dX):=by
 intro ds hl c;obtain⟨d,rfl,hd,e⟩:=qh c;rw[e];cases e1:cm d 1 4 with
 |false =>
  have:dX d=false:=by
   cases d with
   |tuple ds =>simp only[cm,N9,decide_eq_false_iff_not]at e1;simp only[dX,N9,decide_eq_false_iff_not];refine .inl (.inl ?_);omega
   |_=>rfl
  simp[fX,hd,e1,this]
 |true =>
  obtain⟨xs,rfl⟩:∃ds,d=.tuple ds:=by cases d <;> first|exact⟨_,rfl⟩|cases e1
  have hn:1<=xs.length/\xs.length<=4:=by simp only[cm,M8,decide_eq_true_eq]at e1;omega
  have hc:a8 1 (bG (af 0)) bA (aq (gz cZ) (ae (af 1) ah)) aI [some (.tuple xs)]=.ok (xs.map λd=>.bool (cZ d)) :=
   cu rfl rfl (by omega) λd h=>by simp[p9 (ee hd d h)]
  have l:=iH cZ xs;cases e2:xs.all cZ with
  |false=>simp[fX,hd,e1,hc,l,e2,dX]
  |true =>
   have c:xs≠[]:=by intro z;subst z;simp at hn
   have f:xs.getLast?=some (xs.getLast c):=List.getLast?_eq_some_getLast c;have g:=MD.mp e2 _ (List.getLast_mem c);obtain⟨a,b,i⟩:∃a b,xs.getLast c=.tuple [a,b]:=by
    revert g;generalize xs.getLast c=z;intro g;unfold cZ at g;split at g
    ·exact⟨_,_,rfl⟩
    ·cases g
   rw[i]at f;have j:iQ xs=eN b:=by unfold iQ;rw[f];cases b <;> rfl
   simp[fX,hd,e1,hc,l,e2,dX,kj,f,j,hn.1,hn.2]
theorem uD {d:PyData} (h:cm d 4 4=true):∃a b c e,d=.tuple [a,b,c,e]:=by
 cases d with
 |tuple ds =>
  simp[cm]at h
  match ds,h with
  |[a,b,c,e],_=>exact⟨a,b,c,e,rfl⟩
  |[],h=>simp at h
  |[_],h=>simp at h
  |[_,_],h=>simp at h
  |[_,_,_],h=>simp at h
  |_::_::_::_::_::_,h=>simp at h;omega
 |_=>cases h
theorem dj {d:PyData} (h:isWhole d a b=true):∃i,d=.int i/\a<=i/\i<=b:=by
 cases d with
 |int i=>simp[isWhole]at h;exact⟨i,rfl,h⟩
 |_=>cases h
theorem oO {a b c e:PyData} (h:isWhole a 2 60=false):bQ (.tuple [a,b,c,e])=false:=by
 cases a with
 |int i =>
  cases c with
  |int l =>simp only[isWhole,N9,decide_eq_false_iff_not]at h;simp only[bQ,N9,decide_eq_false_iff_not];omega
  |_=>rfl
 |_=>rfl
theorem qU {b c e:PyData} {i:Int} (h:isWhole c 0 (if i-1<20 then i-1 else 20)=false):bQ (.tuple [.int i,b,c,e])=false:=by
 cases c with
 |int l =>simp only[isWhole,N9,decide_eq_false_iff_not]at h;simp only[bQ,N9,decide_eq_false_iff_not];exact .inl (.inl (.inr h))
 |_=>rfl
theorem rp {b e:PyData} {i l:Int} (h1:2<=i/\i<=60) (h2:0<=l/\l<=if i-1<20 then i-1 else 20):bQ (.tuple [.int i,b,.int l,e])=(isWhole b 1 (i-l)&&dX e):=by simp[bQ,h1.1,h1.2,h2.1,h2.2]
theorem wt (cs:Cs):LLq (dS cs aO (gz dX) a9) 1 3 (gz bQ):=by
 intro ds hl h;obtain⟨d,rfl,hd,e⟩:=qh h;rw[e];cases e1:cm d 4 4 with
 |false =>
  have:bQ d=false:=by
   unfold bQ;split
   ·simp[cm]at e1
   ·rfl
  simp[dS,hd,e1,this]
 |true =>
  obtain⟨a,b,c,q,rfl⟩:=uD e1;have ha:=ee hd a (by simp);have g:=ee hd b (by simp);have hc:=ee hd c (by simp);have f:=ee hd q (by simp);cases e2:isWhole a 2 60 with
  |false=>simp[dS,hd,ha,g,hc,f,e1,e2,oO e2]
  |true =>
   obtain⟨i,rfl,i1,i2⟩:=dj e2;cases e3:isWhole c 0 (if i-1<20 then i-1 else 20) with
   |false=>simp[dS,hd,ha,g,hc,f,e1,e2,e3,qU e3]
   |true =>
    obtain⟨l,rfl,l1,l2⟩:=dj e3;have j:=rp (b:=b) (e:=q) ⟨i1,i2⟩ ⟨l1,l2⟩;cases e4:isWhole b 1 (i-l) with
    |false=>simp[dS,hd,ha,g,hc,f,e1,e2,e3,e4,j]
    |true=>simp[dS,hd,ha,g,hc,f,e1,e2,e3,e4,j,p9 f]
def br (cs:Cs):Gf
 |[d]=>if aG d then (if c9 d then .ok d else .rz cs.NoErrands) else .no
 |_=>.no
theorem BK (cs:Cs):LLq (iX cs a9 (gz bQ)) 1 0 (br cs):=by
 intro ds hl a;obtain⟨d,rfl⟩:∃d,ds=[d]:=by
  match ds,hl with
  |[d],_=>exact⟨d,rfl⟩
 have hd:aG d=true:=by
  unfold br at a;by_cases z:aG d=true
  ·exact z
  ·simp[z]at a
 have e:br cs [d]=if c9 d then .ok d else .rz cs.NoErrands:=by unfold br;simp[hd]
 rw[e];cases e1:cm d 1 6 with
 |false =>
  have:c9 d=false:=by
   cases d with
   |tuple ds =>simp only[cm,N9,decide_eq_false_iff_not]at e1;simp only[c9,N9,decide_eq_false_iff_not];refine .inl ?_;omega
   |_=>rfl
  simp[iX,hd,e1,this]
 |true =>
  obtain⟨xs,rfl⟩:∃ds,d=.tuple ds:=by cases d <;> first|exact⟨_,rfl⟩|cases e1
  have hn:1<=xs.length/\xs.length<=6:=by simp only[cm,M8,decide_eq_true_eq]at e1;omega
  have hc:a8 1 (bG (af 0)) bA (aq (gz bQ) (ae (af 1) ah)) aI [some (.tuple xs)]=.ok (xs.map λd=>.bool (bQ d)) :=
   cu rfl rfl (by omega) λd b=>by simp[p9 (ee hd d b)]
  have c:=iH bQ xs;cases e2:xs.all bQ with
  |false=>simp[iX,hd,e1,hc,c,e2,c9]
  |true=>simp[iX,hd,e1,hc,c,e2,c9,hn.1,hn.2]
theorem jl {β:Type} {tgt:PyData->Ds->Option Ds} {body:Ds->Sr} (inv:Nat->Ds->Prop):∀(ds:List PyData) (k:Nat),(∀(i:Nat) d δ,ds[i]?=some d->inv (k+i) δ->∃c a,tgt d δ=some c/\body c=.nx a/\inv (k+i+1) a) ->
  ∀δ,inv k δ->∃b,forL tgt body ds δ=.nx b/\inv (k+ds.length) b
 |[],k,_,δ,h=>⟨δ,rfl,h⟩
 |d::r,k,hs,δ,h=>by
  obtain⟨c,a,e1,e2,h2⟩:=hs 0 d δ rfl h;obtain⟨b,e,f⟩:=jl (β:=β) inv r (k+1) (λi x δ g hi=>by have:=hs (i+1) x δ (by simpa using g) (by rw[show k+(i+1)=k+1+i by omega];exact hi);rw[show k+1+i+1=k+(i+1)+1 by omega];exact this) a h2
  exact⟨b,by unfold forL;rw[e1];simp only[e2];exact e,by rw[MC,show k+(r.length+1)=k+1+r.length by omega];exact f⟩
def D6:PyData->Option Int
 |.int i=>some i
 |_=>none
def bO:PyData->Int×Option Int
 |.tuple [.int l,t]=>(l,D6 t)
 |_=>(0,none)
def deE:PyData->Er
 |.tuple [.int e,.int d,.int l,.tuple ps]=>⟨e,d,l,ps.map bO⟩
 |_=>⟨0,0,0,[]⟩
theorem sU (e:Int) (d:Int) (l:Int) (ps:List PyData):deE (.tuple [.int e,.int d,.int l,.tuple ps])=⟨e,d,l,ps.map bO⟩:=rfl
def cN:PyData->List Er
 |.tuple ds=>ds.map deE
 |_=>[]
theorem xo (o:Option Int):D6 (bg o)=o:=by cases o <;> rfl
theorem fm (p:Int×Option Int):bO (aJ p)=p:=by obtain⟨l,t⟩:=p;simp[aJ,bO,xo]
theorem wu (e:Er):deE e.d=e:=by
 obtain⟨a,b,c,ps⟩:=e;simp[Er.d,sU,MF]
 conv=>rhs;rw[<-Ni ps]
 exact MH λp _=>fm p
theorem eS (es:List Er):cN (aw es)=es:=by
 simp[aw,cN,MF]
 conv=>rhs;rw[<-Ni es]
 exact MH λe _=>wu e
theorem part_of {d:PyData} (h:cZ d=true):aJ (bO d)=d/\1<=(bO d).1/\(bO d).1<=20/\∀t,(bO d).2=some t->0<=t/\t<=3:=by
 unfold cZ at h;split at h
 ·rename_i a b;rw[M8]at h;obtain⟨i,rfl,h1,h2⟩:=dj h.1;have c:=h.2;cases b with
  |none=>exact⟨rfl,h1,h2,λt q=>by cases q⟩
  |int t =>obtain⟨t',q,e,f⟩:=dj c;cases q;exact⟨rfl,h1,h2,λt q=>by cases q;exact⟨e,f⟩⟩
  |_=>cases c
 ·cases h
theorem r8 {d:PyData} (h:bQ d=true):(deE d).d=d/\(deE d).Ok:=by
 unfold bQ at h;split at h
 ·rename_i e j l ps;simp only[M8,decide_eq_true_eq]at h;obtain⟨⟨⟨⟨h1,h2⟩,m,n⟩,o⟩,c⟩:=h;obtain⟨j,rfl,d1,d2⟩:=dj o;unfold dX at c;split at c
  ·rename_i ps;simp only[M8,decide_eq_true_eq]at c;obtain⟨⟨⟨p1,p2⟩,r⟩,f⟩:=c;have g:=MD.mp r;have i:l<=20/\l<e:=by split at n <;> omega
   refine⟨?_,?_⟩
   ·have s:ps.map (aJ∘bO)=ps:=by
     conv=>rhs;rw[<-Ni ps]
     exact MH λp b=>(part_of (g p b)).1
    simp only[sU,Er.d,MF,s]
   ·refine⟨h1,h2,m,i.1,i.2,d1,d2,λz=>?_,by simpa[sU] using p2,λp b=>?_,λp b=>?_⟩
    ·have:ps=[]:=by simpa[sU] using z
     subst this;simp at p1
    ·obtain⟨q,u,rfl⟩:=M9.mp (show p∈ps.map bO from b);exact (part_of (g q u)).2
    ·have b:(ps.map bO).getLast?=some p:=b;rw[O4]at b;unfold iQ at f;cases q:ps.getLast? with
     |none=>rw[q]at b;cases b
     |some z =>
      rw[q]at b f;simp at b;split at f
      ·rename_i a heq;cases heq;subst b;unfold bO;split
       ·rename_i l t e1;injection e1 with e1;injection e1 with _ e1;injection e1 with e1 _
        rw[<-e1];rfl
       ·rfl
      ·cases f
  ·cases c
 ·cases h
theorem xM {d:PyData} (h:c9 d=true):aw (cN d)=d/\1<=(cN d).length/\(cN d).length<=6/\∀e∈cN d,e.Ok:=by
 unfold c9 at h;split at h
 ·rename_i ds;simp only[M8,decide_eq_true_eq]at h;obtain⟨⟨h1,h2⟩,b⟩:=h;have a:=MD.mp b;refine⟨?_,by simpa[cN] using h1,by simpa[cN] using h2,λe c=>?_⟩
  ·simp only[cN,aw,MF];congr 1
   conv=>rhs;rw[<-Ni ds]
   exact MH λp f=>(r8 (a p f)).1
  ·obtain⟨q,g,rfl⟩:=M9.mp (show e∈ds.map deE from c);exact (r8 (a q g)).2
 ·cases h
def deI:PyData->Int
 |.int i=>i
 |_=>0
def cp:PyData->List Int
 |.tuple ds=>ds.map deI
 |_=>[]
def au (ns:List Int):PyData:=.tuple (ns.map .int)
theorem d7 (ns:List Int):cp (au ns)=ns:=by
 simp[au,cp,MF]
 conv=>rhs;rw[<-Ni ns]
 exact MH λ_ _=>rfl
def dR (n:Nat):PyData->Bool
 |.tuple ds=>decide (ds.length=n)&&ds.all (λd=>isWhole d 0 ((n:Int)-1))&&decide (ds.map deI).Nodup
 |_=>false
structure cf (n:Nat) (rs:List Int):Prop where
 len:rs.length=n
 rng:∀r∈rs,0<=r/\r<n
 nd:rs.Nodup
theorem lI {n:Nat} {d:PyData} (h:dR n d=true):au (cp d)=d/\cf n (cp d):=by
 unfold dR at h;split at h
 ·rename_i ds;simp only[M8,decide_eq_true_eq]at h;obtain⟨⟨h1,h2⟩,e⟩:=h;have c:=MD.mp h2;refine⟨?_,by simpa[cp] using h1,λr f=>?_,e⟩
  ·simp only[cp,au,MF];congr 1
   conv=>rhs;rw[<-Ni ds]
   refine MH λp g=>?_
   obtain⟨i,rfl,_⟩:=dj (c p g);rfl
  ·obtain⟨q,j,rfl⟩:=M9.mp (show r∈ds.map deI from f);obtain⟨i,rfl,a,b⟩:=dj (c q j);exact⟨a,by show i<n;omega⟩
 ·cases h
theorem gY {n:Nat} (h:cf n rs):dR n (au rs)=true:=by
 have e:(rs.map PyData.int).map deI=rs:=by
  rw[MF];conv=>rhs;rw[<-Ni rs]
  exact MH λ_ _=>rfl
 unfold dR au;simp only[M3,h.len,decide_true,O6,e,h.nd,NS];rw[MD];intro d hd;obtain⟨r,a,rfl⟩:=M9.mp hd;have:=h.rng r a;simp[isWhole,this.1];omega
theorem mP:∀(l acc:List Int),acc.Nodup->((l.foldl PyProof.Rows.step_dedup acc).length<=acc.length+l.length)/\((l.foldl PyProof.Rows.step_dedup acc).length=acc.length+l.length↔(acc++l).Nodup)
 |[],acc,h=>by simpa using h
 |x::r,acc,h=>by
  rw[NI];by_cases z:acc.any (·==x)=true
  ·have e:PyProof.Rows.step_dedup acc x=acc:=by unfold PyProof.Rows.step_dedup;rw[if_pos z]
   rw[e];have:=mP r acc h;refine⟨by rw[MC];omega,λq=>?_,λq=>?_⟩
   ·rw[MC]at q;omega
   ·exfalso;obtain⟨y,c,f⟩:=O9.mp z;have:y=x:=by simpa using f
    subst this;rw[Oo]at q;exact q.2.2 y c y M6 rfl
  ·have e:PyProof.Rows.step_dedup acc x=acc++[x]:=by unfold PyProof.Rows.step_dedup;rw[if_neg z]
   have g:x∉acc:=λq=>z (O9.mpr ⟨x,q,by simp⟩)
   have hn:(acc++[x]).Nodup:=by rw[Oo];exact⟨h,by simp,λa ha b i=>by rw[Mw.mp i];rintro rfl;exact g ha⟩
   rw[e];have:=mP r (acc++[x]) hn;rw[Mv,MR,N6]at this;refine⟨by rw[MC];omega,?_⟩;rw[MC,show acc.length+(r.length+1)=acc.length+1+r.length by omega];exact this.2
theorem ya (ns:List Int):((seen ns ns.length).length:Int)<ns.length↔¬ ns.Nodup:=by
 have e:(List.range ns.length).map (λi=>ns.getD i 0)=ns:=by
  apply List.ext_getElem?;intro i;rw[MA];by_cases h:i<ns.length
  ·rw[NV h,M1 h];simp[MK,M1 h]
  ·rw[NN (by simpa using h),NN (by simpa using h)];rfl
 have:=mP ns [] List.nodup_nil;unfold seen PyProof.Rows.firstMet;rw[e];simp only[Nm,ND,MS]at this;constructor
 ·intro h q;have:=this.2.mpr q;omega
 ·intro h;have h1:=this.1;have h2:¬ (List.foldl PyProof.Rows.step_dedup [] ns).length=ns.length:=λq=>h (this.2.mp q)
  omega
def aV (cs:Cs):Gf
 |[.tuple es,r]=>if aG r&&decide (es.length<=100) then (if dR es.length r then .ok r else .rz cs.NoRanks) else .no
 |_=>.no
theorem EA {f:List PyData->PyData->Rs PyData} (h:(match ds with|[.tuple a,x1]=>f a x1|_=>.no)≠.no):∃a x1,ds=[.tuple a,x1]/\f a x1≠.no:=by
 rcases ds with _|⟨a,_|⟨x1,_|⟨y,ys⟩⟩⟩
 ·exact absurd rfl h
 ·first|exact absurd rfl h|(cases a <;> exact absurd rfl h)
 ·skip
  cases a with
  |tuple a =>exact⟨_,_,rfl,h⟩
  |_=>exact absurd rfl h
 ·first|exact absurd rfl h|(cases a <;> exact absurd rfl h)
theorem n8 (cs:Cs):LLq (cL cs a9 aO) 2 1 (aV cs):=by
 intro ds hl a;obtain⟨es,r,l,j⟩:=EA a;clear a;subst l;have a:=j;clear j;unfold aV
 ·skip
  split at a
  ·rename_i c;simp only[c,if_true];rw[M8,decide_eq_true_eq]at c;obtain⟨hd,h100⟩:=c;cases e1:cm r es.length es.length with
   |false =>
    have:dR es.length r=false:=by
     cases r with
     |tuple xs =>
      have:xs.length≠es.length:=λq=>by simp[cm,q]at e1
      simp[dR,this]
     |_=>rfl
    simp[cL,hd,e1,this]
   |true =>
    obtain⟨xs,rfl⟩:∃ds,r=.tuple ds:=by cases r <;> first|exact⟨_,rfl⟩|cases e1
    have hn:xs.length=es.length:=by simp only[cm,M8,decide_eq_true_eq]at e1;omega
    have hc:a8 3 (bG (af 1)) bA (aq aO (ae (af 3) (ae (gC (.int 0)) (ae (af 2) ah)))) aI [some (.tuple es),some (.tuple xs),some (.int ((es.length:Int)-1))]=.ok (xs.map λd=>.bool (isWhole d 0 ((es.length:Int)-1))) :=
     cu rfl rfl (by omega) λd e=>by simp[ee hd d e]
    have f:=iH (λd=>isWhole d 0 ((es.length:Int)-1)) xs;cases e2:xs.all (λd=>isWhole d 0 ((es.length:Int)-1)) with
    |false=>simp[cL,hd,e1,hc,f,e2,dR]
    |true =>
     have m:=MD.mp e2;have n:xs=(xs.map deI).map PyData.int:=by
      rw[MF]
      conv=>lhs;rw[<-Ni xs]
      refine MH λp o=>?_
      obtain⟨i,rfl,_⟩:=dj (m p o);rfl
     have g:lK [.tuple xs]=some (.int (seen (xs.map deI) (xs.map deI).length).length):=by
      unfold lK
      conv=>lhs;rw[n]
      simp only[e9,NP];rw[if_pos (by simp;omega)]
     have b:=ya (xs.map deI);have h:(xs.map deI).length=es.length:=by rw[M3];exact hn
     rw[h]at g b;by_cases hnd:(xs.map deI).Nodup
     ·have h2:¬ (seen (xs.map deI) es.length).length<es.length:=λq=>b.mp (by omega) hnd
      simp[cL,hd,e1,hc,f,e2,g,hn,h2,dR,hnd]
     ·have h2:(seen (xs.map deI) es.length).length<es.length:=by have:=b.mpr hnd;omega
      simp[cL,hd,e1,hc,f,e2,g,hn,h2,dR,hnd]
  ·exact absurd rfl a
def jY:PyData->Bool
 |.tuple [.int l,b]=>decide (0<=l)&&decide (l<=1000000)&&(match b with|.none=>true|.int t=>decide (0<=t)&&decide (t<=3)|_=>false)
 |_=>false
def uw:PyData->Bool
 |.tuple [.int e,.int _,.int l,.tuple ps]=>decide (1<=e)&&decide (e<1073741824)&&decide (-1000000000<=l)&&decide (l<=1000000000)&&decide (ps.length<=1000)&&ps.all jY
 |_=>false
def pP:PyData->Bool
 |.tuple ds=>decide (ds.length<=100)&&ds.all uw
 |_=>false
structure Er.Sh (e:Er):Prop where
 e1:1<=e.every
 e2:e.every<1073741824
 l1:-1000000000<=e.late
 l2:e.late<=1000000000
 pn:e.parts.length<=1000
 pl:∀p∈e.parts,0<=p.1/\p.1<=1000000/\∀t,p.2=some t->0<=t/\t<=3
theorem su {d:PyData} (h:jY d=true):aJ (bO d)=d/\0<=(bO d).1/\(bO d).1<=1000000/\∀t,(bO d).2=some t->0<=t/\t<=3:=by
 unfold jY at h;split at h
 ·rename_i l b;simp only[M8,decide_eq_true_eq]at h;obtain⟨⟨h1,h2⟩,a⟩:=h;cases b with
  |none=>exact⟨rfl,h1,h2,λt q=>by cases q⟩
  |int t =>simp only[M8,decide_eq_true_eq]at a;exact⟨rfl,h1,h2,λt q=>by cases q;exact a⟩
  |_=>cases a
 ·cases h
theorem rL {d:PyData} (h:uw d=true):(deE d).d=d/\(deE d).Sh:=by
 unfold uw at h;split at h
 ·rename_i e du l ps;simp only[M8,decide_eq_true_eq]at h;obtain⟨⟨⟨⟨⟨h1,h2⟩,a⟩,b⟩,g⟩,i⟩:=h;have f:=MD.mp i;have j:ps.map (aJ∘bO)=ps:=by
   conv=>rhs;rw[<-Ni ps]
   exact MH λp c=>(su (f p c)).1
  refine⟨by simp only[sU,Er.d,MF,j],h1,h2,a,b,by simpa[sU] using g,λp c=>?_⟩;obtain⟨q,m,rfl⟩:=M9.mp (show p∈ps.map bO from c);exact (su (f q m)).2
 ·cases h
theorem lp (h:e.Sh):uw e.d=true:=by
 unfold uw Er.d;simp only[h.e1,h.e2,h.l1,h.l2,decide_true,O6,M3,h.pn];rw[MD];intro d hd;obtain⟨p,f,rfl⟩:=M9.mp hd;obtain⟨a,b,c⟩:=h.pl p f;obtain⟨l,t⟩:=p;cases t with
 |none=>simp at a b;simp[jY,aJ,bg,a,b]
 |some t=>have:=c t rfl;simp at a b;simp[jY,aJ,bg,a,b,this.1,this.2]
theorem Er.Ok.sh (h:e.Ok):e.Sh:=⟨by have:=h.e1;omega,by have:=h.e2;omega,by have:=h.l1;omega,by have:=h.l2;omega,by have:=h.p2;omega,λp f=>by obtain⟨a,b,c⟩:=h.pl p f;exact⟨by omega,by omega,c⟩⟩
theorem xx {d:PyData} (h:pP d=true):aw (cN d)=d/\(cN d).length<=100/\∀e∈cN d,e.Sh:=by
 unfold pP at h;split at h
 ·rename_i ds;simp only[M8,decide_eq_true_eq]at h;have a:=MD.mp h.2;refine⟨?_,by simpa[cN] using h.1,λe b=>?_⟩
  ·simp only[cN,aw,MF];congr 1
   conv=>rhs;rw[<-Ni ds]
   exact MH λp c=>(rL (a p c)).1
  ·obtain⟨q,f,rfl⟩:=M9.mp (show e∈ds.map deE from b);exact (rL (a q f)).2
 ·cases h
theorem qe (h1:es.length<=100) (h:∀e∈es,e.Sh):pP (aw es)=true:=by unfold pP aw;simp only[M3,h1,decide_true,O6];rw[MD];intro d hd;obtain⟨e,a,rfl⟩:=M9.mp hd;exact lp (h e a)
def Er.work (e:Er):Int:=(e.parts.map (·.1)).sum
def Er.has (e:Er) (t:Int):Bool:=e.parts.any λp=>p.2==some t
def er0:Er:=⟨1,1,0,[]⟩
def aS (es:List Er) (n:Int):Er:=es.getD n.toNat er0
def hts (es:List Er):List Int->Int->Int->Option Int
 |[],_,_=>none
 |r::rs,k,t=>if (aS es r).has t then some k else hts es rs (k+1) t
def bF (es:List Er) (rs:List Int) (t:Int):Option Int:=hts es rs 0 t
def placeOf (rs:List Int) (n:Int):Nat:=rs.findIdx (·==n)
def iL (es:List Er) (rs:List Int) (pl:Int) (acc:Int) (p:Int×Option Int):Int:=match p.2 with
 |some t=>(match bF es rs t with
  |some h=>if h<=pl then max acc (p.1-1) else acc
  |none=>acc)
 |none=>acc
def gj (es:List Er) (rs:List Int) (n:Int):Int:=(((rs.drop (placeOf rs n+1)).map λm=>(aS es m).parts).flatten).foldl (iL es rs (placeOf rs n)) 0
def Er.times (e:Er) (t:Int):Int:=(t+e.late) / e.every+(if (t+e.late) % e.every>0 then 1 else 0)
def eQ (es:List Er) (rs:List Int) (n t:Int):Int:=gj es rs n+(aS es n).work+((rs.take (placeOf rs n)).map λm=>(aS es m).times t*(aS es m).work).sum
def eX (es:List Er) (rs:List Int) (n:Int):Option Int:=((List.range ((aS es n).every-(aS es n).late).toNat).map λ(i:Nat)=>(1+(i:Int))).find? λt=>decide (eQ es rs n t<=t)
theorem jF (h0:0<=n) (h1:n<es.length):es[n.toNat]?=some (aS es n):=by unfold aS;rw[MK,M1 (by omega)];rfl
theorem bV (a:0<=n) (h1:n<es.length):aS es n∈es:=N0 (jF a h1)
theorem ie (a:0<=n) (h1:n<es.length):atI (es.map Er.d) n=some (aS es n).d:=by rw[mO (j:=n.toNat) (by omega),MA,jF a h1];rfl
def cq:Gf
 |[d]=>if uw d then .ok (.int (deE d).work) else .no
 |_=>.no
theorem gX (h:e.Sh):cq [e.d]=.ok (.int e.work):=by unfold cq;simp[lp h,wu]
theorem Dc (p:Int×Option Int):dIx (aJ p) (.int 0)=some (.int p.1):=rfl
theorem B8 (p:Int×Option Int):dIx (aJ p) (.int 1)=some (bg p.2):=rfl
theorem GP (e:Er):dIx e.d (.int 3)=some (.tuple (e.parts.map aJ)):=rfl
theorem Kw {f:PyData->Rs PyData} (h:(match ds with|[a]=>f a|_=>.no)≠.no):∃a,ds=[a]/\f a≠.no:=by
 rcases ds with _|⟨a,_|⟨y,ys⟩⟩
 ·exact absurd rfl h
 ·skip
  exact⟨_,rfl,h⟩
 ·exact absurd rfl h
theorem xY (cs:Cs):LLq (pQ cs) 1 0 cq:=by
 intro ds hl a;obtain⟨d,f,c⟩:=Kw a;clear a;subst f;have a:=c;clear c
 ·skip
  split at a
  ·rename_i hd;obtain⟨e1,sh⟩:=rL hd;rw[<-e1];generalize deE d=e at sh;rw[gX sh];have hc:a8 1 (bG (g2 dIx (af 0) (gC (.int 3)))) bA (g2 dIx (af 1) (gC (.int 0))) aI [some e.d]=.ok ((e.parts.map aJ).map λd=>.int (bO d).1) :=
    cu rfl (by simp[GP]) (by have:=sh.pn;simp;omega) λd b=>by obtain⟨p,hp,rfl⟩:=M9.mp b;simp[Dc,fm]
   have hm:((e.parts.map aJ).map λd=>PyData.int (bO d).1)=e.parts.map λp=>.int p.1:=by rw[MF];exact MH λp _=>by simp[fm]
   rw[hm]at hc;simp[pQ,hc,wK,Er.work]
  ·exact absurd rfl a
theorem yp (h:n∈rs):placeOf rs n<rs.length:=List.findIdx_lt_length_of_exists ⟨n,h,by simp⟩
theorem vB:∀{l m:List Int},l.Nodup->(∀x∈l,x∈m)->l.length<=m.length
 |[],m,_,_=>Nd _
 |x::r,m,hn,hs=>by
  rw[MX]at hn;have a:=hs x M6;have:=vB (l:=r) (m:=m.erase x) hn.2 λy b=>by rw[List.mem_erase_of_ne (by rintro rfl;exact hn.1 b)];exact hs y (M4 _ b)
  rw[List.length_erase_of_mem a]at this;have hp:=List.length_pos_of_mem a;rw[MC];omega
theorem cf.mem {k:Nat} (h:cf k rs) (c:0<=n) (h1:n<k):n∈rs:=by
 have base:∀x:Int,0<=x->x<k->x∈(List.range k).map λ(i:Nat)=>(i:Int):=λx a b=>M9.mpr ⟨x.toNat,NC.mpr (by omega),by omega⟩
 by_cases z:n∈rs
 ·exact z
 ·exfalso;have:=vB (l:=n::rs) (m:=(List.range k).map λ(i:Nat)=>(i:Int)) (MX.mpr ⟨z,h.nd⟩) λx e=>by
   rcases M7.mp e with q|q
   ·rw[q];exact base n c h1
   ·have:=h.rng x q;exact base x this.1 this.2
  have hl:=h.len;simp at this;omega
theorem BQ (ns:List Int):(ns.map PyData.int).all gD=true:=by rw[MD];intro d hd;obtain⟨n,_,rfl⟩:=M9.mp hd;rfl
theorem lM (n:Int):∀rs:List Int,n∈rs->(((rs.map PyData.int).map toV).findIdx? λz=>eqV z (.int n))=some (placeOf rs n)
 |[],h=>by cases h
 |r::rs,h=>by
  have ev:eqV (.int r) (.int n)=(r==n):=rfl;rw[M5,M5,List.findIdx?_cons];unfold placeOf;rw[Oq];show (if eqV (.int r) (.int n)=true then some 0 else _)=_;rw[ev];cases hr:r==n with
  |true=>rfl
  |false =>
   have a:r≠n:=by simpa using hr
   have:=lM n rs ((M7.mp h).resolve_left λq=>a q.symm);rw[if_neg MG,this];rfl
theorem ig (h:n∈rs):mT (rs.map .int) (.int n)=some (.int (placeOf rs n)):=by unfold mT;rw[BQ,show gD (.int n)=true from rfl];simp only[Oj,if_true];rw[show toV (.int n)=.int n from rfl,lM n rs h];rfl
@[simp]theorem ue (go ga:Ds->Rs PyData) (δ:Ds):kW go ga δ=(go δ).bind λd=>match d with|.tuple xs=>(ga δ).bind λy=>Rs.fc (mT xs y)|_=>.no:=rfl
theorem CZ {k:Nat}:cutD xs (some (k:Int)) none=xs.drop k:=by
 unfold cutD;have e1:HT.sIx xs.length 0 (some (k:Int))=min k xs.length:=HT.zG _ _ _;have e2:HT.sIx xs.length xs.length none=xs.length:=rfl;rw[e1,e2];by_cases h:k<=xs.length
 ·rw[Nat.min_eq_left h];exact List.take_of_length_le (by simp)
 ·rw[Nat.min_eq_right (by omega),List.drop_of_length_le (Mu _),List.drop_of_length_le (by omega)];simp
theorem Ek {k:Nat}:cutD xs none (some (k:Int))=xs.take k:=by unfold cutD;have e1:HT.sIx xs.length 0 none=0:=rfl;have e2:HT.sIx xs.length xs.length (some (k:Int))=min k xs.length:=HT.zG _ _ _;rw[e1,e2];simp
theorem oJ (es:List Er) (t:Int):∀(rs:List Int) (k:Int) (m:Int),m∈rs->(aS es m).has t=true->∃h,hts es rs k t=some h
 |[],_,_,h,_=>by cases h
 |r::rs,k,m,h,ht=>by
  unfold hts;by_cases z:(aS es r).has t=true
  ·exact⟨k,by rw[if_pos z]⟩
  ·rw[if_neg z];rcases M7.mp h with q|q
   ·subst q;exact absurd ht z
   ·exact oJ es t rs (k+1) m q ht
theorem xW (a:0<=t) (h3:t<=3):atI ((List.range 4).map λ(t:Nat)=>bg (bF es rs t)) t=some (bg (bF es rs t)):=by rw[mO (j:=t.toNat) (by omega),MA,NV (by omega)];simp only[Nn];rw[Nu a]
theorem IW (a:p∈e.parts) (h:p.2=some t):e.has t=true:=O9.mpr ⟨p,a,by simp[h]⟩
theorem qD:∀(ps:List (Int×Option Int)),(∀p∈ps,0<=p.1/\p.1<=1000000)->0<=(ps.map (·.1)).sum/\(ps.map (·.1)).sum<=1000000*ps.length
 |[],_=>by simp
 |p::r,h=>by
  have h1:=h p M6;have h2:=qD r λq a=>h q (M4 _ a)
  simp only[M5,N7,MC];omega
theorem Er.Sh.work_b (h:e.Sh):0<=e.work/\e.work<=1000000000:=by
 have:=qD e.parts λp a=>⟨(h.pl p a).1,(h.pl p a).2.1⟩
 have h2:=h.pn;unfold Er.work;omega
theorem xT (h1:-(2 ^ 64)<b) (h2:b<2 ^ 64):b0 (.int a) (.int b)=some (.int (a*b)):=by show (if _ then _ else _)=_;rw[if_pos (.inr ⟨h1,h2⟩)]
theorem oK (h1:-(2 ^ 64)<a) (h2:a<2 ^ 64):b0 (.int a) (.int b)=some (.int (a*b)):=by show (if _ then _ else _)=_;rw[if_pos (.inl ⟨h1,h2⟩)]
def dq (B:Nat) (p:Int->Bool):Option Int:=((List.range B).map λ(i:Nat)=>(1+(i:Int))).find? p
theorem uh (B:Nat) (p:Int->Bool):dq (B+1) p=(dq B p).or (if p (1+(B:Int)) then some (1+(B:Int)) else none):=by unfold dq;rw[List.range_succ,N3,List.find?_append];congr 1;simp only[M5,N8,Np,List.find?_nil];cases p (1+(B:Int)) <;> rfl
theorem fk {p:Int->Bool}:∀{B:Nat} {t:Int},dq B p=some t->1<=t/\t<=B/\p t=true/\∀s,1<=s->s<t->p s=false
 |0,t,h=>by cases h
 |B+1,t,h=>by
  rw[uh]at h;cases q:dq B p with
  |some u =>rw[q]at h;cases h;obtain⟨h1,h2,a,b⟩:=fk q;exact⟨h1,by omega,a,b⟩
  |none =>
   rw[q,Option.none_or]at h;split at h
   ·rename_i c;cases h;refine⟨by omega,by omega,c,λs h1 h2=>?_⟩;unfold dq at q;have:=Oh.mp q s (M9.mpr ⟨(s-1).toNat,NC.mpr (by omega),by omega⟩);simpa using this
   ·cases h
theorem je {B:Nat} {p:Int->Bool} (h:dq B p=none):∀s:Int,1<=s->s<=(B:Int)->p s=false:=λs h1 h2=>by unfold dq at h;have:=Oh.mp h s (M9.mpr ⟨(s-1).toNat,NC.mpr (by omega),by omega⟩);simpa using this
theorem xI {B:Nat} {p:Int->Bool} (h1:1<=t) (h2:t<=B) (a:p t=true) (c:∀s,1<=s->s<t->p s=false):dq B p=some t:=by
 cases q:dq B p with
 |none=>rw[je q t h1 h2]at a;cases a
 |some u =>
  obtain⟨u1,u2,b,e⟩:=fk q;by_cases z:u<t
  ·rw[c u u1 z]at b;cases b
  ·by_cases z2:t<u
   ·rw[e t h1 z2]at a;cases a
   ·rw[show u=t by omega]
theorem xK {B:Nat} {p:Int->Bool} (h:∀s:Int,1<=s->s<=(B:Int)->p s=false):dq B p=none:=by
 cases q:dq B p with
 |none=>rfl
 |some u =>obtain⟨u1,b,a,u4⟩:=fk q;rw[h u u1 b]at a;cases a
theorem lu (es:List Er) (rs:List Int) (n:Int):eX es rs n=dq ((aS es n).every-(aS es n).late).toNat λt=>decide (eQ es rs n t<=t):=rfl
theorem Er.times_mono (h:1<=e.every) {u:Int} (ht:t<=u):e.times t<=e.times u:=by
 unfold Er.times;have q:=Int.ediv_le_ediv (c:=e.every) (by omega) (show t+e.late<=u+e.late by omega);have r1:=Na (t+e.late) (b:=e.every) (by omega);have r2:=Na (u+e.late) (b:=e.every) (by omega);have d1:=Od (t+e.late) e.every;have d2:=Od (u+e.late) e.every;by_cases z:(t+e.late) / e.every=(u+e.late) / e.every
 ·rw[<-z]at d2 ⊢;split <;> split <;> omega
 ·split <;> split <;> omega
theorem wA {α:Type} (f g:α->Int):∀l:List α,(∀x∈l,f x<=g x)->(l.map f).sum<=(l.map g).sum
 |[],_=>NA _
 |x::r,h=>by
  have h1:=h x M6;have h2:=wA f g r λy a=>h y (M4 _ a)
  simp only[M5,N7];omega
theorem ji {α:Type} (f:α->Int):∀l:List α,(∀x∈l,0<=f x)->0<=(l.map f).sum
 |[],_=>NA _
 |x::r,h=>by
  have h1:=h x M6;have h2:=ji f r λy a=>h y (M4 _ a)
  simp only[M5,N7];omega
theorem nM {u:Int} (b:∀e∈es,e.Sh) (f:cf es.length rs) (g:t<=u):eQ es rs n t<=eQ es rs n u:=by
 unfold eQ;have:=wA (λm=>(aS es m).times t*(aS es m).work) (λm=>(aS es m).times u*(aS es m).work) (rs.take (placeOf rs n)) λm hm=>by have a:=f.rng m (Nj hm);have c:=b _ (bV a.1 a.2);exact MY (Er.times_mono c.e1 g) c.work_b.1
 omega
structure kO (f:Int->Int):Prop where
 mono:∀t u,1<=t->t<=u->f t<=f u
 one:∀t,1<=t->1<=f t
theorem kO.fix {f:Int->Int} (R:kO f) (h1:1<=t) (h:f t<=t) (a:∀s,1<=s->s<t->¬ f s<=s):f t=t:=by
 by_cases z:f t<t
 ·exact absurd (R.mono _ _ (R.one t h1) h) (λq=>a (f t) (R.one t h1) z q)
 ·omega
theorem Er.times_pos (h:1<=e.every) (a:0<=t+e.late):0<=e.times t:=by unfold Er.times;have:=Int.ediv_nonneg a (show 0<=e.every by omega);split <;> omega
inductive Fa2 {α β:Type} (R:α->β->Prop):List α->List β->Prop where
 |nil:Fa2 R [] []
 |cons {a:α} {b:β} {l:List α} {m:List β} (h:R a b) (t:Fa2 R l m):Fa2 R (a::l) (b::m)
def cnd (es:List Er) (rs:List Int) (pl:Int) (t:Int):Bool:=match bF es rs t with
 |some h=>decide (h<=pl)
 |none=>false
def vM (c:Int->Bool) (acc:Int) (p:Int×Option Int):Int:=match p.2 with
 |some t=>if c t then max acc (p.1-1) else acc
 |none=>acc
theorem wV (es:List Er) (rs:List Int) (pl:Int):iL es rs pl=vM (cnd es rs pl):=by
 funext acc p;unfold iL vM cnd;cases p.2 with
 |none=>rfl
 |some t =>
  simp only;cases bF es rs t with
  |none=>rfl
  |some h=>simp
theorem Ex {c:Int->Bool} {acc M:Int}:vM c acc p<=M↔acc<=M/\∀t,p.2=some t->c t=true->p.1-1<=M:=by
 unfold vM;rcases hp:p.2 with _|t
 ·simp
 ·simp only;cases hc:c t with
  |false=>simp[hc]
  |true =>
   simp only[if_true];constructor
   ·intro h;refine⟨by omega,λu a _=>by cases a;omega⟩
   ·rintro⟨h1,h2⟩
    have:=h2 t rfl hc;omega
theorem xf {c:Int->Bool} {M:Int}:∀(l:List (Int×Option Int)) (acc:Int),l.foldl (vM c) acc<=M↔acc<=M/\∀p∈l,∀t,p.2=some t->c t=true->p.1-1<=M
 |[],acc=>by simp
 |p::l,acc=>by
  rw[NI,xf l,Ex];constructor
  ·rintro⟨⟨h1,h2⟩,b⟩
   exact⟨h1,λq a=>(M7.mp a).elim (λz=>by rw[z];exact h2) (b q)⟩
  ·rintro⟨h1,h2⟩
   exact⟨⟨h1,h2 p M6⟩,λq a=>h2 q (M4 _ a)⟩
theorem B7 (es:List Er) (t:Int):∀(rs:List Int) (k:Int) (j:Nat),(∃h,hts es rs k t=some h/\h<=k+j)↔∃m∈rs.take (j+1),(aS es m).has t=true
 |[],k,j=>by simp[hts]
 |r::rs,k,j=>by
  unfold hts;rw[NW];by_cases hr:(aS es r).has t=true
  ·rw[if_pos hr];exact⟨λ_=>⟨r,M6,hr⟩,λ_=>⟨k,rfl,by omega⟩⟩
  ·rw[if_neg hr];cases j with
   |zero =>
    have lo:∀(rs:List Int) (k:Int) h,hts es rs k t=some h->k<=h:=by
     intro rs
     induction rs with
     |nil=>intro k h e;cases e
     |cons a l c =>
      intro k h e;unfold hts at e;split at e
      ·cases e;exact NA _
      ·have:=c _ _ e;omega
    constructor
    ·rintro⟨h,e,hl⟩
     have:=lo rs (k+1) h e;omega
    ·rintro⟨m,hm,b⟩
     simp at hm;subst hm;exact absurd b hr
   |succ j =>
    have c:=B7 es t rs (k+1) j;constructor
    ·rintro⟨h,e,hl⟩
     obtain⟨m,hm,b⟩:=c.mp ⟨h,e,by omega⟩;exact⟨m,M4 _ hm,b⟩
    ·rintro⟨m,hm,b⟩
     rcases M7.mp hm with z|z
     ·rw[z]at b;exact absurd b hr
     ·obtain⟨h,e,hl⟩:=c.mpr ⟨m,z,b⟩;exact⟨h,e,by omega⟩
theorem zF {pl:Nat}:cnd es rs (pl:Int) t=true↔∃m∈rs.take (pl+1),(aS es m).has t=true:=by
 rw[<-B7 es t rs 0 pl];unfold cnd bF;cases hts es rs 0 t with
 |none=>simp
 |some h=>simp
def vD (es:List Er) (a:List Int):List (Int×Option Int):=(a.map λm=>(aS es m).parts).flatten
theorem Ay {b:List Int}:p∈vD es b↔∃m∈b,p∈(aS es m).parts:=by
 unfold vD;rw[List.mem_flatten];constructor
 ·rintro⟨l,hl,a⟩
  obtain⟨m,hm,rfl⟩:=M9.mp hl;exact⟨m,hm,a⟩
 ·rintro⟨m,hm,a⟩
  exact⟨_,M9.mpr ⟨m,hm,rfl⟩,a⟩
theorem sW {M:Int}:gj es rs n<=M↔0<=M/\∀m∈rs.drop (placeOf rs n+1),∀p∈(aS es m).parts,∀t,p.2=some t->(∃u∈rs.take (placeOf rs n+1),(aS es u).has t=true)->p.1-1<=M:=by
 unfold gj;rw[wV,xf];constructor
 ·rintro⟨h1,h2⟩
  exact⟨h1,λm hm p a t b c=>h2 p (Ay.mpr ⟨m,hm,a⟩) t b (zF.mpr c)⟩
 ·rintro⟨h1,h2⟩
  refine⟨h1,λp a t b hc=>?_⟩;obtain⟨m,hm,a⟩:=Ay.mp a;exact h2 m hm p a t b (zF.mp hc)
theorem yj {A r:List Int} (h:n∈A):placeOf (A++r) n=placeOf A n:=by
 unfold placeOf
 induction A with
 |nil=>cases h
 |cons a l ih =>
  rw[MU,Oq,Oq];cases hn:a==n with
  |true=>rfl
  |false =>
   have b:a≠n:=by simpa using hn
   rw[cond_false,cond_false,ih ((M7.mp h).resolve_left λq=>b q.symm)]
theorem kM (es:List Er) (rs:List Int) (n:Int):0<=gj es rs n:=(sW.mp (NA _)).1
theorem nJ:∀(ps:List (Int×Option Int)),(∀p∈ps,0<=p.1)->∀p∈ps,p.1<=(ps.map (·.1)).sum
 |[],_,p,a=>by cases a
 |q::r,h,p,a=>by
  have h0:=h q M6;have h1:=ji (λp:Int×Option Int=>p.1) r λp a=>h p (M4 _ a)
  simp only[M5,N7];rcases M7.mp a with rfl|a
  ·omega
  ·have:=nJ r (λp a=>h p (M4 _ a)) p a;omega
theorem Er.Sh.part_le (h:e.Sh) (a:p∈e.parts):p.1<=e.work:=nJ e.parts (λp a=>(h.pl p a).1) p a
section
variable {A B:List Int} {x y:Int}
end
theorem Er.Ok.work1 (h:e.Ok):1<=e.work:=by obtain⟨p,a⟩:=List.exists_mem_of_ne_nil _ h.p1;have h1:=h.sh.part_le a;have h2:=(h.pl p a).1;omega
theorem qW (hok:∀e∈es,e.Ok) (c:cf es.length rs) (n0:0<=n) (n1:n<es.length):kO (eQ es rs n) where
 mono:=λt u _ f=>nM (λe g=>(hok e g).sh) c f
 one:=λt f=>by
  unfold eQ;have h1:=kM es rs n;have h2:=(hok _ (bV n0 n1)).work1;have h3:=ji (λm=>(aS es m).times t*(aS es m).work) (rs.take (placeOf rs n)) λm hm=>by have a:=c.rng m (Nj hm);have b:=hok _ (bV a.1 a.2);have l0:=b.l1;exact Of (Er.times_pos b.sh.e1 (by omega)) b.sh.work_b.1
  omega
section
variable {ot:List Int}
end
def fu:PyData->Option (List Int)
 |.dict [(.none,.list l)]=>fF l
 |_=>none
theorem fK (ns:List Int):fu (ao ns)=some ns:=e9 ns
def aj:Gf
 |[s,.int k,.int many]=>(match fu s with
  |some ns=>if 0<=k/\0<many then .ok (.int (mixed ns k many)) else .no
  |none=>.no)
 |_=>.no
theorem cx {k:Int} (h1:0<=k) (h2:0<many):aj [ao ns,.int k,.int many]=.ok (.int (mixed ns k many)):=by unfold aj;simp[fK,h1,h2]
theorem gr (O:List Nat) (i:Nat) (g:Ds->Rs PyData) (δ:Ds):aL O i g δ=if i<δ.length then ofR (g (mask O δ)) λd=>.nx (δ.set i (some d)) else .no:=rfl
def ck:Gf
 |[s,.int a,.int top,.bool tools]=>(match fu s with
  |some ns=>if 0<=a/\0<top/\top<=58 then .ok (mkE ns a top tools).d else .no
  |none=>.no)
 |_=>.no
theorem iM {top:Int} {b:Bool} (h1:0<=a) (h2:0<top) (c:top<=58):ck [ao ns,.int a,.int top,.bool b]=.ok (mkE ns a top b).d:=by unfold ck;simp[fK,h1,h2,c]
theorem Bm (o:Option Int):fo (bg o)=true:=by cases o <;> (unfold bg fo;rfl)
theorem yc (p:Int×Option Int):fo (aJ p)=true:=by unfold aJ fo kT;rw[show fo (.int p.1)=true by unfold fo;rfl];unfold kT;rw[Bm];unfold kT;rfl
theorem CB {i:Int} (h0:0<=i) (h1:i<5):atI [PyData.int 0,PyData.int 1,PyData.int 1,PyData.int 0,PyData.none] i=some (bg (kE i)):=by
 have:i=0\/i=1\/i=2\/i=3\/i=4:=by omega
 rcases this with rfl|rfl|rfl|rfl|rfl <;> rfl
theorem wg (ns:List Int) (a top:Int) (b:Bool) (ev la e:PyData) (ha:0<=a) (L:List PyData) (hL:L.length<1000) (i:Nat) (x8 x9:Option PyData) :
   az (aL [7] 9 (aq aj (ae (af 0) (ae (g2 ba (g2 ba (af 1) (gC (.int 4))) (af 8)) (ae (gC (.int 40)) ah)))))
   (az (gH [7] 7 (fD (ae (g2 ba (gC (.int 1)) (g2 eJ (af 9) (gC (.int 4)))) (ae (g2 dIx (rh (ae (gC (.int 0)) (ae (gC (.int 1)) (ae (gC (.int 1)) (ae (gC (.int 0)) (ae (gC .none) ah)))))) (g2 eJ (g2 iV (af 9) (gC (.int 4))) (gC (.int 5)))) ah))))
   (sIf (gK (gT (af 3))) (q9 7 (g1 mZ (gC (.int 1))) (fD (ae (g2 dIx (g2 dIx (af 7) (g1 mZ (gC (.int 1)))) (gC (.int 0))) (ae (gC .none) ah)))) aY))
     [some (ao ns),some (.int a),some (.int top),some (.bool b),some ev,some la,some e,some (.list L),some (.int (0+(i:Int))),x9]
  =.nx [some (ao ns),some (.int a),some (.int top),some (.bool b),some ev,some la,some e,some (.list (L++[aJ (eR ns (a+4+(i:Int)) b)])),some (.int (0+(i:Int))),some (.int (mixed ns (a+4+(0+(i:Int))) 40))]:=by
 have hm:=cx (ns:=ns) (k:=a+4+(0+(i:Int))) (many:=40) (by omega) (by decide);have m0:=cz ns (a+4+(0+(i:Int))) (many:=40) (by decide);have m1:=cy ns (a+4+(0+(i:Int))) (many:=40) (by decide);have g:a+4+(0+(i:Int))=a+4+(i:Int):=by omega
 generalize hc:mixed ns (a+4+(0+(i:Int))) 40=c at *;have h:0<=c / 4 % 5:=Na _ (by decide);have j:c / 4 % 5<5:=Nw _ (by decide);have l:=CB h j;have f:eR ns (a+4+(i:Int)) b=(1+c % 4,if b then kE (c / 4 % 5) else none):=by unfold eR;rw[<-g,hc]
 have m:aL [7] 9 (aq aj (ae (af 0) (ae (g2 ba (g2 ba (af 1) (gC (.int 4))) (af 8)) (ae (gC (.int 40)) ah)))) [some (ao ns),some (.int a),some (.int top),some (.bool b),some ev,some la,some e,some (.list L),some (.int (0+(i:Int))),x9]
    =.nx [some (ao ns),some (.int a),some (.int top),some (.bool b),some ev,some la,some e,some (.list L),some (.int (0+(i:Int))),some (.int c)]:=by
   rw[gr,if_pos (by simp)];simp only[bj,ay,aF,bK,aC (show 0∉[7] by decide),aC (show 1∉[7] by decide),aC (show 8∉[7] by decide),ak,ar,cF,Rs.ag,dW,Rs.ai,hm,av];rfl
 have s2:gH [7] 7 (fD (ae (g2 ba (gC (.int 1)) (g2 eJ (af 9) (gC (.int 4)))) (ae (g2 dIx (rh (ae (gC (.int 0)) (ae (gC (.int 1)) (ae (gC (.int 1)) (ae (gC (.int 0)) (ae (gC .none) ah)))))) (g2 eJ (g2 iV (af 9) (gC (.int 4))) (gC (.int 5)))) ah)))
     [some (ao ns),some (.int a),some (.int top),some (.bool b),some ev,some la,some e,some (.list L),some (.int (0+(i:Int))),some (.int c)]
    =.nx [some (ao ns),some (.int a),some (.int top),some (.bool b),some ev,some la,some e,some (.list (L++[aJ (1+c % 4,kE (c / 4 % 5))])),some (.int (0+(i:Int))),some (.int c)]:=by
   unfold gH;simp only[Nk,Nl];simp only[jT,yV,ay,aF,bK,aC (show 9∉[7] by decide),ak,ar,cF,Rs.ag,dW,Rs.ai,rK,xk,if_pos (show (0:Int)<4 by decide),if_pos (show (0:Int)<5 by decide),if_pos (show (0:Int)<4/\(4:Int)<1073741824 by decide),DG,l,av,if_pos (show L.length<1000000 by omega)];rfl
 rw[aN,m];simp only;rw[aN,s2];simp only;cases b with
 |true =>rw[f];simp
 |false =>
   rw[f];have hl:atI (L++[aJ (1+c % 4,kE (c / 4 % 5))]) (-1)=some (aJ (1+c % 4,kE (c / 4 % 5))):=by rw[kj];simp
   have n:ixN (L++[aJ (1+c % 4,kE (c / 4 % 5))]).length (-1)=some L.length:=by unfold ixN;rw[if_neg (by decide),Mv,MR,if_pos (by omega)];congr 1;omega
   have o:(L++[aJ (1+c % 4,kE (c / 4 % 5))]).set L.length (.tuple [.int (1+c % 4),.none])=L++[aJ (1+c % 4,none)]:=by rw[Oc _ _ (Mu _)];simp;rfl
   have p:fo (.tuple [.int (1+c % 4),.none])=true:=yc (1+c % 4,none);rw[cJ];simp only[tP,dH,ak,ar,Rs.ag,aX,av,O2,if_true];unfold q9;simp only[Nk,Nl,jT,ay,aF,bK,gx,ak,ar,cF,Rs.ag,Ho,Rs.ai,DG,hl,Dc,av,n,p,if_true,o];rfl
theorem kh {j:Int} (h0:0<=j) (h1:j<1000000):FF [.int j]=.ok (bX 0 j.toNat):=by show (if _ then _ else _)=_;rw[if_pos (by omega)]
theorem gZ {lo:Int} {n:Nat} {d:PyData} (h:(bX lo n)[i]?=some d):i<n/\d=.int (lo+(i:Int)):=by have hi:=(MQ.mp h).1;rw[dk]at hi;unfold bX at h;rw[MA,NV hi]at h;exact⟨hi,(Option.some.inj h).symm⟩
theorem qB (n:Nat) (g:Nat->α):(List.range (n+1)).map g=(List.range n).map g++[g n]:=by rw[List.range_succ,N3];rfl
theorem Dq {f:PyData->Int->Int->Bool->Rs PyData} (h:(match ds with|[a,.int x1,.int x2,.bool x3]=>f a x1 x2 x3|_=>.no)≠.no):∃a x1 x2 x3,ds=[a,.int x1,.int x2,.bool x3]/\f a x1 x2 x3≠.no:=by
 rcases ds with _|⟨a,_|⟨x1,_|⟨x2,_|⟨x3,_|⟨y,ys⟩⟩⟩⟩⟩
 ·exact absurd rfl h
 ·exact absurd rfl h
 ·first|exact absurd rfl h|(cases x1 <;> exact absurd rfl h)
 ·first|exact absurd rfl h|(cases x1 <;> first|exact absurd rfl h|(cases x2 <;> exact absurd rfl h))
 ·skip
  cases x1 with
  |int x1 =>
   cases x2 with
   |int x2 =>
    cases x3 with
    |bool x3 =>exact⟨_,_,_,_,rfl,h⟩
    |_=>exact absurd rfl h
   |_=>first|exact absurd rfl h|(cases x3 <;> exact absurd rfl h)
  |_=>first|exact absurd rfl h|(cases x2 <;> first|exact absurd rfl h|(cases x3 <;> exact absurd rfl h))
 ·first|exact absurd rfl h|(cases x1 <;> first|exact absurd rfl h|(cases x2 <;> first|exact absurd rfl h|(cases x3 <;> exact absurd rfl h)))
theorem ur (cs:Cs):LLq (gE cs aj) 4 6 ck:=by
 intro ds hl c;obtain⟨s,a,top,b,p,o⟩:=Dq c;clear c;subst p;have c:=o;clear o
 ·skip
  split at c
  ·rename_i ns g;have es:s=ao ns:=by
    unfold fu at g;split at g
    ·rename_i l;rw[d6 g];rfl
    ·cases g
   subst es;split at c
   ·rename_i hc;obtain⟨ha,h,j⟩:=hc;rw[iM ha h j];show bc (gE cs aj [some (ao ns),some (.int a),some (.int top),some (.bool b),none,none,none,none,none,none])=_;have hm:∀k many:Int,0<=k->0<many->aj [ao ns,.int k,.int many]=.ok (.int (mixed ns k many)):=λk many h1 h2=>cx h1 h2
    have a1:=cz ns a h;have lb:=qE ns a (3+mixed ns a top) (by omega);have b1:=cz ns (a+1) (many:=4) (by decide);have b2:=cy ns (a+1) (many:=4) (by decide);have n1:=cz ns (a+3) (many:=3) (by decide);have n2:=cy ns (a+3) (many:=3) (by decide);have c1:=cz ns (a+6) (many:=3) (by decide);have c2:=cy ns (a+6) (many:=3) (by decide)
    -- every
    have q:aL [7] 4 (g2 ba (gC (.int 3)) (aq aj (ae (af 0) (ae (af 1) (ae (af 2) ah))))) [some (ao ns),some (.int a),some (.int top),some (.bool b),none,none,none,none,none,none]
      =.nx [some (ao ns),some (.int a),some (.int top),some (.bool b),some (.int (3+mixed ns a top)),none,none,none,none,none]:=by
     rw[gr,if_pos (by simp)];simp only[bj,ay,aF,bK,aC (show 0∉[7] by decide),aC (show 1∉[7] by decide),aC (show 2∉[7] by decide),ak,ar,cF,Rs.ag,hm a top ha h,dW,Rs.ai,av];rfl
    generalize hev:3+mixed ns a top=ev at *;have evp:3<=ev:=by omega
    have s2:aL [7] 5 (g2 b0 (aq aj (ae (af 0) (ae (g2 ba (af 1) (gC (.int 1))) (ae (gC (.int 4)) ah)))) (gF BJ (ae (g2 dEq (aq aj (ae (af 0) (ae (g2 ba (af 1) (gC (.int 2))) (ae (gC (.int 3)) ah)))) (gC (.int 0))) ah))) [some (ao ns),some (.int a),some (.int top),some (.bool b),some (.int ev),none,none,none,none,none]
      =.nx [some (ao ns),some (.int a),some (.int top),some (.bool b),some (.int ev),some (.int (mixed ns (a+1) 4*(if mixed ns (a+2) 3=0 then 1 else 0))),none,none,none,none]:=by
     rw[gr,if_pos (by simp)];simp only[bj,ay,aF,bK,fI,aC (show 0∉[7] by decide),aC (show 1∉[7] by decide),ak,ar,cF,Rs.ag,dW,Rs.ai,hm (a+1) 4 (by omega) (by decide),hm (a+2) 3 (by omega) (by decide),jA,JK];rw[oK (by omega) (by omega)];simp only[Rs.ai,av,beq_iff_eq];rfl
    have r:aL [7] 5 (gF kG (ae (af 5) (ae (g2 gy (af 4) (gC (.int 1))) ah))) [some (ao ns),some (.int a),some (.int top),some (.bool b),some (.int ev),some (.int (mixed ns (a+1) 4*(if mixed ns (a+2) 3=0 then 1 else 0))),none,none,none,none]
      =.nx [some (ao ns),some (.int a),some (.int top),some (.bool b),some (.int ev),some (.int (iF ns a ev)),none,none,none,none]:=by
     rw[gr,if_pos (by simp)];simp only[fI,ay,aF,bK,aC (show 4∉[7] by decide),aC (show 5∉[7] by decide),ak,ar,cF,Rs.ag,nU,Rs.ai,yB,av];rfl
    generalize hla:iF ns a ev=la at *;have t:aL [7] 6 (g2 gy (af 4) (af 5)) [some (ao ns),some (.int a),some (.int top),some (.bool b),some (.int ev),some (.int la),none,none,none,none]
      =.nx [some (ao ns),some (.int a),some (.int top),some (.bool b),some (.int ev),some (.int la),some (.int (ev-la)),none,none,none]:=by
     rw[gr,if_pos (by simp)];simp only[bK,aC (show 4∉[7] by decide),aC (show 5∉[7] by decide),ak,ar,Rs.ag,nU,Rs.ai,av];rfl
    have u:sIf (gT (g2 dEq (aq aj (ae (af 0) (ae (g2 ba (af 1) (gC (.int 1))) (ae (gC (.int 3)) ah)))) (gC (.int 0)))) (aL [7] 6 (g2 gy (af 6) (aq aj (ae (af 0) (ae (g2 ba (af 1) (gC (.int 2))) (ae (af 6) ah)))))) aY
        [some (ao ns),some (.int a),some (.int top),some (.bool b),some (.int ev),some (.int la),some (.int (ev-la)),none,none,none]
      =.nx [some (ao ns),some (.int a),some (.int top),some (.bool b),some (.int ev),some (.int la),some (.int (nF ns a (ev-la))),none,none,none]:=by
     rw[cJ];simp only[dH,bK,bj,ay,aF,ak,ar,cF,Rs.ag,dW,Rs.ai,hm (a+1) 3 (by omega) (by decide),jA,aX,av];by_cases z:mixed ns (a+1) 3=0
     · rw[if_pos (by simp[z]),gr,if_pos (by simp)];simp only[bj,ay,aF,bK,aC (show 0∉[7] by decide),aC (show 1∉[7] by decide),aC (show 6∉[7] by decide),ak,ar,cF,Rs.ag,dW,Rs.ai,hm (a+2) (ev-la) (by omega) (by omega),nU,av];unfold nF;rw[if_pos z];rfl
     · rw[if_neg (by simp[z])];unfold nF;rw[if_neg z];rfl
    generalize hdu:nF ns a (ev-la)=du at *;have v:eV [7] 7 ah [some (ao ns),some (.int a),some (.int top),some (.bool b),some (.int ev),some (.int la),some (.int du),none,none,none]
      =.nx [some (ao ns),some (.int a),some (.int top),some (.bool b),some (.int ev),some (.int la),some (.int du),some (.list []),none,none]:=rfl
    have src:fW (ae (aq aj (ae (af 0) (ae (g2 ba (af 1) (gC (.int 3))) (ae (gC (.int 3)) ah)))) ah) (mask [7] [some (ao ns),some (.int a),some (.int top),some (.bool b),some (.int ev),some (.int la),some (.int du),some (.list []),none,none])=.ok (bX 0 (mixed ns (a+3) 3).toNat):=by simp only[kg,bj,ay,aF,bK,aC (show 0∉[7] by decide),aC (show 1∉[7] by decide),ak,ar,cF,Rs.ag,dW,Rs.ai,hm (a+3) 3 (by omega) (by decide)];exact kh n1 (by omega)
    obtain⟨δ',e,x8,x9,m⟩:=jl (β:=Unit) (tgt:=bw 8) (body:=az (aL [7] 9 (aq aj (ae (af 0) (ae (g2 ba (g2 ba (af 1) (gC (.int 4))) (af 8)) (ae (gC (.int 40)) ah)))))
  (az (gH [7] 7 (fD (ae (g2 ba (gC (.int 1)) (g2 eJ (af 9) (gC (.int 4)))) (ae (g2 dIx (rh (ae (gC (.int 0)) (ae (gC (.int 1)) (ae (gC (.int 1)) (ae (gC (.int 0)) (ae (gC .none) ah)))))) (g2 eJ (g2 iV (af 9) (gC (.int 4))) (gC (.int 5)))) ah))))
  (sIf (gK (gT (af 3))) (q9 7 (g1 mZ (gC (.int 1))) (fD (ae (g2 dIx (g2 dIx (af 7) (g1 mZ (gC (.int 1)))) (gC (.int 0))) (ae (gC .none) ah)))) aY)))
     (λi δ=>∃x8 x9,δ=[some (ao ns),some (.int a),some (.int top),some (.bool b),some (.int ev),some (.int la),some (.int du),some (.list ((List.range i).map λ(k:Nat)=>aJ (eR ns (a+4+(k:Int)) b))),x8,x9])
     (bX 0 (mixed ns (a+3) 3).toNat) 0 (λi d δ hi n=>by obtain⟨x8,x9,w⟩:=n;subst w;rw[ND]at *;obtain⟨hil,rfl⟩:=gZ hi;refine⟨[some (ao ns),some (.int a),some (.int top),some (.bool b),some (.int ev),some (.int la),some (.int du),some (.list ((List.range i).map λ(k:Nat)=>aJ (eR ns (a+4+(k:Int)) b))),some (.int (0+(i:Int))),x9],_,rfl,wg ns a top b (.int ev) (.int la) (.int du) ha _ (by simp;omega) i none x9,some (.int (0+(i:Int))),some (.int (mixed ns (a+4+(0+(i:Int))) 40)),?_⟩;rw[qB]) [some (ao ns),some (.int a),some (.int top),some (.bool b),some (.int ev),some (.int la),some (.int du),some (.list []),none,none] ⟨none,none,rfl⟩
    subst m;rw[ND,dk]at e;have hd:(mkE ns a top b).d=.tuple [.int ev,.int du,.int la,.tuple (((List.range (mixed ns (a+3) 3).toNat).map λ(k:Nat)=>aJ (eR ns (a+4+(k:Int)) b))++[aJ (1+mixed ns (a+6) 3,none)])]:=by simp only[mkE,Er.d,N3,MF,hev,hla,hdu];rfl
    rw[hd];simp only[gE];rw[aN,q];simp only;rw[aN,s2];simp only;rw[aN,r];simp only;rw[aN,t];simp only;rw[aN,u];simp only;rw[aN,v];simp only;rw[aN,kU,src,av,e];simp only;simp only[bW,jT,yV,ay,aF,bK,fI,bj,ak,ar,cF,Rs.ag,dW,Rs.ai,hm (a+6) 3 (by omega) (by decide)];have f:ba (.list ((List.range (mixed ns (a+3) 3).toNat).map λ(k:Nat)=>aJ (eR ns (a+4+(k:Int)) b))) (.list [.tuple [.int (1+mixed ns (a+6) 3),.none]])=some (.list (((List.range (mixed ns (a+3) 3).toNat).map λ(k:Nat)=>aJ (eR ns (a+4+(k:Int)) b))++[aJ (1+mixed ns (a+6) 3,none)])):=by show (if _ then _ else _)=_;rw[if_pos (by simp;omega)];rfl
    rw[f];simp
   ·exact absurd rfl c
  ·exact absurd rfl c
def bp:Gf
 |[s,.int a,.int most,.int top,.bool tools]=>(match fu s with
  |some ns=>if 0<=a/\0<most/\most<=6/\0<top/\top<=58 then .ok (aw (oa ns a most top tools)) else .no
  |none=>.no)
 |_=>.no
theorem ic {most top:Int} {b:Bool} (h1:0<=a) (h2:0<most) (c:most<=6) (e:0<top) (f:top<=58):bp [ao ns,.int a,.int most,.int top,.bool b]=.ok (aw (oa ns a most top b)):=by unfold bp;simp[fK,h1,h2,c,e,f]
theorem ip {s:PyData} (a:fu s=some ns):s=ao ns:=by
 unfold fu at a;split at a
 ·rename_i l;rw[d6 a];rfl
 ·cases a
theorem A5 {f:PyData->Int->Int->Int->Bool->Rs PyData} (h:(match ds with|[a,.int x1,.int x2,.int x3,.bool x4]=>f a x1 x2 x3 x4|_=>.no)≠.no):∃a x1 x2 x3 x4,ds=[a,.int x1,.int x2,.int x3,.bool x4]/\f a x1 x2 x3 x4≠.no:=by
 rcases ds with _|⟨a,_|⟨x1,_|⟨x2,_|⟨x3,_|⟨x4,_|⟨y,ys⟩⟩⟩⟩⟩⟩
 ·exact absurd rfl h
 ·exact absurd rfl h
 ·first|exact absurd rfl h|(cases x1 <;> exact absurd rfl h)
 ·first|exact absurd rfl h|(cases x1 <;> first|exact absurd rfl h|(cases x2 <;> exact absurd rfl h))
 ·first|exact absurd rfl h|(cases x1 <;> first|exact absurd rfl h|(cases x2 <;> first|exact absurd rfl h|(cases x3 <;> exact absurd rfl h)))
 ·skip
  cases x1 with
  |int x1 =>
   cases x2 with
   |int x2 =>
    cases x3 with
    |int x3 =>
     cases x4 with
     |bool x4 =>exact⟨_,_,_,_,_,rfl,h⟩
     |_=>exact absurd rfl h
    |_=>first|exact absurd rfl h|(cases x4 <;> exact absurd rfl h)
   |_=>first|exact absurd rfl h|(cases x3 <;> first|exact absurd rfl h|(cases x4 <;> exact absurd rfl h))
  |_=>first|exact absurd rfl h|(cases x2 <;> first|exact absurd rfl h|(cases x3 <;> first|exact absurd rfl h|(cases x4 <;> exact absurd rfl h)))
 ·first|exact absurd rfl h|(cases x1 <;> first|exact absurd rfl h|(cases x2 <;> first|exact absurd rfl h|(cases x3 <;> first|exact absurd rfl h|(cases x4 <;> exact absurd rfl h))))
theorem rn (cs:Cs):LLq (fP cs ck aj) 5 1 bp:=by
 intro ds hl c;obtain⟨s,a,most,top,b,n,l⟩:=A5 c;clear c;subst n;have c:=l;clear l
 ·skip
  split at c
  ·rename_i ns o;have es:=ip o;subst es;split at c
   ·rename_i hc;obtain⟨ha,e,g,m,f⟩:=hc;rw[ic ha e g m f];have hm:=cx (ns:=ns) ha e;have m1:=cz ns a e;have m2:=cy ns a e;have h:a8 6 (fW (ae (af 5) ah)) bA (aq ck (ae (af 0) (ae (g2 ba (g2 ba (af 1) (gC (.int 1))) (g2 b0 (gC (.int 7)) (af 6))) (ae (af 3) (ae (af 4) ah))))) aI
      [some (ao ns),some (.int a),some (.int most),some (.int top),some (.bool b),some (.int (1+mixed ns a most))]=.ok ((bX 0 (1+mixed ns a most).toNat).map λd=>(mkE ns (a+1+7*deI d) top b).d) :=
     cu rfl (by simp only[kg,ay,aF,ak,ar,Rs.ag];exact kh (by omega) (by omega)) (by rw[dk];omega) λd hd=>by obtain⟨i,hi⟩:=List.getElem?_of_mem hd;obtain⟨_,rfl⟩:=gZ hi;simp only[MU,MS,bj,ay,aF,bK,ak,ar,cF,Rs.ag,dW,Rs.ai];rw[oK (by decide) (by decide)];simp only[Rs.ai,Rs.ag,dW];exact iM (by omega) m f
    have j:aw (oa ns a most top b)=.tuple ((bX 0 (1+mixed ns a most).toNat).map λd=>(mkE ns (a+1+7*deI d) top b).d):=by
     unfold aw oa bX;rw[MF,MF];congr 1;refine MH λk _=>?_
     simp[deI]
    rw[j];show bc (fP cs ck aj [some (ao ns),some (.int a),some (.int most),some (.int top),some (.bool b),none])=_;simp only[fP,aN,ij,MC,Nm,Nat.reduceAdd,Nat.reduceLT,if_true,bj,ay,aF,bK,ak,ar,cF,Rs.ag,hm,dW,Rs.ai,av,NJ,NK,bW,fI,n5,h,uI,aU]
   ·exact absurd rfl c
  ·exact absurd rfl c
def cC:Gf
 |[d,.int t]=>if uw d then .ok (.bool ((deE d).has t)) else .no
 |_=>.no
theorem jO (h:e.Sh):cC [e.d,.int t]=.ok (.bool (e.has t)):=by unfold cC;simp[lp h,wu]
theorem wI (t:Int):∀ps:List (Int×Option Int),inD (.int t) ((ps.map aJ).map λd=>bg (bO d).2)=ps.any λp=>p.2==some t
 |[]=>rfl
 |p::r=>by
  have h1:eqV (toV (bg p.2)) (.int t)=(p.2==some t):=by
   rcases hp:p.2 with _|z
   ·rfl
   ·show (z==t)=(some z==some t)
    simp
  have:=wI t r;unfold inD inV at this ⊢;rw[M5,M5,M5,NH,NH,this,fm];show (eqV (toV (bg p.2)) (.int t)||_)=_;rw[h1]
theorem Bb (ps:List (Int×Option Int)):((ps.map aJ).map λd=>bg (bO d).2).all gD=true:=by rw[MD];intro d hd;obtain⟨n,_,rfl⟩:=M9.mp hd;cases (bO n).2 <;> rfl
theorem Ii {f:PyData->Int->Rs PyData} (h:(match ds with|[a,.int x1]=>f a x1|_=>.no)≠.no):∃a x1,ds=[a,.int x1]/\f a x1≠.no:=by
 rcases ds with _|⟨a,_|⟨x1,_|⟨y,ys⟩⟩⟩
 ·exact absurd rfl h
 ·exact absurd rfl h
 ·skip
  cases x1 with
  |int x1 =>exact⟨_,_,rfl,h⟩
  |_=>exact absurd rfl h
 ·first|exact absurd rfl h|(cases x1 <;> exact absurd rfl h)
theorem yh (cs:Cs):LLq (jh cs) 2 0 cC:=by
 intro ds hl a;obtain⟨d,t,f,c⟩:=Ii a;clear a;subst f;have a:=c;clear c
 ·skip
  split at a
  ·rename_i hd;obtain⟨e1,sh⟩:=rL hd;rw[<-e1];generalize deE d=e at sh;rw[jO sh];have hc:a8 2 (bG (g2 dIx (af 0) (gC (.int 3)))) bA (g2 dIx (af 2) (gC (.int 1))) aI [some e.d,some (.int t)]=.ok ((e.parts.map aJ).map λd=>bg (bO d).2) :=
    cu rfl (by simp[GP]) (by have:=sh.pn;simp;omega) λd b=>by obtain⟨p,hp,rfl⟩:=M9.mp b;simp[B8,fm]
   have hi:D0 false (.int t) (.list ((e.parts.map aJ).map λd=>bg (bO d).2))=some (.bool (e.has t)):=by show (if (gD (.int t)&&_)=true then some (PyData.bool (if false=true then _ else inD _ _)) else none)=_;rw[Bb,wI];rfl
   show bc (jh cs [some e.d,some (.int t)])=_;simp only[jh,bW,bK,ak,ar,n5,hc,Rs.ag,hi,Rs.ai,av,aU]
  ·exact absurd rfl a
def dG:Gf
 |[d,r,.int t]=>if pP d&&dR (cN d).length r then .ok (bg (bF (cN d) (cp r) t)) else .no
 |_=>.no
theorem lO (h1:es.length<=100) (h:∀e∈es,e.Sh) (a:cf es.length rs):dG [aw es,au rs,.int t]=.ok (bg (bF es rs t)):=by unfold dG;simp[qe h1 h,eS,gY a,d7]
theorem nY (es:List Er) (a:∀e∈es,e.Sh) (R:PyData) (t:Int):∀(rs:List Int) (k:Nat) (x3 x4:Option PyData),(∀m∈rs,0<=m/\m<es.length) ->
   (∃i,hts es rs k t=some i/\forL (fZ [3,4]) (sIf (gT (aq cC (ae (g2 dIx (af 0) (af 4)) (ae (af 2) ah)))) (bh (af 3)) aY) ((rs.map PyData.int).mapIdx λi d=>.tuple [.int ((k+i:Nat):Int),d]) [some (aw es),some R,some (.int t),x3,x4]=.rt (.int i))
  \/(hts es rs k t=none/\∃δ,forL (fZ [3,4]) (sIf (gT (aq cC (ae (g2 dIx (af 0) (af 4)) (ae (af 2) ah)))) (bh (af 3)) aY) ((rs.map PyData.int).mapIdx λi d=>.tuple [.int ((k+i:Nat):Int),d]) [some (aw es),some R,some (.int t),x3,x4]=.nx δ)
 |[],k,x3,x4,_=>.inr ⟨rfl,_,rfl⟩
 |m::r,k,x3,x4,hm=>by
   have b:=hm m M6;have a2:atI (es.map Er.d) m=some (aS es m).d:=ie b.1 b.2;have f:=jO (t:=t) (a _ (bV b.1 b.2));rw[M5,Ox];unfold forL;have e1:fZ [3,4] (PyData.tuple [.int ((k+0:Nat):Int),.int m]) [some (aw es),some R,some (.int t),x3,x4]=some [some (aw es),some R,some (.int t),some (.int (k:Int)),some (.int m)]:=rfl;rw[e1];simp only[cJ,dH,bj,ay,aF,bK,ak,ar,Rs.ag,aw,wx,a2,Rs.ai,f,aX,av,bW,eO];unfold hts;cases hh:(aS es m).has t with
   |true=>exact .inl ⟨k,rfl,rfl⟩
   |false =>
    simp only[MJ,if_false];have c:=nY es a R t r (k+1) (some (.int (k:Int))) (some (.int m)) (λx g=>hm x (M4 _ g));rw[show ((k+1:Nat):Int)=(k:Int)+1 by omega]at c;have h:(λ(i:Nat) (d:PyData)=>PyData.tuple [.int ((k+(i+1):Nat):Int),d])=λi d=>.tuple [.int ((k+1+i:Nat):Int),d]:=by funext i d;rw[show k+(i+1)=k+1+i by omega]
    rw[h];exact c
theorem jk {f:PyData->PyData->Int->Rs PyData} (h:(match ds with|[a,x1,.int x2]=>f a x1 x2|_=>.no)≠.no):∃a x1 x2,ds=[a,x1,.int x2]/\f a x1 x2≠.no:=by
 rcases ds with _|⟨a,_|⟨x1,_|⟨x2,_|⟨y,ys⟩⟩⟩⟩
 ·exact absurd rfl h
 ·exact absurd rfl h
 ·exact absurd rfl h
 ·skip
  cases x2 with
  |int x2 =>exact⟨_,_,_,rfl,h⟩
  |_=>exact absurd rfl h
 ·first|exact absurd rfl h|(cases x2 <;> exact absurd rfl h)
theorem Dw (cs:Cs):LLq (me cs cC) 3 2 dG:=by
 intro ds hl a;obtain⟨d,r,t,h,f⟩:=jk a;clear a;subst h;have a:=f;clear f
 ·skip
  split at a
  ·rename_i hc;simp only[M8]at hc;obtain⟨c1,j⟩:=hc;obtain⟨e1,hlen,c⟩:=xx c1;obtain⟨e2,g⟩:=lI j;rw[<-e1,<-e2];generalize cN d=es at *;generalize cp r=rs at *;rw[lO hlen c g];have loop:=nY es c (au rs) t rs 0 none none g.rng;show bc (me cs cC [some (aw es),some (au rs),some (.int t),none,none])=_;have src:iO (ae (af 1) ah) [some (aw es),some (au rs),some (.int t),none,none]=.ok ((rs.map PyData.int).mapIdx λi d=>.tuple [.int ((0+i:Nat):Int),d]):=by simp only[An,ay,aF,ak,ar,Rs.ag,au,Au,ik,ND]
   simp only[me];rw[aN,kU,lr,src,av];unfold bF;rcases loop with⟨i,b,e⟩|⟨b,δ,e⟩
   ·rw[e];have b:hts es rs 0 t=some i:=b;rw[b];rfl
   ·rw[e];have b:hts es rs 0 t=none:=b;rw[b];rfl
  ·exact absurd rfl a
def aZ (es:List Er) (rs:List Int):PyData:=.list ((List.range 4).map λ(t:Nat)=>bg (bF es rs t))
def aR:Gf
 |[d,r]=>if pP d&&dR (cN d).length r then .ok (aZ (cN d) (cp r)) else .no
 |_=>.no
theorem fM (h1:es.length<=100) (h:∀e∈es,e.Sh) (a:cf es.length rs):aR [aw es,au rs]=.ok (aZ es rs):=by unfold aR;simp[qe h1 h,eS,gY a,d7]
theorem Jo {f:PyData->PyData->Rs PyData} (h:(match ds with|[a,x1]=>f a x1|_=>.no)≠.no):∃a x1,ds=[a,x1]/\f a x1≠.no:=by
 rcases ds with _|⟨a,_|⟨x1,_|⟨y,ys⟩⟩⟩
 ·exact absurd rfl h
 ·exact absurd rfl h
 ·skip
  exact⟨_,_,rfl,h⟩
 ·exact absurd rfl h
theorem uq (cs:Cs):LLq (gN cs dG) 2 0 aR:=by
 intro ds hl a;obtain⟨d,r,g,e⟩:=Jo a;clear a;subst g;have a:=e;clear e
 ·skip
  split at a
  ·rename_i hc;simp only[M8]at hc;obtain⟨c1,h⟩:=hc;obtain⟨e1,hlen,b⟩:=xx c1;obtain⟨e2,f⟩:=lI h;rw[<-e1,<-e2];generalize cN d=es at *;generalize cp r=rs at *;rw[fM hlen b f];have j:∀t:Int,dG [aw es,au rs,.int t]=.ok (bg (bF es rs t)):=λt=>lO hlen b f
   have c:a8 2 (fW (ae (gC (.int 4)) ah)) bA (aq dG (ae (af 0) (ae (af 1) (ae (af 2) ah)))) aI [some (aw es),some (au rs)]=.ok ((bX 0 (4:Int).toNat).map λx=>bg (bF es rs (deI x))) :=
    cu rfl (by simp only[kg,ay,aF,cF,Rs.ag];exact kh (by decide) (by decide)) (by rw[dk];decide) λx l=>by obtain⟨i,hi⟩:=List.getElem?_of_mem l;obtain⟨_,rfl⟩:=gZ hi;simp only[MU,MS,bj,ay,aF,ak,ar,Rs.ag,j];rfl
   have hd:aZ es rs=.list ((bX 0 (4:Int).toNat).map λx=>bg (bF es rs (deI x))):=by
    unfold aZ bX;rw[MF];congr 1
    try exact MH λk _=>by simp[deI]
   rw[hd];show bc (gN cs dG [some (aw es),some (au rs)])=_;simp only[gN,bW,n5,c,Rs.ag,av,aU]
  ·exact absurd rfl a
def dJ (ns:List Int) (a:Int) (many:Nat):Nat->List Int×List Int
 |0=>((List.range many).map λ(i:Nat)=>(i:Int),[])
 |i+1=>((dJ ns a many i).1.eraseIdx (mixed ns (a+(i:Int)) ((dJ ns a many i).1.length:Int)).toNat,(dJ ns a many i).2++[(dJ ns a many i).1.getD (mixed ns (a+(i:Int)) ((dJ ns a many i).1.length:Int)).toNat 0])
def oF (ns:List Int) (a:Int) (many:Nat):List Int:=(dJ ns a many many).2
theorem oU {α:Type}:∀(l:List α) (j:Nat) (h:j<l.length),(l[j]::l.eraseIdx j).Perm l
 |[],j,h=>by simp at h
 |x::r,0,h=>by simp
 |x::r,j+1,h=>by
  simp only[List.getElem_cons_succ,List.eraseIdx_cons_succ];have h':j<r.length:=by simpa using h
  exact (List.Perm.swap _ _ _).trans ((oU r j h').cons x)
theorem sO {α β:Type} (f:α->β):∀(l:List α) (j:Nat),(l.map f).eraseIdx j=(l.eraseIdx j).map f
 |[],j=>by simp
 |x::r,0=>by simp
 |x::r,j+1=>by simp[sO f r j]
theorem qf (ns:List Int) (a:Int) (many:Nat):∀i,i<=many->(dJ ns a many i).1.length=many-i/\(dJ ns a many i).2.length=i/\((dJ ns a many i).1++(dJ ns a many i).2).Perm ((List.range many).map λ(i:Nat)=>(i:Int))
 |0,_=>⟨by simp[dJ],rfl,by simp[dJ]⟩
 |i+1,h=>by
  obtain⟨h1,h2,e⟩:=qf ns a many i (by omega);simp only[dJ];generalize (dJ ns a many i).1=L at *;generalize (dJ ns a many i).2=M at *;have c:0<(L.length:Int):=by omega
  have m0:=cz ns (a+(i:Int)) c;have m1:=cy ns (a+(i:Int)) c;generalize mixed ns (a+(i:Int)) (L.length:Int)=z at *;have b:z.toNat<L.length:=by omega
  refine⟨by rw[List.length_eraseIdx_of_lt b];omega,by simp[h2],?_⟩;refine List.Perm.trans ?_ e;rw[MK,M1 b,Option.getD_some];have p1:(L[z.toNat]::L.eraseIdx z.toNat).Perm L:=oU L z.toNat b;have p2:(L.eraseIdx z.toNat++(M++[L[z.toNat]])).Perm ((L[z.toNat]::L.eraseIdx z.toNat)++M):=by rw[<-N6];exact (List.perm_append_singleton _ _)
  exact p2.trans (p1.append_right M)
theorem yz (ns:List Int) (a:Int) (many:Nat):cf many (oF ns a many):=by
 obtain⟨h1,h2,b⟩:=qf ns a many many (Mu _);unfold oF;have e:(dJ ns a many many).1=[]:=NG.mp (by omega);rw[e,MS]at b;refine⟨h2,λr c=>?_,b.nodup_iff.mpr ?_⟩
 ·obtain⟨k,g,rfl⟩:=M9.mp (b.mem_iff.mp c);have:=NC.mp g;omega
 ·exact (List.nodup_range).map (f:=λ(i:Nat)=>(i:Int)) λx y h=>by intro q;have q:(x:Int)=(y:Int):=q;exact h (by omega)
def bT:Gf
 |[s,.int a,.int many]=>(match fu s with
  |some ns=>if 0<=a/\0<=many/\many<=100 then .ok (au (oF ns a many.toNat)) else .no
  |none=>.no)
 |_=>.no
theorem jx (h1:0<=a) (h2:0<=many) (b:many<=100):bT [ao ns,.int a,.int many]=.ok (au (oF ns a many.toNat)):=by unfold bT;simp[fK,h1,h2,b]
theorem Bv (ns:List Int) (a:Int) (n i:Nat) (L M:List Int) (ha:0<=a) (c:0<(L.length:Int)) (hL2:L.length<=100) (hM:M.length<=100) :
   i5 4 3 (aq aj (ae (af 0) (ae (g2 ba (af 1) (af 5)) (ae (gF b8 (ae (af 3) ah)) ah)))) [some (ao ns),some (.int a),some (.int (n:Int)),some (.list (L.map .int)),some (.list (M.map .int)),some (.int (0+(i:Int)))]
  =.nx [some (ao ns),some (.int a),some (.int (n:Int)),some (.list ((L.eraseIdx (mixed ns (a+(i:Int)) (L.length:Int)).toNat).map .int)),some (.list ((M++[L.getD (mixed ns (a+(i:Int)) (L.length:Int)).toNat 0]).map .int)),some (.int (0+(i:Int)))]:=by
 have b:=cx (ns:=ns) (k:=a+(0+(i:Int))) (many:=(L.length:Int)) (by omega) c;have h:=cz ns (a+(i:Int)) c;have m1:=cy ns (a+(i:Int)) c;rw[show a+(0+(i:Int))=a+(i:Int) by omega]at b;generalize mixed ns (a+(i:Int)) (L.length:Int)=z at *;have g:z.toNat<L.length:=by omega
 have j:aq aj (ae (af 0) (ae (g2 ba (af 1) (af 5)) (ae (gF b8 (ae (af 3) ah)) ah))) [some (ao ns),some (.int a),some (.int (n:Int)),some (.list (L.map .int)),some (.list (M.map .int)),some (.int (0+(i:Int)))]=.ok (.int z):=by simp only[bj,ay,aF,bK,fI,ak,ar,Rs.ag,dW,Rs.ai,jE,M3];rw[show a+(0+(i:Int))=a+(i:Int) by omega];exact b
 have e:ixN (L.map PyData.int).length z=some z.toNat:=by unfold ixN;rw[if_pos h,if_pos (by rw[M3];omega)]
 have f:(L.map PyData.int)[z.toNat]?=some (.int (L.getD z.toNat 0)):=by rw[MA,M1 g,MK,M1 g];rfl
 unfold i5;simp only[Nk,Nl,j,av];rw[if_pos (by refine⟨by omega,by omega,?_⟩;rw[M3];omega)];simp only[e,f,NJ,NK,N3,M5,N8];rw[sO]
theorem Bi (ns:List Int) (a:Int) (n i:Nat) (ha:0<=a) (hi:i<n) (hn:n<=100) :
   i5 4 3 (aq aj (ae (af 0) (ae (g2 ba (af 1) (af 5)) (ae (gF b8 (ae (af 3) ah)) ah)))) [some (ao ns),some (.int a),some (.int (n:Int)),some (.list ((dJ ns a n i).1.map .int)),some (.list ((dJ ns a n i).2.map .int)),some (.int (0+(i:Int)))]
  =.nx [some (ao ns),some (.int a),some (.int (n:Int)),some (.list ((dJ ns a n (i+1)).1.map .int)),some (.list ((dJ ns a n (i+1)).2.map .int)),some (.int (0+(i:Int)))]:=by
 obtain⟨h1,h2,h3⟩:=qf ns a n i (by omega);simp only[dJ];exact Bv ns a n i _ _ ha (by omega) (by omega) (by omega)
theorem rk1 (ns:List Int) (a:Int) (n:Nat) (hm2:(n:Int)<=100):eV [3,4] 3 (gLR (ae (af 2) ah)) [some (ao ns),some (.int a),some (.int (n:Int)),none,none,none]=.nx [some (ao ns),some (.int a),some (.int (n:Int)),some (.list ((dJ ns a n 0).1.map .int)),none,none]:=by
 have b:gLR (ae (af 2) ah) (mask [3,4] [some (ao ns),some (.int a),some (.int (n:Int)),none,none,none])=.ok (bX 0 n):=by simp only[Kv,ay,aF,aC (show 2∉[3,4] by decide),ak,ar,Rs.ag];unfold tN;simp only;rw[if_pos (by omega),MT]
 have c:(dJ ns a n 0).1.map PyData.int=bX 0 n:=by
  simp only[dJ,bX,MF];refine MH λk _=>?_
  simp
 rw[c];unfold eV;rw[b,if_pos (by simp)];simp only[av,NJ,NK]
theorem rk2 (ns:List Int) (a:Int) (n:Nat):eV [3,4] 4 ah [some (ao ns),some (.int a),some (.int (n:Int)),some (.list ((dJ ns a n 0).1.map .int)),none,none]=.nx [some (ao ns),some (.int a),some (.int (n:Int)),some (.list ((dJ ns a n 0).1.map .int)),some (.list ((dJ ns a n 0).2.map .int)),none]:=by unfold eV;rw[if_pos (by simp)];simp only[aF,av,NJ,NK];rfl
theorem rk3 (ns:List Int) (a:Int) (n:Nat) (hm2:(n:Int)<=100):fW (ae (af 2) ah) (mask [3,4] [some (ao ns),some (.int a),some (.int (n:Int)),some (.list ((dJ ns a n 0).1.map .int)),some (.list ((dJ ns a n 0).2.map .int)),none])=.ok (bX 0 n):=by have hv:ae (af 2) ah (mask [3,4] [some (ao ns),some (.int a),some (.int (n:Int)),some (.list ((dJ ns a n 0).1.map .int)),some (.list ((dJ ns a n 0).2.map .int)),none])=.ok [.int (n:Int)]:=rfl;have b:=kh (j:=(n:Int)) (N2 n) (by omega);rw[MT]at b;rw[kg,hv,Rs.ag,b]
theorem u9 (cs:Cs):LLq (ia cs aj) 3 3 bT:=by
 intro ds hl b;obtain⟨s,a,many,m,l⟩:=oE b;clear b;subst m;have b:=l;clear l
 ·skip
  split at b
  ·rename_i ns o;have es:=ip o;subst es;split at b
   ·rename_i hc;obtain⟨ha,hm,c⟩:=hc;rw[jx ha hm c];obtain⟨n,rfl⟩:∃n:Nat,many=(n:Int):=⟨many.toNat,by omega⟩
    rw[MT];show bc (ia cs aj [some (ao ns),some (.int a),some (.int (n:Int)),none,none,none])=_;have p:=rk1 ns a n c;have s2:=rk2 ns a n;have src:=rk3 ns a n c;obtain⟨δ',e,f,g⟩:=jl (β:=Unit) (tgt:=bw 5) (body:=i5 4 3 (aq aj (ae (af 0) (ae (g2 ba (af 1) (af 5)) (ae (gF b8 (ae (af 3) ah)) ah)))))
     (λi δ=>∃f,δ=[some (ao ns),some (.int a),some (.int (n:Int)),some (.list ((dJ ns a n i).1.map .int)),some (.list ((dJ ns a n i).2.map .int)),f])
     (bX 0 n) 0 (λi d δ hi h=>by obtain⟨f,q⟩:=h;subst q;rw[ND]at *;obtain⟨j,rfl⟩:=gZ hi;refine⟨[some (ao ns),some (.int a),some (.int (n:Int)),some (.list ((dJ ns a n i).1.map .int)),some (.list ((dJ ns a n i).2.map .int)),some (.int (0+(i:Int)))],_,rfl,?_,some (.int (0+(i:Int))),rfl⟩;exact Bi ns a n i ha j (by omega)) [some (ao ns),some (.int a),some (.int (n:Int)),some (.list ((dJ ns a n 0).1.map .int)),some (.list ((dJ ns a n 0).2.map .int)),none] ⟨none,rfl⟩
    subst g;rw[ND,dk]at e;simp only[ia];rw[aN,p];simp only;rw[aN,s2];simp only;rw[aN,kU,src,av,e];simp only;simp only[bW,fI,ay,aF,ak,ar,Rs.ag,uI,Rs.ai,av,aU];rfl
   ·exact absurd rfl b
  ·exact absurd rfl b
end RS
namespace RS
open PySem PySem.Spec PyProof.Rows L2
section
theorem zK {k:Nat} {G:Ds->Sr} (F:Fun K x qual st f fd) (S:cX N ps (aE st)) (c:∀i∈O,ps.length<=i)
  (body:∀(cdv:Value) (A:Around) (outer:List Env) (s:Shared) (H:Hp) (E:XK),cw k (A.deeper (envOfC qual (aE st) s.heap.objs.size f cdv))->PBD (c8 (CXW P w) P w K mg base N qual (aE st) f cdv A outer s H E) E O (cj st) G)
  (e:∀ds,ds.length=ps.length->gf ds≠.no->bc (G (ds.map some++List.replicate (N.length-ps.length) none))=gf ds):gM P w K mg base (CXW P w) (k+1) f fd ps (spD K ps.length gf):=by
 refine lH F S (λvs H Q E h=>?_) (λcdv A outer s H vs Q E g h=>?_)
 ·obtain⟨A,ds,b,hi,hl,o⟩:=h;rw[hi.length,hl]
 ·obtain⟨A0,ds,b,hi,hl,o⟩:=h;refine⟨_,body cdv A outer s H E g,H,A0,[],_,bY.start b hi hl c,?_⟩;have a:=e ds hl (λz=>by rw[z]at o;exact o);cases q:G (ds.map some++List.replicate (N.length-ps.length) none) with
  |rt d=>rw[q]at a;rw[<-a]at o;exact λv H' s' hv=>o v H' s' hv
  |nx δ=>rw[q]at a;rw[<-a]at o;exact λA' σ H' j=>o .non H' j.same is_none
  |rz C=>rw[q]at a;rw[<-a]at o;exact λH' s'=>o H' s'
  |bk δ=>rw[q]at a;rw[<-a]at o;exact o.elim
  |ct δ=>rw[q]at a;rw[<-a]at o;exact o.elim
  |no=>rw[q]at a;rw[<-a]at o;exact o.elim
theorem Et {b:Array (Option Value)} {kV e:Value} (X:K.In h) (G:h.Ns mainGlobals mg)
  (g:∀(kV doc pm:Value) (an:Option Addr) (cdv ct:Value) (us:List Value),us.length=ps.length->bindArgs (PySem.W.fnOf x x (fi st) (cj st) (aE st) .none kV doc pm an cdv ct) ⟨us,[]⟩=pure (ps.zip us))
  (a:PySem.W.nsIn K mainGlobals x=some (some (.ref f)))
  (l:K.lookup f=some ⟨oc,od,.func (PySem.W.fnOf x x (fi st) (cj st) (aE st) .none kV e pm an cd ct),b⟩)
  (c:PySem.W.codeIn K cd x=true) (k:PySem.W.keepIn K (.ref f)=true):bM K mg x st ps :=
 have F:=xH (st:=st) l c k
 ⟨f,_,F,F.binds g,PySem.W.mg_of X G a⟩
theorem Aa (X:K.In h) (G:h.Ns mainGlobals mg) (a:PySem.W.nsIn K mainGlobals x=some (some (.ref C)))
 (e:PySem.W.excIn K C [.type "ValueError",.type "Exception",.type "BaseException",.type "object"] "ValueError.__new__"=true):qR K mg x C:=⟨PySem.W.mg_of X G a,e⟩
theorem FV {t:_} (X:K.In h) (G:h.Ns mainGlobals mg) (a:PySem.W.nsIn K mainGlobals x=some (some (.int n t))):∃t,mg x=some (.int n t):=⟨t,PySem.W.mg_of X G a⟩
end
def fR (n:Nat):Gf
 |[s]=>(match fu s with
  |some ns=>if ns.length<=n then .ok (.bool true) else .no
  |none=>.no)
 |_=>.no
theorem Le {l:PySem.W.OpenLaw} {n k:Nat} {d:DefRec} {K:Params->PySem.W.Frag}
  (hn:l.most=some n) (i:n<=sizeLine) (j:d.params.defaults=[]) (y:cw k callerA)
  (A:∀(w:World) (h:Heap),YP w h->(K w.params).In h)
  (B:∀(kV doc pm:Value) (an:Option Addr) (cdv ct:Value) (us:List Value),us.length=1->bindArgs (PySem.W.fnOf d.name d.name (fi st) (cj st) (aE st) .none kV doc pm an cdv ct) ⟨us,[]⟩=pure ([x].zip us))
  (F:∀(w:World) (mg:Str->Option Value) (h:Heap),(K w.params).In h->h.Ns mainGlobals mg->
   bM (K w.params) mg d.name st [x]/\∀f fd,Fun (K w.params) d.name d.name st f fd->∀base:Heap,(K w.params).In base->base.Ns mainGlobals mg->L2.nB mg base->gM l.prog w (K w.params) mg base (CXW l.prog w) k f fd [x] (spD (K w.params) 1 (fR n)))
  (o:∀(w:World) (h:Heap) (c:List Str) (g:ExcName->Option Value) (mg C:Str->Option Value),PyProof.Rows.Top q c g mg C h->(K w.params).In h->L2.mH (K w.params) h:=by exact λ_ _ _ _ _ _ _ _=>L2.tabsIn_nil rfl) :
  PySem.W.WalkO q loose XP YP l.row.toRowW d [] (λf vs=>PySem.call f vs) :=
 L2.Aq (n:=n) (k:=k) (x:=x) (CX:=λw=>CXW l.prog w) (sp:=λw=>spD (K w.params) 1 (fR n)) hn i j y A
  (λw mg D h X G p=>by obtain⟨⟨f,fd,t,b,m⟩,E⟩:=F w mg h X G;have e:=p.symm.trans m;cases e;refine⟨fd,λs u=>?_,E D fd t⟩;obtain⟨oc,od,kV,doc,pm,an,cdv,ct,osl,rfl,lk,hcd⟩:=t.ex;exact .of_eq (B kV doc pm an cdv ct [u] rfl))
  (λw H a ns hl hO I=>by
   refine⟨[],[ao ns],?_,?_,rfl,?_⟩
   ·exact Ls.nil
   ·rw[zR];exact⟨_,[],rfl,BB I,rfl⟩
   ·have J:fR n [ao ns]=.ok (.bool true):=by unfold fR;simp[fK,hl]
    rw[J];intro v H' _ hv;rw[zR]at hv;unfold Is at hv;exact hv)
  (λw H s e s' r=>(by obtain⟨_,_,_,_,_,_,z,_⟩:=r;exact z)) o
end RS
namespace RS
open PySem L2
theorem mW:∀{ds:List PyData},(∀d∈ds,aG d=true)->dw ds=true
 |[],_=>by unfold dw;rfl
 |d::r,h=>by unfold dw;rw[h d M6,mW λe a=>h e (M4 _ a)];rfl
theorem g6 (h:∀d∈ds,aG d=true):aG (.tuple ds)=true:=by unfold aG;exact mW h
theorem eW (h:∀d∈ds,aG d=true):aG (.list ds)=true:=by unfold aG;exact mW h
theorem gR (i:Int):aG (.int i)=true:=by unfold aG;rfl
theorem sT (o:Option Int):aG (bg o)=true:=by cases o <;> (unfold bg aG;rfl)
theorem xw (p:Int×Option Int):aG (aJ p)=true:=g6 λd hd=>by
 rcases M7.mp hd with rfl|hd
 ·exact gR _
 ·cases Mw.mp hd;exact sT _
theorem C1 (e:Er):aG e.d=true:=g6 λd hd=>by
 rcases M7.mp hd with rfl|hd
 ·exact gR _
 ·rcases M7.mp hd with rfl|hd
  ·exact gR _
  ·rcases M7.mp hd with rfl|hd
   ·exact gR _
   ·cases Mw.mp hd;exact g6 λd hd=>by obtain⟨p,_,rfl⟩:=M9.mp hd;exact xw p
theorem sZ (es:List Er):aG (aw es)=true:=g6 λd hd=>by obtain⟨p,_,rfl⟩:=M9.mp hd;exact C1 p
theorem kR (rs:List Int):∀d∈rs.map PyData.int,aG d=true:=λd hd=>by obtain⟨p,_,rfl⟩:=M9.mp hd;exact gR p
theorem oW (rs:List Int):aG (au rs)=true:=g6 (kR rs)
end RS
namespace RS
open PySem PySem.Spec PyProof.Rows L2
section
theorem uC {xs:List α} {k:Int} {v:α} (a:0<=k) (h:xs[k.toNat]?=some v):atI xs k=some v:=by
 have:=oG h
 rwa[Nu a]at this
theorem depthAll_ints:∀ns:List Int,PyData.depthAll (ns.map PyData.int)<=1
 |[]=>by simp[PyData.depthAll]
 |n::r=>by have:=depthAll_ints r;simp only[M5,PyData.depthAll,PyData.depth];omega
theorem nG:∀ns:List Int,PyData.canLayAll0 (ns.map PyData.int)=true
 |[]=>by simp[PyData.canLayAll0]
 |n::r=>by simp[PyData.canLayAll0,PyData.canLay0,nG r]
theorem shaped_ints (ns:List Int):SeqAt.shaped (.list (ns.map PyData.int))=true:=by
 have:=depthAll_ints ns;have h2:(PyData.list (ns.map PyData.int)).depth<=64:=by simp only[PyData.depth];omega
 simp[SeqAt.shaped,PyData.canLay0,nG,h2]
theorem xy:SeqAt.shaped (.list [])=true:=shaped_ints []
theorem C4:∀ns:List Int,PyData.eqv (.list (ns.map PyData.int)) (.list [])=decide (ns=[])
 |[]=>by simp[PyData.eqv,PyData.eqvAll]
 |_::_=>by simp[PyData.eqv,PyData.eqvAll]
def Ef (K:PySem.W.Frag):Sp:=λvs H Q _=>∃(a:Addr) (ns:List Int) (k:Int),vs=[.ref a,.int k]/\SqL K H a (ns.map V.int)/\0<=k/\∀H',ax H H'->Q (.int (cellAt ns k)) H'
def Hk (K:PySem.W.Frag):Sp:=λvs H Q _=>∃(a:Addr) (ns:List Int) (k many:Int),vs=[.ref a,.int k,.int many]/\SqL K H a (ns.map V.int)/\0<=k/\0<many/\∀H',ax H H'->Q (.int (mixed ns k many)) H'
theorem GL (ds:List PyData) (hl:ds.length=3) (b:aj ds≠.no):∃d,aj ds=.ok d/\gD d=true/\∀vs H Q,Iss K H ds vs->(∀v H',ax H H'->IsD K H' d v->Q v H')->Hk K vs H Q E0:=by
 obtain⟨s,k,many,e,c⟩:=oE b;clear b;subst e;have b:=c;clear c
 ·skip
  split at b
  ·rename_i ns f;have es:=ip f;subst es;split at b
   ·rename_i hc;refine⟨_,cx hc.1 hc.2,rfl,λvs H Q hi g=>?_⟩;obtain⟨v0,r0,rfl,h,v1,r1,rfl,h1,v2,r2,rfl,h2,rfl⟩:=hi;obtain⟨a,rfl,i⟩:=h.ofScript;rw[h1.ofInt,h2.ofInt];exact⟨a,ns,k,many,rfl,i,hc.1,hc.2,λH' s'=>g _ _ s' uz⟩
   ·exact absurd rfl b
  ·exact absurd rfl b
end
end RS
namespace RS
open PySem L2
variable {h:Int}
def okIn (d r:PyData):Bool:=c9 d&&dR (cN d).length r
def okN (d r:PyData) (n:Int):Bool:=okIn d r&&decide (0<=n)&&decide (n<(cN d).length)
def en:Gf
 |[d,r,.int n]=>if okN d r n then .ok (.int (gj (cN d) (cp r) n)) else .no
 |_=>.no
def bI:Gf
 |[d,r,.int n]=>if okN d r n then .ok (bg (eX (cN d) (cp r) n)) else .no
 |_=>.no
section
theorem FR (h1:1<=es.length) (h2:es.length<=6) (h:∀e∈es,e.Ok) (a:cf es.length rs):okIn (aw es) (au rs)=true:=by unfold okIn;rw[lR h1 h2 h,eS,gY a];rfl
theorem yw (h1:1<=es.length) (h2:es.length<=6) (h:∀e∈es,e.Ok) (a:cf es.length rs) (n0:0<=n) (n1:n<es.length):okN (aw es) (au rs) n=true:=by unfold okN;rw[FR h1 h2 h a,eS];simp[n0,n1]
theorem pz (h1:1<=es.length) (h2:es.length<=6) (h:∀e∈es,e.Ok) (a:cf es.length rs) (n0:0<=n) (n1:n<es.length):en [aw es,au rs,.int n]=.ok (.int (gj es rs n)):=by unfold en;simp only[yw h1 h2 h a n0 n1,if_true,eS,d7]
theorem iC (h1:1<=es.length) (h2:es.length<=6) (h:∀e∈es,e.Ok) (a:cf es.length rs) (n0:0<=n) (n1:n<es.length):bI [aw es,au rs,.int n]=.ok (bg (eX es rs n)):=by unfold bI;simp only[yw h1 h2 h a n0 n1,if_true,eS,d7]
end
theorem D8 (o:Option Int):dNe (bg o) (bg o)=some (.bool false):=by
 cases o with
 |none =>
  have h:PySem.SeqAt.shaped .none=true:=by simp[PySem.SeqAt.shaped,PyData.canLay0,PyData.depth]
  show dNe .none .none=_;unfold dNe;rw[h];simp[aG,PyData.eqv]
 |some i=>show dNe (.int i) (.int i)=_;simp
theorem nH {cond:Ds->Rs Bool} {elt:Ds->Rs PyData} {δ:Ds} {p:PyData->Bool}:∀(ds:List PyData),(∀d∈ds,cond (δ++[some d])=.ok (p d)/\elt (δ++[some d])=.ok d)->fe cond elt aI δ ds=.ok (ds.filter p)
 |[],_=>rfl
 |d::r,h=>by
  obtain⟨h1,h2⟩:=h d M6;have a:=nH r λe b=>h e (M4 _ b)
  unfold fe;cases hp:p d with
  |true=>simp only[aI,h1,hp,Rs.dz,Rs.ag,if_true,h2,a,NF]
  |false=>simp only[aI,h1,hp,Rs.dz,Rs.ag,if_false,MJ,a,NF]
theorem lU {elt:Ds->Rs PyData} {p:PyData->Bool} (hn:δ.length=n0) (a:src δ=.ok ds) (hl:ds.length<=1000000) (h:∀d∈ds,cond (δ++[some d])=.ok (p d)/\elt (δ++[some d])=.ok d) :
  a8 n0 src cond elt aI δ=.ok (ds.filter p):=by
 unfold a8;rw[if_pos hn,a];simp only[Rs.ag,if_pos hl];exact nH ds h
theorem Iq (es:List Er):b8 [aw es]=some (.int (es.length:Int)):=by unfold aw;rw[B1,M3]
theorem lawT_of {n:Nat} {G:Ds->Sr} {k:Nat} (h:∀ns:List Int,G (some (ao ns)::List.replicate k none)=.rt (.bool true)):∀ds,ds.length=1->fR n ds≠.no->bc (G (ds.map some++List.replicate k none))=fR n ds:=by
 intro ds hl a
 match ds,hl with
 |[s],_ =>
  unfold fR at a ⊢;simp only at a ⊢;split at a
  ·rename_i ns b;have es:=ip b;subst es;split at a
   ·rename_i hc;simp only[fK,if_pos hc];show bc (G (some (ao ns)::List.replicate k none))=_;rw[h];rfl
   ·exact absurd rfl a
  ·exact absurd rfl a
theorem AG (cs:Cs):LLq (rF cs) 1 0 cq:=xY cs
def bD (cs:Cs):Gf
 |[.tuple es,x]=>if aG x then (if isWhole x 0 ((es.length:Int)-1) then .ok x else .rz cs.NoErrand) else .no
 |_=>.no
theorem mj (cs:Cs):LLq (eo cs aO) 2 0 (bD cs):=by
 intro ds hl a;obtain⟨es,x,c,b⟩:=EA a;clear a;subst c;have a:=b;clear b;unfold bD
 ·skip
  split at a
  ·rename_i hd;simp only[hd,if_true];cases e:isWhole x 0 ((es.length:Int)-1) with
   |true=>simp[eo,hd,e]
   |false=>simp[eo,hd,e]
  ·exact absurd rfl a
theorem my {d r:PyData} (h:okN d r n=true):∃es rs,d=aw es/\r=au rs/\cN d=es/\cp r=rs/\1<=es.length/\es.length<=6/\(∀e∈es,e.Ok)/\cf es.length rs/\0<=n/\n<es.length:=by unfold okN okIn at h;simp only[M8,decide_eq_true_eq]at h;obtain⟨⟨⟨c1,a⟩,n0⟩,n1⟩:=h;obtain⟨e1,l1,l6,hok⟩:=xM c1;obtain⟨e2,b⟩:=lI a;exact⟨cN d,cp r,e1.symm,e2.symm,rfl,rfl,l1,l6,hok,b,n0,n1⟩
theorem iE (cs:Cs) (h1:1<=es.length) (h2:es.length<=6) (h:∀e∈es,e.Ok):br cs [aw es]=.ok (aw es):=by unfold br;simp[sZ,lR h1 h2 h]
theorem gA (cs:Cs) (h2:es.length<=6) (a:cf es.length rs):aV cs [aw es,au rs]=.ok (au rs):=by unfold aw aV;simp only[M3,oW,gY a,O6,if_true];rw[if_pos (by simp;omega)]
theorem jM (cs:Cs) (n0:0<=n) (n1:n<es.length):bD cs [aw es,.int n]=.ok (.int n):=by unfold aw bD;simp only[gR,if_true,M3,isWhole];rw[if_pos (by simp;omega)]
def bz:Gf
 |[d,r,.int n]=>if okN d r n then .ok .none else .no
 |_=>.no
theorem fh (h1:1<=es.length) (h2:es.length<=6) (h:∀e∈es,e.Ok) (a:cf es.length rs) (n0:0<=n) (n1:n<es.length):bz [aw es,au rs,.int n]=.ok .none:=by unfold bz;simp only[yw h1 h2 h a n0 n1,if_true]
theorem qX (cs:Cs):LLq (fO cs (bD cs) (aV cs) (br cs)) 3 0 bz:=by
 intro ds hl a;obtain⟨d,r,n,e,b⟩:=jk a;clear a;subst e;have a:=b;clear b
 ·skip
  split at a
  ·rename_i hc;obtain⟨es,rs,rfl,rfl,_,_,l1,l6,hok,c,n0,n1⟩:=my hc;rw[fh l1 l6 hok c n0 n1];show bc (fO cs (bD cs) (aV cs) (br cs) [some (aw es),some (au rs),some (.int n)])=_;simp[fO,iE cs l1 l6 hok,gA cs l6 c,jM cs n0 n1]
  ·exact absurd rfl a
structure Er.Wk (e:Er):Prop where
 sh:e.Sh
 e2:e.every<=60
 l1:0<=e.late
 p2:e.parts.length<=4
 pl:∀p∈e.parts,1<=p.1/\p.1<=1000000
 p1:e.parts≠[]
theorem Er.Ok.wk (h:e.Ok):e.Wk:=⟨h.sh,h.e2,h.l1,h.p2,λp a=>by have:=h.pl p a;exact⟨this.1,by omega⟩,h.p1⟩
theorem Er.Wk.work1 (h:e.Wk):1<=e.work:=by obtain⟨p,a⟩:=List.exists_mem_of_ne_nil _ h.p1;have h1:=h.sh.part_le a;have h2:=(h.pl p a).1;omega
def wkB (e:Er):Bool:=decide (e.every<=60)&&decide (0<=e.late)&&decide (e.parts.length<=4)&&e.parts.all (λp=>decide (1<=p.1))&&decide (e.parts≠[])
theorem Ke (h:e.Wk):wkB e=true:=by unfold wkB;simp only[M8,decide_eq_true_eq,MD];exact⟨⟨⟨⟨h.e2,h.l1⟩,h.p2⟩,λp a=>(h.pl p a).1⟩,h.p1⟩
theorem HR (h:wkB e=true) (g:e.Sh):e.Wk:=by unfold wkB at h;simp only[M8,decide_eq_true_eq,MD]at h;obtain⟨⟨⟨⟨a,b⟩,c⟩,d⟩,f⟩:=h;exact⟨g,a,b,c,λp i=>⟨d p i,(g.pl p i).2.1⟩,f⟩
def vm (d:PyData):Bool:=pP d&&decide (1<=(cN d).length)&&decide ((cN d).length<=6)&&(cN d).all wkB
theorem B0 (h1:1<=es.length) (h2:es.length<=6) (h:∀e∈es,e.Wk):vm (aw es)=true:=by unfold vm;rw[qe (by omega) λe a=>(h e a).sh,eS];simp only[M8,decide_eq_true_eq,MD];exact⟨⟨⟨trivial,h1⟩,h2⟩,λe a=>Ke (h e a)⟩
theorem IA {d:PyData} (h:vm d=true):aw (cN d)=d/\1<=(cN d).length/\(cN d).length<=6/\∀e∈cN d,e.Wk:=by unfold vm at h;simp only[M8,decide_eq_true_eq,MD]at h;obtain⟨⟨⟨a,b⟩,c⟩,f⟩:=h;obtain⟨e1,_,i⟩:=xx a;exact⟨e1,b,c,λe g=>HR (f e g) (i e g)⟩
def okW (d r:PyData) (n:Int):Bool:=vm d&&dR (cN d).length r&&decide (0<=n)&&decide (n<(cN d).length)
theorem mQ (h1:1<=es.length) (h2:es.length<=6) (h:∀e∈es,e.Wk) (a:cf es.length rs) (n0:0<=n) (n1:n<es.length):okW (aw es) (au rs) n=true:=by unfold okW;rw[B0 h1 h2 h,eS,gY a];simp only[M8,decide_eq_true_eq];exact⟨⟨⟨trivial,trivial⟩,n0⟩,n1⟩
theorem gQ {d r:PyData} (h:okW d r n=true):∃es rs,d=aw es/\r=au rs/\cN d=es/\cp r=rs/\1<=es.length/\es.length<=6/\(∀e∈es,e.Wk)/\cf es.length rs/\0<=n/\n<es.length:=by unfold okW at h;simp only[M8,decide_eq_true_eq]at h;obtain⟨⟨⟨c1,a⟩,n0⟩,n1⟩:=h;obtain⟨e1,l1,l6,hok⟩:=IA c1;obtain⟨e2,b⟩:=lI a;exact⟨cN d,cp r,e1.symm,e2.symm,rfl,rfl,l1,l6,hok,b,n0,n1⟩
def hdD (C:Addr) (m k t l:Int):PyData:=DF C [("number",.int m),("part",.int k),("tool",.int t),("times",.int l)]
def iR (C:Addr) (es:List Er) (rs:List Int) (pl m k:Int) (p:Int×Option Int):List PyData:=match p.2 with
 |some t=>(match bF es rs t with
  |some h=>if h<=pl then [hdD C m k t (p.1-1)] else []
  |none=>[])
 |none=>[]
def hdM (C:Addr) (es:List Er) (rs:List Int) (pl m:Int):Nat->List (Int×Option Int)->List PyData
 |_,[]=>[]
 |k,p::r=>iR C es rs pl m k p++hdM C es rs pl m (k+1) r
def hW (C:Addr) (es:List Er) (rs:List Int) (pl:Int):List Int->List PyData
 |[]=>[]
 |m::r=>hdM C es rs pl m 0 (aS es m).parts++hW C es rs pl r
theorem sg (C:Addr) (es:List Er) (rs:List Int) (pl m k:Int) (p:Int×Option Int):(iR C es rs pl m k p).length<=1:=by
 unfold iR;split
 ·split
  ·split <;> simp
  ·simp
 ·simp
theorem tX (C:Addr) (es:List Er) (rs:List Int) (pl m:Int):∀(ps:List (Int×Option Int)) (k:Nat),(hdM C es rs pl m k ps).length<=ps.length
 |[],_=>by simp[hdM]
 |p::r,k=>by have h1:=sg C es rs pl m k p;have h2:=tX C es rs pl m r (k+1);unfold hdM;rw[Mv,MC];omega
abbrev Dl (cs:Cs):Ds->Sr:=gH [5] 5 (aq (sP cs.Holding ["number", "part", "tool", "times"]) (ae (af 6) (ae (af 7) (ae (g2 dIx (af 8) (gC (.int 1))) (ae (g2 gy (g2 dIx (af 8) (gC (.int 0))) (gC (.int 1))) ah)))))
abbrev kN (cs:Cs):Ds->Sr:=sIf (AW (gT (g1 iu (g2 dIx (af 8) (gC (.int 1))))) (gT (g2 dLe (g2 dIx (af 4) (g2 dIx (af 8) (gC (.int 1)))) (af 3)))) (Dl cs) aY
theorem Gg (cs:Cs) (es:List Er) (rs:List Int) (E R n:PyData) (pl:Nat) (m:Int) (a:List PyData) (c:∀t:Int,0<=t->t<=3->atI a t=some (bg (bF es rs t))) (p:Int×Option Int) (k:Nat) (acc:List PyData) (hl:acc.length<1000000) (h:∀t,p.2=some t->0<=t/\t<=3/\∃h,bF es rs t=some h) :
  kN cs [some E,some R,some n,some (.int pl),some (.list a),some (.list acc),some (.int m),some (.int k),some (aJ p)]
   =.nx [some E,some R,some n,some (.int pl),some (.list a),some (.list (acc++iR cs.Holding es rs pl m k p)),some (.int m),some (.int k),some (aJ p)]:=by
 obtain⟨l,o⟩:=p;cases o with
 |none=>simp[kN,B8,bg,iR]
 |some t =>
  obtain⟨i,j,e,g⟩:=h t rfl;have ha:=c t i j;rw[g]at ha;have e1:dIx (aJ (l,some t)) (.int 1)=some (.int t):=rfl;have q:dIx (aJ (l,some t)) (.int 0)=some (.int l):=rfl;have b:dIx (.list a) (.int t)=some (.int e):=ha;have add:Dl cs [some E,some R,some n,some (.int pl),some (.list a),some (.list acc),some (.int m),some (.int k),some (aJ (l,some t))]=.nx [some E,some R,some n,some (.int pl),some (.list a),some (.list (acc++[hdD cs.Holding m k t (l-1)])),some (.int m),some (.int k),some (aJ (l,some t))]:=by unfold Dl gH;simp only[Nk,Nl];simp only[bj,ay,aF,bK,aC (show 6∉[5] by decide),aC (show 7∉[5] by decide),aC (show 8∉[5] by decide),ak,ar,cF,Rs.ag,e1,q,nU,Rs.ai];have hm:sP cs.Holding ["number", "part", "tool", "times"] [.int m,.int (k:Int),.int t,.int (l-1)]=.ok (hdD cs.Holding m k t (l-1)):=rfl;rw[hm,av,if_pos hl];rfl
  have f:iR cs.Holding es rs pl m k (l,some t)=if e<=(pl:Int) then [hdD cs.Holding m k t (l-1)] else []:=by unfold iR;simp only[g]
  rw[f];by_cases hle:e<=(pl:Int)
  · rw[if_pos hle,<-add];simp[kN,e1,b,hle]
  · rw[if_neg hle,N4];simp[kN,e1,b,hle]
theorem w5 (cs:Cs) (es:List Er) (rs:List Int) (E R n:PyData) (pl:Nat) (m:Int) (a:List PyData) (b:∀t:Int,0<=t->t<=3->atI a t=some (bg (bF es rs t))):∀(ps:List (Int×Option Int)) (k:Nat) (acc:List PyData) (x7 x8:Option PyData),acc.length+ps.length<1000000->(∀p∈ps,∀t,p.2=some t->0<=t/\t<=3/\∃h,bF es rs t=some h) ->
  ∃c f,forL (fZ [7,8]) (kN cs) ((ps.map aJ).mapIdx λi d=>.tuple [.int ((k+i:Nat):Int),d])
    [some E,some R,some n,some (.int pl),some (.list a),some (.list acc),some (.int m),x7,x8]
   =.nx [some E,some R,some n,some (.int pl),some (.list a),some (.list (acc++hdM cs.Holding es rs pl m k ps)),some (.int m),c,f]
 |[],k,acc,x7,x8,_,_=>⟨x7,x8,by simp[forL,hdM]⟩
 |p::r,k,acc,x7,x8,hz,h=>by
  have hz':acc.length+(r.length+1)<1000000:=hz;have hl1:=sg cs.Holding es rs pl m k p;obtain⟨c,f,e⟩:=w5 cs es rs E R n pl m a b r (k+1) (acc++iR cs.Holding es rs pl m k p) (some (.int (k:Int))) (some (aJ p)) (by rw[Mv];omega) (λq g=>h q (M4 _ g));refine⟨c,f,?_⟩;rw[M5,Ox];unfold forL;have e1:fZ [7,8] (PyData.tuple [.int ((k+0:Nat):Int),aJ p]) [some E,some R,some n,some (.int pl),some (.list a),some (.list acc),some (.int m),x7,x8]=some [some E,some R,some n,some (.int pl),some (.list a),some (.list acc),some (.int m),some (.int (k:Int)),some (aJ p)]:=rfl;rw[e1];simp only[Gg cs es rs E R n pl m a b p k acc (by omega) (h p M6)];have j:(λ(i:Nat) (d:PyData)=>PyData.tuple [.int ((k+(i+1):Nat):Int),d])=λi d=>.tuple [.int ((k+1+i:Nat):Int),d]:=by funext i d;rw[show k+(i+1)=k+1+i by omega]
  rw[j,e];rw[show hdM cs.Holding es rs pl m k (p::r)=iR cs.Holding es rs pl m k p++hdM cs.Holding es rs pl m (k+1) r from rfl,N6]
theorem v8 {es:List Er} {rs:List Int} (cs:Cs) (f:∀e∈es,e.Sh) (w:cf es.length rs) (n:PyData) (pl:Nat):∀(l:List Int) (acc:List PyData) (x6 x7 x8:Option PyData),acc.length+1000*l.length<1000000->(∀m∈l,m∈rs) ->
  ∃q s u,forL (bw 6) (fA [5] (iO (ae (g2 dIx (g2 dIx (af 0) (af 6)) (gC (.int 3))) ah)) (fZ [7,8]) (kN cs)) (l.map PyData.int)
    [some (aw es),some (au rs),some n,some (.int pl),some (aZ es rs),some (.list acc),x6,x7,x8]
   =.nx [some (aw es),some (au rs),some n,some (.int pl),some (aZ es rs),some (.list (acc++hW cs.Holding es rs pl l)),q,s,u]
 |[],acc,x6,x7,x8,_,_=>⟨x6,x7,x8,by simp[forL,hW]⟩
 |m::r,acc,x6,x7,x8,hz,h=>by
  have hz':acc.length+1000*(r.length+1)<1000000:=hz;have hm:=h m M6;have g:=w.rng m hm;have j:=f _ (bV g.1 (by omega));have hpn:=j.pn;have hml:=tX cs.Holding es rs pl m (aS es m).parts 0;obtain⟨y,z,e1⟩:=w5 cs es rs (aw es) (au rs) n pl m ((List.range 4).map λ(t:Nat)=>bg (bF es rs t)) (λt a b=>xW a b) (aS es m).parts 0 acc x7 x8 (by omega) λp A t o=>by obtain⟨_,_,c⟩:=j.pl p A;have:=c t o;exact⟨this.1,this.2,oJ es t rs 0 m hm (IW A o)⟩
  obtain⟨q,s,u,e2⟩:=v8 cs f w n pl r (acc++hdM cs.Holding es rs pl m 0 (aS es m).parts) (some (.int m)) y z (by rw[Mv];omega) λx B=>h x (M4 _ B)
  refine⟨q,s,u,?_⟩;rw[M5];unfold forL;have a2:atI (es.map Er.d) m=some (aS es m).d:=ie g.1 (by omega);have src:iO (ae (g2 dIx (g2 dIx (af 0) (af 6)) (gC (.int 3))) ah) (mask [5] [some (aw es),some (au rs),some n,some (.int pl),some (aZ es rs),some (.list acc),some (.int m),x7,x8])=.ok (((aS es m).parts.map aJ).mapIdx λi d=>.tuple [.int ((0+i:Nat):Int),d]):=by simp only[An,ay,aF,bK,aC (show 0∉[5] by decide),aC (show 6∉[5] by decide),ak,ar,cF,Rs.ag,aw,wx,a2,Rs.ai,GP,Au,ik,ND]
  have o:bw 6 (.int m) [some (aw es),some (au rs),some n,some (.int pl),some (aZ es rs),some (.list acc),x6,x7,x8]=some [some (aw es),some (au rs),some n,some (.int pl),some (aZ es rs),some (.list acc),some (.int m),x7,x8]:=rfl;have v:forL (fZ [7,8]) (kN cs) (((aS es m).parts.map aJ).mapIdx λi d=>.tuple [.int ((0+i:Nat):Int),d]) [some (aw es),some (au rs),some n,some (.int pl),some (aZ es rs),some (.list acc),some (.int m),x7,x8]=.nx [some (aw es),some (au rs),some n,some (.int pl),some (aZ es rs),some (.list (acc++hdM cs.Holding es rs pl m 0 (aS es m).parts)),some (.int m),y,z]:=e1;rw[o];simp only[kU,src,av,v,e2];rw[show hW cs.Holding es rs pl (m::r)=hdM cs.Holding es rs pl m 0 (aS es m).parts++hW cs.Holding es rs pl r from rfl,N6]
def cU (cs:Cs):Gf
 |[d,r,.int n]=>if okW d r n then .ok (.list (hW cs.Holding (cN d) (cp r) (placeOf (cp r) n) ((cp r).drop (placeOf (cp r) n+1)))) else .no
 |_=>.no
theorem jU (cs:Cs) (h1:1<=es.length) (h2:es.length<=6) (h:∀e∈es,e.Wk) (a:cf es.length rs) (n0:0<=n) (n1:n<es.length):cU cs [aw es,au rs,.int n]=.ok (.list (hW cs.Holding es rs (placeOf rs n) (rs.drop (placeOf rs n+1)))):=by unfold cU;simp only[mQ h1 h2 h a n0 n1,if_true,eS,d7]
theorem xJ (cs:Cs):LLq (ja cs aR) 3 6 (cU cs):=by
 intro ds hl a;obtain⟨d,r,n,i,h⟩:=jk a;clear a;subst i;have a:=h;clear h
 ·skip
  split at a
  ·rename_i hc;obtain⟨es,rs,rfl,rfl,_,_,l1,l6,hok,b,n0,n1⟩:=gQ hc;rw[jU cs l1 l6 hok b n0 n1];have c:∀e∈es,e.Sh:=λe j=>(hok e j).sh
   have f:=b.mem n0 (by omega);have g:=ig f;have l:=fM (by omega) c b;have hrl:=b.len;obtain⟨y6,y7,y8,e⟩:=v8 cs c b (.int n) (placeOf rs n) (rs.drop (placeOf rs n+1)) [] none none none (by rw[O8];simp;omega) (λm hm=>NQ hm);have src:bG (hV (af 1) (jV (g2 ba (af 3) (gC (.int 1)))) fN) (mask [5] [some (aw es),some (au rs),some (.int n),some (.int (placeOf rs n)),some (aZ es rs),some (.list []),none,none,none])=.ok ((rs.drop (placeOf rs n+1)).map PyData.int):=by simp only[mR,pT,ud,mG,bK,aC (show 1∉[5] by decide),aC (show 3∉[5] by decide),ak,ar,cF,Rs.ag,dW,Rs.ai,tF,au,yT,uv];rw[show (placeOf rs n:Int)+1=((placeOf rs n+1:Nat):Int) by omega,CZ,List.map_drop]
   have o:aL [5] 3 (kW (af 1) (af 2)) [some (aw es),some (au rs),some (.int n),none,none,none,none,none,none]=.nx [some (aw es),some (au rs),some (.int n),some (.int (placeOf rs n)),none,none,none,none,none]:=by rw[gr,if_pos (by simp)];simp only[ue,aC (show 1∉[5] by decide),aC (show 2∉[5] by decide),ak,ar,Rs.ag,au,g,Rs.ai,av];rfl
   have s2:aL [5] 4 (aq aR (ae (af 0) (ae (af 1) ah))) [some (aw es),some (au rs),some (.int n),some (.int (placeOf rs n)),none,none,none,none,none]=.nx [some (aw es),some (au rs),some (.int n),some (.int (placeOf rs n)),some (aZ es rs),none,none,none,none]:=by rw[gr,if_pos (by simp)];simp only[bj,ay,aF,aC (show 0∉[5] by decide),aC (show 1∉[5] by decide),ak,ar,Rs.ag,l,av];rfl
   have p:eV [5] 5 ah [some (aw es),some (au rs),some (.int n),some (.int (placeOf rs n)),some (aZ es rs),none,none,none,none]=.nx [some (aw es),some (au rs),some (.int n),some (.int (placeOf rs n)),some (aZ es rs),some (.list []),none,none,none]:=rfl;show bc (ja cs aR [some (aw es),some (au rs),some (.int n),none,none,none,none,none,none])=_;simp only[ja];rw[aN,o];simp only;rw[aN,s2];simp only;rw[aN,p];simp only;rw[aN,kU,src,av,e];rfl
  ·exact absurd rfl a
def kC (es:List Er) (rs:List Int) (pl:Int) (p:Int×Option Int):List Int:=match p.2 with
 |some t=>(match bF es rs t with
  |some h=>if h<=pl then [p.1-1] else []
  |none=>[])
 |none=>[]
def tms (es:List Er) (rs:List Int) (pl:Int):List (Int×Option Int)->List Int
 |[]=>[]
 |p::r=>kC es rs pl p++tms es rs pl r
theorem zZ (es:List Er) (rs:List Int) (pl:Int) (b:List (Int×Option Int)):∀a,tms es rs pl (a++b)=tms es rs pl a++tms es rs pl b
 |[]=>rfl
 |p::r=>by show kC es rs pl p++tms es rs pl (r++b)=(kC es rs pl p++tms es rs pl r)++_;rw[zZ es rs pl b r,N6]
theorem vP (es:List Er) (rs:List Int) (pl:Int):∀(ps:List (Int×Option Int)) (acc:Int),ps.foldl (iL es rs pl) acc=(tms es rs pl ps).foldl max acc
 |[],_=>rfl
 |p::r,acc=>by
  rw[NI,vP es rs pl r];show _=(kC es rs pl p++tms es rs pl r).foldl max acc;rw[List.foldl_append];have e:iL es rs pl acc p=(kC es rs pl p).foldl max acc:=by
   unfold iL kC;cases p.2 with
   |none=>rfl
   |some t =>
    simp only;cases bF es rs t with
    |none=>rfl
    |some h=>simp only;split <;> rfl
  rw[e]
theorem p7 (es:List Er) (rs:List Int) (pl:Int):∀(ps:List (Int×Option Int)),(∀p∈ps,1<=p.1)->∀a∈tms es rs pl ps,0<=a
 |[],_,a,h=>by cases h
 |p::r,hp,a,h=>by
  have h1:=hp p M6;unfold tms at h;rcases MM.mp h with h|h
  ·unfold kC at h;split at h
   ·split at h
    ·split at h
     ·cases Mw.mp h;omega
     ·cases h
    ·cases h
   ·cases h
  ·exact p7 es rs pl r (λq b=>hp q (M4 _ b)) a h
theorem A8 (h:∀a∈ns,0<=a):(vU ns).getD 0=ns.foldl max 0:=by
 have c:(λa b:Int=>if b>a then b else a)=max:=by funext a b;split <;> omega
 cases ns with
 |nil=>rfl
 |cons x r =>have hx:=h x M6;show r.foldl (λa b:Int=>if b>a then b else a) x=r.foldl max (max 0 x);rw[c,show max 0 x=x by omega]
def tmD (C:Addr) (d:PyData):PyData:=(bB C "times" d).getD .none
theorem xh (C:Addr) (m k t l:Int):bB C "times" (hdD C m k t l)=some (.int l):=by
 have n1:¬ (("number":Str)="times"):=by decide +kernel
 have n2:¬ (("part":Str)="times"):=by decide +kernel
 have a:¬ (("tool":Str)="times"):=by decide +kernel
 simp only[hdD,DF,M5,N8,bB,and_self,if_true,jv,n1,n2,a,if_false]
theorem A7 (C:Addr) (es:List Er) (rs:List Int) (pl m k:Int) (p:Int×Option Int):(iR C es rs pl m k p).map (tmD C)=(kC es rs pl p).map PyData.int/\∀d∈iR C es rs pl m k p,bB C "times" d=some (tmD C d):=by
 unfold iR kC;cases p.2 with
 |none=>exact⟨rfl,λd hd=>by cases hd⟩
 |some t =>
  simp only;cases bF es rs t with
  |none=>exact⟨rfl,λd hd=>by cases hd⟩
  |some h =>
   simp only;split
   ·rw[M5,N8];refine⟨by unfold tmD;rw[xh];rfl,λd hd=>?_⟩;cases Mw.mp hd;unfold tmD;rw[xh];rfl
   ·exact⟨rfl,λd hd=>by cases hd⟩
theorem Af (C:Addr) (es:List Er) (rs:List Int) (pl m:Int):∀(ps:List (Int×Option Int)) (k:Nat),(hdM C es rs pl m k ps).map (tmD C)=(tms es rs pl ps).map PyData.int/\∀d∈hdM C es rs pl m k ps,bB C "times" d=some (tmD C d)
 |[],_=>⟨rfl,λd hd=>by cases hd⟩
 |p::r,k=>by
  obtain⟨a1,a2⟩:=A7 C es rs pl m k p;obtain⟨a,b⟩:=Af C es rs pl m r (k+1);rw[show hdM C es rs pl m k (p::r)=iR C es rs pl m k p++hdM C es rs pl m (k+1) r from rfl,show tms es rs pl (p::r)=kC es rs pl p++tms es rs pl r from rfl];refine⟨by rw[N3,N3,a1,a],λd hd=>?_⟩;rcases MM.mp hd with h|h
  ·exact a2 d h
  ·exact b d h
theorem sS (C:Addr) (es:List Er) (rs:List Int) (pl:Int):∀(a:List Int),(hW C es rs pl a).map (tmD C)=(tms es rs pl ((a.map λm=>(aS es m).parts).flatten)).map PyData.int/\∀d∈hW C es rs pl a,bB C "times" d=some (tmD C d)
 |[]=>⟨rfl,λd hd=>by cases hd⟩
 |m::r=>by
  obtain⟨a1,a2⟩:=Af C es rs pl m (aS es m).parts 0;obtain⟨b,c⟩:=sS C es rs pl r;unfold hW;refine⟨by rw[N3,M5,Nx,zZ,N3,a1,b],λd hd=>?_⟩;rcases MM.mp hd with h|h
  ·exact a2 d h
  ·exact c d h
theorem rH (C:Addr) (es:List Er) (rs:List Int) (pl:Int) (b:Nat):∀(a:List Int),(∀m∈a,(aS es m).parts.length<=b)->(hW C es rs pl a).length<=b*a.length
 |[],_=>by simp[hW]
 |m::r,h=>by
  have h1:=h m M6;have h2:=tX C es rs pl m (aS es m).parts 0;have h3:=rH C es rs pl b r λx c=>h x (M4 _ c)
  unfold hW;rw[Mv,MC,Nat.mul_succ];omega
def bo:Gf
 |[d,r,.int n]=>if okW d r n then .ok (.int (gj (cN d) (cp r) n)) else .no
 |_=>.no
theorem eU (h1:1<=es.length) (h2:es.length<=6) (h:∀e∈es,e.Wk) (a:cf es.length rs) (n0:0<=n) (n1:n<es.length):bo [aw es,au rs,.int n]=.ok (.int (gj es rs n)):=by unfold bo;simp only[mQ h1 h2 h a n0 n1,if_true,eS,d7]
theorem pE (cs:Cs):LLq (fq cs (cU cs)) 3 0 bo:=by
 intro ds hl a;obtain⟨d,r,n,i,h⟩:=jk a;clear a;subst i;have a:=h;clear h
 ·skip
  split at a
  ·rename_i hc;obtain⟨es,rs,rfl,rfl,_,_,l1,l6,hok,c,n0,n1⟩:=gQ hc;rw[eU l1 l6 hok c n0 n1];have j:=jU cs l1 l6 hok c n0 n1;obtain⟨o,q⟩:=sS cs.Holding es rs (placeOf rs n) (rs.drop (placeOf rs n+1));have hrl:=c.len;have b:∀m∈rs.drop (placeOf rs n+1),(aS es m).Wk:=λm hm=>by have:=c.rng m (NQ hm);exact hok _ (bV this.1 (by omega))
   have hln:=rH cs.Holding es rs (placeOf rs n) 4 (rs.drop (placeOf rs n+1)) λm hm=>(b m hm).p2
   have hdl:(rs.drop (placeOf rs n+1)).length<=6:=by rw[O8];omega
   have e:a8 3 (bG (aq (cU cs) (ae (af 0) (ae (af 1) (ae (af 2) ah))))) bA (g1 (bB cs.Holding "times") (af 3)) aI [some (aw es),some (au rs),some (.int n)]=.ok ((hW cs.Holding es rs (placeOf rs n) (rs.drop (placeOf rs n+1))).map (tmD cs.Holding)) :=
    cu rfl (by simp only[mR,bj,ay,aF,ak,ar,Rs.ag,j];rfl) (by omega) λx s=>by simp only[MU,MS,gx,ak,ar,Rs.ag,q x s,Rs.ai]
   have f:wG (.list ((hW cs.Holding es rs (placeOf rs n) (rs.drop (placeOf rs n+1))).map (tmD cs.Holding))) (.int 0)=some (.int (gj es rs n)):=by
    unfold wG;simp only;rw[o,e9,Nn,A8 (p7 _ _ _ _ λp t=>?_),<-vP]
    ·rfl
    ·obtain⟨l,hl,g⟩:=List.mem_flatten.mp t;obtain⟨m,hm,rfl⟩:=M9.mp hl;exact ((b m hm).pl p g).1
   show bc (fq cs (cU cs) [some (aw es),some (au rs),some (.int n)])=_;simp only[fq,bW,bK,n5,e,Rs.ag,cF,f,Rs.ai,av,aU]
  ·exact absurd rfl a
theorem Iw (cs:Cs):LLq (tU cs bo bz) 3 0 en:=by
 intro ds hl a;obtain⟨d,r,n,f,c⟩:=jk a;clear a;subst f;have a:=c;clear c
 ·skip
  split at a
  ·rename_i hc;obtain⟨es,rs,rfl,rfl,_,_,l1,l6,hok,b,n0,n1⟩:=my hc;have h1:=pz l1 l6 hok b n0 n1;have g:=eU l1 l6 (λe h=>(hok e h).wk) b n0 n1;have h2:=fh l1 l6 hok b n0 n1;show bc (tU cs bo bz [some (aw es),some (au rs),some (.int n)])=_;simp only[tU,aN,oA,bj,ay,aF,ak,ar,Rs.ag,h2,av,bW,g,aU,h1]
  ·exact absurd rfl a
def nP (f:Int->Int) (T:Int):Nat->Int->List Int
 |0,l=>[l]
 |m+1,l=>if l=T then [l] else l::nP f T m (f l)
def Bw:Option (List Int)->PyData
 |some l=>.list (l.map .int)
 |none=>.none
structure Top (f:Int->Int) (T:Int):Prop where
 fix:f T=T
 one:1<=T
 low:∀s,1<=s->s<T->¬ f s<=s
theorem qG {f:Int->Int} {T:Int} (R:kO f) (P:Top f T):∀(m:Nat) (l:Int),1<=l->l<=T->T-l<=m->(nP f T m l).getLast?=some T
 |0,l,h1,h2,h3=>by
  have:l=T:=by omega
  rw[this];rfl
 |m+1,l,h1,h2,h3=>by
  unfold nP;by_cases z:l=T
  ·rw[if_pos z,z];rfl
  ·rw[if_neg z,List.getLast?_cons];have hf:=P.low l h1 (by omega);have a:=R.mono l T h1 h2;rw[P.fix]at a;rw[qG R P m (f l) (by omega) a (by omega)];rfl
def bS:Gf
 |[.int t,.int e]=>if 0<e/\e<1073741824 then .ok (.int ((t+e-1) / e)) else .no
 |_=>.no
theorem JQ {f:Int->Int->Rs PyData} (h:(match ds with|[.int a,.int x1]=>f a x1|_=>.no)≠.no):∃a x1,ds=[.int a,.int x1]/\f a x1≠.no:=by
 rcases ds with _|⟨a,_|⟨x1,_|⟨y,ys⟩⟩⟩
 ·exact absurd rfl h
 ·first|exact absurd rfl h|(cases a <;> exact absurd rfl h)
 ·skip
  cases a with
  |int a =>
   cases x1 with
   |int x1 =>exact⟨_,_,rfl,h⟩
   |_=>exact absurd rfl h
  |_=>first|exact absurd rfl h|(cases x1 <;> exact absurd rfl h)
 ·first|exact absurd rfl h|(cases a <;> first|exact absurd rfl h|(cases x1 <;> exact absurd rfl h))
theorem tR (cs:Cs):LLq (gP cs) 2 0 bS:=by
 intro ds hl a;obtain⟨t,e,c,b⟩:=JQ a;clear a;subst c;have a:=b;clear b;unfold bS
 ·skip
  split at a
  ·rename_i hc;simp only[if_pos hc];show bc (gP cs [some (.int t),some (.int e)])=_;simp only[gP,bW,bK,ak,ar,cF,Rs.ag,dW,nU,Rs.ai,xk,if_pos hc,av,aU]
  ·exact absurd rfl a
theorem tQ {x e:Int} (h:0<e):(x+e-1) / e=x / e+(if x % e>0 then 1 else 0):=by
 have h1:=Od x e;have h2:=Na x (show e≠0 by omega);have h3:=Nw x h;generalize x / e=q at *;generalize x % e=r at *;have ex:x+e-1=r+e-1+e*q:=by omega
 rw[ex,Int.add_mul_ediv_left _ _ (by omega)];by_cases z:r>0
 ·rw[if_pos z,show r+e-1=(r-1)+e*1 by omega,Int.add_mul_ediv_left _ _ (by omega),O5 (by omega) (by omega)];omega
 ·rw[if_neg z,O5 (by omega) (by omega)];omega
theorem rq (h:e.Sh):bS [.int (t+e.late),.int e.every]=.ok (.int (e.times t)):=by have h1:=h.e1;have h2:=h.e2;unfold bS;simp only[if_pos (show 0<e.every/\e.every<1073741824 from⟨by omega,h2⟩)];rw[tQ (by omega)];rfl
def dZ (es:List Er) (rs:List Int) (n h t:Int):Int:=h+(aS es n).work+((rs.take (placeOf rs n)).map λm=>(aS es m).times t*(aS es m).work).sum
theorem lW (hok:∀e∈es,e.Wk) (c:cf es.length rs) (n0:0<=n) (n1:n<es.length) (h0:0<=h):kO (dZ es rs n h) where
 mono:=λt u _ f=>by have:=nM (n:=n) (λe g=>(hok e g).sh) c f;unfold eQ at this;unfold dZ;omega
 one:=λt f=>by
  unfold dZ;have h2:=(hok _ (bV n0 n1)).work1;have h3:=ji (λm=>(aS es m).times t*(aS es m).work) (rs.take (placeOf rs n)) λm hm=>by have a:=c.rng m (Nj hm);have b:=hok _ (bV a.1 a.2);have l0:=b.l1;exact Of (Er.times_pos b.sh.e1 (by omega)) b.sh.work_b.1
  omega
def cW:Gf
 |[d,r,.int n,.int h,.int t]=>if okW d r n then .ok (.int (dZ (cN d) (cp r) n h t)) else .no
 |_=>.no
theorem pw (h1:1<=es.length) (h2:es.length<=6) (a:∀e∈es,e.Wk) (b:cf es.length rs) (n0:0<=n) (n1:n<es.length):cW [aw es,au rs,.int n,.int h,.int t]=.ok (.int (dZ es rs n h t)):=by unfold cW;simp only[mQ h1 h2 a b n0 n1,if_true,eS,d7]
theorem Fm {g:Ds->Rs PyData} {a b:Int} (h:δ[i]?=some (some (.int a))) (c:g δ=.ok (.int b)):yH [] i g δ=.nx (δ.set i (some (.int (a+b)))):=by unfold yH;rw[lr,h];simp only[c,av]
abbrev DC:Ds->Sr:=az (aL [] 7 (g2 dIx (af 0) (af 6)))
 (yH [] 5 (g2 b0 (aq cq (ae (af 7) ah)) (aq bS (ae (g2 ba (af 4) (g2 dIx (af 7) (gC (.int 2)))) (ae (g2 dIx (af 7) (gC (.int 0))) ah)))))
theorem Ak {es:List Er} {rs:List Int} (f:∀e∈es,e.Sh) (u:cf es.length rs) (n h:PyData) (t:Int):∀(i:List Int) (acc:Int) (x6 x7:Option PyData),(∀m∈i,m∈rs) ->
  ∃j l,forL (bw 6) DC (i.map PyData.int) [some (aw es),some (au rs),some n,some h,some (.int t),some (.int acc),x6,x7]
   =.nx [some (aw es),some (au rs),some n,some h,some (.int t),some (.int (acc+(i.map λm=>(aS es m).times t*(aS es m).work).sum)),j,l]
 |[],acc,x6,x7,_=>⟨x6,x7,by simp[forL]⟩
 |m::r,acc,x6,x7,hm'=>by
  have hm:=hm' m M6;have g:=u.rng m hm;have c:=f _ (bV g.1 (by omega));have a2:atI (es.map Er.d) m=some (aS es m).d:=ie g.1 (by omega);obtain⟨j,l,e2⟩:=Ak f u n h t r (acc+(aS es m).times t*(aS es m).work) (some (.int m)) (some (aS es m).d) λx v=>hm' x (M4 _ v)
  refine⟨j,l,?_⟩;have hw:=c.work_b;have o:=gX c;have p:=rq (t:=t) c;rw[M5,M5,N7,<-Int.add_assoc];unfold forL;generalize hE:aS es m=e at *;have i2:dIx e.d (.int 2)=some (.int e.late):=rfl;have w:dIx e.d (.int 0)=some (.int e.every):=rfl;have q:aL [] 7 (g2 dIx (af 0) (af 6)) [some (aw es),some (au rs),some n,some h,some (.int t),some (.int acc),some (.int m),x7]=.nx [some (aw es),some (au rs),some n,some h,some (.int t),some (.int acc),some (.int m),some e.d]:=by rw[ij,if_pos (by simp)];simp only[bK,ak,ar,Rs.ag,aw,wx,a2,Rs.ai,av];rfl
  have s:yH [] 5 (g2 b0 (aq cq (ae (af 7) ah)) (aq bS (ae (g2 ba (af 4) (g2 dIx (af 7) (gC (.int 2)))) (ae (g2 dIx (af 7) (gC (.int 0))) ah)))) [some (aw es),some (au rs),some n,some h,some (.int t),some (.int acc),some (.int m),some e.d]=.nx [some (aw es),some (au rs),some n,some h,some (.int t),some (.int (acc+e.times t*e.work)),some (.int m),some e.d]:=by
    rw[Fm (a:=acc) (b:=e.times t*e.work) rfl]
    ·rfl
    ·simp only[bK,bj,ay,aF,ak,ar,cF,Rs.ag,i2,w,Rs.ai,dW,o,p,oK (b:=e.times t) (show -(2 ^ 64)<e.work by omega) (show e.work<2 ^ 64 by omega)];rw[Int.mul_comm e.work]
  have y:bw 6 (.int m) [some (aw es),some (au rs),some n,some h,some (.int t),some (.int acc),x6,x7]=some [some (aw es),some (au rs),some n,some h,some (.int t),some (.int acc),some (.int m),x7]:=rfl;rw[y];simp only[DC,aN,q,s];exact e2
theorem A6 {f:PyData->PyData->Int->Int->Int->Rs PyData} (h:(match ds with|[a,x1,.int x2,.int x3,.int x4]=>f a x1 x2 x3 x4|_=>.no)≠.no):∃a x1 x2 x3 x4,ds=[a,x1,.int x2,.int x3,.int x4]/\f a x1 x2 x3 x4≠.no:=by
 rcases ds with _|⟨a,_|⟨x1,_|⟨x2,_|⟨x3,_|⟨x4,_|⟨y,ys⟩⟩⟩⟩⟩⟩
 ·exact absurd rfl h
 ·exact absurd rfl h
 ·exact absurd rfl h
 ·first|exact absurd rfl h|(cases x2 <;> exact absurd rfl h)
 ·first|exact absurd rfl h|(cases x2 <;> first|exact absurd rfl h|(cases x3 <;> exact absurd rfl h))
 ·skip
  cases x2 with
  |int x2 =>
   cases x3 with
   |int x3 =>
    cases x4 with
    |int x4 =>exact⟨_,_,_,_,_,rfl,h⟩
    |_=>exact absurd rfl h
   |_=>first|exact absurd rfl h|(cases x4 <;> exact absurd rfl h)
  |_=>first|exact absurd rfl h|(cases x3 <;> first|exact absurd rfl h|(cases x4 <;> exact absurd rfl h))
 ·first|exact absurd rfl h|(cases x2 <;> first|exact absurd rfl h|(cases x3 <;> first|exact absurd rfl h|(cases x4 <;> exact absurd rfl h)))
theorem HG (cs:Cs):LLq (ui cs cq bS) 5 3 cW:=by
 intro ds hl a;obtain⟨d,r,n,h,t,p,o⟩:=A6 a;clear a;subst p;have a:=o;clear o
 ·skip
  split at a
  ·rename_i hc;obtain⟨es,rs,rfl,rfl,_,_,l1,l6,hok,f,n0,n1⟩:=gQ hc;rw[pw l1 l6 hok f n0 n1];have b:∀e∈es,e.Sh:=λe q=>(hok e q).sh
   have c:=f.mem n0 (by omega);have g:=ig c;have i:=b _ (bV n0 n1);have a2:atI (es.map Er.d) n=some (aS es n).d:=ie n0 n1;have j:=gX i;obtain⟨y6,y7,e⟩:=Ak b f (.int n) (.int h) t (rs.take (placeOf rs n)) (h+(aS es n).work) none none (λm hm=>Nj hm);have src:bG (hV (af 1) fN (jV (kW (af 1) (af 2)))) [some (aw es),some (au rs),some (.int n),some (.int h),some (.int t),some (.int (h+(aS es n).work)),none,none]=.ok ((rs.take (placeOf rs n)).map PyData.int):=by simp only[mR,pT,ud,mG,ue,ak,ar,Rs.ag,au,g,Rs.ai,tF,yT,uv];rw[Ek,List.map_take]
   have l:aL [] 5 (g2 ba (af 3) (aq cq (ae (g2 dIx (af 0) (af 2)) ah))) [some (aw es),some (au rs),some (.int n),some (.int h),some (.int t),none,none,none]=.nx [some (aw es),some (au rs),some (.int n),some (.int h),some (.int t),some (.int (h+(aS es n).work)),none,none]:=by rw[ij,if_pos (by simp)];simp only[bK,bj,ay,aF,ak,ar,Rs.ag,aw,wx,a2,Rs.ai,j,dW,av];rfl
   show bc (ui cs cq bS [some (aw es),some (au rs),some (.int n),some (.int h),some (.int t),none,none,none])=_;simp only[ui];rw[aN,l];simp only;rw[aN,kU,lr,src,av,e];rfl
  ·exact absurd rfl a
def pB (es:List Er) (rs:List Int) (n h:Int):Option Int:=dq ((aS es n).every-(aS es n).late).toNat λt=>decide (dZ es rs n h t<=t)
theorem xD (es:List Er) (rs:List Int) (n:Int):pB es rs n (gj es rs n)=eX es rs n:=rfl
def ix (es:List Er) (rs:List Int) (n h:Int):Option (List Int):=(pB es rs n h).map λT=>nP (dZ es rs n h) T T.toNat (dZ es rs n h 1)
abbrev tm:Ds->Rs Bool:=gT (g2 dLe (af 6) (af 4))
abbrev uQ:Ds->Sr:=az (gH [5] 5 (af 6))
 (az (aL [5] 7 (aq cW (ae (af 0) (ae (af 1) (ae (af 2) (ae (af 3) (ae (af 6) ah)))))))
 (az (sIf (gT (g2 dEq (af 7) (af 6))) (bh (af 5)) aY)
 (aL [5] 6 (af 7))))
section
variable {E Rr N h:PyData} {f:Int->Int} {most:Int}
theorem tE (a:∀t,cW [E,Rr,N,h,.int t]=.ok (.int (f t))) (l:Int) (acc:List PyData) (hl:acc.length<1000000) (x7:Option PyData) :
  uQ [some E,some Rr,some N,some h,some (.int most),some (.list acc),some (.int l),x7]
   =if f l=l then .rt (.list (acc++[.int l])) else .nx [some E,some Rr,some N,some h,some (.int most),some (.list (acc++[.int l])),some (.int (f l)),some (.int (f l))]:=by
 have b:gH [5] 5 (af 6) [some E,some Rr,some N,some h,some (.int most),some (.list acc),some (.int l),x7]=.nx [some E,some Rr,some N,some h,some (.int most),some (.list (acc++[.int l])),some (.int l),x7]:=by unfold gH;simp only[Nk,Nl,aC (show 6∉[5] by decide),ak,ar,av,if_pos hl];rfl
 have s2:aL [5] 7 (aq cW (ae (af 0) (ae (af 1) (ae (af 2) (ae (af 3) (ae (af 6) ah)))))) [some E,some Rr,some N,some h,some (.int most),some (.list (acc++[.int l])),some (.int l),x7]=.nx [some E,some Rr,some N,some h,some (.int most),some (.list (acc++[.int l])),some (.int l),some (.int (f l))]:=by rw[gr,if_pos (by simp)];simp only[bj,ay,aF,aC (show 0∉[5] by decide),aC (show 1∉[5] by decide),aC (show 2∉[5] by decide),aC (show 3∉[5] by decide),aC (show 6∉[5] by decide),ak,ar,Rs.ag,a,av];rfl
 have c:aL [5] 6 (af 7) [some E,some Rr,some N,some h,some (.int most),some (.list (acc++[.int l])),some (.int l),some (.int (f l))]=.nx [some E,some Rr,some N,some h,some (.int most),some (.list (acc++[.int l])),some (.int (f l)),some (.int (f l))]:=by rw[gr,if_pos (by simp)];simp only[aC (show 7∉[5] by decide),ak,ar,av];rfl
 unfold uQ;rw[aN,b];simp only;rw[aN,s2];simp only;rw[aN];by_cases z:f l=l
 ·rw[if_pos z];have q:(f l==l)=true:=by simpa using z
  simp only[cJ,dH,bK,ak,ar,Rs.ag,jA,q,Rs.ai,aX,if_true,av,bW]
 ·rw[if_neg z];have q:(f l==l)=false:=by simpa using z
  simp only[cJ,dH,bK,ak,ar,Rs.ag,jA,q,Rs.ai,aX,if_false,MJ,av,eO,c]
theorem oz (l:Int) (a x7:Option PyData):tm [some E,some Rr,some N,some h,some (.int most),a,some (.int l),x7]=.ok (decide (l<=most)):=by simp only[tm,dH,bK,ak,ar,Rs.ag,J7,Rs.ai,aX]
theorem zN (a:∀t,cW [E,Rr,N,h,.int t]=.ok (.int (f t))) (R:kO f) {T:Int} (P:Top f T) (c:T<=most):∀(j fuel:Nat) (l:Int) (acc:List PyData) (x7:Option PyData),1<=l->l<=T->T-l<=j->j<fuel->acc.length+j<1000000 ->
  bU tm uQ fuel [some E,some Rr,some N,some h,some (.int most),some (.list acc),some (.int l),x7]=.rt (.list (acc++(nP f T j l).map PyData.int))
 |j,0,l,acc,x7,_,_,_,hf,_=>absurd hf (Nat.not_lt_zero _)
 |0,fuel+1,l,acc,x7,h1,h2,h3,hf,hc=>by
  have e:l=T:=by omega
  have b:f l=l:=by rw[e];exact P.fix
  unfold bU;rw[oz,av,decide_eq_true (show l<=most by omega),if_pos rfl,tE a l acc (by omega),if_pos b];rfl
 |j+1,fuel+1,l,acc,x7,h1,h2,h3,hf,hc=>by
  unfold bU;rw[oz,av,decide_eq_true (show l<=most by omega),if_pos rfl,tE a l acc (by omega)];unfold nP;by_cases e:l=T
  ·have b:f l=l:=by rw[e];exact P.fix
   rw[if_pos b,if_pos e];rfl
  ·have hl:=P.low l h1 (by omega);have hm:=R.mono l T h1 h2;rw[P.fix]at hm;rw[if_neg (show ¬ f l=l by omega),if_neg e];simp only;rw[zN a R P c j fuel (f l) (acc++[PyData.int l]) _ (by omega) hm (by omega) (by omega) (by rw[Mv,MR];omega)];rw[M5,N6];rfl
theorem Ap (a:∀t,cW [E,Rr,N,h,.int t]=.ok (.int (f t))) (no:∀s,1<=s->s<=most->¬ f s<=s):∀(j fuel:Nat) (l:Int) (acc:List PyData) (x7:Option PyData),1<=l->most-l<j->j<fuel->acc.length+j<1000000 ->
  ∃δ,bU tm uQ fuel [some E,some Rr,some N,some h,some (.int most),some (.list acc),some (.int l),x7]=.nx δ
 |j,0,l,acc,x7,_,_,hf,_=>absurd hf (Nat.not_lt_zero _)
 |0,fuel+1,l,acc,x7,h1,h3,hf,hc=>by unfold bU;rw[oz,av,decide_eq_false (show ¬ l<=most by omega),if_neg (by decide)];exact⟨_,rfl⟩
 |j+1,fuel+1,l,acc,x7,h1,h3,hf,hc=>by
  unfold bU;rw[oz,av];by_cases e:l<=most
  ·rw[decide_eq_true e,if_pos rfl,tE a l acc (by omega)];have hl:=no l h1 e;rw[if_neg (show ¬ f l=l by omega)];simp only;exact Ap a no j fuel (f l) (acc++[PyData.int l]) _ (by omega) (by omega) (by omega) (by rw[Mv,MR];omega)
  ·rw[decide_eq_false e,if_neg (by decide)];exact⟨_,rfl⟩
end
def cT:Gf
 |[d,r,.int n,.int h]=>if okW d r n&&decide (0<=h) then .ok (Bw (ix (cN d) (cp r) n h)) else .no
 |_=>.no
theorem jw (h1:1<=es.length) (h2:es.length<=6) (a:∀e∈es,e.Wk) (b:cf es.length rs) (n0:0<=n) (n1:n<es.length) (c:0<=h):cT [aw es,au rs,.int n,.int h]=.ok (Bw (ix es rs n h)):=by unfold cT;simp only[mQ h1 h2 a b n0 n1,decide_eq_true c,Oj,if_true,eS,d7]
theorem zy {T:Int} (R:kO (dZ es rs n h)) (e:pB es rs n h=some T):Top (dZ es rs n h) T/\T<=(aS es n).every-(aS es n).late:=by
 obtain⟨h1,h2,f,g⟩:=fk e;have c:∀s,1<=s->s<T->¬ dZ es rs n h s<=s:=λs a b=>of_decide_eq_false (g s a b)
 exact⟨⟨R.fix h1 (of_decide_eq_true f) c,h1,c⟩,by omega⟩
theorem vY {f:PyData->PyData->Int->Int->Rs PyData} (h:(match ds with|[a,x1,.int x2,.int x3]=>f a x1 x2 x3|_=>.no)≠.no):∃a x1 x2 x3,ds=[a,x1,.int x2,.int x3]/\f a x1 x2 x3≠.no:=by
 rcases ds with _|⟨a,_|⟨x1,_|⟨x2,_|⟨x3,_|⟨y,ys⟩⟩⟩⟩⟩
 ·exact absurd rfl h
 ·exact absurd rfl h
 ·exact absurd rfl h
 ·first|exact absurd rfl h|(cases x2 <;> exact absurd rfl h)
 ·skip
  cases x2 with
  |int x2 =>
   cases x3 with
   |int x3 =>exact⟨_,_,_,_,rfl,h⟩
   |_=>exact absurd rfl h
  |_=>first|exact absurd rfl h|(cases x3 <;> exact absurd rfl h)
 ·first|exact absurd rfl h|(cases x2 <;> first|exact absurd rfl h|(cases x3 <;> exact absurd rfl h))
theorem wC (cs:Cs):LLq (iq cs cW) 4 4 cT:=by
 intro ds hl c;obtain⟨d,r,n,h,m,i⟩:=vY c;clear c;subst m;have c:=i;clear i
 ·skip
  split at c
  ·rename_i hc;simp only[M8,decide_eq_true_eq]at hc;obtain⟨hc,j⟩:=hc;obtain⟨es,rs,rfl,rfl,_,_,l1,l6,hok,g,n0,n1⟩:=gQ hc;rw[jw l1 l6 hok g n0 n1 j];have e:∀t,cW [aw es,au rs,.int n,.int h,.int t]=.ok (.int (dZ es rs n h t)):=λt=>pw l1 l6 hok g n0 n1
   have R:=lW (h:=h) hok g n0 n1 j;have f:=hok _ (bV n0 n1);have a2:atI (es.map Er.d) n=some (aS es n).d:=ie n0 n1;have o:dIx (aw es) (.int n)=some (aS es n).d:=a2;have i2:dIx (aS es n).d (.int 2)=some (.int (aS es n).late):=rfl;have p:dIx (aS es n).d (.int 0)=some (.int (aS es n).every):=rfl;have e60:=f.e2;have la0:=f.l1;have f1:=R.one 1 (by decide);generalize hM:(aS es n).every-(aS es n).late=M at *;have u:aL [5] 4 (g2 gy (g2 dIx (g2 dIx (af 0) (af 2)) (gC (.int 0))) (g2 dIx (g2 dIx (af 0) (af 2)) (gC (.int 2)))) [some (aw es),some (au rs),some (.int n),some (.int h),none,none,none,none]=.nx [some (aw es),some (au rs),some (.int n),some (.int h),some (.int M),none,none,none]:=by rw[gr,if_pos (by simp)];simp only[bK,aC (show 0∉[5] by decide),aC (show 2∉[5] by decide),ak,ar,cF,Rs.ag,o,i2,p,Rs.ai,nU,av,hM];rfl
   have s2:eV [5] 5 ah [some (aw es),some (au rs),some (.int n),some (.int h),some (.int M),none,none,none]=.nx [some (aw es),some (au rs),some (.int n),some (.int h),some (.int M),some (.list []),none,none]:=rfl;have v:aL [5] 6 (aq cW (ae (af 0) (ae (af 1) (ae (af 2) (ae (af 3) (ae (gC (.int 1)) ah)))))) [some (aw es),some (au rs),some (.int n),some (.int h),some (.int M),some (.list []),none,none]=.nx [some (aw es),some (au rs),some (.int n),some (.int h),some (.int M),some (.list []),some (.int (dZ es rs n h 1)),none]:=by rw[gr,if_pos (by simp)];simp only[bj,ay,aF,aC (show 0∉[5] by decide),aC (show 1∉[5] by decide),aC (show 2∉[5] by decide),aC (show 3∉[5] by decide),ak,ar,cF,Rs.ag,e,av];rfl
   show bc (iq cs cW [some (aw es),some (au rs),some (.int n),some (.int h),none,none,none,none])=_;simp only[iq];rw[aN,u];simp only;rw[aN,s2];simp only;rw[aN,v];simp only;rw[aN];cases q:pB es rs n h with
   |some T =>
    obtain⟨P,l⟩:=zy R q;rw[hM]at l;have hle:dZ es rs n h 1<=T:=by have:=R.mono 1 T (by decide) P.one;rw[P.fix]at this;exact this
    have w:=zN e R P l T.toNat 1000000 (dZ es rs n h 1) [] none f1 hle (by omega) (by omega) (by simp;omega);rw[w];simp only[ix,q,Nn,Bw,MS,aU]
   |none =>
    have no:∀s,1<=s->s<=M->¬ dZ es rs n h s<=s:=λs a b=>by have:=je q s a (by omega);exact of_decide_eq_false this
    obtain⟨δ,w⟩:=Ap e no 100 1000000 (dZ es rs n h 1) [] none f1 (by omega) (by decide) (by decide);rw[w];simp only[ix,q,Option.map_none,Bw,bW,cF,av,aU]
  ·exact absurd rfl c
def cB:Gf
 |[d,r,.int n,.int h]=>if okW d r n&&decide (0<=h) then .ok (bg (pB (cN d) (cp r) n h)) else .no
 |_=>.no
theorem iU (h1:1<=es.length) (h2:es.length<=6) (a:∀e∈es,e.Wk) (b:cf es.length rs) (n0:0<=n) (n1:n<es.length) (c:0<=h):cB [aw es,au rs,.int n,.int h]=.ok (bg (pB es rs n h)):=by unfold cB;simp only[mQ h1 h2 a b n0 n1,decide_eq_true c,Oj,if_true,eS,d7]
theorem tI (cs:Cs):LLq (fz cs cT) 4 1 cB:=by
 intro ds hl a;obtain⟨d,r,n,h,j,i⟩:=vY a;clear a;subst j;have a:=i;clear i
 ·skip
  split at a
  ·rename_i hc;simp only[M8,decide_eq_true_eq]at hc;obtain⟨hc,f⟩:=hc;obtain⟨es,rs,rfl,rfl,_,_,l1,l6,hok,g,n0,n1⟩:=gQ hc;rw[iU l1 l6 hok g n0 n1 f];have c:=jw l1 l6 hok g n0 n1 f;have R:=lW (h:=h) hok g n0 n1 f;show bc (fz cs cT [some (aw es),some (au rs),some (.int n),some (.int h),none])=_;cases q:pB es rs n h with
   |none =>
    have e:ix es rs n h=none:=by unfold ix;rw[q];rfl
    rw[e]at c;simp[fz,c,Bw,bg,gIf]
   |some T =>
    obtain⟨P,hT⟩:=zy R q;have hle:dZ es rs n h 1<=T:=by have:=R.mono 1 T (by decide) P.one;rw[P.fix]at this;exact this
    have f1:=R.one 1 (by decide);have e:ix es rs n h=some (nP (dZ es rs n h) T T.toNat (dZ es rs n h 1)):=by unfold ix;rw[q];rfl
    rw[e]at c;have b:=qG R P T.toNat (dZ es rs n h 1) f1 hle (by omega);have l:dIx (.list ((nP (dZ es rs n h) T T.toNat (dZ es rs n h 1)).map PyData.int)) (.int (-1))=some (.int T):=by show atI _ (-1)=_;rw[kj,O4,b];rfl
    simp[fz,c,Bw,bg,l,gIf];rfl
  ·exact absurd rfl a
def bJ:Gf
 |[d,r,.int n]=>if okW d r n then .ok (bg (eX (cN d) (cp r) n)) else .no
 |_=>.no
theorem fE (h1:1<=es.length) (h2:es.length<=6) (h:∀e∈es,e.Wk) (a:cf es.length rs) (n0:0<=n) (n1:n<es.length):bJ [aw es,au rs,.int n]=.ok (bg (eX es rs n)):=by unfold bJ;simp only[mQ h1 h2 h a n0 n1,if_true,eS,d7]
theorem lT (cs:Cs):LLq (dQ cs bo cB) 3 0 bJ:=by
 intro ds hl a;obtain⟨d,r,n,e,c⟩:=jk a;clear a;subst e;have a:=c;clear c
 ·skip
  split at a
  ·rename_i hc;obtain⟨es,rs,rfl,rfl,_,_,l1,l6,hok,b,n0,n1⟩:=gQ hc;rw[fE l1 l6 hok b n0 n1];have h1:=eU l1 l6 hok b n0 n1;have h2:=iU l1 l6 hok b n0 n1 (kM es rs n);rw[xD]at h2;show bc (dQ cs bo cB [some (aw es),some (au rs),some (.int n)])=_;simp only[dQ,bW,bj,ay,aF,ak,ar,Rs.ag,h1,h2,av,aU]
  ·exact absurd rfl a
theorem BC (cs:Cs):LLq (kl cs bJ bz) 3 0 bI:=by
 intro ds hl a;obtain⟨d,r,n,f,c⟩:=jk a;clear a;subst f;have a:=c;clear c
 ·skip
  split at a
  ·rename_i hc;obtain⟨es,rs,rfl,rfl,_,_,l1,l6,hok,b,n0,n1⟩:=my hc;have h1:=iC l1 l6 hok b n0 n1;have g:=fE l1 l6 (λe h=>(hok e h).wk) b n0 n1;have h2:=fh l1 l6 hok b n0 n1;show bc (kl cs bJ bz [some (aw es),some (au rs),some (.int n)])=_;simp only[kl,aN,oA,bj,ay,aF,ak,ar,Rs.ag,h2,av,bW,g,h1,aU]
  ·exact absurd rfl a
structure Er.Sm (e:Er):Prop where
 ev:e.every<=19
 la:e.late<=3
 pl:∀p∈e.parts,p.1<=4
 nt:∀p∈e.parts,p.2=none
theorem Ip (ns:List Int) (a:Int):(mkE ns a 17 false).Sm:=by
 have h1:=cy ns a (many:=17) (by decide);have h2:=cz ns a (many:=17) (by decide);refine⟨by show 3+mixed ns a 17<=19;omega,(qE ns a (3+mixed ns a 17) (by omega)).2.1,λp b=>?_,λp b=>?_⟩
 ·rcases MM.mp b with b|b
  ·obtain⟨k,_,rfl⟩:=M9.mp b;show 1+mixed ns (a+4+(k:Int)) 40 % 4<=4;omega
  ·rw[Mw]at b;subst b;have:=cy ns (a+6) (many:=3) (by decide);show 1+mixed ns (a+6) 3<=4;omega
 ·rcases MM.mp b with b|b
  ·obtain⟨k,_,rfl⟩:=M9.mp b;rfl
  ·rw[Mw]at b;subst b;rfl
theorem Fx (ns:List Int) (a:Int):∀e∈oa ns a 4 17 false,e.Sm:=λe b=>by obtain⟨k,_,rfl⟩:=M9.mp b;exact Ip ns _
theorem Eo (ns:List Int):∃es rs,1<=es.length/\es.length<=4/\(∀e∈es,e.Ok)/\(∀e∈es,e.Sm)/\cf es.length rs/\bp [ao ns,.int 12,.int 4,.int 17,.bool false]=.ok (aw es)/\bT [ao ns,.int 0,.int (es.length:Int)]=.ok (au rs):=by have hl:=Dy ns 12 4 17 false (by decide);have hok:=EV ns 12 4 17 false (by decide) (by decide);have c:=Fx ns 12;have f:bp [ao ns,.int 12,.int 4,.int 17,.bool false]=.ok (aw (oa ns 12 4 17 false)):=ic (by decide) (by decide) (by decide) (by decide) (by decide);generalize oa ns 12 4 17 false=es at *;have b:=jx (ns:=ns) (a:=0) (many:=(es.length:Int)) (by decide) (by omega) (by omega);rw[MT]at b;exact⟨es,_,hl.1,by omega,hok,c,yz ns 0 es.length,f,b⟩
theorem tH (h:∀e∈es,∀p∈e.parts,p.2=none) (c:cf es.length rs):gj es rs n=0:=by
 have h0:=kM es rs n;have h1:gj es rs n<=0:=sW.mpr ⟨NA _,λm hm p f t b=>by have a:=c.rng m (NQ hm);rw[h _ (bV a.1 a.2) p f]at b;cases b⟩
 omega
def Er.tk (k:Int) (e:Er):Er:=⟨e.every*k,e.due*k,e.late*k,e.parts.map λp=>(p.1*k,none)⟩
theorem Kx {k:Int} (h:e.Ok) (s:e.Sm) (k2:2<=k) (k3:k<=3):(e.tk k).Ok:=by
 have e1:=h.e1;have e2:=s.ev;have a1:=h.l1;have a2:=s.la;have a3:=h.l3;have d1:=h.d1;have d2:=h.d2;obtain rfl|rfl:k=2\/k=3:=by omega
 ·refine⟨by show 2<=e.every*2;omega,by show e.every*2<=60;omega,by show 0<=e.late*2;omega,by show e.late*2<=20;omega,by show e.late*2<e.every*2;omega,by show 1<=e.due*2;omega,by show e.due*2<=e.every*2-e.late*2;omega,λq=>h.p1 (Oe.mp q),by show (e.parts.map _).length<=4;rw[M3];exact h.p2,λp a=>?_,λp a=>?_⟩
  ·obtain⟨q,b,rfl⟩:=M9.mp a;have:=h.pl q b;have:=s.pl q b;exact⟨by show 1<=q.1*2;omega,by show q.1*2<=20;omega,λt c=>by cases c⟩
  ·obtain⟨q,_,rfl⟩:=M9.mp (List.mem_of_getLast? a);rfl
 ·refine⟨by show 2<=e.every*3;omega,by show e.every*3<=60;omega,by show 0<=e.late*3;omega,by show e.late*3<=20;omega,by show e.late*3<e.every*3;omega,by show 1<=e.due*3;omega,by show e.due*3<=e.every*3-e.late*3;omega,λq=>h.p1 (Oe.mp q),by show (e.parts.map _).length<=4;rw[M3];exact h.p2,λp a=>?_,λp a=>?_⟩
  ·obtain⟨q,b,rfl⟩:=M9.mp a;have:=h.pl q b;have:=s.pl q b;exact⟨by show 1<=q.1*3;omega,by show q.1*3<=20;omega,λt c=>by cases c⟩
  ·obtain⟨q,_,rfl⟩:=M9.mp (List.mem_of_getLast? a);rfl
theorem uF (k:Int):∀l:List Int,(l.map (· * k)).sum=l.sum*k
 |[]=>by simp
 |a::r=>by rw[M5,N7,N7,uF k r,NL]
theorem zT (k:Int) (e:Er):(e.tk k).work=e.work*k:=by unfold Er.work Er.tk;rw[<-uF,MF,MF];rfl
theorem Em {k:Int} (h:1<=e.every) (hk:1<=k):(e.tk k).times t=e.times ((t+k-1) / k):=by
 have c1:=tQ (x:=t+e.late*k) (e:=e.every*k) (Int.mul_pos (by omega) (by omega));have a:=tQ (x:=(t+k-1) / k+e.late) (e:=e.every) (by omega);show (t+e.late*k) / (e.every*k)+(if (t+e.late*k) % (e.every*k)>0 then 1 else 0)=((t+k-1) / k+e.late) / e.every+(if ((t+k-1) / k+e.late) % e.every>0 then 1 else 0);rw[<-c1,<-a];have q:(t+k-1) / k+e.late+e.every-1=(t+k-1+(e.late+e.every-1)*k) / k:=by rw[Int.add_mul_ediv_right _ _ (by omega)];omega
 rw[q,Int.ediv_ediv_of_nonneg (by omega)];have r:t+k-1+(e.late+e.every-1)*k=t+e.late*k+e.every*k-1:=by rw[Int.sub_mul,NL,Int.one_mul];omega
 rw[r,Int.mul_comm k]
theorem uL {k:Int} (c:0<=n) (h1:n<es.length):aS (es.map (Er.tk k)) n=(aS es n).tk k:=by have a:=jF c h1;have b:=jF (es:=es.map (Er.tk k)) c (by rw[M3];exact h1);rw[MA,a]at b;exact (Option.some.inj b).symm
theorem ua {k:Int} (hok:∀e∈es,e.Ok) (b:∀e∈es,∀p∈e.parts,p.2=none) (c:cf es.length rs) (n0:0<=n) (n1:n<es.length) (h:1<=k):eQ (es.map (Er.tk k)) rs n t=eQ es rs n ((t+k-1) / k)*k:=by
 have f:cf (es.map (Er.tk k)).length rs:=by rw[M3];exact c
 have g:∀e∈es.map (Er.tk k),∀p∈e.parts,p.2=none:=λe i p j=>by obtain⟨x,_,rfl⟩:=M9.mp i;obtain⟨q,_,rfl⟩:=M9.mp j;rfl
 unfold eQ;rw[tH g f,tH b c,uL n0 n1,zT];have e:((rs.take (placeOf rs n)).map λm=>(aS (es.map (Er.tk k)) m).times t*(aS (es.map (Er.tk k)) m).work)=((rs.take (placeOf rs n)).map λm=>(aS es m).times ((t+k-1) / k)*(aS es m).work).map (· * k):=by
  rw[MF];refine MH λm hm=>?_
  have a:=c.rng m (Nj hm);show _=(aS es m).times ((t+k-1) / k)*(aS es m).work*k;rw[uL a.1 a.2,zT,Em (by have:=(hok _ (bV a.1 a.2)).e1;omega) h,Int.mul_assoc]
 rw[e,uF,NL,NL];omega
theorem xR {k:Int} (hok:∀e∈es,e.Ok) (f:∀e∈es,∀p∈e.parts,p.2=none) (j:cf es.length rs) (n0:0<=n) (n1:n<es.length) (l:1<=k):eX (es.map (Er.tk k)) rs n=(eX es rs n).map (· * k):=by
 have R:=qW hok j n0 n1;have y:=hok _ (bV n0 n1);have A:((aS es n).tk k).every-((aS es n).tk k).late=((aS es n).every-(aS es n).late)*k:=by rw[Int.sub_mul];rfl
 have l3:=y.l3;have hB:(((((aS es n).every-(aS es n).late)*k).toNat:Nat):Int)=((aS es n).every-(aS es n).late)*k:=Nu (Of (by omega) (by omega));have h:((((aS es n).every-(aS es n).late).toNat:Nat):Int)=(aS es n).every-(aS es n).late:=Nu (by omega);have cl:∀s:Int,1<=s->1<=(s+k-1) / k/\s<=(s+k-1) / k*k/\(s+k-1) / k*k<=s+k-1:=λs g=>by have h1:=Int.ediv_mul_le (s+k-1) (b:=k) (by omega);have h2:=Int.lt_ediv_add_one_mul_self (s+k-1) (b:=k) (by omega);rw[NL,Int.one_mul]at h2;refine⟨?_,by omega,h1⟩;exact (Int.le_ediv_iff_mul_le (by omega)).mpr (by omega)
 rw[lu,lu,uL n0 n1,A];cases q:dq ((aS es n).every-(aS es n).late).toNat λt=>decide (eQ es rs n t<=t) with
 |some T =>
  obtain⟨m,w,o,B⟩:=fk q;have o:=of_decide_eq_true o;have i:∀s,1<=s->s<T->¬ eQ es rs n s<=s:=λs a b=>of_decide_eq_false (B s a b)
  have x:=R.fix m o i;rw[h]at w;have C:(T*k+k-1) / k=T:=by rw[show T*k+k-1=k-1+T*k by omega,Int.add_mul_ediv_right _ _ (by omega),O5 (by omega) (by omega),Int.zero_add]
  refine xI (t:=T*k) ?_ ?_ (decide_eq_true ?_) λs r s2=>decide_eq_false λg=>?_
  ·have:=MY (a:=1) (b:=T) (c:=k) m (by omega);omega
  ·rw[hB];exact MY w (by omega)
  ·rw[ua hok f j n0 n1 l,C,x];exact NA _
  ·rw[ua hok f j n0 n1 l]at g;obtain⟨c1,u,D⟩:=cl s r;have v:eQ es rs n ((s+k-1) / k)<=(s+k-1) / k:=Int.le_of_mul_le_mul_right (Ow g u) (by omega);by_cases z:(s+k-1) / k<T
   ·exact i _ c1 z v
   ·have h1:T<=(s+k-1) / k:=by omega
    have h2:=R.mono T _ m h1;rw[x]at h2;have h3:=MY h2 (show 0<=k by omega);omega
 |none =>
  refine xK λs r s2=>decide_eq_false λg=>?_
  rw[ua hok f j n0 n1 l]at g;rw[hB]at s2;obtain⟨c1,u,D⟩:=cl s r;have v:eQ es rs n ((s+k-1) / k)<=(s+k-1) / k:=Int.le_of_mul_le_mul_right (Ow g u) (by omega);have E:(s+k-1) / k<=(aS es n).every-(aS es n).late:=by have:(s+k-1) / k<(aS es n).every-(aS es n).late+1:=Int.ediv_lt_of_lt_mul (by omega) (by rw[NL];omega);omega
  have:=je q _ c1 (by rw[h];exact E);exact of_decide_eq_false this v
end RS
set_option maxHeartbeats 4000000
namespace L2
open PySem PySem.Spec PyProof.Rows
variable {xs:List (List Key×Addr×Value)} {ge:Ds->Rs PyData} {G:List Addr->Ds->Sr}
def sR (CX:CXT) (P:Program) (w:World) (K:PySem.W.Frag) (mg:Str->Option Value) (base:Heap) (N:List Str) (qual:Str) (scope:Scope) (f:Addr) (cd:Value) (cl:List (Str×Addr)) (A:Around) (outer:List Env) (s:Shared) (H:Hp) (E:XK):Cx where
 prog:=P
 w:=w
 K:=K
 mg:=mg
 base:=base
 A:=A.deeper (PySem.W.envX qual scope s.heap.objs.size f cd cl)
 N:=N
 s₀:=s
 H₀:=H
 env:=PySem.W.envX qual scope s.heap.objs.size f cd cl
 outer:=outer
 stack:=PySem.W.envX qual scope s.heap.objs.size f cd cl::outer
 ex:=[]
 calm:=true
 fn:=λ_=>false
 pn:=[]
 xe:=λe s'=>wpAny (model P w) (A.deeper (PySem.W.envX qual scope s.heap.objs.size f cd cl)) (leaving (PySem.W.envX qual scope s.heap.objs.size f cd cl) e) (λ_ a=>CX outer H s E e a) (λb a=>CX outer H s E b a) s'
theorem sv {α:Type} {y:Str} {u:α}:∀{l:List (Str×α)},(l.map (·.1)).Nodup->(y,u)∈l->l.lookup y=some u
 |[],_,h=>by cases h
 |(z,w)::l,nd,h=>by
  rw[MN];rw[M5,MX]at nd;rcases M7.mp h with h|h
  ·cases h;simp
  ·have m:y∈l.map (·.1):=List.mem_map_of_mem (f:=(·.1)) h;have:y≠z:=λq=>nd.1 (by subst q;exact m)
   rw[show (y==z)=false by simpa using this];exact sv nd.2 h
theorem Be {y:Str} {u:α} {us:List α} (nd:ps.Nodup) (hl:us.length=ps.length) (h1:ps[i]?=some y) (h2:us[i]?=some u):(ps.zip us).reverse.lookup y=some u:=by
 refine sv ?_ ?_
 ·rw[List.map_reverse,List.map_fst_zip (by omega)];exact (List.reverse_perm ps).symm.nodup nd
 ·rw[List.mem_reverse];refine N0 (i:=i) ?_;rw[List.getElem?_zip_eq_some];exact⟨h1,h2⟩
structure lC (N ps:List Str) (sc:Scope):Prop where
 kind:sc.kind=.function
 co:sc.isCoroutine=false
 gen:sc.isGenerator=false
 nd:N.Nodup
 pre:N.take ps.length=ps
 par:∀x∈ps,sc.names.lookup x=some .local
 nocell:∀x∈sc.names,x.2≠.cell
structure IP (s:Shared) (H:Hp) (cl:List (Str×Addr)) (sc:Scope) (N:List Str) (n:Nat) (ws:List (Option V)):Prop where
 inj:∀x y c,cl.lookup x=some c->cl.lookup y=some c->x=y
 has:∀x,sc.names.lookup x=some .free->∃c,cl.lookup x=some c
 cell:∀x c,cl.lookup x=some c->∃v,s.heap.IsCell c v
 free:∀x c,cl.lookup x=some c->H c=none
 len:N.length=n+ws.length
 val:∀(i:Nat) (x:Str) (v:V),N[n+i]?=some x->ws[i]?=some (some v)->∃u c,RelV v u/\sc.names.lookup x=some .free/\cl.lookup x=some c/\s.heap.IsCell c (some u)
theorem E7 {A:Around} {E:XK} {h1:Heap} {tk:Nat}
  (S:lC N ps scope) (hd:A.handled=none) (g:uR P w K mg base A outer s H) (hl:vs.length=ps.length) (r:Vals vs us) (C:IP s H cl scope N ps.length ws)
  (t:h1.Ns s.heap.objs.size (λx=>(ps.zip us).reverse.lookup x)) (B:∀b o,s.heap.get? b=some o->h1.get? b=some o) :
  Inv (sR CX P w K mg base N qual scope f cd cl A outer s H E) [] (vs.map some++ws) H { s with heap:=h1,toks:=tk }:=by
 have j:∀b:Addr,b∉(sR CX P w K mg base N qual scope f cd cl A outer s H E).ex:=λb z=>absurd (show b∈([]:List Addr) from z) (by simp)
 have G:∀c v,s.heap.IsCell c v->h1.IsCell c v:=λc v q=>by obtain⟨o,e,d⟩:=q;exact⟨o,B _ _ e,d⟩
 refine⟨⟨g.mod,S.kind,rfl,rfl,Mu _,λy z c h1 h2=>C.inj y z c h1 h2,λy m=>?_,λy c z _=>(by cases z),λ_=>hd,Around.frames_deeper g.frames,.inr ⟨rfl,rfl⟩,λb z=>absurd z (j b),g.bs,g.bsz,λb _ _=>j b,λb z=>absurd z (j b),g.funs,g.frf⟩,
  rfl,g.bare,Un.kept B,⟨_,t,λi y v h1 h2 h3=>?_⟩,λy c h=>?_,g.hok.fresh (Mu _),λy c h=>C.free y c h,λp n=>absurd (show p∈([]:List (Addr×Obj)) from n) (by simp),g.hok.kept B,?_,g.tab⟩
 ·have m:scope.names.lookup y=some .cell\/scope.names.lookup y=some .free:=m;rcases m with m|m
  ·exact absurd rfl (S.nocell _ (PySem.mem_of_lookup m))
  ·exact C.has y m
 ·have h1:N[i]?=some y:=h1;by_cases hi:i<vs.length
  ·have ha:vs[i]?=some v:=by
    rw[ML (by simpa using hi),MA]at h2;cases e:vs[i]? with
    |none=>rw[e]at h2;cases h2
    |some a=>rw[e]at h2;cases h2;rfl
   obtain⟨u,I,D⟩:=r.get ha;have n:ps[i]?=some y:=by rw[<-S.pre,List.getElem?_take_of_lt (by omega)];exact h1
   have F:ps.Nodup:=by rw[<-S.pre];exact S.nd.sublist (List.take_sublist _ _)
   refine⟨u,D,.inl ⟨S.par y (N0 n),?_⟩⟩;exact Be F (by rw[<-r.length,hl]) n I
  ·rw[MO (by simpa using hi),M3]at h2;have e:N[ps.length+(i-vs.length)]?=some y:=by rw[<-hl,Nat.add_sub_cancel' (by omega)];exact h1
   obtain⟨u,c,D,k,l,q⟩:=C.val _ _ _ e h2;exact⟨u,D,.inr ⟨.inr k,c,l,G _ _ q⟩⟩
 ·obtain⟨v,q⟩:=C.cell y c h;exact⟨v,G _ _ q⟩
 ·show _=N.length;rw[Mv,M3,hl,C.len]
theorem GY {k:Nat} {name:Str} {c':Addr} {h:Value} {A:Around} {Q:VK} {E:XK} {t:TE}
  (S:lC N ps scope) (x:cw (k+1) A) (l:uR P w K mg base A outer s H) (hl:vs.length=ps.length) (r:Vals vs us) (C:IP s H cl scope N ps.length ws)
  (z:s.heap.get? f=some (PySem.W.kla_obj name qual params body scope cl pm c' h)) (m:s.heap.CodeRec (.ref c') qual)
  (B:bindArgs (PySem.W.kla_fn name qual params body scope cl pm (.ref c') h) ⟨us,[]⟩=pure (ps.zip us))
  (c:PE (sR CX P w K mg base N qual scope f (.ref c') cl A outer s H E) body t) (D:t (vs.map some++ws) H Q) :
  codeAny (model P w) A (.call (.ref f) ⟨us,[]⟩) (CR CX outer P w H s Q E) s:=by
 have lim:s.heap.NoLimit:=l.mod.nolimit.keeps λb o e=>(l.bs b o e).1
 refine PySem.W.kla_callFunE x.depth z rfl S.co S.gen rfl m ?_;rw[B];refine wpAny_pure (wpAny_newFunctionEnv S.nocell (λy F=>S.par y.1 (NX (a:=y.1) (b:=y.2) F).1) (λi n j=>⟨lim.fresh _ j,?_⟩) S.kind);have g:∀b o,s.heap.get? b=some o->i.get? b=some o:=λb o e=>j.extBut b o (MB (Mx e)) (M0 _ e)
 have I:=E7 (CX:=CX) (qual:=qual) (f:=f) (cd:=.ref c') (E:=E) (tk:=s.toks+(ps.zip us).length) S x.hd l hl r C n g;exact PySem.W.kla_codeExpr (wpAny_mono (c [] _ _ H Q I D) (λu s' p=>(by obtain⟨v,H',J,G,q⟩:=p;exact⟨v,H',J.os,J.bare,J.base,J.hok,G,q⟩)) λ_ _ y=>y)
structure Eg (X:Cx) (c P:Addr):Prop where
 tab:TabOf X.K P (X.env.qual++"<lambda>")
 code:X.env.code=.ref c
 hd:PySem.W.CodeHd X.base c P
 bl:∃bm o,X.mg "__builtins__"=some (.ref bm)/\bm≠builtinsNs/\bm≠mainGlobals/\X.base.get? bm=some o/\o.cls=.type "module"/\o.dict=some builtinsNs/\o.data=.plain
theorem lV {a b:Int} {t u:Nat} {c:Value}:∀{l:List Value},TriplesOk l->TriplesOk (l++[.int a t,.int b u,c])
 |[],_=>by simp[TriplesOk]
 |[_],h=>by simp[TriplesOk]at h
 |[x,y],h=>by cases x <;> cases y <;> (unfold TriplesOk at h;exact h.elim)
 |x::y::z::r,h=>by
  cases x <;> first|(unfold TriplesOk at h;exact h.elim)|skip
  cases y <;> first|(unfold TriplesOk at h;exact h.elim)|skip
  unfold TriplesOk at h;show TriplesOk (_::_::_::(r++_));unfold TriplesOk;exact lV h
theorem pC {pos:Pos} {a b:Int} {t u:Nat} {c f:Value}:∀{l:List Value},TriplesOk l->codeAmong pos (l++[.int a t,.int b u,c])=some f->codeAmong pos l=some f\/f=c
 |[],_,e=>by
  simp only[MS,codeAmong]at e;split at e
  ·cases e;exact .inr rfl
  ·cases e
 |[_],h,_=>by simp[TriplesOk]at h
 |[x,y],h,_=>by cases x <;> cases y <;> (unfold TriplesOk at h;exact h.elim)
 |x::y::z::r,h,e=>by
  cases x <;> first|(unfold TriplesOk at h;exact h.elim)|skip
  cases y <;> first|(unfold TriplesOk at h;exact h.elim)|skip
  unfold TriplesOk at h;simp only[MU,codeAmong]at e ⊢;split at e
  ·rename_i q;rw[if_pos q];exact .inl e
  ·rename_i q;rw[if_neg q];exact pC h e
def LO (qual:Str) (mk:Addr->Value->Obj):TE:=λ_ H Q=>∀f c' a H',H f=none->H' f=some (.frz (mk c' a) (.own f))->ax H H' ->
 (∃o vs t,H' c'=some (.frz o (.own c'))/\o.data=.fields vs/\vs[1]?=some (.str qual t))->Q (.ref f) H'
theorem HQ {P:Addr} {g:List (Str×Addr)} (T:Eg X c P) (x:closureFor scope X.env=pure g) (A:defaultsOf params X.env=([],[]):=by rfl) :
  PE X (.Lambda params body scope pos) (LO (X.env.qual++"<lambda>") λc' f=>PySem.W.kla_obj "<lambda>" (X.env.qual++"<lambda>") params body scope g ((X.mg "__name__").getD .none) c' f):=by
 intro pins s σ H Q I h;have i:=I.tab P _ T.tab;obtain⟨ps,B,L,hc⟩:=I.hok P _ i;obtain⟨bm,ob,b1,b2,b3,R,b5,b6,b7⟩:=T.bl;have S:∀b o,X.base.get? b=some o->b≠P:=λb o e z=>by have:=(I.bs b o e).2;rw[z,i]at this;cases this
 have C:s.heap.BuiltinsAt X.mg P:=⟨bm,ob,b1,b2,b3,S _ _ R,I.bk _ _ R,b5,b6,b7⟩
 have U:s.heap.Ns mainGlobals X.mg:=I.mod.glob.keeps I.bk;have M:mainGlobals≠P:=by obtain⟨o,es,Y,e,_⟩:=I.mod.glob;exact S _ _ e
 have Z:=T.hd.keeps I.bk;have fin:∀{H1:Hp} {h1:Heap} {tk:Nat} {o:Obj},Inv X pins σ H1 { s with heap:=h1,toks:=tk }->o.isFreed=false->Inv X pins σ (upd H1 h1.objs.size (.frz o (.own h1.objs.size))) { s with heap:=h1.push o,toks:=tk }:=λ{H1 h1 tk o} J j =>
  J.laid (h':=h1.push o) (t':=tk) (λb u q=>M0 _ q) (Mu _) ⟨Mz _ j,o,Mz _ j⟩
 refine PySem.W.kla_eval A ?_;cases hf:codeAmong pos ps.toList with
 |some N =>
  obtain⟨c',o,vs,t,rfl,D,d1,d2⟩:=hc pos N hf;refine PySem.W.kla_makeFunctionHit (mg:=X.mg) x I.ok.glob U T.code Z B L hf C λf h' tk hk hsz=>?_
  have n:H h'.objs.size=none:=I.hok.fresh hsz;exact⟨.ref _,_,fin (I.kept (h':=h') (t':=tk) hk) rfl,rfl,h _ c' f _ n aH (hU n) ⟨o,vs,t,by rw[aA (aK D n)];exact D,d1,d2⟩⟩
 |none =>
  refine PySem.W.kla_makeFunction (mg:=X.mg) x I.ok.glob U T.code Z B L hf M C λc' f h' tk E l O F G=>?_
  obtain⟨c₂,oc,vs,t,e2,K,hd,hv⟩:=F;cases e2;have hn:H c'=none:=I.hok.fresh l;have cP:c'≠P:=λz=>by rw[z,i]at hn;cases hn
  have a:∀b u,H b=some u->b≠c':=λb u e z=>by rw[z,hn]at e;cases e
  have J:Inv X pins σ (upd H c' (.frz oc (.own c'))) { s with heap:=h',toks:=tk }:=by
   refine I.step (g':=s.gens) (d':=s.drawn) (ch:=[]) (λ_ z=>nomatch z) (λb o _ _ _ e n=>?_) (λb o _ _ _ e n=>⟨o.slots,?_⟩) (λb o _ e n=>?_) (λb o _ e=>?_) (λb xs e=>?_) (λb o u e=>?_) (λb qs e=>?_) (λm hm=>?_) (λb u e=>?_) I.bare
   ·exact E b o (λz=>by rw[z,i]at n;cases n) e
   ·exact E b o (λz=>by rw[z,i]at n;cases n) e
   ·rw[aA (MB (ME (Mx e) l))];exact n
   ·by_cases z:b=P
    ·subst z;exact⟨_,G⟩
    ·exact⟨o,E b o z e⟩
   ·rw[aA (a b _ e)];exact e
   ·rw[aA (a b _ e)];exact e
   ·rw[aA (a b _ e)];exact e
   ·obtain⟨o,es,Y,ho,r⟩:=hm;refine⟨o,es,Y,E _ o (λz=>?_) ho,r⟩;have:=I.free;rw[z,i]at this;cases this
   ·by_cases z:b=c'
    ·subst z;rw[aH]at e;cases e;exact⟨K,oc,K⟩
    ·rw[aA z]at e;by_cases y:b=P
     ·subst y;rw[i]at e;cases e;refine⟨ps++#[rawInt pos.line,rawInt pos.col,.ref c'],G,?_,λpos' N e=>?_⟩
      ·rw[Array.toList_append];exact lV L
      ·rw[Array.toList_append]at e;rcases pC L e with e|rfl
       ·obtain⟨c2,o,vs,t,rfl,q,d⟩:=hc pos' N e;exact⟨c2,o,vs,t,rfl,by rw[aA (a _ _ q)];exact q,d⟩
       ·exact⟨c',oc,vs,t,rfl,aH,hd,hv⟩
     ·refine (I.hok b u e).stay (λp v w q=>E p v (λy'=>?_) q) (λp q=>?_) (λp xs q=>?_) λp o' u' q=>?_
      ·subst y';rcases w with w|w
       ·exact y w.symm
       ·rw[i]at w;cases w
      ·rw[aA (a p _ q)];exact q
      ·rw[aA (a p _ q)];exact q
      ·rw[aA (a p _ q)];exact q
  have n:upd H c' (.frz oc (.own c')) h'.objs.size=none:=J.hok.fresh (Mu _);have n0:H h'.objs.size=none:=I.hok.fresh (Nc l (Ot O));exact⟨.ref _,_,fin J rfl,rfl,h _ c' f _ n0 aH ((hU hn).trans (hU n)) ⟨oc,vs,t,by rw[aA (aK aH n)];exact aH,hd,hv⟩⟩
abbrev Cx.in1 (X:Cx):Cx:={ X with A:=X.A.in1 }
section
theorem Inv.in1 (I:Inv X pins σ H s):Inv X.in1 pins σ H s :=
 ⟨⟨I.ok.mod,I.ok.kind,I.ok.glob,I.ok.blt,I.ok.above,I.ok.inj,I.ok.has,I.ok.cab,I.ok.hd,I.ok.frames,I.ok.stk,I.ok.exf,I.ok.bs,I.ok.bsz,I.ok.noex,I.ok.exfs,I.ok.funs,I.ok.frf⟩,I.os,I.bare,I.base,I.loc,I.cell,I.free,I.freeC,I.pin,I.hok,I.len,I.tab⟩
theorem Inv.of1 (I:Inv X.in1 pins σ H s):Inv X pins σ H s :=
 ⟨⟨I.ok.mod,I.ok.kind,I.ok.glob,I.ok.blt,I.ok.above,I.ok.inj,I.ok.has,I.ok.cab,I.ok.hd,I.ok.frames,I.ok.stk,I.ok.exf,I.ok.bs,I.ok.bsz,I.ok.noex,I.ok.exfs,I.ok.funs,I.ok.frf⟩,I.os,I.bare,I.base,I.loc,I.cell,I.free,I.freeC,I.pin,I.hok,I.len,I.tab⟩
end
def bst (lt:Nat->Nat->Bool):Nat->Nat
 |0=>0
 |j+1=>if lt (j+1) (bst lt j) then j+1 else bst lt j
theorem pR (lt:Nat->Nat->Bool):∀j,bst lt j<=j
 |0=>Mu _
 |j+1=>by
  unfold bst;split
  ·exact Mu _
  ·exact Nat.le_succ_of_le (pR lt j)
structure lX (X:Cx) (σ:St) (pins:List (Addr×Obj)) (q l:Addr) (xs:List V) (Φ:Hp->Prop) (κ:Nat->V->Hp->Prop) (lt:Nat->Nat->Bool):Prop where
 lst:∀H,Φ H->H l=some (.lst xs)
 turn:∀(i:Nat) (x:V),xs[i]?=some x->∀(pins':List (Addr×Obj)) (H:Hp) (s:Shared) (u:Value),(∀p∈pins,p∈pins')->Inv X.in1 pins' σ H s->Φ H->RelV x u ->
  wpAny (model X.prog X.w) X.A.in1 (call (.ref q) [u]) (EP X.in1 pins' σ λv H'=>Φ H'/\κ i v H'/\∀j v',κ j v' H->κ j v' H') (λ_ _=>False) s
 cmp:∀(i j:Nat) (x y:V) (pins':List (Addr×Obj)) (H:Hp) (s:Shared) (u v:Value),Inv X.in1 pins' σ H s->Φ H->κ i x H->κ j y H->RelV x u->RelV y v ->
  wpAny (model X.prog X.w) X.A.in1 (richCompare .Lt u v) (λr s'=>r=.bool (lt i j)/\Inv X.in1 pins' σ H s') (λ_ _=>False) s
section
variable {q l:Addr} {xs:List V} {Φ:Hp->Prop} {lt:Nat->Nat->Bool} {R:Result->Shared->Prop}
theorem Inv.turnPin {ps:List (Addr×Obj)} {o o':Obj} {t':Nat} (I:Inv X ((it,o)::ps) σ H s) (k:∀b u,b≠it->s.heap.get? b=some u->h'.get? b=some u) (f:h'.get? it=some o')
  (h1:X.s₀.heap.objs.size<=it) (g:∀p∈X.pn++ps,p.1≠it) (hc:∀v,o'.data≠.cell v):Inv X ((it,o')::ps) σ H { s with heap:=h',toks:=t' }:=by
 obtain⟨e,n,ne,h,d⟩:=I.pin (it,o) (Mt _ (.head _));have i:Inv X ps σ H s:=I.pins_of λp a=>I.pin p (Mt _ (.tail _ a))
 have J:Inv X ps σ H { s with heap:=h',toks:=t' }:=i.turned k n ne (.inr h1) (λx c hl z=>by obtain⟨v,o2,e2,d2⟩:=I.cell x c hl;subst z;rw[e]at e2;cases e2;exact d v d2) g
 refine J.pins_of λp a=>?_
 rcases M7.mp a with rfl|a
 ·exact⟨f,n,ne,h,hc⟩
 ·exact J.pin p (Mt _ a)
theorem Inv.swap {ps:List (Addr×Obj)} {a b:Addr×Obj} (I:Inv X (a::b::ps) σ H s):Inv X (b::a::ps) σ H s:=I.pins_of λp c=>I.pin p (Mt _ (by
 rcases M7.mp c with rfl|c
 ·exact .tail _ (.head _)
 ·rcases M7.mp c with rfl|c
  ·exact .head _
  ·exact .tail _ (.tail _ c)))
theorem FJ (KK:lX X σ pins q l xs Φ κ lt) (hh:X.A.handled=none)
  (hR:∀H' s' x u,xs[bst lt (xs.length-1)]?=some x->RelV x u->Inv X pins σ H' s'->Φ H'->R (.ok (.ret u)) s') :
  ∀(r j:Nat) (H:Hp) (s:Shared) (h g:Value) (xb kb:V) (c:Nat) (It S:Addr) (E:Obj),xs.length-(j+1)=r->j+1<=xs.length->X.s₀.heap.objs.size<=It->X.s₀.heap.objs.size<=S->S≠It ->
   (∀p∈X.pn++pins,p.1≠It)->(∀p∈X.pn++pins,p.1≠S) ->
   Inv X.in1 ((S,seqObj "list" #[h,g] c)::(It,E)::pins) σ H s->E.cls=.type "list_iterator"->E.data=.fields #[.ref l,.int ((j+1:Nat):Int) 0]->Φ H->xs[bst lt j]?=some xb->RelV xb h->κ (bst lt j) kb H->RelV kb g ->
   codeAny (model X.prog X.w) X.A (.builtin "min.loop" ⟨[.ref It,.ref q,.ref S],[]⟩) R s:=by
 have y:(toString "min"++toString ".loop":String)="min.loop":=by decide
 intro r
 induction r with
 |zero =>
  intro j H s h g xb kb c It S E hr hj zI zS i N nS I O P B hb rb Q rk;have hin:j+1=xs.length:=by omega
  have pS:=I.pin (S,seqObj "list" #[h,g] c) (Mt _ (.head _));have G:=I.pin (It,E) (Mt _ (.tail _ (.head _)));have hl:=KK.lst H B;obtain⟨m,n,rv,eL,_⟩:=I.lst hl;have T:l≠It:=aK hl G.2.1;have hsz:m.toArray.size=xs.length:=by rw[My,<-rv.length]
  have W:=Walks.list (prog:=X.prog) (w:=X.w) (A:=X.A.in1) hh It l T m.toArray;refine codeAny_builtin PySem.F.entry_min_loop ?_;rw[Around.under_plainId PySem.F.plain_min_loop _];show wpAny _ X.A.in1 (seqItems? (.ref S) >>= _) _ _ _;refine wpAny_bind (wpAny_seqItems pS.1 rfl ?_);show wpAny _ X.A.in1 (tryCatch (pyNext (.ref It)) _ >>= _) _ _ _;refine wpAny_bind (wpAny_tryCatch (W.done _ _ _ ⟨by rw[hsz,<-hin];exact⟨E,G.1,O,P⟩,⟨_,eL,rfl,n,rfl⟩⟩ λh' t U=>?_));have I1:Inv X.in1 ((S,seqObj "list" #[h,g] c)::pins) σ H { s with heap:=h',toks:=t }:=by
   have I0:Inv X.in1 ((S,seqObj "list" #[h,g] c)::pins) σ H s:=I.pins_of λp a=>I.pin p (Mt _ (by
    rcases M7.mp a with rfl|a
    ·exact .head _
    ·exact .tail _ (.tail _ a)))
   refine I0.turned (λb o Y e=>U b o (by simpa using Y) e) G.2.1 G.2.2.1 (.inr zI) (λx cc Z z=>?_) λp a=>?_
   ·obtain⟨v,o2,e2,d2⟩:=I.cell x cc Z;subst z;rw[G.1]at e2;cases e2;exact G.2.2.2.2 v d2
   ·rcases MM.mp a with a|a
    ·exact N p (MW _ a)
    ·rcases M7.mp a with rfl|a
     ·exact i
     ·exact N p (Mt _ a)
  have C:=I1.pin (S,seqObj "list" #[h,g] c) (Mt _ (.head _));have s1:=Heap.SameBut.update h' S (Obj.mapSeq λ_=>(#[]:Array Value));show wpAny _ X.A.in1 (updateSeq S (λ_=>#[]) >>= _) _ _ _;refine wpAny_bind ?_;refine wpAny_updateSeq C.1 rfl (wpAny_bind (wpAny_letGo (wpAny_pure ?_)));have I2:Inv X.in1 pins σ H { s with heap:=h'.update S (Obj.mapSeq λ_=>(#[]:Array Value)),toks:=t }:=by
   have I0:Inv X.in1 pins σ H { s with heap:=h',toks:=t }:=I1.pins_of λp a=>I1.pin p (Mt _ (.tail _ a))
   refine I0.turned (h':=h'.update S (Obj.mapSeq λ_=>(#[]:Array Value))) (t':=t) (λb o Y e=>(s1.2 b Y).trans e) C.2.1 C.2.2.1 (.inr zS) (λx cc Z z=>?_) nS;obtain⟨v,o2,e2,d2⟩:=I1.cell x cc Z;subst z;rw[C.1]at e2;cases e2;exact C.2.2.2.2 v d2
  exact hR H _ xb h (by rw[<-hin];exact hb) rb I2.of1 B
 |succ r ih =>
  intro j H s h g xb kb c It S E hr hj zI zS i N nS I O P B hb rb Q rk;have K:j+1<xs.length:=by omega
  have pS:=I.pin (S,seqObj "list" #[h,g] c) (Mt _ (.head _));have G:=I.pin (It,E) (Mt _ (.tail _ (.head _)));have hl:=KK.lst H B;obtain⟨m,n,rv,eL,_⟩:=I.lst hl;have T:l≠It:=aK hl G.2.1;have hsz:m.toArray.size=xs.length:=by rw[My,<-rv.length]
  have W:=Walks.list (prog:=X.prog) (w:=X.w) (A:=X.A.in1) hh It l T m.toArray;refine codeAny_builtin PySem.F.entry_min_loop ?_;rw[Around.under_plainId PySem.F.plain_min_loop _];show wpAny _ X.A.in1 (seqItems? (.ref S) >>= _) _ _ _;refine wpAny_bind (wpAny_seqItems pS.1 rfl ?_);show wpAny _ X.A.in1 (tryCatch (pyNext (.ref It)) _ >>= _) _ _ _;refine wpAny_bind (wpAny_tryCatch (W.item (j+1) _ _ _ (by rw[hsz];exact K) ⟨⟨E,G.1,O,P⟩,⟨_,eL,rfl,n,rfl⟩⟩ λv h' t hP hst' U=>?_));have hv:m[j+1]?=some v:=by simpa using hP
  obtain⟨x,hx⟩:∃x,xs[j+1]?=some x:=⟨_,M1 K⟩
  obtain⟨v',hv',rx⟩:=rv.get hx;rw[hv]at hv';cases hv';obtain⟨L,hoI',hoc,hod⟩:=id hst'.1;have J:Inv X.in1 ((It,L)::(S,seqObj "list" #[h,g] c)::pins) σ H { s with heap:=h',toks:=t } :=
   I.swap.turnPin (λb o Y e=>U b o (by simpa using Y) e) hoI' zI (λp a=>by
    rcases MM.mp a with a|a
    ·exact N p (MW _ a)
    ·rcases M7.mp a with rfl|a
     ·exact i
     ·exact N p (Mt _ a)) λvv z=>by rw[hod]at z;cases z
  show wpAny _ X.A.in1 (tryCatch (holding [v] (call (.ref q) [v])) _ >>= _) _ _ _;refine wpAny_bind (wpAny_tryCatch (wpAny_holding (wpAny_mono (KK.turn (j+1) x hx _ H _ v (λp a=>.tail _ (.tail _ a)) J B rx) (λf s2 he=>?_) λ_ _ hF=>hF.elim)));obtain⟨kv,H2,J2,rk2,D,M,hst⟩:=he;show wpAny _ X.A.in1 (tryCatch (holding [v,f] (richCompare .Lt f g >>= _)) _ >>= _) _ _ _;refine wpAny_bind (wpAny_tryCatch (wpAny_holding (wpAny_bind (wpAny_mono (KK.cmp (j+1) (bst lt j) kv kb _ H2 s2 f g J2 D M (hst _ _ Q) rk2 rk) (λrr s3 hc3=>?_) λ_ _ hF=>hF.elim))));obtain⟨rfl,J3⟩:=hc3;refine wpAny_bind (wpAny_holding (wpAny_truthy_bool ?_));refine wpAny_bind (wpAny_letGo (wpAny_pure ?_));have pS3:=J3.pin (S,seqObj "list" #[h,g] c) (Mt _ (.tail _ (.head _)));cases hb':lt (j+1) (bst lt j) with
  |true =>
   have s1:=Heap.SameBut.update s3.heap S (Obj.mapSeq λ_=>#[v,f]);obtain⟨c2,hc2⟩:∃c2,(s3.heap.update S (Obj.mapSeq λ_=>#[v,f])).get? S=some (seqObj "list" #[v,f] c2):=⟨_,get?_update_seq pS3.1 λ_=>#[v,f]⟩
   simp only[if_true];refine wpAny_bind ?_;refine wpAny_updateSeq pS3.1 rfl (wpAny_bind (wpAny_letGo ?_));rw[y];have J4:Inv X.in1 ((S,seqObj "list" #[v,f] c2)::(It,L)::pins) σ H2 { s3 with heap:=s3.heap.update S (Obj.mapSeq λ_=>#[v,f]),toks:=s3.toks } :=
    J3.swap.turnPin (λb o Y e=>(s1.2 b Y).trans e) hc2 zS (λp a=>by
     rcases MM.mp a with a|a
     ·exact nS p (MW _ a)
     ·rcases M7.mp a with rfl|a
      ·exact i.symm
      ·exact nS p (Mt _ a)) λvv z=>by cases z
   have eb:bst lt (j+1)=j+1:=by unfold bst;rw[if_pos hb']
   exact wpAny_pure ⟨plainId_quiet PySem.F.plain_min_loop _,ih (j+1) H2 _ v f x kv c2 It S L (by omega) K zI zS i N nS J4 hoc hod D (by rw[eb];exact hx) rx (by rw[eb];exact M) rk2⟩
  |false =>
   simp only[MJ,if_false];refine wpAny_bind (wpAny_letGo ?_);rw[y];have eb:bst lt (j+1)=bst lt j:=by rw[bst,if_neg (by rw[hb'];decide)]
   exact wpAny_pure ⟨plainId_quiet PySem.F.plain_min_loop _,ih (j+1) H2 _ h g xb kb c It S L (by omega) K zI zS i N nS J3.swap hoc hod D (by rw[eb];exact hb) rb (by rw[eb];exact hst _ _ Q) rk⟩
theorem HW (KK:lX X σ pins q l xs Φ κ lt) (hh:X.A.handled=none) (I:Inv X pins σ H s) (t:Φ H) (h:0<xs.length)
  (hQ:∀H' s' x u,xs[bst lt (xs.length-1)]?=some x->RelV x u->Inv X pins σ H' s'->Φ H'->Q u s') :
  wpAny (model X.prog X.w) X.A (call (.builtin "min") [.ref l] [(Str.ofString "key",.ref q)]) Q E s:=by
 have f:(toString "min"++toString ".loop":String)="min.loop":=by decide
 have hl:=KK.lst H t;obtain⟨g,n,rv,O,_⟩:=I.lst hl;have P:s.heap.IsList l g.toArray:=⟨_,O,rfl,n,rfl⟩
 refine kmk_tree PySem.F.kind_min PySem.F.plain_min PySem.F.entry_min (kmk_min_key _ _) ?_;show wpAny _ X.A.in1 (Builtin.Builtins.bindParams "min" ["key", "default"] 0 ⟨[],[(Str.ofString "key",.ref q)]⟩ >>= _) _ _ s;refine wpAny_bind (wpAny_of_eq (show Builtin.Builtins.bindParams "min" ["key", "default"] 0 ⟨[],[(Str.ofString "key",.ref q)]⟩=pure [some (.ref q),none] from rfl) ?_);refine wpAny_bind (wpAny_pure ?_);refine wpAny_bind (wpAny_pyIter_list P ?_);refine wpAny_bind (wpAny_newList ?_ (Nd _));rw[f];have R:(s.heap.push { cls:=.type "list_iterator",data:=.fields #[.ref l,.int 0 0] }).objs.size=s.heap.objs.size+1:=size_push' ..;have T:l<s.heap.objs.size:=Mx O;have U:l≠s.heap.objs.size:=MB T;have i:(s.heap.push { cls:=.type "list_iterator",data:=.fields #[.ref l,.int 0 0] }).objs.size≠s.heap.objs.size:=by rw[R];exact Ng (Ny _)
 have Y:∀p∈X.pn++pins,p.1≠s.heap.objs.size:=λp a=>MB (Mx (I.pin p a).1)
 have Z:∀p∈X.pn++pins,p.1≠(s.heap.push { cls:=.type "list_iterator",data:=.fields #[.ref l,.int 0 0] }).objs.size:=λp a=>by rw[R];exact MB (Nf (Mx (I.pin p a).1))
 refine wpAny_pure ⟨plainId_quiet PySem.F.plain_min_loop _,?_⟩;have gI:((s.heap.push { cls:=.type "list_iterator",data:=.fields #[.ref l,.int 0 0] }).push (seqObj "list" #[] 0)).get? s.heap.objs.size=some { cls:=.type "list_iterator",data:=.fields #[.ref l,.int 0 0] } :=
  M0 _ (Mz _ rfl)
 have gS:((s.heap.push { cls:=.type "list_iterator",data:=.fields #[.ref l,.int 0 0] }).push (seqObj "list" #[] 0)).get? (s.heap.push { cls:=.type "list_iterator",data:=.fields #[.ref l,.int 0 0] }).objs.size=some (seqObj "list" #[] 0):=Mz _ rfl;have zI:X.s₀.heap.objs.size<=s.heap.objs.size:=I.sz;have zS:X.s₀.heap.objs.size<=(s.heap.push { cls:=.type "list_iterator",data:=.fields #[.ref l,.int 0 0] }).objs.size:=by rw[R];exact Nat.le_succ_of_le zI
 generalize eSa:(s.heap.push { cls:=.type "list_iterator",data:=.fields #[.ref l,.int 0 0] }).objs.size=S at *;generalize eIa:s.heap.objs.size=It at *;have I0:Inv X.in1 pins σ H { s with heap:=(s.heap.push { cls:=.type "list_iterator",data:=.fields #[.ref l,.int 0 0] }).push (seqObj "list" #[] 0),toks:=s.toks }:=I.in1.kept λb u e=>M0 _ (M0 _ e)
 have j:s.heap.objs.size<=It:=Nat.le_of_eq eIa;have m:s.heap.objs.size<=S:=by omega
 have I1:Inv X.in1 ((S,seqObj "list" #[] 0)::(It,{ cls:=.type "list_iterator",data:=.fields #[.ref l,.int 0 0] })::pins) σ H { s with heap:=(s.heap.push { cls:=.type "list_iterator",data:=.fields #[.ref l,.int 0 0] }).push (seqObj "list" #[] 0),toks:=s.toks }:=by
  refine I0.pins_of λp a=>?_
  rcases M7.mp a with rfl|a
  ·exact⟨gS,I.hok.fresh m,Ng (ME I.lt m),I.nofs m,λv z=>by cases z⟩
  ·rcases M7.mp a with rfl|a
   ·exact⟨gI,I.hok.fresh j,Ng (ME I.lt j),I.nofs j,λv z=>by cases z⟩
   ·exact I0.pin p (Mt _ a)
 have hsz:g.toArray.size=xs.length:=by rw[My,<-rv.length]
 have W:=Walks.list (prog:=X.prog) (w:=X.w) (A:=X.A.in1) hh It l U g.toArray;refine codeAny_builtin PySem.F.entry_min_loop ?_;rw[Around.under_plainId PySem.F.plain_min_loop _];show wpAny _ X.A.in1 (seqItems? (.ref _) >>= _) _ _ _;refine wpAny_bind (wpAny_seqItems gS rfl ?_);show wpAny _ X.A.in1 (tryCatch (pyNext (.ref It)) _ >>= _) _ _ _;refine wpAny_bind (wpAny_tryCatch (W.item 0 _ _ _ (by rw[hsz];exact h) ⟨⟨_,gI,rfl,rfl⟩,⟨_,M0 _ (M0 _ O),rfl,n,rfl⟩⟩ λv h' tk' hP y hk'=>?_));have hv:g[0]?=some v:=by simpa using hP
 obtain⟨x,B⟩:∃x,xs[0]?=some x:=⟨_,M1 h⟩
 obtain⟨v',C,rx⟩:=rv.get B;rw[hv]at C;cases C;obtain⟨r,D,hoc,G⟩:=id y.1;have J:Inv X.in1 ((It,r)::(S,seqObj "list" #[] 0)::pins) σ H { s with heap:=h',toks:=tk' } :=
  I1.swap.turnPin (λb o nb e=>hk' b o (by simpa using nb) e) D zI (λp a=>by
   rcases MM.mp a with a|a
   ·exact Y p (MW _ a)
   ·rcases M7.mp a with rfl|a
    ·exact i
    ·exact Y p (Mt _ a)) λvv z=>by rw[G]at z;cases z
 show wpAny _ X.A.in1 (tryCatch (holding [v] (call (.ref q) [v])) _ >>= _) _ _ _;refine wpAny_bind (wpAny_tryCatch (wpAny_holding (wpAny_mono (KK.turn 0 x B _ H _ v (λp a=>.tail _ (.tail _ a)) J t rx) (λc s2 he=>?_) λ_ _ hF=>hF.elim)));obtain⟨kv,H2,J2,rk2,K,L,_⟩:=he;have M:=J2.pin (S,seqObj "list" #[] 0) (Mt _ (.tail _ (.head _)));have s1:=Heap.SameBut.update s2.heap S (Obj.mapSeq λ_=>#[v,c]);obtain⟨N,hc2⟩:∃N,(s2.heap.update S (Obj.mapSeq λ_=>#[v,c])).get? S=some (seqObj "list" #[v,c] N):=⟨_,get?_update_seq M.1 λ_=>#[v,c]⟩
 show wpAny _ X.A.in1 (updateSeq S (λ_=>#[v,c]) >>= _) _ _ _;refine wpAny_bind ?_;refine wpAny_updateSeq M.1 rfl ?_;rw[f];have J4:Inv X.in1 ((S,seqObj "list" #[v,c] N)::(It,r)::pins) σ H2 { s2 with heap:=s2.heap.update S (Obj.mapSeq λ_=>#[v,c]),toks:=s2.toks } :=
  J2.swap.turnPin (λb o nb e=>(s1.2 b nb).trans e) hc2 zS (λp a=>by
   rcases MM.mp a with a|a
   ·exact Z p (MW _ a)
   ·rcases M7.mp a with rfl|a
    ·exact i.symm
    ·exact Z p (Mt _ a)) λvv z=>by cases z
 exact wpAny_pure ⟨plainId_quiet PySem.F.plain_min_loop _,FJ KK hh (λH' s' x u B ru J a=>hQ H' s' x u B ru J a) _ 0 H2 _ v c x kv N It S r rfl h zI zS i Y Z J4 hoc G K B rx L rk2⟩
end
theorem lX.more {q l:Addr} {xs:List V} {Φ:Hp->Prop} {lt:Nat->Nat->Bool} (K:lX X σ [] q l xs Φ κ lt):lX X σ pins q l xs Φ κ lt :=
 ⟨K.lst,λi x a pins' H s u _=>K.turn i x a pins' H s u (λ_ h=>nomatch h),K.cmp⟩
def Gi (X:Cx) (ta tb:TE):TE:=λσ H Q=>ta σ H λx H1=>tb σ H1 λy H2=>∃(l q:Addr) (xs:List V) (Φ:Hp->Prop) (κ:Nat->V->Hp->Prop) (lt:Nat->Nat->Bool),x=.ref l/\y=.ref q/\0<xs.length/\Φ H2/\lX X σ [] q l xs Φ κ lt /\
 ∀a v,Φ a->xs[bst lt (xs.length-1)]?=some v->Q v a
section
variable {a b:Expr} {ta tb:TE}
theorem BW (hc:X.calm=true) (hm:X.mg "min"=none) (ha:PE X a ta) (j:PE X b tb) (m:Gl X "min":=by rfl) (f:starEach [a] X.env=[(false,eval a X.env)]:=by rfl) (wk:∀{σ H} {Q c:VK},ta σ H Q->(∀x H,Q x H->c x H)->ta σ H c) (g:∀{σ H} {Q c:VK},tb σ H Q->(∀x H,Q x H->c x H)->tb σ H c) :
  PE X (.Call (.Name "min" p) [a] [⟨some "key",b,kp⟩] pos) (Gi X ta tb):=by
 intro pins s σ H Q I h;refine wpAny_Call_Name_kw (gp I m hm Fb ?_ (by decide) (by decide));refine callWith_kw ?_ (by rw[f];rfl) (by rw[f];rfl) rfl rfl;refine thn ((ej ha f9 f) pos pins s σ H (λvs H1=>∃x,vs=[x]/\tb σ H1 λy H2=>∃(l q:Addr) (xs:List V) (Φ:Hp->Prop) (κ:Nat->V->Hp->Prop) (lt:Nat->Nat->Bool),x=.ref l/\y=.ref q/\0<xs.length/\Φ H2/\lX X σ [] q l xs Φ κ lt /\
   ∀e v,Φ e->xs[bst lt (xs.length-1)]?=some v->Q v e) I
  (wk h λx H1 q=>⟨x,rfl,q⟩)) λus s1 ⟨vs,H1,I1,r1,x,q0,q1⟩=>?_
 subst q0;obtain⟨u,rfl,i⟩:=vals1 r1;refine thn ((yZ j C5) pos pins s1 σ H1 (λvs H2=>∃y,vs=[y]/\∃(l q:Addr) (xs:List V) (Φ:Hp->Prop) (κ:Nat->V->Hp->Prop) (lt:Nat->Nat->Bool),x=.ref l/\y=.ref q/\0<xs.length/\Φ H2/\lX X σ [] q l xs Φ κ lt /\
   ∀e v,Φ e->xs[bst lt (xs.length-1)]?=some v->Q v e) I1
  (g q1 λy H2 q=>⟨y,rfl,q⟩)) λws s2 ⟨zs,H2,I2,r2,y,q2,l,q,xs,Φ,κ,lt,ex,ey,hn,hΦ,KK,hQ⟩=>?_
 subst q2;obtain⟨v,rfl,n⟩:=vals1 r2;subst ex ey;obtain rfl:u=Value.ref l:=i;obtain rfl:v=Value.ref q:=n;exact HW KK.more (I2.ok.hd hc) I2 hΦ hn λH' s' x u o i J r=>⟨x,H',J,i,hQ H' x r o⟩
theorem AE {q l c':Addr} {xs:List V} {Φ:Hp->Prop} {lt:Nat->Nat->Bool} {k:Nat} {p:Str} {n:Value} {t:TE}
  (S:lC N [p] scope) (T:cw (k+2) X.A) (f:∀x c,cl.lookup x=some c->X.env.cells.lookup x=some c) (has:∀x,scope.names.lookup x=some .free->∃c,cl.lookup x=some c) (U:N.length=1+cap.length)
  (B:∀(i m:Nat) (x:Str),N[1+i]?=some x->cap[i]?=some m->X.N[m]?=some x/\scope.names.lookup x=some .free/\(X.env.kindOf x=some .cell\/X.env.kindOf x=some .free)/\Vis X.env.scope x)
  (Y:∀u,bindArgs (PySem.W.kla_fn "<lambda>" qual params body scope cl pm (.ref c') n) ⟨[u],[]⟩=pure ([p].zip [u]))
  (D:∀H,Φ H->H l=some (.lst xs)) (L:∀H,Φ H->H q=some (.frz (PySem.W.kla_obj "<lambda>" qual params body scope cl pm c' n) (.own q))/\∃o vs t,H c'=some (.frz o (.own c'))/\o.data=.fields vs/\vs[1]?=some (.str qual t))
  (g:∀(s:Shared) (H:Hp),PE (sR (CXW X.prog X.w) X.prog X.w X.K X.mg X.base N qual scope q (.ref c') cl X.A.in1 X.stack s H E0) body t)
  (turn:∀(i:Nat) (x:V) (H:Hp),xs[i]?=some x->Φ H->t (some x::cap.map λm=>(σ[m]?).join) H λv H'=>Φ H'/\κ i v H'/\∀j O,κ j O H->κ j O H')
  (cmp:∀(i j:Nat) (x y:V) (pins':List (Addr×Obj)) (H:Hp) (s:Shared) (u v:Value),Inv X.in1 pins' σ H s->Φ H->κ i x H->κ j y H->RelV x u->RelV y v ->
   wpAny (model X.prog X.w) X.A.in1 (richCompare .Lt u v) (λr s'=>r=.bool (lt i j)/\Inv X.in1 pins' σ H s') (λ_ _=>False) s):lX X σ [] q l xs Φ κ lt:=by
 refine⟨D,λi x Z pins' H s u _ I F ru=>?_,cmp⟩;obtain⟨h,oc,vs,tt,h1,h2,h3⟩:=L H F;have C:IP s H cl scope N [p].length (cap.map λm=>(σ[m]?).join):=by
  refine⟨λa b c e1 e2=>I.ok.inj a b c (f a c e1) (f b c e2),has,λa c e=>I.cell a c (f a c e),λa c e=>I.freeC a c (f a c e),by rw[M3];exact U,λj y v e1 e2=>?_⟩;rw[MA]at e2;cases hm:cap[j]? with
  |none=>rw[hm]at e2;cases e2
  |some m =>
   rw[hm]at e2;have G:(σ[m]?).join=some v:=by simpa using e2
   obtain⟨hX,P,J,hv⟩:=B j m y e1 hm;have e4:σ[m]?=some (some v):=by
    cases z:σ[m]? with
    |none=>rw[z]at G;cases G
    |some w=>rw[z]at G;cases w with
     |none=>cases G
     |some w=>cases G;rfl
   obtain⟨mm,hn,hl⟩:=I.loc;obtain⟨u,rv,lk⟩:=hl m y v hX e4 hv;rcases lk with⟨z,_⟩|⟨_,c,M,e6⟩
   ·have z:X.env.kindOf y=some .local:=z;rcases J with J|J <;> (rw[z]at J;cases J)
   ·obtain⟨c2,Q⟩:=has y P;have R:=f y c2 Q;have M:X.env.cells.lookup y=some c:=M;rw[M]at R;cases R;exact⟨u,c,rv,P,Q,e6⟩
 refine wpAny_call (codeAny_mono (GY (CX:=CXW X.prog X.w) (E:=E0) S T.in1 I.env0 rfl (.cons ru .nil) C (I.hok q _ h).1 ⟨c',oc,vs,tt,rfl,(I.hok c' _ h1).1,h2,h3⟩ (Y u) (g s H) (turn i x H Z F)) λr s' h=>?_);cases r with
 |error e=>obtain⟨_,_,_,_,_,_,z,_⟩:=h;exact z.elim
 |ok fl =>
  cases fl with
  |ret u=>exact I.after h
  |next=>exact False.elim h
  |brk=>exact False.elim h
  |cont=>exact False.elim h
end
section
variable {E:XK} {a b:Expr}
end
section
variable {E:XK}
end
structure iT (P:Program) (w:World) (K:PySem.W.Frag) (mg:Str->Option Value) (base:Heap) (k:Nat) (C:Addr) (m:Str) (n:Nat) (gf:List PyData->Rs PyData):Prop where
 ex:∃f fd ps,Cls K C/\Meth K C m f/\gM P w K mg base (CXW P w) k f fd ps (spD K n gf)/\Binds K fd ps []
def jt (m:Str):List (PyData×PyData)->Bool
 |[]=>true
 |(k,_)::r=>match k with
  |.str g=>decide (g≠m)&&jt m r
  |_=>false
def isC (C:Addr) (m:Str):PyData->Bool
 |.dict (k::r)=>match k with
  |(.str z,.int c)=>decide (z="")&&decide (c=(C:Int))&&jt m r
  |_=>false
 |_=>false
theorem Isk.jt {K:PySem.W.Frag} {H:Hp} {m:Str}:∀{r:List (PyData×PyData)} {fs:List (Str×V)},Isk K H r fs->L2.jt m r=true->fs.lookup m=none
 |[],_,h,_=>by unfold Isk at h;rw[h];rfl
 |(k,d)::r,fs,h,n=>by unfold Isk at h;obtain⟨f,v,fs',rfl,rfl,h1,h2⟩:=h;simp only[L2.jt,M8,decide_eq_true_eq]at n;rw[MN,show (m==f)=false by simpa using λq=>n.1 q.symm];exact Isk.jt h2 n.2
theorem JC {d:PyData} (e:isC C m d=true) (h:Is K H d v):∃a dx fs,v=.ref a/\H a=some (.ins C dx fs)/\fs.lookup m=none:=by
 unfold isC at e;split at e
 ·rename_i k r;split at e
  ·rename_i z c;simp only[M8,decide_eq_true_eq]at e;obtain⟨⟨rfl,rfl⟩,n⟩:=e;unfold Is at h;rcases h with (⟨a,ns,_,b,_⟩|⟨a,l,_,b,_⟩)|⟨a,o,dx,fs,ev,h1,hn,h2|h2⟩
   ·injection b with b _;cases b
   ·rcases b with⟨m,b,_⟩|⟨m,b,_⟩ <;> first|(cases b;done)|(cases m <;> cases b)
   ·unfold Isk at h2;obtain⟨g,u,fs',e1,e2,i,j⟩:=h2;cases e1;have f:=i.ofInt;injection f with f
    obtain rfl:o=C:=Int.ofNat.inj f;exact⟨a,dx,fs,ev,h1,j.jt n⟩
   ·unfold Isk at h2;obtain⟨g,u,fs',e1,e2,i,j⟩:=h2;cases e1;have f:=i.ofInt;injection f with f
    obtain rfl:o=C:=Int.ofNat.inj f;have l:=j.jt n;rw[MN]at l;cases q:(m==("@":Str)) with
    |true=>rw[q]at l;cases l
    |false=>rw[q]at l;exact⟨a,dx,fs,ev,h1,l⟩
  ·cases e
 ·cases e
def bx (C:Addr) (m:Str) (gf:List PyData->Rs PyData) (ga:Ds->Rs PyData) (gs:Ds->Rs (List PyData)):Ds->Rs PyData:=λδ=>(ga δ).bind λd=>if isC C m d then (gs δ).bind λds=>gf (d::ds) else .no
section
variable {E:XK} {o e:Expr} {es:List Expr} {apos:Pos}
theorem bx.read {n:Nat} {Q:VK} (hn:∀δ ds,gs δ=.ok ds->ds.length+1=n) (R:dC X.K H A δ σ) (b:hZ X.K E A H (bx C m gf ga gs δ) Q):Ae C m (spD X.K n gf) [] E (eD X.K E ga) (aD X.K E gs) σ H Q:=by
 unfold bx at b;refine eD.run R (λd f v H1 e g h1=>?_) (λC c H' s'=>?_) (λc=>?_)
 ·simp only[f,Rs.ag]at b;split at b
  ·rename_i hc;obtain⟨a,dx,fs,rfl,h,l⟩:=JC hc h1;refine⟨a,dx,fs,rfl,aB _ _ h,l,?_⟩;refine aD.run g (λds e2 vs H2 s2 R2 h2=>?_) (λC c H' s'=>?_) (λc=>?_)
   ·simp only[e2,Rs.ag]at b;refine⟨A,d::ds,R2.ls,?_,hn δ ds e2,b.mono (e.trans s2)⟩;rw[N4];exact cG (h1.same s2.del) h2
   ·rw[c]at b;exact b H' (e.trans s')
   ·rw[c]at b;exact b
  ·exact b.elim
 ·rw[c]at b;exact b H' s'
 ·rw[c]at b;exact b
theorem Fu {k:Nat} {pl:Sem Bool} (D:iT X.prog X.w X.K X.mg X.base k C m (es.length+2) gf) (c:cw j X.A) (g:Passes (CXW X.prog X.w) X E) (h:PD X E o ga) (ha:PAD X E (e::es) gs) (i:k<=j)
  (a:starEach (e::es) X.env=(false,eval e X.env)::starEach es X.env) (b:(backTo pos (starEach es X.env)).any (·.1)=false)
  (l:eval (.Call (.Attribute o m apos) (e::es) [] pos) X.env=(do
   let ov <-eval o X.env
   standAt apos.atName
   let (f,first) <-holding [ov] (getMethod ov m pl)
   callWith pos f first (backTo pos (starEach (e::es) X.env)) (backToKw pos (keywordEach [] X.env)))) :
  PD X E (.Call (.Attribute o m apos) (e::es) [] pos) (bx C m gf ga gs):=by
 obtain⟨f,fd,ps,cl,hm,F,n⟩:=D.ex;exact (G3 h cl hm F (c.mono i) n .nil g ha.1 a b l).imp λσ H Q ⟨A,δ,R,ou⟩=>bx.read (λδ ds e=>by rw[ha.2 δ ds e];rfl) R ou
theorem Dm {k:Nat} {pl:Sem Bool} (D:iT X.prog X.w X.K X.mg X.base k C m 1 gf) (c:cw j X.A) (g:Passes (CXW X.prog X.w) X E) (i:PD X E o ga) (p:k<=j)
  (r:eval (.Call (.Attribute o m apos) [] [] pos) X.env=(do
   let ov <-eval o X.env
   standAt apos.atName
   let (f,first) <-holding [ov] (getMethod ov m pl)
   callWith pos f first (backTo pos (starEach [] X.env)) (backToKw pos (keywordEach [] X.env)))) :
  PD X E (.Call (.Attribute o m apos) [] [] pos) (bx C m gf ga ah):=by
 obtain⟨f,fd,ps,cl,hm,F,s⟩:=D.ex;refine (wa i cl hm F (c.mono p) s .nil g r).imp λσ H Q b=>?_
 obtain⟨A,δ,R,t⟩:=b;have h:=bx.read (gs:=ah) (X:=X) (n:=1) (λδ ds e=>by cases e;rfl) R t;unfold Ae at h ⊢;exact h.weak λv H1 ⟨a,dx,fs,e,hp,l,q⟩=>⟨a,dx,fs,e,hp,l,by obtain⟨A',δ',R',o'⟩:=q;exact o' [] H1 (ax.refl _) cR⟩
end
def intsOf:List PyData->Option (List Int)
 |[]=>some []
 |.int a::r=>(intsOf r).map (a::·)
 |_::_=>none
def kK:PyData->Option (Bool×List Int)
 |.int a=>some (false,[a])
 |.tuple ds=>(intsOf ds).map λl=>(true,l)
 |_=>none
def ltD (a b:PyData):Bool:=match kK a,kK b with
 |some (_,l),some (_,m)=>HT.lexLt l m
 |_,_=>false
def keysOk (ks:List PyData):Bool:=ks.all (λk=>match kK k with|some (false,_)=>true|_=>false)||ks.all λk=>match kK k with|some (true,_)=>true|_=>false
def allR (g:PyData->Rs PyData):List PyData->Rs (List PyData)
 |[]=>.ok []
 |d::r=>(g d).bind λk=>(allR g r).bind λks=>.ok (k::ks)
theorem wH {g:PyData->Rs PyData}:∀{ds ks:List PyData},allR g ds=.ok ks->ks.length=ds.length/\∀(i:Nat) (d:PyData),ds[i]?=some d->∃k,ks[i]?=some k/\g d=.ok k
 |[],ks,h=>by cases h;exact⟨rfl,λi d e=>by simp at e⟩
 |d::r,ks,h=>by
  unfold allR at h;cases e1:g d with
  |rz _=>rw[e1]at h;cases h
  |no=>rw[e1]at h;cases h
  |ok k =>
   rw[e1]at h;cases e2:allR g r with
   |rz _=>rw[Rs.ag,e2]at h;cases h
   |no=>rw[Rs.ag,e2]at h;cases h
   |ok t =>
    rw[Rs.ag,e2]at h;cases h;obtain⟨hl,a⟩:=wH e2;refine⟨by simp[hl],λi d' e=>?_⟩;cases i with
    |zero=>simp at e;subst e;exact⟨k,rfl,e1⟩
    |succ i=>simpa using a i d' (by simpa using e)
def t9 (cap:List Nat) (δ:Ds):Ds:=cap.map λm=>(δ[m]?).join
def okR:Rs (List PyData)->(List PyData->Rs PyData)->Rs PyData
 |.ok a,f=>f a
 |_,_=>.no
def jm (cap:List Nat) (ga gb:Ds->Rs PyData):Ds->Rs PyData:=λδ=>(ga δ).bind λd=>match d with
 |.list ds=>if 0<ds.length then okR (allR (λx=>gb (some x::t9 cap δ)) ds) λks=>if keysOk ks then .fc (ds[bst (λi j=>ltD (ks.getD i .none) (ks.getD j .none)) (ds.length-1)]?) else .no else .no
 |_=>.no
theorem Az {d:PyData} {l:List Int} (e:kK d=some (false,l)) (h:Is K H d v):∃n,l=[n]/\v=.int n:=by
 unfold kK at e;split at e
 ·cases e;exact⟨_,rfl,h.ofInt⟩
 ·rename_i ds;cases q:intsOf ds with
  |none=>rw[q]at e;cases e
  |some l=>rw[q]at e;cases e
 ·cases e
theorem sk:∀{ds:List PyData} {l:List Int},intsOf ds=some l->ds=l.map PyData.int
 |[],l,e=>by cases e;rfl
 |d::r,l,e=>by
  cases d <;> first|(cases e;done)|skip
  rename_i a;unfold intsOf at e;cases q:intsOf r with
  |none=>rw[q]at e;cases e
  |some t=>rw[q]at e;cases e;rw[sk q];rfl
theorem xi {d:PyData} {l:List Int} (e:kK d=some (true,l)) (h:Is K H d v):∃a,v=.ref a/\H a=some (.tup (l.map V.int)):=by
 unfold kK at e;split at e
 ·cases e
 ·rename_i ds;cases q:intsOf ds with
  |none=>rw[q]at e;cases e
  |some l' =>rw[q]at e;cases e;obtain⟨a,xs,ev,c,b⟩:=h.ofTup;rw[sk q]at b;exact⟨a,ev,by rw[c,b.ofInts]⟩
 ·cases e
section
theorem DI {ks:List PyData} (P:X.A.in1.units<cLine) (g:keysOk ks=true) {x:V} {v:Value} {a b:PyData} (I:Inv X.in1 pins σ H s)
  (ea:ks[i]?=some a) (Q:ks[j]?=some b) (F:Is X.K (del H A) a x) (G:Is X.K (del H A) b y) (L:RelV x u) (M:RelV y v) :
  wpAny (model X.prog X.w) X.A.in1 (richCompare .Lt u v) (λr s'=>r=.bool (ltD a b)/\Inv X.in1 pins σ H s') (λ_ _=>False) s:=by
 have J:=I.wish λ_ _=>False
 have N:a∈ks:=N0 ea;have O:b∈ks:=N0 Q;unfold keysOk at g;rcases Bool.or_eq_true_iff.mp g with g|g
 ·have c:=MD.mp g a N;have f:=MD.mp g b O;cases ka:kK a with
  |none=>rw[ka]at c;cases c
  |some p=>obtain⟨o,la⟩:=p;cases o with
   |true=>rw[ka]at c;cases c
   |false=>cases kb:kK b with
    |none=>rw[kb]at f;cases f
    |some p=>obtain⟨t,l⟩:=p;cases t with
     |true=>rw[kb]at f;cases f
     |false =>
      obtain⟨n,rfl,rfl⟩:=Az ka F;obtain⟨m,rfl,rfl⟩:=Az kb G;have e:ltD a b=decide (n<m):=by
       unfold ltD;rw[ka,kb];show HT.lexLt [n] [m]=_;rw[HT.qg,HT.kB];by_cases z:n=m
       ·subst z;simp
       ·simp[z]
      rw[e];refine thn (Ci (X:=X.in1.wish λ_ _=>False) pins s σ H (.int n) (.int m) u v (λr H'=>r=.bl (decide (n<m))/\H'=H) J L M ⟨n,m,rfl,rfl,rfl,rfl⟩) λr s' h=>?_
      obtain⟨R,H',B,C,D,E⟩:=h;subst D E;exact⟨C,B.unwish⟩
 ·have c:=MD.mp g a N;have f:=MD.mp g b O;cases ka:kK a with
  |none=>rw[ka]at c;cases c
  |some p=>obtain⟨o,la⟩:=p;cases o with
   |false=>rw[ka]at c;cases c
   |true=>cases kb:kK b with
    |none=>rw[kb]at f;cases f
    |some p=>obtain⟨t,l⟩:=p;cases t with
     |false=>rw[kb]at f;cases f
     |true =>
      obtain⟨p,rfl,S⟩:=xi ka F;obtain⟨q,rfl,T⟩:=xi kb G;have e:ltD a b=HT.lexLt la l:=by unfold ltD;rw[ka,kb]
      rw[e];refine thn (Jw (X:=X.in1.wish λ_ _=>False) P pins s σ H (.ref p) (.ref q) u v (λr H'=>r=.bl (HT.lexLt la l)/\H'=H) J L M ⟨p,q,la,l,rfl,rfl,SqT.of (aB _ _ S),SqT.of (aB _ _ T),rfl,rfl⟩) λr s' h=>?_
      obtain⟨R,H',B,C,D,E⟩:=h;subst D E;exact⟨C,B.unwish⟩
theorem AI {E:XK} {a:Expr} {G p0:Pos} {g:List (Str×Addr)} {P:Addr} {k:Nat} {p:Str}
  (hc:X.calm=true) (hm:X.mg "min"=none) (hr:cw (k+2) X.A) (ha:PD X E a ga) (T:Eg X c P) (U:closureFor scope X.env=pure g) (S:lC N [p] scope)
  (J:∀x c,g.lookup x=some c->X.env.cells.lookup x=some c) (has:∀x,scope.names.lookup x=some .free->∃c,g.lookup x=some c) (hN:N.length=1+cap.length)
  (L:∀(i m:Nat) (x:Str),N[1+i]?=some x->cap[i]?=some m->X.N[m]?=some x/\scope.names.lookup x=some .free/\(X.env.kindOf x=some .cell\/X.env.kindOf x=some .free)/\Vis X.env.scope x)
  (hb:∀(c':Addr) (pm r u:Value),bindArgs (PySem.W.kla_fn "<lambda>" (X.env.qual++"<lambda>") params body scope g pm (.ref c') r) ⟨[u],[]⟩=pure ([p].zip [u]))
  (D:∀(q c':Addr) (s:Shared) (H:Hp),PD (sR (CXW X.prog X.w) X.prog X.w X.K X.mg X.base N (X.env.qual++"<lambda>") scope q (.ref c') g X.A.in1 X.stack s H E0) E0 body gb)
  (hg:Gl X "min":=by rfl) (he:starEach [a] X.env=[(false,eval a X.env)]:=by rfl) (M:defaultsOf params X.env=([],[]):=by rfl) :
  PD X E (.Call (.Name "min" p0) [a] [⟨some "key",.Lambda params body scope G,kp⟩] pos) (jm cap ga gb):=by
 refine (BW hc hm ha (HQ T U M) hg he (λh k=>eD.weak h k) (λh k f c' r H' n e s c=>k _ _ (h f c' r H' n e s c))).imp λσ H Q Y=>?_
 obtain⟨A,δ,R,b⟩:=Y;unfold jm at b;refine eD.run R (λd ed v H1 s1 R1 h1=>?_) (λC Z H' s'=>?_) (λZ=>?_)
 ·rw[ed,Rs.ag]at b;cases d with
  |list ds =>
   by_cases hpos:0<ds.length
   case neg=>simp only[if_neg hpos]at b;exact b.elim
   simp only[if_pos hpos]at b;cases ek:allR (λx=>gb (some x::t9 cap δ)) ds with
   |rz _=>rw[ek]at b;exact b.elim
   |no=>rw[ek]at b;exact b.elim
   |ok ks =>
    rw[ek]at b;cases hko:keysOk ks with
    |false=>simp only[okR,hko]at b;exact b.elim
    |true =>
     simp only[okR,hko,if_true]at b;intro f c' r H2 hn hf s2 F;obtain⟨l,xs,rfl,hl,hx⟩:=h1.ofLst;have hlen:=hx.length;obtain⟨hkl,hkg⟩:=wH ek;refine⟨l,f,xs,λH=>ax H2 H,λi v H=>∃O,ks[i]?=some O/\Is X.K (del H A) O v,λi j=>ltD (ks.getD i .none) (ks.getD j .none),rfl,rfl,by omega,ax.refl _,?_,λH3 v s3 ev=>?_⟩
     ·refine AE (t:=eD X.K E0 gb) (c':=c') (cap:=cap) S hr J has hN L (hb c' _ r) (λH s=>s _ _ (s2 _ _ (aB _ _ hl))) (λH s=>⟨s _ _ hf,?_⟩) (λs H=>D f c' s H) (λi x H ex s=>?_) (λi j x y pins' H s u v I sΦ hx' hy' rx ry=>?_)
      ·obtain⟨o,vs,t,e1,e2,B⟩:=F;exact⟨o,vs,t,s _ _ e1,e2,B⟩
      ·obtain⟨d,e1,hd⟩:=hx.get ex;obtain⟨O,e2,gk⟩:=hkg i d e1;have R':dC X.K H A δ σ:=R.same (s1.trans (s2.trans s));refine⟨A,some d::t9 cap δ,⟨R'.ls,by simp[t9],λn d' e=>?_⟩,?_⟩
       ·cases n with
        |zero =>have e:some (some d)=some (some d'):=e;cases e;exact⟨x,rfl,hd.same (ax.del (s2.trans s))⟩
        |succ n =>
         have e:(t9 cap δ)[n]?=some (some d'):=by simpa using e
         unfold t9 at e;rw[MA]at e;cases hm':cap[n]? with
         |none=>rw[hm']at e;cases e
         |some m =>
          rw[hm']at e;have B:(δ[m]?).join=some d':=by simpa using e
          have e4:δ[m]?=some (some d'):=by
           cases z:δ[m]? with
           |none=>rw[z]at B;cases B
           |some w=>rw[z]at B;cases w with
            |none=>cases B
            |some w=>cases B;rfl
          obtain⟨v',e5,h5⟩:=R'.get m d' e4;exact⟨v',by simp[hm',e5],h5⟩
       ·have gk':gb (some d::t9 cap δ)=.ok O:=gk;rw[gk'];exact λv H' s' q=>⟨s.trans s',⟨O,e2,q⟩,λj v' qz2=>(by obtain⟨kd',B,e4⟩:=qz2;exact⟨kd',B,e4.same s'.del⟩)⟩
      ·obtain⟨ka,e1,h1'⟩:=hx';obtain⟨kb,e2,h2'⟩:=hy';have:=DI (X:=X) (by have:=hr.un;show X.A.units+1<_;omega) hko I e1 e2 h1' h2' rx ry;rw[MK,MK,e1,e2];exact this
     ·rw[hlen]at ev;obtain⟨d,e1,hd⟩:=hx.get ev;rw[e1]at b;exact b v H3 (s1.trans (s2.trans s3)) (hd.same (ax.del (s2.trans s3)))
  |_=>exact b.elim
 ·rw[Z]at b;exact b H' s'
 ·rw[Z]at b;exact b
end
section
mutual
theorem Is.off {C dx:Addr} {fs:List (Str×V)} (ha:H a=some (.ins C dx fs)):∀{d:PyData} {v:V},aG d=true->Is K H d v->Is K (del H [a]) d v
 |.none,_,_,h=>by unfold Is at h ⊢;exact h
 |.bool _,_,_,h=>by unfold Is at h ⊢;exact h
 |.int _,_,_,h=>by unfold Is at h ⊢;exact h
 |.str _,_,_,h=>by unfold Is at h ⊢;exact h
 |.dict _,_,n,_=>by unfold aG at n;cases n
 |.list ds,_,n,h=>by unfold aG at n;obtain⟨b,xs,e,h1,h2⟩:=h.ofLst;subst e;exact jC (by rw[aP (λz=>by rw[Mw.mp z,ha]at h1;cases h1)];exact h1) (Iss.off ha n h2)
 |.tuple ds,_,n,h=>by unfold aG at n;obtain⟨b,xs,e,h1,h2⟩:=h.ofTup;subst e;exact iz (by rw[aP (λz=>by rw[Mw.mp z,ha]at h1;cases h1)];exact h1) (Iss.off ha n h2)
theorem Iss.off {C dx:Addr} {fs:List (Str×V)} (ha:H a=some (.ins C dx fs)):∀{ds:List PyData} {vs:List V},dw ds=true->Iss K H ds vs->Iss K (del H [a]) ds vs
 |[],_,_,h=>by rw[h.nil_of];exact cR
 |d::ds,_,n,h=>by unfold dw at n;obtain⟨n1,n2⟩:=Nb.mp n;obtain⟨v,r,e,h1,h2⟩:=h.cons_of;subst e;exact cG (Is.off ha n1 h1) (Iss.off ha n2 h2)
end
def kY:List (PyData×PyData)->Bool
 |[]=>true
 |(_,d)::r=>aG d&&kY r
theorem Isk.off {C dx:Addr} {fs:List (Str×V)} (ha:H a=some (.ins C dx fs)):∀{ds:List (PyData×PyData)} {gs:List (Str×V)},kY ds=true->Isk K H ds gs->Isk K (del H [a]) ds gs
 |[],_,_,h=>by unfold Isk at h ⊢;exact h
 |(k,d)::ds,_,n,h=>by unfold kY at n;obtain⟨n1,n2⟩:=Nb.mp n;unfold Isk at h ⊢;obtain⟨f,v,r,e1,e2,h1,h2⟩:=h;exact⟨f,v,r,e1,e2,Is.off ha n1 h1,Isk.off ha n2 h2⟩
def j9:List (PyData×PyData)->Option Int
 |(.str x,.int _)::(.str y,.int b)::r=>if x=""/\y="@"/\kY r then some b else none
 |_=>none
mutual
def objs:PyData->Bool
 |.list ds=>jB ds
 |.tuple ds=>jB ds
 |.dict kvs=>(j9 kvs).isSome
 |_=>true
def jB:List PyData->Bool
 |[]=>true
 |d::ds=>objs d&&jB ds
end
mutual
def fB (a:Addr) (nd:PyData):PyData->PyData
 |.list ds=>.list (ju a nd ds)
 |.tuple ds=>.tuple (ju a nd ds)
 |.dict kvs=>if j9 kvs=some (a:Int) then nd else .dict kvs
 |d=>d
def ju (a:Addr) (nd:PyData):List PyData->List PyData
 |[]=>[]
 |d::ds=>fB a nd d::ju a nd ds
end
end
def kQ (a:Addr) (nd:PyData) (δ:Ds):Ds:=δ.map λd=>d.map (fB a nd)
theorem lE {d:PyData} (h:(kQ a nd δ)[i]?=some (some d)):∃b,δ[i]?=some (some b)/\d=fB a nd b:=by
 unfold kQ at h;rw[MA]at h;cases e:δ[i]? with
 |none=>rw[e]at h;cases h
 |some x=>cases x with
  |none=>rw[e]at h;cases h
  |some b=>rw[e]at h;cases h;exact⟨b,rfl,rfl⟩
theorem wD (h:a∉B):del (upd H a o) B=upd (del H B) a o:=by
 funext b;by_cases z:b=a
 ·subst z;rw[aP h,aH,aH]
 ·rw[aA z];by_cases y:b∈B
  ·rw[gW y,gW y]
  ·rw[aP y,aP y,aA z]
section
theorem iP {fs:List (Str×V)} (e:ax (del H [a]) H') (ha:H a=some (.ins C dx fs)) (f:H b=some o) (c:b≠a):H' b=some o :=
 e _ _ (by rw[aP (λz=>c (Mw.mp z))];exact f)
mutual
theorem Is.mutH {C dx:Addr} {fs:List (Str×V)} {nd:PyData} (ha:H a=some (.ins C dx fs)) (j:ax (del H [a]) H') (hn:Is K H' nd (.ref a)):∀{d:PyData} {v:V},objs d=true->Is K H d v->Is K H' (fB a nd d) v
 |.none,_,_,h=>by unfold fB;unfold Is at h ⊢;exact h
 |.bool _,_,_,h=>by unfold fB;unfold Is at h ⊢;exact h
 |.int _,_,_,h=>by unfold fB;unfold Is at h ⊢;exact h
 |.str _,_,_,h=>by unfold fB;unfold Is at h ⊢;exact h
 |.list ds,_,n,h=>by unfold objs at n;obtain⟨b,xs,e,h1,h2⟩:=h.ofLst;subst e;unfold fB;exact jC (iP j ha h1 (λz=>by rw[z,ha]at h1;cases h1)) (Iss.mutH ha j hn n h2)
 |.tuple ds,_,n,h=>by unfold objs at n;obtain⟨b,xs,e,h1,h2⟩:=h.ofTup;subst e;unfold fB;exact iz (iP j ha h1 (λz=>by rw[z,ha]at h1;cases h1)) (Iss.mutH ha j hn n h2)
 |.dict kvs,v,n,h=>by
  unfold objs at n;unfold fB;unfold j9 at n ⊢;split at n
  case h_2=>cases n
  rename_i x G y b r;split at n
  case isFalse=>cases n
  rename_i I;obtain⟨rfl,rfl,B⟩:=I;have J:∃(g:Addr) (o c:Addr) (gs:List (Str×V)),v=.ref g/\b=(g:Int)/\G=(o:Int)/\H g=some (.ins o c gs)/\gs.lookup ("@":Str)=none/\Isk K H r gs:=by
   unfold Is at h;rcases h with (⟨s,ns,_,e,_⟩|⟨s,l,_,e,_⟩)|⟨s,o,c,gs,e,h1,i,h2|h2⟩
   ·cases e
   ·rcases e with⟨m,e,_⟩|⟨m,e,_⟩ <;> first|(cases e;done)|(cases m <;> cases e)
   ·unfold Isk at h2;obtain⟨f,u,t,e1,e2,D,p⟩:=h2;cases e1;unfold Isk at p;obtain⟨f,u,t,e1,e2,E,F⟩:=p;injection e2 with e2
    subst e2 e1;rw[MN]at i;simp at i
   ·unfold Isk at h2;obtain⟨f,u,t,e1,e2,D,p⟩:=h2;cases e1;have w:=D.ofInt;injection w with w
    unfold Isk at p;obtain⟨f,u,t,e1,e2,E,F⟩:=p;cases e1;have A:=E.ofInt;injection A with A
    exact⟨s,o,c,gs,e,A.symm,w.symm,h1,i,F⟩
  obtain⟨g,o,c,gs,rfl,rfl,rfl,h1,hl,h2⟩:=J;simp only[B,and_self,if_true];by_cases z:g=a
  ·subst z;rw[if_pos rfl];exact hn
  ·have zz:¬ (some (g:Int)=some (a:Int)):=λq=>z (Int.ofNat.inj (Option.some.inj q))
   rw[if_neg zz];unfold Is;refine .inr ⟨g,o,c,gs,rfl,iP j ha h1 z,hl,.inr (dY bP (dY bP ?_))⟩;exact (Isk.off ha B h2).same j
theorem Iss.mutH {C dx:Addr} {fs:List (Str×V)} {nd:PyData} (ha:H a=some (.ins C dx fs)) (b:ax (del H [a]) H') (hn:Is K H' nd (.ref a)):∀{ds:List PyData} {vs:List V},jB ds=true->Iss K H ds vs->Iss K H' (ju a nd ds) vs
 |[],_,_,h=>by rw[h.nil_of];unfold ju;exact cR
 |d::ds,_,n,h=>by unfold jB at n;obtain⟨n1,n2⟩:=Nb.mp n;obtain⟨v,r,e,h1,h2⟩:=h.cons_of;subst e;unfold ju;exact cG (Is.mutH ha b hn n1 h1) (Iss.mutH ha b hn n2 h2)
end
theorem FD:ax (del H [a]) H'->ax (del (del H B) [a]) (del H' B):=λc b o e=>by obtain⟨e1,e2⟩:=bf e;obtain⟨f,g⟩:=bf e2;rw[aP f];exact c b o (by rw[aP e1];exact g)
theorem bY.mutH {fs:List (Str×V)} (R:bY K H0 A0 H A O δ σ)
  (ha:H a=some (.ins C dx fs)) (s:H0 a=none) (n:∀(i:Nat) d,δ[i]?=some (some d)->objs d=true) (l:ax (del H [a]) H') (hn:Is K (del H' (A++A0)) nd (.ref a)):bY K H0 A0 H' A O (kQ a nd δ) σ:=by
 have o:Ls H A0:=R.ls0.same R.same;have na:a∉A++A0:=λz=>by
  rcases MM.mp z with z|z
  ·obtain⟨xs,e,q⟩:=R.ls a z;rw[ha]at e;cases e;cases q
  ·obtain⟨xs,e,q⟩:=o a z;rw[ha]at e;cases e;cases q
 have hd:del H (A++A0) a=some (.ins C dx fs):=by rw[aP na];exact ha
 have g:ax (del (del H (A++A0)) [a]) (del H' (A++A0)):=FD l;refine⟨λb u e=>?_,R.ls0,R.new,λb p=>?_,?_,λi d hi e=>?_,λi d hi e=>?_,λi j d e b hi t e1 e2 w x=>?_⟩
 ·exact iP l ha (R.same b u e) (λz=>by rw[z,s]at e;cases e)
 ·obtain⟨xs,e,q⟩:=R.ls b p;exact⟨xs,iP l ha e (λz=>by rw[z,ha]at e;cases e;cases q),q⟩
 ·unfold kQ;rw[M3];exact R.len
 ·obtain⟨c,f,rfl⟩:=lE e;obtain⟨v,e1,h1⟩:=R.pl i c hi f;exact⟨v,e1,Is.mutH hd g hn (n i c f) h1⟩
 ·obtain⟨c,f,rfl⟩:=lE e;obtain⟨b,o',d1,e1,p,r,rfl,h1⟩:=R.own i c hi f;have h:=n i _ f;obtain⟨ds,xs,rfl,rfl⟩:∃ds xs,c=.list ds/\o'=.lst xs:=by
   unfold iw at h1;split at h1
   ·exact⟨_,_,rfl,rfl⟩
   ·exfalso;rcases h1 with⟨m,rfl,_⟩|⟨m,rfl,_⟩ <;> unfold objs j9 at h <;> cases m <;> simp at h
   ·exact h1.elim
  have h1:Iss K _ ds xs:=h1;have:=n i _ f;unfold objs at this;exact⟨b,.lst xs,.list (ju a nd ds),e1,p,iP l ha r (λz=>by rw[z,ha]at r;cases r),by unfold fB;rfl,Iss.mutH hd g hn this h1⟩
 ·obtain⟨c,y,_⟩:=lE e1;obtain⟨d1,B,_⟩:=lE e2;exact R.inj i j c d1 b hi t y B w x
end
def sDN (as:List Addr) (K:PySem.W.Frag) (E:XK) (O:List Nat) (G:Ds->Sr):TS:=λD σ H=>∃H0 A0 A δ,(∀a∈as,H0 a=none)/\bY K H0 A0 H A O δ σ/\mB K E H0 A0 O (G δ) D
def PSN (as:List Addr) (X:Cx) (E:XK) (O:List Nat) (s:Stmt) (G:Ds->Sr):Prop:=PS X s (sDN as X.K E O G)
def PBN (as:List Addr) (X:Cx) (E:XK) (O:List Nat) (ss:List Stmt) (G:Ds->Sr):Prop:=PSs X ss (sDN as X.K E O G)
section
variable {E:XK} {ss:List Stmt} {G G':Ds->Sr} {c:Expr} {ca:Ds->Rs Bool}
theorem Kk (h:PSD X E O st G):PSN as X E O st G:=h.imp λD σ H a=>(by obtain⟨H0,A0,A,δ,_,R,o⟩:=a;exact⟨H0,A0,A,δ,R,o⟩)
theorem IM (h:PBD X E O ss G):PBN as X E O ss G:=h.imp λD σ H a=>(by obtain⟨H0,A0,A,δ,_,R,o⟩:=a;exact⟨H0,A0,A,δ,R,o⟩)
theorem Ha:PBN as X E O [] aY:=IM uE
theorem we (h1:PSN as X E O st G) (h2:PBN as X E O ss G'):PBN as X E O (st::ss) (az G G'):=(cH h1 h2).imp λD σ H ⟨H0,A0,A,δ,hn,R,o⟩=>⟨H0,A0,A,δ,hn,R,by
 unfold az at o;cases q:G δ with
 |nx δ'=>rw[q]at o;exact λa σ' H' b=>⟨H0,A0,a,δ',hn,b,o⟩
 |rt d=>rw[q]at o;exact o
 |rz C=>rw[q]at o;exact o
 |bk d=>rw[q]at o;exact o
 |ct d=>rw[q]at o;exact o
 |no=>rw[q]at o;exact o⟩
theorem zw (h1:PSN as X E O st G):PBN as X E O [st] G:=(ib h1).imp λD σ H h=>h
theorem IY {a:List Stmt} (hc:PCD X E c ca) (h1:PBN as X E O ss G) (h2:PBN as X E O a G'):PSN as X E O (.If c ss a pos) (sIf ca G G'):=(Am hc h1 h2).imp λD σ H e=>by
 obtain⟨H0,A0,A,δ,hn,R,o⟩:=e;unfold sIf at o;refine cD.run R.full (λt b H1 f R1=>?_) (λC b H' s'=>?_) (λb=>?_)
 ·rw[b]at o;cases t with
  |true=>exact⟨H0,A0,A,δ,hn,R.step f,o⟩
  |false=>exact⟨H0,A0,A,δ,hn,R.step f,o⟩
 ·rw[b]at o;exact o H' (R.same.trans s')
 ·rw[b]at o;exact o
theorem AM (fuel:Nat) (j:PassesOwn (model X.prog X.w) X.A X.env X.xe) (hc:PCD X E c ca) (l:PBN as X E O ss G):PSN as X E O (.While c ss [] pos) (λδ=>bU ca G fuel δ):=(vW j hc l).imp λD σ H e=>by
 obtain⟨H0,A0,A,δ,hn,R,o⟩:=e;refine⟨λm σ H=>∃A δ,bY X.K H0 A0 H A O δ σ/\mB X.K E H0 A0 O (bU ca G m δ) D,⟨fuel,A,δ,R,o⟩,?_⟩
 rintro m σ H ⟨A,δ,R,o⟩
 cases m with
 |zero=>exact o.elim
 |succ m =>
  unfold bU at o;refine cD.run R.full (λt a H1 i R1=>?_) (λC a H' s'=>?_) (λa=>?_)
  ·rw[a]at o;cases t with
   |false=>exact o A σ H1 (R.step i)
   |true =>
    refine⟨λb H'=>∃A δ,bY X.K H0 A0 H' A O δ b/\mB X.K E H0 A0 O (bU ca G m δ) D,λb H' q=>⟨m,Ny m,q⟩,H0,A0,A,δ,hn,R.step i,?_⟩;have o:mB X.K E H0 A0 O (match G δ with
     |.nx δ2=>bU ca G m δ2
     |.ct δ2=>bU ca G m δ2
     |.bk δ2=>.nx δ2
     |.rt v=>.rt v
     |.rz C=>.rz C
     |.no=>.no) D:=o
    cases eb:G δ with
    |nx δ2=>rw[eb]at o;exact λf g n h=>⟨f,δ2,h,o⟩
    |ct δ2=>rw[eb]at o;exact λf g n h=>⟨f,δ2,h,o⟩
    |bk δ2=>rw[eb]at o;exact o
    |rt v=>rw[eb]at o;exact o
    |rz C=>rw[eb]at o;exact o
    |no=>rw[eb]at o;exact o.elim
  ·rw[a]at o;exact o H' (R.same.trans s')
  ·rw[a]at o;exact o
end
def kH:List (PyData×PyData)->Option (List (Str×PyData))
 |[]=>some []
 |(.str f,d)::r=>(kH r).map λl=>(f,d)::l
 |_=>none
theorem rQ:∀{r:List (PyData×PyData)} {fds:List (Str×PyData)},kH r=some fds->r=fds.map λp=>(.str p.1,p.2)
 |[],fds,e=>by cases e;rfl
 |(k,d)::r,fds,e=>by
  cases k <;> first|(cases e;done)|skip
  rename_i f;unfold kH at e;cases q:kH r with
  |none=>rw[q]at e;cases e
  |some l=>rw[q]at e;cases e;rw[rQ q];rfl
theorem pe:∀fds:List (Str×PyData),kH (fds.map λp=>(.str p.1,p.2))=some fds
 |[]=>rfl
 |p::r=>by rw[M5];unfold kH;rw[pe r];rfl
def objOf:PyData->Option (Addr×Addr×List (Str×PyData))
 |.dict ((.str x,.int c)::(.str y,.int b)::r)=>if x=""/\y="@"/\0<=c/\0<=b then (kH r).map λl=>(c.toNat,b.toNat,l) else none
 |_=>none
theorem Cu {d:PyData} {fds:List (Str×PyData)} (e:objOf d=some (C,a,fds)):d=cA C a fds:=by
 unfold objOf at e;split at e
 ·rename_i x c y b r;split at e
  ·rename_i h;obtain⟨rfl,rfl,f,h1⟩:=h;obtain⟨l,q,e⟩:=Nz.mp e;cases e;rw[rQ q];unfold cA;rw[Nu f,Nu h1]
  ·cases e
 ·cases e
theorem sq (C a:Addr) (fds:List (Str×PyData)):objOf (cA C a fds)=some (C,a,fds):=by unfold cA objOf;simp only[N2,and_self,if_true,pe,Nn,MT]
def nR (f:Str):List (Str×PyData)->Option PyData
 |[]=>none
 |(g,d)::r=>if g=f then some d else nR f r
def pG (f:Str) (v:PyData):List (Str×PyData)->List (Str×PyData)
 |[]=>[(f,v)]
 |(g,x)::r=>if g=f then (g,v)::r else (g,x)::pG f v r
theorem Isk.put {K:PySem.W.Frag} {H:Hp} {f:Str} {d:PyData} {v:V} (hv:Is K H d v):∀{fds:List (Str×PyData)} {gs:List (Str×V)},Isk K H (fds.map λp=>(.str p.1,p.2)) gs->Isk K H ((pG f d fds).map λp=>(.str p.1,p.2)) (iG f v gs)
 |[],gs,h=>by rw[N8]at h;unfold Isk at h;subst h;exact dY hv oC
 |(g,x)::r,gs,h=>by
  rw[M5]at h;unfold Isk at h;obtain⟨g',u,a,rfl,e,h1,h2⟩:=h;injection e with e
  subst e;show Isk K H ((if g=f then (g,d)::r else (g,x)::pG f d r).map _) (if g=f then (g,v)::a else (g,u)::iG f v a);by_cases z:g=f
  ·rw[if_pos z,if_pos z];exact dY hv h2
  ·rw[if_neg z,if_neg z];exact dY h1 (Isk.put hv h2)
theorem Isk.look {K:PySem.W.Frag} {H:Hp} {f:Str} {d:PyData}:∀{fds:List (Str×PyData)} {gs:List (Str×V)},Isk K H (fds.map λp=>(.str p.1,p.2)) gs->nR f fds=some d->∃v,gs.lookup f=some v/\Is K H d v
 |[],gs,h,e=>by cases e
 |(g,x)::r,gs,h,e=>by
  rw[M5]at h;unfold Isk at h;obtain⟨g',u,gs',rfl,e2,h1,h2⟩:=h;injection e2 with e2
  subst e2;unfold nR at e;rw[MN];by_cases z:g=f
  ·rw[if_pos z]at e;cases e;subst z;simp only[beq_self_eq_true];exact⟨u,rfl,h1⟩
  ·rw[if_neg z]at e;rw[show (f==g)=false by simpa using λq=>z q.symm];exact Isk.look h2 e
theorem Isk.len {K:PySem.W.Frag} {H:Hp}:∀{fds:List (PyData×PyData)} {gs:List (Str×V)},Isk K H fds gs->gs.length=fds.length
 |[],_,h=>by unfold Isk at h;rw[h];rfl
 |(k,d)::r,_,h=>by unfold Isk at h;obtain⟨_,_,_,rfl,_,_,h2⟩:=h;rw[MC,MC,Isk.len h2]
theorem Is.atObj {fds:List (Str×PyData)} (h:Is K H (cA C a fds) v):v=.ref a/\∃dx gs,H a=some (.ins C dx gs)/\gs.lookup ("@":Str)=none/\Isk K H (fds.map λp=>(.str p.1,p.2)) gs:=by
 unfold cA at h;unfold Is at h;rcases h with (⟨g,ns,_,e,_⟩|⟨g,l,_,e,_⟩)|⟨g,t,i,gs,e,h1,b,h2|h2⟩
 ·cases e
 ·rcases e with⟨m,e,_⟩|⟨m,e,_⟩ <;> first|(cases e;done)|(cases m <;> cases e)
 ·unfold Isk at h2;obtain⟨f,u,j,e1,e2,q,c⟩:=h2;cases e1;unfold Isk at c;obtain⟨f,u,j,e1,e2,r,s⟩:=c;injection e2 with e2
  subst e2 e1;rw[MN]at b;simp at b
 ·unfold Isk at h2;obtain⟨f,u,j,e1,e2,q,c⟩:=h2;cases e1;have n:=q.ofInt;injection n with n
  obtain rfl:t=C:=Int.ofNat.inj n;unfold Isk at c;obtain⟨f,u,j,e1,e2,r,s⟩:=c;cases e1;have o:=r.ofInt;injection o with o
  obtain rfl:g=a:=Int.ofNat.inj o;exact⟨e,i,gs,h1,b,s⟩
def gB (fds:List (Str×PyData)):Bool:=kY (fds.map λp=>(.str p.1,p.2))
theorem wL (C a:Addr) (fds:List (Str×PyData)):objs (cA C a fds)=gB fds:=by unfold cA objs j9 gB;cases h:kY (fds.map λp=>(PyData.str p.1,p.2)) <;> simp[h]
def gG (δ:Ds):Bool:=δ.all λo=>match o with|some d=>objs d|none=>true
theorem jZ (h:gG δ=true) (i:Nat) (d:PyData) (e:δ[i]?=some (some d)):objs d=true:=by have:=MD.mp h _ (N0 e);exact this
theorem DL {fds:List (Str×PyData)} {gs:List (Str×V)} {f:Str} {z:Int} (hB:a∉B) (ha:H a=some (.ins C dx gs)) (hl:gs.lookup ("@":Str)=none) (c:f≠"@") (g:gB fds=true) (h:Isk K (del H B) (fds.map λp=>(.str p.1,p.2)) gs) :
  Is K (del (upd H a (.ins C dx (iG f (.int z) gs))) B) (cA C a (pG f (.int z) fds)) (.ref a):=by
 rw[wD hB];refine D5 (dx:=dx) (fs:=iG f (.int z) gs) (aH) (by rw[jL,if_neg (λq=>c q.symm)];exact hl) (Isk.put bP ?_);have hd:del H B a=some (.ins C dx gs):=by rw[aP hB];exact ha
 refine (Isk.off hd g h).same λb o e=>?_
 obtain⟨e1,e2⟩:=bf e;rw[aA (λq=>e1 (by rw[q];exact Mw.mpr rfl))];exact e2
theorem vj:ax (del H [a]) (upd H a o):=λb u e=>by obtain⟨e1,e2⟩:=bf e;rw[aA (λq=>e1 (by rw[q];exact Mw.mpr rfl))];exact e2
def nL (as:List Addr) (C:Addr) (i:Nat) (δ:Ds):Option (Addr×List (Str×PyData)):=match δ[i]? with
 |some (some d)=>(match objOf d with
  |some (C',a,fds)=>if C'=C/\a∈as/\gG δ=true/\gB fds=true/\fds.length<1000 then some (a,fds) else none
  |none=>none)
 |_=>none
theorem nr {fds:List (Str×PyData)} (h:nL as C i δ=some (a,fds)):δ[i]?=some (some (cA C a fds))/\a∈as/\gG δ=true/\gB fds=true/\fds.length<1000:=by
 unfold nL at h;split at h
 ·rename_i d e;split at h
  ·rename_i C' a' fds' q;split at h
   ·rename_i c;cases h;obtain⟨rfl,c1,b,f,g⟩:=c;rw[e,Cu q];exact⟨rfl,c1,b,f,g⟩
   ·cases h
  ·cases h
 ·cases h
def lq (as:List Addr) (C:Addr) (i:Nat) (f:Str) (g:Ds->Rs PyData):Ds->Sr:=λδ=>match nL as C i δ with
 |some (a,fds)=>ofR (g δ) λd=>match d with
  |.int z=>.nx (kQ a (cA C a (pG f (.int z) fds)) δ)
  |_=>.no
 |none=>.no
def eM (as:List Addr) (C:Addr) (i:Nat) (f:Str) (g:Ds->Rs PyData):Ds->Sr:=λδ=>match nL as C i δ with
 |some (a,fds)=>(match nR f fds with
  |some (.int n)=>ofR (g δ) λd=>match d with
   |.int z=>.nx (kQ a (cA C a (pG f (.int (n+z)) fds)) δ)
   |_=>.no
  |_=>.no)
 |none=>.no
section
variable {E:XK} {o value:Expr} {g:Ds->Rs PyData} {tpos:Pos} {f:Str}
theorem Fz (I:PD X E o (af i)) (hv:PD X E value g) (cl:Cls X.K C) (na:fw X.K C f) (hi:i∉O) (J:f≠"@") (L:swapsWith value (some (.Attribute o f pos')) pos.line X.env=pure false):PSN as X E O (.Assign [.Attribute o f pos'] value pos) (lq as C i f g):=(f7 I hv L).imp λD σ H s=>by
 obtain⟨H0,A0,A,δ,hn,R,b⟩:=s;unfold lq at b;split at b
 case h_2=>exact b.elim
 rename_i a fds q;obtain⟨e,ha,t,u,w⟩:=nr q;refine eD.run R.full (λd M v H1 G R1 hv=>?_) (λC c H' s'=>?_) (λc=>?_)
 ·rw[M]at b;cases d with
  |int z =>
   have x:=hv.ofInt;subst x;have e2:af i δ=.ok (cA C a fds):=by unfold af;rw[e]
   refine eD.run (R.step G).full (λd2 j v2 H2 s2 R2 y=>?_) (λC c H' s'=>?_) (λc=>?_)
   ·rw[e2]at j;cases j;obtain⟨rfl,dx,gs,hp,hl,hk⟩:=y.atObj;have l:=R.step (G.trans s2);obtain⟨v3,e3,N⟩:=l.pl i _ hi e;obtain⟨rfl,m,n,p,B,r⟩:=N.atObj;have h:H2 a=some (.ins C m n):=(bf p).2;have F:a∉A++A0:=(bf p).1;refine⟨a,C,m,n,rfl,h,cl,na,by rw[r.len,M3];exact w,?_⟩;exact b A σ _ (l.mutH h (hn a ha) (jZ t) vj (DL F h B J u r))
   ·rw[e2]at c;cases c
   ·rw[e2]at c;cases c
  |_=>exact b.elim
 ·rw[c]at b;exact b H' (R.same.trans s')
 ·rw[c]at b;exact b
theorem yN (P:PD X E o (af i)) (hv:PD X E value g) (cl:Cls X.K C) (na:fw X.K C f) (hi:i∉O) (Q:f≠"@"):PSN as X E O (.AugAssign (.Attribute o f tpos) .Add value pos) (eM as C i f g):=(BO P hv II).imp λD σ H t=>by
 obtain⟨H0,A0,A,δ,hn,R,b⟩:=t;unfold eM at b;split at b
 case h_2=>exact b.elim
 rename_i a fds q;obtain⟨e,ha,u,x,y⟩:=nr q;split at b
 case h_2=>exact b.elim
 rename_i n B;have e2:af i δ=.ok (cA C a fds):=by unfold af;rw[e]
 refine eD.run R.full (λd2 j v2 H1 F R1 G=>?_) (λC c H' s'=>?_) (λc=>?_)
 ·rw[e2]at j;cases j;obtain⟨rfl,dx,gs,S,hl,T⟩:=G.atObj;obtain⟨v,ev,I⟩:=T.look B;have J:=I.ofInt;subst J;refine⟨a,C,dx,gs,.int n,rfl,(bf S).2,cl,na,ev,?_⟩;refine eD.run (R.step F).full (λd U w H2 s2 R2 hw=>?_) (λC c H' s'=>?_) (λc=>?_)
  ·rw[U]at b;cases d with
   |int z =>have L:=hw.ofInt;subst L;refine⟨n,z,rfl,rfl,?_⟩;have l:=R.step (F.trans s2);obtain⟨v3,e3,W⟩:=l.pl i _ hi e;obtain⟨rfl,m,p,r,M,s⟩:=W.atObj;have h:H2 a=some (.ins C m p):=(bf r).2;have N:a∉A++A0:=(bf r).1;refine⟨m,p,h,by rw[s.len,M3];exact y,?_⟩;exact b A σ _ (l.mutH h (hn a ha) (jZ u) vj (DL N h M Q x s))
   |_=>exact b.elim
  ·rw[c]at b;exact b H' (R.same.trans (F.trans s'))
  ·rw[c]at b;exact b
 ·rw[e2]at c;cases c
 ·rw[e2]at c;cases c
end
def spM (K:PySem.W.Frag) (C:Addr) (g:List (Str×PyData)->Option (List (Str×PyData))):Sp:=λvs H Q E=>∃A a fds b,vs=[.ref a]/\Ls H A/\Is K (del H A) (cA C a fds) (.ref a)/\gB fds=true/\fds.length<1000/\g fds=some b /\
 ∀H',ax (del H [a]) H'->Is K (del H' A) (cA C a b) (.ref a)->Q .non H'
structure jP (P:Program) (w:World) (K:PySem.W.Frag) (mg:Str->Option Value) (base:Heap) (k:Nat) (C:Addr) (m:Str) (g:List (Str×PyData)->Option (List (Str×PyData))):Prop where
 ex:∃f fd ps,Cls K C/\Meth K C m f/\gM P w K mg base (CXW P w) k f fd ps (spM K C g)/\Binds K fd ps []
theorem oZ {K:PySem.W.Frag} {H:Hp} {f:Str}:∀{fds:List (Str×PyData)} {gs:List (Str×V)},Isk K H (fds.map λp=>(.str p.1,p.2)) gs->nR f fds=none->gs.lookup f=none
 |[],gs,h,_=>by rw[N8]at h;unfold Isk at h;rw[h];rfl
 |(g,x)::r,gs,h,e=>by
  rw[M5]at h;unfold Isk at h;obtain⟨g',u,gs',rfl,e2,h1,h2⟩:=h;injection e2 with e2
  subst e2;unfold nR at e;rw[MN];by_cases z:g=f
  ·rw[if_pos z]at e;cases e
  ·rw[if_neg z]at e;rw[show (f==g)=false by simpa using λq=>z q.symm];exact oZ h2 e
def kJ (as:List Addr) (C:Addr) (m:Str) (i:Nat) (g:List (Str×PyData)->Option (List (Str×PyData))):Ds->Sr:=λδ=>match nL as C i δ with
 |some (a,fds)=>if nR m fds=none then (match g fds with
  |some fds'=>.nx (kQ a (cA C a fds') δ)
  |none=>.no) else .no
 |none=>.no
section
variable {E:XK} {o:Expr} {apos:Pos}
theorem DN {k:Nat} {pl:Sem Bool} (D:jP X.prog X.w X.K X.mg X.base k C m g) (G:cw j X.A) (I:Passes (CXW X.prog X.w) X E) (J:PD X E o (af i)) (p:k<=j) (hi:i∉O)
  (L:eval (.Call (.Attribute o m apos) [] [] pos) X.env=(do
   let ov <-eval o X.env
   standAt apos.atName
   let (f,first) <-holding [ov] (getMethod ov m pl)
   callWith pos f first (backTo pos (starEach [] X.env)) (backToKw pos (keywordEach [] X.env))))
  (M:swapsWith (.Call (.Attribute o m apos) [] [] pos) none spos.line X.env=pure false) :
  PSN as X E O (.Expr (.Call (.Attribute o m apos) [] [] pos) spos) (kJ as C m i g):=by
 obtain⟨f,fd,ps,cl,hm,F,N⟩:=D.ex;refine (om (wa J cl hm F (G.mono p) N .nil I L) M).imp λD σ H r=>?_
 obtain⟨H0,A0,A,δ,hn,R,b⟩:=r;unfold kJ at b;split at b
 case h_2=>exact b.elim
 rename_i a fds q;obtain⟨e,ha,s,t,u⟩:=nr q;split at b
 case isFalse=>exact b.elim
 rename_i v;split at b
 case h_2=>exact b.elim
 rename_i h P;have e2:af i δ=.ok (cA C a fds):=by unfold af;rw[e]
 refine eD.run R.full (λd2 l v2 H1 Q R1 x=>?_) (λC n H' s'=>?_) (λn=>?_)
 ·rw[e2]at l;cases l;obtain⟨rfl,dx,gs,S,hl,p⟩:=x.atObj;have c:=R.step Q;obtain⟨v3,e3,B⟩:=c.pl i _ hi e;obtain⟨rfl,dx',gs',y,hl',hk'⟩:=B.atObj;refine⟨a,dx,gs,rfl,(bf S).2,oZ p v,?_⟩;refine⟨A++A0,a,fds,h,rfl,c.lsA,B,t,u,P,λH' T z=>?_⟩;exact b A σ H' (c.mutH (bf y).2 (hn a ha) (jZ s) T z)
 ·rw[e2]at n;cases n
 ·rw[e2]at n;cases n
end
theorem jP.of {p:Str} {k:Nat} (F:Fun K m qual st f fd) (S:cX N [p] (aE st)) (b:Binds K fd [p] []) (cl:Cls K C) (hm:Meth K C m f)
  (body:∀(as:List Addr) (cdv:Value) (A:Around) (outer:List Env) (s:Shared) (H:Hp) (E:XK),cw k (A.deeper (envOfC qual (aE st) s.heap.objs.size f cdv))->PBN as (c8 (CXW P w) P w K mg base N qual (aE st) f cdv A outer s H E) E [] (cj st) (G as))
  (J:∀a fds c,gB fds=true->fds.length<1000->g fds=some c->∃δ,G [a] (some (cA C a fds)::List.replicate (N.length-1) none)=.nx δ/\δ[0]?=some (some (cA C a c))):jP P w K mg base (k+1) C m g:=by
 refine⟨f,fd,[p],cl,hm,lH F S (λvs H Q E h=>?_) (λcdv A outer s H vs Q E L h=>?_),b⟩
 ·obtain⟨A,a,fds,c,rfl,_⟩:=h;rfl
 ·obtain⟨A0,a,fds,c,rfl,D,hi,n,r,t,o⟩:=h;obtain⟨_,dx,gs,M,hl,hk⟩:=hi.atObj;have ha:=bf M;obtain⟨δ,e1,e2⟩:=J a fds c n r t;have l:bY K H A0 H [] [] (some (cA C a fds)::List.replicate (N.length-1) none) (L2.start N [.ref a]):=bY.start (ps:=[p]) (ds:=[cA C a fds]) D (cG hi cR) rfl (λi h=>by cases h);have x:Ls (del H [a]) A0:=λb j=>by
   obtain⟨xs,e,q⟩:=D b j;exact⟨xs,by
    have y:b∉[a]:=λz=>ha.1 (by rw[<-Mw.mp z];exact j)
    rw[aP y];exact e,q⟩
  refine⟨_,body [a] cdv A outer s H E L,del H [a],A0,[],_,λb j=>by rw[Mw.mp j];exact gW (Mw.mpr rfl),⟨aB,x,λb j=>(MI j).elim,l.ls,l.len,l.pl,l.own,l.inj⟩,?_⟩;rw[e1];intro A' σ' H' I;refine o H' I.same ?_;obtain⟨v,_,h2⟩:=I.pl 0 _ (by simp) e2;have B:=h2.same (H':=del H' A0) (λb u e=>by obtain⟨O,R⟩:=bf e;rw[aP (λz=>O (Mt _ z))];exact R)
  rw[B.atObj.1]at B;exact B
def LS (C:Addr) (names:List Str) (tl:List (Str×Int)):Sp:=λvs H Q _=>∃(x dx:Addr) (args:List V),vs=.ref x::args/\args.length=names.length/\H x=some (.ins C dx []) /\
 ∀H':Hp,(∀b,b≠x->H' b=H b)->H' x=some (.ins C dx (names.zip args++tl.map λp=>(p.1,.int p.2)))->Q .non H'
structure MkD (P:Program) (w:World) (K:PySem.W.Frag) (mg:Str->Option Value) (base:Heap) (k:Nat) (x:Str) (C:Addr) (names:List Str) (tl:List (Str×Int)):Prop where
 ex:∃f fd ps,Mk K C f/\gM P w K mg base (CXW P w) k f fd ps (LS C names tl)/\Binds K fd ps []/\mg x=some (.ref C)
def tlD (tl:List (Str×Int)):List (Str×PyData):=tl.map λp=>(p.1,.int p.2)
theorem C0 {K:PySem.W.Frag} {H:Hp}:∀tl:List (Str×Int),Isk K H ((tlD tl).map λp=>(.str p.1,p.2)) (tl.map λp=>(p.1,.int p.2))
 |[]=>oC
 |p::r=>dY bP (C0 r)
theorem yX {K:PySem.W.Frag} {H:Hp} {e:List (PyData×PyData)} {gs:List (Str×V)} (h2:Isk K H e gs):∀{d:List (PyData×PyData)} {fs:List (Str×V)},Isk K H d fs->Isk K H (d++e) (fs++gs)
 |[],fs,h=>by unfold Isk at h;subst h;exact h2
 |(k,x)::r,fs,h=>by unfold Isk at h;obtain⟨f,v,fs',rfl,rfl,h1,a⟩:=h;exact dY h1 (yX h2 a)
theorem pf {f:Str} {b:List (Str×V)} (c:b.lookup f=none):∀{a:List (Str×V)},a.lookup f=none->(a++b).lookup f=none
 |[],_=>c
 |(g,x)::r,h=>by
  rw[MU,MN];rw[MN]at h;cases q:(f==g) with
  |true=>rw[q]at h;cases h
  |false=>rw[q]at h;exact pf c h
theorem Hl {f:Str}:∀{tl:List (Str×Int)},(f∉tl.map (·.1))->(tl.map λp=>((p.1,V.int p.2):Str×V)).lookup f=none
 |[],_=>rfl
 |p::r,h=>by rw[M5,MN,show (f==p.1)=false by simpa using λq=>h (by rw[q];exact M6)];exact Hl λq=>h (M4 _ q)
def eMk (K:PySem.W.Frag) (E:XK) (C:Addr) (names:List Str) (tl:List (Str×Int)) (gs:Ds->Rs (List PyData)):TE:=λσ H Q=>∃A δ,dC K H A δ σ/\(match gs δ with
 |.ok ds=>ds.length=names.length/\∀x H',H x=none->ax H H'->Is K (del H' A) (cA C x (names.zip ds++tlD tl)) (.ref x)->Q (.ref x) H'
 |.rz C'=>∀H',ax H H'->E (.ref C') none H'
 |.no=>False)
section
variable {E:XK} {e:Expr} {es:List Expr}
theorem K0 {k:Nat} (D:MkD X.prog X.w X.K X.mg X.base k x C names tl) (s:cw j X.A) (t:Passes (CXW X.prog X.w) X E) (ha:PAD X E (e::es) gs) (u:k+1<=j:=by decide) (v:Gl X x:=by rfl)
  (a:(x==("__debug__":Str))=false:=by decide) (y:starEach (e::es) X.env=(false,eval e X.env)::starEach es X.env:=by rfl) (c:(backTo pos (starEach es X.env)).any (·.1)=false:=by rfl) (hn:("@":Str)∉names:=by decide) (g:("@":Str)∉tl.map (·.1):=by decide) :
  PE X (.Call (.Name x p) (e::es) [] pos) (eMk X.K E C names tl gs):=by
 obtain⟨f,fd,ps,M,F,z,hm⟩:=D.ex;refine (Ar M F (s.mono u) v hm z .nil t ha.1 a y c).imp λσ H Q h=>?_
 obtain⟨A,δ,R,o⟩:=h;refine aD.run R (λds e1 vs H1 n B h1=>?_) (λC i H' s'=>?_) (λi=>?_)
 ·rw[e1]at o;obtain⟨hl,o⟩:=o;intro x dx nx l ne;refine⟨x,dx,vs++[],rfl,by rw[N4,h1.length,hl],aH,λH' k1 k2=>⟨rfl,?_⟩⟩;rw[N4]at k2;have r:ax H1 H':=λb q m=>by have n1:b≠x:=aK m nx;rw[k1 b n1,aA n1,aA (aK m l)];exact m
  refine o x H' (n.free nx) (n.trans r) (D5 (dx:=dx) (fs:=names.zip vs++tl.map λp=>(p.1,.int p.2)) ?_ (pf (Hl g) (yE hn)) ?_)
  ·rw[aP (B.ls.new nx)];exact k2
  ·rw[N3];exact yX (C0 tl) (uX (h1.same r.del))
 ·rw[i]at o;exact o H' s'
 ·rw[i]at o;exact o
end
def kF (C:Addr) (names:List Str) (tl:List (Str×Int)) (as:List Addr) (a:List (List PyData)):List PyData:=(as.zip a).map λp=>cA C p.1 (names.zip p.2++tlD tl)
def lJ (K:PySem.W.Frag) (E:XK) (C:Addr) (names:List Str) (tl:List (Str×Int)) (n0:Nat) (e gs:Ds->Rs (List PyData)) (tgt:PyData->Option Ds):TE:=λσ H Q=>∃A δ,dC K H A δ σ/\δ.length=n0/\∃ds b,e δ=.ok ds/\ds.length<=1000000/\b.length=ds.length /\
 (∀(i:Nat) d,ds[i]?=some d->∃c fs,tgt d=some c/\b[i]?=some fs/\gs (δ++c)=.ok fs/\fs.length=names.length) /\
 ∀(as:List Addr) (D:Addr) (H':Hp),as.length=ds.length->as.Nodup->(∀a∈as,H a=none)->ax H H'->Is K (del H' A) (.list (kF C names tl as b)) (.ref D)->Q (.ref D) H'
theorem Ie {E:XK} {g:TG} (hT:TgD K n0 own.length tgt g) :
  ∀σ H Q,lJ K E C names tl n0 gi gs tgt σ H Q->tLC own.length (iD K E gi) g wd (eMk K E0 C names tl gs) σ H Q:=by
 intro σ H Q ⟨A,δ,R,X,ds,j,q,hz,Y,Z,o⟩;have hσ:σ.length=n0:=by rw[<-R.len];exact X
 refine⟨A,δ,R,?_⟩;rw[q];intro J H1 s1 hJ D P;have S:=R.same s1;have nD:D∉A:=S.ls.new P;refine⟨λi m ys H'=>m=ds.length-i/\i<=ds.length/\ax H1 H'/\H' D=some (.lst ys)/\∃as:List Addr,as.length=i/\ys=as.map V.ref/\as.Nodup/\(∀a∈as,H1 a=none/\a≠D/\∃u,H' a=some u)/\Iss K (del H' (D::A)) (kF C names tl as (j.take i)) ys,
  ⟨ds.length,by simp,Nd _,bL P,aH,[],rfl,rfl,List.nodup_nil,λa h=>(MI h).elim,cR⟩,?_⟩
 rintro i m ys H' ⟨rfl,hi,w,hl,as,n,rfl,nd,l,c3⟩
 refine⟨hl,?_⟩;have sG:ax (del H1 A) H':=aB.trans w;have F:∀b∈D::A,(del H1 A) b=none:=λb r=>by
  rcases M7.mp r with z|z
  ·rw[z,aP nD];exact P
  ·exact gW z
 obtain⟨jg,js,jy⟩:=hJ H' (D::A) sG (λb r=>by
  rcases M7.mp r with z|z
  ·exact⟨_,by rw[z];exact hl,rfl⟩
  ·exact (S.ls.same w) b z) F
 by_cases hlt:i<ds.length
 ·refine .inr ⟨jg i hlt,λx H2 σ' G y=>?_⟩;obtain⟨s2,d,ed,hd⟩:=jy i x H2 hlt y;obtain⟨ow,fs,et,ef,eg,hfs⟩:=Z i d ed;have l2:H2 D=some (.lst (as.map V.ref)):=s2 _ _ hl;have I:Ls H2 (D::A):=λb r=>by
   rcases M7.mp r with z|z
   ·exact⟨_,by rw[z];exact l2,rfl⟩
   ·exact (S.ls.same (w.trans s2)) b z
  obtain⟨hol,hgo⟩:=hT d x σ σ' H2 (D::A) (λs H2=>wd s H2 λb H3 =>
   if b=true then eMk K E0 C names tl gs s H3 λv B=>B D=some (.lst (as.map V.ref))/\(as.map V.ref).length<sizeLine/\(∃f,s=σ++f/\f.length=own.length)/\∃m',m' < ds.length-i/\_
   else (∃f,s=σ++f/\f.length=own.length)/\∃m',m' < ds.length-i/\_) ow hσ G I hd et
  refine hgo λvs L M=>?_
  have N:ax (del H1 A) (del H2 (D::A)):=lF (sG.trans s2) F;have RE:dC K H2 (D::A) (δ++ow) (σ++vs):=by
   refine⟨I,by rw[Mv,Mv,R.len,L,hol],λk e T=>?_⟩;by_cases hk:k<δ.length
   ·rw[ML hk]at T;obtain⟨u,e1,t⟩:=S.get k e T;exact⟨u,by rw[ML (by rw[<-R.len];exact hk)];exact e1,t.same N⟩
   ·rw[MO (by omega)]at T;obtain⟨u,e1,t⟩:=M _ e T;exact⟨u,by rw[MO (by rw[<-R.len];omega),<-R.len];exact e1,t⟩
  unfold wd;have hI:∀{p q:Prop},p->(if true=true then p else q):=λh=>by rw[if_pos rfl];exact h
  refine hI ?_;refine⟨D::A,δ++ow,RE,?_⟩;rw[eg];refine⟨hfs,λa B na U ha=>?_⟩;have l4:B D=some (.lst (as.map V.ref)):=U _ _ l2;have O:a≠D:=λz=>by rw[z,l2]at na;cases na
  have naA:a∉as:=λz=>by obtain⟨_,_,u,t⟩:=l a z;rw[s2 _ _ t]at na;cases na
  have dU:del (upd B D (.lst (as.map V.ref++[.ref a]))) (D::A)=del B (D::A):=kn (M6);have h4a:∃u,B a=some u:=by obtain⟨_,dx,gs',hp,_⟩:=ha.atObj;exact⟨_,(bf hp).2⟩
  have hex:kF C names tl (as++[a]) (j.take (i+1))=kF C names tl as (j.take i)++[cA C a (names.zip fs++tlD tl)]:=by
   have ht:j.take (i+1)=j.take i++[fs]:=by rw[List.take_add_one,ef];rfl
   unfold kF;rw[ht,List.zip_append (by rw[n,NO];omega),N3];rfl
  refine⟨l4,by rw[sizeLine_eq,M3,n];omega,⟨vs,rfl,L⟩,ds.length-(i+1),by omega,rfl,hlt,?_,aH,as++[a],by rw[Mv,n];rfl,by rw[N3];rfl,?_,λb r=>?_,?_⟩
  ·exact ax.put ((w.trans s2).trans U) P
  ·exact Oo.mpr ⟨nd,by simp,λb r c hc e=>by rw[Mw.mp hc]at e;exact naA (e▸r)⟩
  ·rcases MM.mp r with z|z
   ·obtain⟨h1,h2,u,t⟩:=l b z;refine⟨h1,h2,u,?_⟩;rw[aA h2];exact U _ _ (s2 _ _ t)
   ·cases Mw.mp z;obtain⟨u,t⟩:=h4a;refine⟨(w.trans s2).free na,O,u,?_⟩;rw[aA O];exact t
  ·rw[dU,hex];exact (c3.same (ax.del (s2.trans U))).append (i8 ha)
 ·have e:i=ds.length:=by omega
  subst e;rw[<-Y,List.take_length]at c3;refine .inl ⟨js,o as D H' (by rw[n]) nd (λa ha=>s1.free (l a ha).1) (s1.trans w) ?_⟩;have hs:ax (del H' (D::A)) (del H' A):=λb u eb=>by obtain⟨q1,q2⟩:=bf eb;rw[aP (λz=>q1 (M4 _ z))];exact q2
  exact jC (by rw[aP nD];exact hl) (c3.same hs)
section
variable {E:XK} {ss:List Stmt}
theorem Fo {r:Ds->Rs (List PyData)} {e:Ds->Sr} (u:PS X st (EH (lJ X.K E C names tl n0 r gs tgt) (j6 i))) (f:∀as,PBN as X E O ss (G as)) (hi:i∉O)
  (g:∀δ,e δ≠.no->∃d ds b,e δ=.rt d/\i<δ.length/\δ.length=n0/\r (mask O δ)=.ok ds/\ds.length<=1000000/\b.length=ds.length/\(∀(i:Nat) d,ds[i]?=some d->∃t fs,tgt d=some t/\b[i]?=some fs/\gs (mask O δ++t)=.ok fs/\fs.length=names.length) /\
   ∀as:List Addr,as.length=ds.length->as.Nodup->G as (δ.set i (some (.list (kF C names tl as b))))=.rt d):PBD X E O (st::ss) e:=by
 have h2:PSs X ss (λD σ H=>∃as,sDN as X.K E O (G as) D σ H):=λpins s σ H D I j=>(by obtain⟨as,h⟩:=j;exact f as pins s σ H D I h)
 refine (cH u h2).imp λD σ H l=>?_
 obtain⟨H0,A0,A,δ,R,o⟩:=l;by_cases z:e δ=.no
 ·rw[z]at o;exact o.elim
 obtain⟨d,ds,b,e1,hl,hn,e2,v,w,m,x⟩:=g δ z;rw[e1]at o;have n:(mask O δ).length=n0:=by rw[wm];exact hn
 refine⟨A++A0,mask O δ,R.part,n,ds,b,e2,v,w,m,λas Dd H' p nd c y q=>?_⟩;refine⟨as,H0,A0,A,_,λa ha=>R.same.free (c a ha),(R.step y).set hi hl q,?_⟩;rw[x as p nd];exact o
end
section
variable {κ:Type} [DecidableEq κ]
def mY (kvs:List (κ×V)) (k:κ):Option V:=(kvs.find? λa=>decide (a.1=k)).map (·.2)
def putK (kvs:List (κ×V)) (k:κ) (v:V):List (κ×V) :=
 if (kvs.any λa=>decide (a.1=k))=true then kvs.map (λa=>if a.1=k then (a.1,v) else a) else kvs++[(k,v)]
theorem qb {p:κ×V} {r:List (κ×V)} {k:κ} (e:p.1=k):mY (p::r) k=some p.2:=by simp[mY,Np,e]
theorem qF {p:κ×V} {r:List (κ×V)} {k:κ} (e:¬ p.1=k):mY (p::r) k=mY r k:=by simp[mY,Np,e]
theorem vT (k:κ):∀kvs:List (κ×V),(kvs.any λa=>decide (a.1=k))=(mY kvs k).isSome
 |[]=>rfl
 |p::r=>by
  rw[NH];by_cases e:p.1=k
  ·simp only[qb e,decide_eq_true e,Bool.true_or,Option.isSome_some]
  ·rw[qF e,decide_eq_false e,Bool.false_or];exact vT k r
theorem nQ (kvs:List (κ×V)) (k:κ) (v:V):(putK kvs k v).length<=kvs.length+1:=by
 unfold putK;split
 ·rw[M3];omega
 ·rw[Mv,MC,Nm];omega
theorem ky.isSome_eq {o:Option V} {u:Option Value} (r:ky o u):o.isSome=u.isSome:=by
 cases o with
 |none=>cases u with
  |none=>rfl
  |some _=>exact (show False from r).elim
 |some _=>cases u with
  |none=>exact (show False from r).elim
  |some _=>rfl
theorem ky.getD {o:Option V} {u:Option Value} {d:V} {d':Value} (r:ky o u) (a:RelV d d'):RelV (o.getD d) (u.getD d'):=by
 cases o with
 |none=>cases u with
  |none=>exact a
  |some _=>exact (show False from r).elim
 |some _=>cases u with
  |none=>exact (show False from r).elim
  |some _=>exact r
theorem KV.val {kvs:List (κ×V)} {vs:List (κ×Value)} (r:KV kvs vs) (k:κ):ky (mY kvs k) (valueAt vs k):=by
 unfold KV at r
 induction r with
 |nil=>exact True.intro
 |@cons p q ps qs h t ih =>
  obtain⟨h1,h2⟩:=h;by_cases e:p.1=k
  ·have a:q.1=k:=h1.symm.trans e;have b:valueAt (q::qs) k=some q.2:=by simp[valueAt,Np,a]
   rw[qb e,b];exact h2
  ·have a:¬ q.1=k:=λz=>e (h1.trans z)
   have b:valueAt (q::qs) k=valueAt qs k:=by simp[valueAt,Np,a]
   rw[qF e,b];exact ih
theorem KV.any {kvs:List (κ×V)} {vs:List (κ×Value)} (r:KV kvs vs) (k:κ):(kvs.any λa=>decide (a.1=k))=vs.any λa=>decide (a.1=k):=by
 unfold KV at r
 induction r with
 |nil=>rfl
 |cons h t ih=>rw[NH,NH,ih,h.1]
theorem KV.repl {kvs:List (κ×V)} {vs:List (κ×Value)} (r:KV kvs vs) (k:κ) (b:RelV y u) :
  KV (kvs.map λa=>if a.1=k then (a.1,y) else a) (vs.map λa=>if a.1=k then (a.1,u) else a):=by
 unfold KV at r ⊢
 induction r with
 |nil=>exact .nil
 |@cons p q ps qs h t ih =>
  rw[M5,M5];refine .cons ?_ ih;obtain⟨h1,h2⟩:=h;by_cases e:p.1=k
  ·rw[if_pos e,if_pos (h1.symm.trans e)];exact⟨h1,b⟩
  ·rw[if_neg e,if_neg (λz=>e (h1.trans z))];exact⟨h1,h2⟩
theorem KV.put {kvs:List (κ×V)} {vs:List (κ×Value)} (r:KV kvs vs) (k:κ) (a:RelV y u):KV (putK kvs k y) (stored vs k u):=by
 unfold putK stored;rw[r.any k];by_cases e:(vs.any λb=>decide (b.1=k))=true
 ·rw[if_pos e,if_pos e];exact r.repl k a
 ·rw[if_neg e,if_neg e];exact Paired.snoc r ⟨rfl,a⟩
theorem KV.length {kvs:List (κ×V)} {vs:List (κ×Value)} (r:KV kvs vs):kvs.length=vs.length:=Paired.length r
end
theorem EB {k:Key} (r:RelV (kV k) u):(dm P w).is k u=true:=by
 cases k with
 |inl i=>obtain⟨t,e⟩:=(show ∃t,u=Value.int i t from r);subst e;exact vX P w i t
 |inr x=>obtain⟨t,e⟩:=(show ∃t,u=Value.str x t from r);subst e;exact vH P w x t
theorem sH {P:Program} {w:World}:∀{ks:List Key} {us:List Value},Vals (ks.map kV) us->ItemsAre (dm P w) ks us
 |[],_,r=>by rw[N8]at r;cases r;exact .nil
 |k::ks,_,r=>by
  rw[M5]at r;cases r with
  |cons h t=>exact .cons (EB h) (sH t)
abbrev KT (H:Hp):List (List Key×V)->List (List Key×Addr×Value)->Prop:=Paired λp q=>p.1=q.1/\H q.2.1=some (.tup (p.1.map kV))/\RelV p.2 q.2.2
theorem KT.val (r:KT H kvs xs) (k:List Key):ky (mY kvs k) ((atKey xs k).map (·.2)):=by
 induction r with
 |nil=>exact True.intro
 |@cons p q ps qs h t ih =>
  obtain⟨h1,_,h2⟩:=h;by_cases e:p.1=k
  ·have a:q.1=k:=h1.symm.trans e;have b:atKey (q::qs) k=some q.2:=by simp[atKey,Np,a]
   rw[qb e,b];exact h2
  ·have a:¬ q.1=k:=λz=>e (h1.trans z)
   have b:atKey (q::qs) k=atKey qs k:=by simp[atKey,Np,a]
   rw[qF e,b];exact ih
theorem KT.repl (r:KT H kvs xs) (k:List Key) (b:RelV y u) :
  KT H (kvs.map λa=>if a.1=k then (a.1,y) else a) (xs.map (putAt k u)):=by
 induction r with
 |nil=>exact .nil
 |@cons p q ps qs h t ih =>
  rw[M5,M5];refine .cons ?_ ih;obtain⟨h1,h2,c⟩:=h;unfold putAt;by_cases e:p.1=k
  ·rw[if_pos e,if_pos (h1.symm.trans e)];exact⟨h1,h2,b⟩
  ·rw[if_neg e,if_neg (λz=>e (h1.trans z))];exact⟨h1,h2,c⟩
theorem KT.put (r:KT H kvs xs) (k:List Key) (c:H b=some (.tup (k.map kV))) (a:RelV y u) :
  KT H (putK kvs k y) (storedH xs k b u):=by
 have e:(kvs.any λf=>decide (f.1=k))=(atKey xs k).isSome:=by rw[vT,(r.val k).isSome_eq,Option.isSome_map]
 unfold putK storedH;rw[e];by_cases q:(atKey xs k).isSome=true
 ·rw[if_pos q,if_pos q];exact r.repl k a
 ·rw[if_neg q,if_neg q];exact Paired.snoc r ⟨rfl,c,a⟩
theorem KT.keeps (r:KT H kvs xs) (a:∀b ys,H b=some (.tup ys)->H' b=some (.tup ys)):KT H' kvs xs :=
 Paired.mapP r λ_ _ z=>⟨z.1,a _ _ z.2.1,z.2.2⟩
section
theorem Hn {u:HO} (ok:HOk P w H h) (e:Rd H a u):dg P w H h a u:=e.ok ok
theorem B6 {kvs:List (Key×V)} (ok:HOk P w H h) (e:Rd H a (.dK kvs)):kvs.length<=sizeLine/\(a==sysModules)=false/\∃vs,KV kvs vs/\h.DictOf (dm P w) a vs :=
 show dg P w H h a (.dK kvs) from Hn ok e
theorem LF {kvs:List (Key×V)} (ok:HOk P w H h) (e:H a=some (.dK kvs)):kvs.length<=sizeLine/\(a==sysModules)=false/\∃vs,KV kvs vs/\h.DictOf (dm P w) a vs:=B6 ok (.inl e)
theorem yS {ks:List Key} (ok:HOk P w H h) (e:H a=some (.tup (ks.map kV))):(tupleKind (dm P w)).is h ks a:=by
 obtain⟨_,b,r,o,h1,h2,_,n,c⟩:=(show dg P w H h a (.tup (ks.map kV)) from ok a _ e)
 exact⟨o,b.toArray,n,h1,h2,c,by simpa using sH r⟩
theorem CU (ok:HOk P w H h) (e:Rd H a (.dT kvs)):kvs.length<=sizeLine/\(a==sysModules)=false /\
  ∃xs,KT H kvs xs/\h.DictOfH (tupleKind (dm P w)) a xs:=by
 obtain⟨z,y,xs,r,o,es,c,h1,h2,f,g,i⟩:=(show dg P w H h a (.dT kvs) from Hn ok e)
 refine⟨z,y,xs,r,o,es,c,h1,h2,f,g,λx b=>?_,i⟩;have all:∀{l:List (List Key×V)} {m:List (List Key×Addr×Value)},KT H l m->∀x∈m,(tupleKind (dm P w)).is h x.1 x.2.1:=by
  intro l m q
  induction q with
  |nil=>intro x b;exact nomatch b
  |@cons p q ps qs hq t ih =>
   intro x b;rcases M7.mp b with e|b
   ·subst e;exact yS ok (by rw[<-hq.1];exact hq.2.1)
   ·exact ih x b
 exact all r x b
theorem KD (ok:HOk P w H h) (e:H a=some (.dT kvs)):kvs.length<=sizeLine/\(a==sysModules)=false /\
 ∃xs,KT H kvs xs/\h.DictOfH (tupleKind (dm P w)) a xs:=CU ok (.inl e)
end
def Cr (H:Hp) (a:Addr) (y:V) (r:Option V):Prop :=
 (∃kvs k,Rd H a (.dK kvs)/\y=kV k/\r=mY kvs k)\/∃kvs k b,Rd H a (.dT kvs)/\y=.ref b/\H b=some (.tup (k.map kV))/\r=mY kvs k
def Cv (H:Hp) (a:Addr) (y v:V) (H':Hp):Prop :=
 (∃kvs k,H a=some (.dK kvs)/\y=kV k/\kvs.length<sizeLine/\H'=upd H a (.dK (putK kvs k v))) \/
 ∃kvs k b,H a=some (.dT kvs)/\y=.ref b/\H b=some (.tup (k.map kV))/\kvs.length<sizeLine/\H'=upd H a (.dT (putK kvs k v))
theorem Cr.k {kvs:List (Key×V)} {k:Key} (e:H a=some (.dK kvs)):Cr H a (kV k) (mY kvs k):=.inl ⟨kvs,k,.inl e,rfl,rfl⟩
theorem Cv.k {kvs:List (Key×V)} {k:Key} (e:H a=some (.dK kvs)) (hl:kvs.length<sizeLine):Cv H a (kV k) v (upd H a (.dK (putK kvs k v))):=.inl ⟨kvs,k,e,rfl,hl,rfl⟩
section
variable {r:Value} {o:Option V} {A:Around}
theorem Inv.big (I:Inv X pins σ H s):sysModules<s.heap.objs.size:=by have h:mainGlobals<s.heap.objs.size:=(I.mod.glob.keeps I.bk).lt;exact Nat.lt_trans (by decide) h
theorem zU {t':Nat} {c:HO} (I:Inv X pins σ H s) (f:Mut (H a)) (g:Heap.SameBut a s.heap h') (h:∃q,h'.get? a=some q) (new:dg X.prog X.w (upd H a c) h' a c) :
  Inv X pins σ (upd H a c) { s with heap:=h',toks:=t' } :=
 I.write (x:=a) (e:=a) f (.inl rfl) (λb q i z=>(g.2 b i).trans z) h new
theorem J0 {kvs:List (Key×V)} {vs:List (Key×Value)} (z:kvs.length<=sizeLine) (hd:(a==sysModules)=false) (rel:KV kvs vs) (dd:h'.DictOf (dm P w) a vs) :
 dg P w H' h' a (.dK kvs):=⟨z,hd,vs,rel,dd⟩
theorem BU {Q:Unit->Shared->Prop} (C:A.units+1<cLine) (I:Inv X pins σ H s) (g:Cv H a y v H') (p:RelV y u) (t:RelV v r) (h:∀s',Inv X pins σ H' s'->Q () s') :
  wpAny (model X.prog X.w) A (setItem (.ref a) u r) Q E s:=by
 rcases g with⟨kvs,k,e,j,l,m⟩|⟨kvs,k,b,e,j,x,l,m⟩
 ·subst j m;obtain⟨z,hd,vs,rel,dd⟩:=LF I.hok e;have n:vs.length<=sizeLine:=by rw[<-rel.length];exact z
  have hl:(putK kvs k v).length<=sizeLine:=by have:=nQ kvs k v;omega
  refine wpAny_setItem_pairs (hsz:=n) (EB p) dd λh' f o=>h _ ?_
  have D:∃q,h'.get? a=some q:=let ⟨q,_,_,i,_⟩:=f;⟨q,i⟩;exact zU I (by rw[e];exact True.intro) o D (J0 hl hd (rel.put k t) f)
 ·subst j m;cases (show u=Value.ref b from p);obtain⟨z,hd,xs,rel,dd⟩:=KD I.hok e;have n:xs.length<=sizeLine:=by rw[<-Paired.length rel];exact z
  have hl:(putK kvs k v).length<=sizeLine:=by have:=nQ kvs k v;omega
  refine wpAny_setItem_heap (hsz:=n) (tupleKind_room_in1 C) (yS I.hok x) dd λh' f o=>h _ ?_
  obtain⟨q,es,F,i,h2,G,J,_,K⟩:=f;refine zU I (by rw[e];exact True.intro) o ⟨q,i⟩ ⟨hl,hd,_,(rel.put k x t).keeps λc ys B=>?_,q,es,F,i,h2,G,J,K⟩;rw[aA (KN B e (λz=>nomatch z))];exact B
end
section
variable {kvs:List (Key×V)} {k:Key} {A:Around}
end
def Ks (td ty tv:TE):TS:=λD σ H=>tv σ H λv H1=>td σ H1 λx H2=>ty σ H2 λy c=>∃a b,x=.ref a/\Cv c a y v b/\D.nx σ b
section
variable {o i e value:Expr} {tpos:Pos} {td ty tv:TE}
theorem Gy (c:X.A.units+1<cLine) (e:PE X o td) (hi:PE X i ty) (hv:PE X value tv) (f:swapsWith value (some (.Subscript o i pos')) pos.line X.env=pure false) :
  PS X (.Assign [.Subscript o i pos'] value pos) (Ks td ty tv):=by
 intro pins s σ H D I h;refine wpAny_Assign_Subscript (thn (hv pins s σ H _ I h) λr j b=>?_) f;obtain⟨v,H1,l,m,n⟩:=b;refine thn (e pins j σ H1 _ l n) λu s2 b=>?_
 obtain⟨x,H2,p,q,t⟩:=b;refine thn (hi pins s2 σ H2 _ p t) λiv s3 b=>?_
 obtain⟨y,H3,w,z,a,B,ex,g,C⟩:=b;subst ex;obtain rfl:u=Value.ref a:=q;exact BU c w g z m λs4 E=>⟨σ,B,E,C⟩
end
theorem CA (h:Heap) (a:sysModules<h.objs.size):dg P w H (h.push { cls:=.type "dict",data:=.dict #[] }) h.objs.size (.dK []) :=
 ⟨Nd _,beq_eq_false_iff_ne.mpr (Ne.symm (MB a)),[],.nil,Heap.DictOf.new h⟩
def JY:TE:=λ_ H Q=>∀p,H p=none->Q (.ref p) (upd H p (.dK []))
section
theorem v5:PE X (.Dict [] [] pos) JY:=λpins s σ H Q I h =>
 wpAny_Dict_empty ⟨.ref s.heap.objs.size,_,I.laid (a:=s.heap.objs.size) (o:=.dK []) (t':=s.toks) (λ_ _ q=>M0 _ q) (Mu _) (CA s.heap I.big),rfl,h _ (I.hok.fresh (Mu _))⟩
end
structure M2 (X:Cx) (o:Expr) (m:Str) (apos:Pos) (e f:Expr) (cpos:Pos):Prop where
 base:attributeBase o m X.env (eval o X.env)=eval o X.env
 few:((backTo cpos (starEach [e,f] X.env)).all (λx=>!x.1)&&(backToKw cpos (keywordEach [] X.env)).all (λx=>x.1.isSome)
 &&decide (([e,f]:List Expr).length+([]:List Keyword).length+(if ([]:List Keyword).isEmpty then 0 else 1)<30))=true
 line:(apos.endLine==cpos.line)=true
 trees:backTo cpos (starEach [e,f] X.env)=[(false,eval e X.env),(false,eval f X.env)]
def LC (H:Hp) (a:Addr):Prop:=(∃kvs,Rd H a (.dK kvs))\/∃kvs,Rd H a (.dT kvs)
theorem IZ (I:Inv X pins σ H s) (d:LC H a) :
  s.TypeIs (.ref a) "dict"/\(∀b,Value.ref a=.ref b->∃c,s.heap.get? b=some c/\c.dict=none)/\(a==sysModules)=false:=by
 rcases d with⟨kvs,e⟩|⟨kvs,e⟩
 ·obtain⟨_,hd,vs,_,dd⟩:=B6 I.hok e;refine⟨dd.typeIs,λb q=>?_,hd⟩;cases q;obtain⟨c,_,_,h1,h2,_⟩:=dd;exact⟨c,h1,h2.2.1⟩
 ·obtain⟨_,hd,xs,_,dd⟩:=CU I.hok e;refine⟨dd.typeIs,λb q=>?_,hd⟩;cases q;obtain⟨c,_,_,h1,h2,_⟩:=dd;exact⟨c,h1,h2.2.1⟩
section
variable {d:V} {r:Value} {o:Option V} {A:Around}
theorem JD (m:A.units+1<cLine) (I:Inv X pins σ H s) (g:Cr H a y o) (f:RelV y u) (i:RelV d r) (h:∀j s',Inv X pins σ H s'->RelV (o.getD d) j->Q j s') :
  wpAny (model X.prog X.w) A (call (.builtin "dict.get") [.ref a,u,r]) Q E s:=by
 rcases g with⟨kvs,k,e,c,l⟩|⟨kvs,k,b,e,c,n,l⟩
 ·subst c;obtain⟨z,hd,vs,rel,dd⟩:=B6 I.hok e;refine call_meetsIn PySem.F.slot_dict_get dd.typeIs PySem.F.entry_dict_get (PySem.F.args_dict_get_3 _ _ _) (meets_dict_get_default (dm X.prog X.w) a (EB f) hd r) ⟨_,dd.mapOf,h _ _ (I.tok _) ?_⟩;rw[l];exact (rel.val k).getD i
 ·subst c;cases (show u=Value.ref b from f);obtain⟨z,hd,xs,rel,dd⟩:=CU I.hok e;refine call_meetsIn PySem.F.slot_dict_get dd.typeIs PySem.F.entry_dict_get (PySem.F.args_dict_get_3 _ _ _) (meetsH_dict_get_default (tupleKind (dm X.prog X.w)) a b hd r) ⟨tupleKind_room_in1 m,k,xs,yS I.hok n,dd,h _ _ (I.tok _) ?_⟩;rw[l];exact (rel.val k).getD i
end
def HS (td ty tx:TE):TE:=λσ H Q=>td σ H λx H1=>∃a,x=.ref a/\LC H1 a/\ty σ H1 λy H2=>tx σ H2 λz b=>∃o,Cr b a y o/\Q (o.getD z) b
section
variable {o e f:Expr} {apos:Pos} {td ty tx:TE}
theorem Cp (j:X.A.units+1<cLine) (l:PE X o td) (n:PE X e ty) (p:PE X f tx) (m:M2 X o "get" apos e f cpos):PE X (.Call (.Attribute o "get" apos) [e,f] [] cpos) (HS td ty tx):=by intro pins s σ H Q I h;refine wpAny_Call_method m.base m.few m.line PySem.F.plainAttrs_dict PySem.F.slot_dict_get PySem.F.type_dict_get (thn (l pins s σ H _ I h) λu q b=>?_);obtain⟨x,H1,i,r,a,ex,d,t⟩:=b;subst ex;obtain rfl:u=Value.ref a:=r;obtain⟨v,w,_⟩:=IZ i d;refine⟨v,w,?_⟩;rw[m.trees];refine Calls.callWith_builtin rfl (Calls.evalArgs_plain (Calls.spliced_cons (thn (n pins q σ H1 _ i t) λiv s2 b=>?_)));obtain⟨y,H2,B,C,D⟩:=b;refine Calls.spliced_cons (thn (p pins s2 σ H2 _ B D) λfv s3 b=>?_);obtain⟨z,E,G,rz,ov,g,J⟩:=b;refine Calls.spliced_nil ?_;exact JD j G g C rz λw' s4 K c=>⟨_,E,K,c,J⟩
end
section
variable {kvs:List (Key×V)} {A:Around}
end
section
variable {A:Around}
end
section
theorem bY.setOwnO {t:PyData} (R:bY K H0 A0 H A O δ σ) (hi:i∈O) (hl:i<δ.length) (hn:H a=none) (s:ax H H1) (ha:H1 a=some o) (m:Ja o=true) (h:iw K (del H1 (a::(A++A0))) t o) :
  bY K H0 A0 H1 (a::A) O (δ.set i (some t)) (σ.set i (some (.ref a))) where
 same:=R.same.trans s
 ls0:=R.ls0
 new:=λb n=>by
  rcases M7.mp n with z|z
  ·rw[z];exact R.same.free hn
  ·exact R.new b z
 ls:=λb n=>by
  rcases M7.mp n with z|z
  ·exact⟨_,by rw[z];exact ha,m⟩
  ·exact (R.ls.same s) b z
 len:=by simp[R.len]
 pl:=λj e c q=>by
  rcases get_set q with⟨z,q⟩|⟨z,q⟩
  ·subst z;exact absurd hi c
  ·obtain⟨u,e1,h1⟩:=R.pl j e c q;refine⟨u,kq z e1,h1.same λb o e=>?_⟩;obtain⟨y,e⟩:=bf e;have r:b≠a:=aK e hn;rw[aP (by simpa[r] using y)];exact s _ _ e
 own:=λj e c q=>by
  have v:∀b o,del H (A++A0) b=some o->del H1 (a::A++A0) b=some o:=λb o e=>by obtain⟨y,e⟩:=bf e;have r:b≠a:=aK e hn;rw[aP (by simpa[r] using y)];exact s _ _ e
  rcases get_set q with⟨z,q⟩|⟨z,q⟩
  ·cases q;subst z;exact⟨a,_,_,by rw[N1 (by rw[<-R.len];exact hl)],M6,ha,rfl,h⟩
  ·obtain⟨b,ys,es,e1,h1,h2,w,x⟩:=R.own j e c q;exact⟨b,ys,es,kq z e1,M4 _ h1,s _ _ h2,w,x.same v⟩
 inj:=λj k d' e b c f g l p1 p2=>by
  have old:∀k,k∈O->i≠k->∀e,δ[k]?=some (some e)->σ[k]?=some (some (.ref a))->False:=λk f _ e q p=>by obtain⟨b,ys,es,e1,h1,h2,_⟩:=R.own k e f q;rw[p]at e1;cases e1;rw[hn]at h2;cases h2
  by_cases z1:i=j
  ·by_cases z2:i=k
   ·rw[<-z1,z2]
   ·subst z1;rw[N1 (by rw[<-R.len];exact hl)]at p1;cases p1;rw[MP z2]at l p2;exact (old k f z2 e l p2).elim
  ·by_cases z2:i=k
   ·subst z2;rw[N1 (by rw[<-R.len];exact hl)]at p2;cases p2;rw[MP z1]at g p1;exact (old j c z1 d' g p1).elim
   ·rw[MP z1]at g p1;rw[MP z2]at l p2;exact R.inj j k d' e b c f g l p1 p2
theorem bY.putO {d1 l:PyData} (R:bY K H0 A0 H A O δ σ) (hi:i∈O) (hd:δ[i]?=some (some l)) (r:σ[i]?=some (some (.ref a))) (ha:a∈A) (m:Ja o=true) (h:iw K (del H (A++A0)) d1 o) :
  bY K H0 A0 (upd H a o) A O (δ.set i (some d1)) σ:=by
 have n:del (upd H a (o)) (A++A0)=del H (A++A0):=kn (MW _ ha);have hl:i<δ.length:=(MQ.mp hd).1;refine⟨λb o e=>?_,R.ls0,R.new,λb t=>?_,by simp[R.len],λj e c q=>?_,λj e c q=>?_,λj k d' e b c s f g p1 p2=>?_⟩
 ·have p:b≠a:=λz=>by rw[z,R.new a ha]at e;cases e
  rw[aA p];exact R.same b o e
 ·by_cases z:b=a
  ·exact⟨_,by rw[z,aH],m⟩
  ·rw[aA z];exact R.ls b t
 ·rcases get_set q with⟨z,q⟩|⟨z,q⟩
  ·subst z;exact absurd hi c
  ·rw[n];exact R.pl j e c q
 ·rcases get_set q with⟨z,q⟩|⟨z,q⟩
  ·cases q;subst z;exact⟨a,_,_,r,ha,aH,rfl,by rw[n];exact h⟩
  ·obtain⟨b,zs,es,e1,h1,h2,u,v⟩:=R.own j e c q;have p:b≠a:=λw=>z (R.inj i j _ _ a hi c hd q r (by rw[<-w];exact e1))
   exact⟨b,zs,es,e1,h1,by rw[aA p];exact h2,u,by rw[n];exact v⟩
 ·rcases get_set f with⟨z1,f⟩|⟨z1,f⟩ <;> rcases get_set g with⟨z2,g⟩|⟨z2,g⟩
  ·rw[<-z1,z2]
  ·subst z1;exact R.inj i k l e b hi s hd g p1 p2
  ·subst z2;exact R.inj j i d' l b c hi f hd p1 p2
  ·exact R.inj j k d' e b c s f g p1 p2
end
def cQ (l:List (Int×Int)):PyData:=.dict (l.map λp=>(PyData.int p.1,PyData.int p.2))
def dkO (l:List (Int×Int)):HO:=.dK (l.map λp=>(.inl p.1,V.int p.2))
theorem oS:∀{l m:List (Int×Int)},l.map (λp=>(PyData.int p.1,PyData.int p.2))=m.map (λp=>(PyData.int p.1,PyData.int p.2))->l=m
 |[],[],_=>rfl
 |[],_::_,h=>by simp at h
 |_::_,[],h=>by simp at h
 |(a,b)::l,(c,d)::m,h=>by simp only[M5,List.cons.injEq,Prod.mk.injEq,PyData.int.injEq]at h;obtain⟨⟨rfl,rfl⟩,h⟩:=h;rw[oS h]
theorem Is.ofDic (h:Is K H (cQ l) v):∃a,v=.ref a/\H a=some (dkO l):=by
 unfold cQ Is at h;rcases h with (⟨a,ns,_,e,_⟩|⟨a,m,e1,e,h2⟩)|⟨a,C,dx,fs,_,_,_,h|h⟩
 ·cases l with
  |nil=>simp at e
  |cons p l=>simp at e
 ·rcases e with⟨b,e,rfl⟩|⟨b,e,rfl⟩
  ·rw[oS e];exact⟨a,e1,h2⟩
  ·cases l <;> cases e
 ·cases l with
  |nil=>unfold Isk at h;simp at h
  |cons p l=>rw[M5]at h;unfold Isk at h;obtain⟨f,_,_,_,q,_⟩:=h;cases q
 ·cases l with
  |nil=>unfold Isk at h;simp at h
  |cons p l=>rw[M5]at h;unfold Isk at h;obtain⟨f,_,_,_,q,_⟩:=h;cases q
theorem JF (h:H a=some (dkO l)):Is K H (cQ l) (.ref a):=by unfold cQ Is;exact .inl (.inr ⟨a,_,rfl,.inl ⟨l,rfl,rfl⟩,h⟩)
def kP:List (PyData×PyData)->Option (List (Int×Int))
 |[]=>some []
 |(.int a,.int b)::r=>(kP r).map λl=>(a,b)::l
 |_=>none
theorem rV:∀{r:List (PyData×PyData)} {l:List (Int×Int)},kP r=some l->r=l.map λp=>(PyData.int p.1,PyData.int p.2)
 |[],l,e=>by cases e;rfl
 |(a,b)::r,l,e=>by
  cases a <;> cases b <;> first|(cases e;done)|skip
  unfold kP at e;cases q:kP r with
  |none=>rw[q]at e;cases e
  |some m=>rw[q]at e;cases e;rw[rV q];rfl
theorem qA:∀l:List (Int×Int),kP (l.map λp=>(PyData.int p.1,PyData.int p.2))=some l
 |[]=>rfl
 |p::r=>by rw[M5];unfold kP;rw[qA r];rfl
def va:PyData->Option (List (Int×Int))
 |.dict kvs=>kP kvs
 |_=>none
theorem vh {d:PyData} (h:va d=some l):d=cQ l:=by
 unfold va at h;split at h
 ·unfold cQ;rw[rV h]
 ·cases h
theorem sV (l:List (Int×Int)):va (cQ l)=some l:=qA l
def md (l:List (Int×Int)) (k:Int):Option Int:=(l.find? λp=>decide (p.1=k)).map (·.2)
def xA (l:List (Int×Int)) (k v:Int):List (Int×Int):=if (l.any λp=>decide (p.1=k))=true then l.map (λp=>if p.1=k then (p.1,v) else p) else l++[(k,v)]
theorem DM (l:List (Int×Int)) (k:Int):mY (l.map λp=>((.inl p.1,V.int p.2):Key×V)) (.inl k)=(md l k).map V.int:=by
 unfold mY md
 induction l with
 |nil=>rfl
 |cons p r ih =>
  rw[M5,Np,Np];by_cases z:p.1=k
  ·have h1:decide ((Sum.inl p.1:Key)=.inl k)=true:=decide_eq_true (by rw[z]);simp only[h1,decide_eq_true z];rfl
  ·have h1:decide ((Sum.inl p.1:Key)=.inl k)=false:=decide_eq_false λq=>z (Sum.inl.inj q)
   simp only[h1,decide_eq_false z];exact ih
theorem GU (l:List (Int×Int)) (k v:Int):putK (l.map λp=>((.inl p.1,V.int p.2):Key×V)) (.inl k) (.int v)=(xA l k v).map λp=>(.inl p.1,V.int p.2):=by
 have ha:((l.map λp=>((.inl p.1,V.int p.2):Key×V)).any λa=>decide (a.1=.inl k))=l.any λp=>decide (p.1=k):=by
  rw[List.any_map];congr 1;funext p;by_cases z:p.1=k
  ·simp[z]
  ·have:¬ ((Sum.inl p.1:Key)=.inl k):=λq=>z (Sum.inl.inj q)
   simp[z,this]
 unfold putK xA;rw[ha];split
 ·rw[MF,MF];refine MH λp _=>?_
  by_cases z:p.1=k
  ·simp[z]
  ·have:¬ ((Sum.inl p.1:Key)=.inl k):=λq=>z (Sum.inl.inj q)
   simp[z,this]
 ·rw[N3];rfl
section
variable {E:XK} {o e f i' value:Expr} {go gf:Ds->Rs PyData} {apos:Pos}
theorem EU:PD X E (.Dict [] [] pos) (gC (cQ [])):=(v5).imp λσ H Q ⟨A,δ,R,o⟩=>λp a=>o (.ref p) _ (bL a) (JF (l:=[]) (by rw[aP (R.ls.new a)];exact aH))
def lL (go ge gf:Ds->Rs PyData):Ds->Rs PyData:=λδ=>(go δ).bind λd=>match va d with
 |some l=>(ge δ).bind λk=>(gf δ).bind λz=>(match k,z with
  |.int k,.int z=>.ok (.int ((md l k).getD z))
  |_,_=>.no)
 |none=>.no
end
section
variable {E:XK} {o e f k value:Expr} {go gf gk gv:Ds->Rs PyData} {apos:Pos}
theorem GI (q:X.A.units+1<cLine) (r:PD X E o go) (s:PD X E e ge) (t:PD X E f gf) (m:M2 X o "get" apos e f cpos):PD X E (.Call (.Attribute o "get" apos) [e,f] [] cpos) (lL go ge gf) :=
 (Cp q r s t m).imp λσ H Q i=>by
  obtain⟨A,δ,R,b⟩:=i;unfold lL at b;refine eD.run R (λd w v H1 j x h1=>?_) (λC c H' s'=>?_) (λc=>?_)
  ·simp only[w,Rs.ag]at b;split at b
   ·rename_i l hl;rw[vh hl]at h1;obtain⟨a,rfl,ha⟩:=h1.ofDic;have g:H1 a=some (dkO l):=aB _ _ ha;refine⟨a,rfl,.inl ⟨_,.inl g⟩,?_⟩;refine eD.run x (λkd y u H2 s2 R2 n=>?_) (λC c H' s'=>?_) (λc=>?_)
    ·simp only[y,Rs.ag]at b;refine eD.run R2 (λzd B z D p R3 F=>?_) (λC c H' s'=>?_) (λc=>?_)
     ·simp only[B,Rs.ag]at b;split at b
      ·rename_i h zz;have e1:=n.ofInt;have e2:=F.ofInt;subst e1 e2;refine⟨_,Cr.k (k:=.inl h) (p _ _ (s2 _ _ g)),?_⟩;rw[DM];have:((md l h).map V.int).getD (.int zz)=.int ((md l h).getD zz):=by cases md l h <;> rfl
       rw[this];exact b _ D (j.trans (s2.trans p)) bP
      ·exact b.elim
     ·simp only[c,Rs.eP]at b;exact b H' (j.trans (s2.trans s'))
     ·simp only[c,Rs.bH]at b;exact b
    ·simp only[c,Rs.eP]at b;exact b H' (j.trans s')
    ·simp only[c,Rs.bH]at b;exact b
   ·exact b.elim
  ·simp only[c,Rs.eP]at b;exact b H' s'
  ·simp only[c,Rs.bH]at b;exact b
def wX (i:Nat):Ds->Sr:=λδ=>if i<δ.length then .nx (δ.set i (some (cQ []))) else .no
theorem Cf (c:X.N.Nodup) (e:i∈O) (hi:X.N[i]?=some x) (f:Loc X.env.scope x) (g:swapsWith (.Dict [] [] pos') (some (.Name x apos)) pos.line X.env=pure false)
  (h:X.fn x=true\/X.env.scope.names.lookup x=some .local):PSD X E O (.Assign [.Name x apos] (.Dict [] [] pos') pos) (wX i):=(pZ c hi f v5 g h).imp λD σ H a=>by
 obtain⟨H0,A0,A,δ,R,o⟩:=a;unfold wX at o;split at o
 ·rename_i hl;intro p b;exact o (p::A) _ _ (R.setOwnO (o:=dkO []) e hl b (bL b) aH rfl (.inl ⟨[],rfl,rfl⟩))
 ·exact o.elim
def oX (i:Nat) (gk gv:Ds->Rs PyData):Ds->Sr:=λδ=>match δ[i]? with
 |some (some d)=>(match va d with
  |some l=>ofR (gv δ) λv=>ofR (gk δ) λk=>(match k,v with
   |.int k,.int v=>if l.length<1000000 then .nx (δ.set i (some (cQ (xA l k v)))) else .no
   |_,_=>.no)
  |none=>.no)
 |_=>.no
theorem C9 (B:X.A.units+1<cLine) (h:PD X E value gv) (F:PD X E k gk) (w:i∈O) (hi:X.N[i]?=some x) (hv:Vis X.env.scope x)
  (hd:(x==("__debug__":Str))=false) (f:(x==("__classdict__":Str))=false) (G:swapsWith value (some (.Subscript (.Name x pn) k pos')) pos.line X.env=pure false):PSD X E O (.Assign [.Subscript (.Name x pn) k pos'] value pos) (oX i gk gv) :=
 (Gy B (kS hi hv hd f) F h G).imp λD σ H g=>by
  obtain⟨H0,A0,A,δ,R,a⟩:=g;unfold oX at a;split at a
  ·rename_i d q;split at a
   ·rename_i l hl;rw[vh hl]at q;obtain⟨p,o',d',e1,I,j,e2,n⟩:=R.own i _ w q;subst e2;have r:o'=dkO l:=by
     have n:HX _ o':=n;rcases n with⟨m,c,rfl⟩|⟨m,c,_⟩
     ·rw[oS c];rfl
     ·cases l <;> cases c
    subst r;refine eD.run R.full (λvd J v H1 y K s=>?_) (λC b H' s'=>?_) (λb=>?_)
    ·simp only[J,av]at a;refine⟨_,e1,?_⟩;refine eD.run K (λkd L u H2 s2 R2 t=>?_) (λC b H' s'=>?_) (λb=>?_)
     ·simp only[L,av]at a;split at a
      ·rename_i z M;split at a
       ·rename_i hlen;have c:=t.ofInt;have P:=s.ofInt;subst c P;have e:=y.trans s2;refine⟨p,_,rfl,Cv.k (k:=.inl z) (e _ _ j) (by rw[M3,sizeLine_eq];omega),?_⟩;rw[GU];exact a A _ _ ((R.step e).putO (o:=dkO (xA l z M)) w q e1 I rfl (.inl ⟨_,rfl,rfl⟩))
       ·exact a.elim
      ·exact a.elim
     ·simp only[b,mV]at a;exact a H' (R.same.trans (y.trans s'))
     ·simp only[b,mh]at a;exact a
    ·simp only[b,mV]at a;exact a H' (R.same.trans s')
    ·simp only[b,mh]at a;exact a
   ·exact a.elim
  ·exact a.elim
end
theorem cw.u1 {k:Nat} {A:Around} (r:cw k A):A.units+1<cLine:=by have:=r.un;omega
def Hv (b N:List Str) (p:Str) (cap:List Nat) (a sc:Scope):Bool :=
 (sc.kind==.function)&&!sc.isCoroutine&&!sc.isGenerator&&decide N.Nodup&&decide (N.take 1=[p])&&(sc.names.lookup p==some .local)&&sc.names.all (λx=>x.2 != .cell) &&
 sc.names.all (λy=>y.2 != .free||a.names.lookup y.1==some .cell)&&decide (N.length=1+cap.length) &&
 (List.range cap.length).all (λi=>match N[1+i]?,cap[i]? with
  |some x,some m=>(b[m]?==some x)&&(sc.names.lookup x==some .free)&&(a.names.lookup x==some .cell)
  |_,_=>false)
theorem nN {α:Type} {x:Str} {k:α}:∀{l:List (Str×α)},l.lookup x=some k->(x,k)∈l
 |[],h=>by cases h
 |(y,j)::r,h=>by
  rw[MN]at h;cases q:(x==y) with
  |true=>rw[q]at h;cases h;rw[eq_of_beq q];exact M6
  |false=>rw[q]at h;exact M4 _ (nN h)
theorem pF {e:List Str} {b:Scope} {A:Around} {E:XK}
  {C:XK} {a:Expr} {n G:Pos} {I:Addr} {k:Nat} {p:Str}
  (hm:mg "min"=none) (J:cw (k+2) (c8 CX P w K mg base e qual b f cd A outer s H E).A) (ha:PD (c8 CX P w K mg base e qual b f cd A outer s H E) C a ga) (T:Eg (c8 CX P w K mg base e qual b f cd A outer s H E) c I)
  (l:∀(q c':Addr) (s':Shared) (H':Hp),PD (sR (CXW P w) P w K mg base N ((c8 CX P w K mg base e qual b f cd A outer s H E).env.qual++"<lambda>") scope q (.ref c') (mq scope.names (c8 CX P w K mg base e qual b f cd A outer s H E).env.cells []) (c8 CX P w K mg base e qual b f cd A outer s H E).A.in1 (c8 CX P w K mg base e qual b f cd A outer s H E).stack s' H' E0) E0 body gb)
  (hok:Hv e N p cap b scope=true:=by decide +kernel)
  (L:∀(q:Str) (cl:List (Str×Addr)) (c':Addr) (pm t u:Value),bindArgs (PySem.W.kla_fn "<lambda>" q params body scope cl pm (.ref c') t) ⟨[u],[]⟩=pure ([p].zip [u]):=by intro _ _ _ _ _ _;rfl)
  (M:Gl (c8 CX P w K mg base e qual b f cd A outer s H E) "min":=by rfl) (O:starEach [a] (c8 CX P w K mg base e qual b f cd A outer s H E).env=[(false,eval a (c8 CX P w K mg base e qual b f cd A outer s H E).env)]:=by rfl) (o:defaultsOf params (c8 CX P w K mg base e qual b f cd A outer s H E).env=([],[]):=by rfl) :
  PD (c8 CX P w K mg base e qual b f cd A outer s H E) C (.Call (.Name "min" G) [a] [⟨some "key",.Lambda params body scope n,kp⟩] pos) (jm cap ga gb):=by
 unfold Hv at hok;simp only[M8,MD,decide_eq_true_eq,beq_iff_eq,bne_iff_ne,Bool.or_eq_true,Ol]at hok;obtain⟨⟨⟨⟨⟨⟨⟨⟨⟨Q,R⟩,S⟩,U⟩,X⟩,Y⟩,Z⟩,D⟩,o9⟩,v⟩:=hok;have g:∀x,b.names.lookup x=some .cell->∃c,(c8 CX P w K mg base e qual b f cd A outer s H E).env.cells.lookup x=some c:=λx r=>pK r
 refine AI (cap:=cap) rfl hm J ha T (jz λy hy hf=>?_) ⟨Q,R,S,U,X,λx r=>by rw[Mw.mp r];exact Y,Z⟩ (λx c h=>qm _ _ _ x c (λ_ _ z=>by cases z) h) (λx r=>?_) o9 (λi m x h1 h2=>?_) (L _ _) (λq c' s' H'=>l q c' s' H') M O o
 ·rcases D y hy with z|z
  ·exact absurd hf z
  ·exact g y.1 z
 ·have j:=nN r;rcases D (x,.free) j with z|z
  ·exact absurd rfl z
  ·obtain⟨c,hc⟩:=g x z;exact l7 _ _ _ x c j hc
 ·have B:i<cap.length:=(MQ.mp h2).1;have:=v i (NC.mpr B);rw[h1,h2]at this;simp only[M8,beq_iff_eq]at this;obtain⟨⟨q1,q2⟩,F⟩:=this;exact⟨q1,q2,.inl F,.inr (.inl F)⟩
def Gs (K:PySem.W.Frag) (x:Str):Prop:=∃f oc od fd a c P o vs,PySem.W.nsIn K mainGlobals x=some (some (.ref f))/\K.lookup f=some ⟨oc,od,.func fd,a⟩/\fd.code=.ref c/\K.lookup c=some o/\o.data=.fields vs/\vs[11]?=some (.ref P)/\PySem.W.codeHdIn K c P=true
section
theorem iA.ofL {k:Nat} {G:Ds->Sr} (F:Fun K x x st f fd) (S:cX N ps (aE st)) (b:Binds K fd ps []) (m:mg x=some (.ref f)) (B:∀i∈O,ps.length<=i)
  (D:x∈lG) (hm:∀g,PySem.W.nsIn K mainGlobals x=some (some (.ref g))->mg x=some (.ref g)) (I:Gs K x) (hB:nB mg base) (hK:K.In base) (J:∀(L:Addr) (cdv:Value),(envOfC x (aE st) L f cdv).qual++"<lambda>"=x++".<locals>.<lambda>")
  (body:∀(cdv:Value) (A:Around) (outer:List Env) (s:Shared) (H:Hp) (E:XK),cw k (A.deeper (envOfC x (aE st) s.heap.objs.size f cdv))->∀c l,Eg (c8 (CXW P w) P w K mg base N x (aE st) f cdv A outer s H E) c l->PBD (c8 (CXW P w) P w K mg base N x (aE st) f cdv A outer s H E) E O (cj st) G)
  (M:∀ds,ds.length=ps.length->gf ds≠.no->bc (G (ds.map some++List.replicate (N.length-ps.length) none))=gf ds):iA P w K mg base (k+1) x ps.length gf:=by
 obtain⟨oc,od,kV,doc,pm,an,cdv,ct,osl,rfl,n,p⟩:=F.ex;obtain⟨j,oc',od',fd',sl',c,l,o,vs,t,u,R,T,U,X,Y⟩:=I;have Z:j=f:=by have:=hm j t;rw[m]at this;cases this;rfl
 subst Z;rw[n]at u;have r:cdv=.ref c:=by cases u;exact R
 subst r;obtain⟨bm,ob,b1,b2,b3,b4,b5,b6,b7⟩:=hB;refine⟨j,_,ps,Ce n p S (λvs H Q E h=>?_) (λA outer s H vs' Q E hr h=>?_),m,F.kp,b⟩
 ·obtain⟨A,ds,y,hi,hl,o⟩:=h;rw[hi.length,hl]
 ·obtain⟨A0,ds,y,hi,hl,e⟩:=h;refine⟨_,body (.ref c) A outer s H E hr c l ⟨?_,rfl,PySem.W.codeHd_of_K hK Y,bm,ob,b1,b2,b3,b4,b5,b6,b7⟩,H,A0,[],_,bY.start y hi hl B,?_⟩
  ·exact⟨x,D,j,_,_,_,_,c,t,n,rfl,⟨o,vs,T,U,X⟩,J _ _⟩
  ·have a:=M ds hl (λz=>by rw[z]at e;exact e);cases q:G (ds.map some++List.replicate (N.length-ps.length) none) with
   |rt d=>rw[q]at a;rw[<-a]at e;exact λv H' s' hv=>e v H' s' hv
   |nx δ=>rw[q]at a;rw[<-a]at e;exact λA' σ H' R'=>e .non H' R'.same is_none
   |rz C=>rw[q]at a;rw[<-a]at e;exact λH' s'=>e H' s'
   |bk δ=>rw[q]at a;rw[<-a]at e;exact e.elim
   |ct δ=>rw[q]at a;rw[<-a]at e;exact e.elim
   |no=>rw[q]at a;rw[<-a]at e;exact e.elim
end
def fL (cond:Ds->Rs Bool) (elt:Ds->Rs PyData) (tgt:PyData->Option Ds) (δ a:Ds):List PyData->Rs (List PyData)
 |[]=>.ok []
 |d::r=>match tgt d with
  |none=>.no
  |some own=>(cond (a++own)).calm.bind λb=>if b=true then (elt (δ++own)).calm.bind λx=>(fL cond elt tgt δ a r).bind λxs=>.ok (x::xs) else fL cond elt tgt δ a r
def nA (n0:Nat) (src:Ds->Rs (List PyData)) (cond:Ds->Rs Bool) (elt:Ds->Rs PyData) (tgt:PyData->Option Ds):Ds->Ds->Rs (List PyData):=λδ a=>if δ.length=n0 then (src δ).bind λds=>if ds.length<=1000000 then fL cond elt tgt δ a ds else .no else .no
theorem EN {E:XK} {g:TG} {tt:TT} (hT:TgD K n0 own.length tgt g) (htt:∀σ H Q,cD K E0 cond σ H Q->tt σ H Q) {Q:VK} {T:List Addr} {c:Ds} (R:dC K H A δ σ) (P:dC K H T c σ) (I:∀a∈T,a∈A) (o:E6 K E A H (nA n0 gi cond ge tgt δ c) Q) :
  tLC own.length (iD K E gi) g tt (eD K E0 ge) σ H Q:=by
 unfold nA at o;by_cases hn0:δ.length=n0
 case neg=>rw[if_neg hn0]at o;exact o.elim
 rw[if_pos hn0]at o;have hσ:σ.length=n0:=by rw[<-R.len];exact hn0
 refine⟨A,δ,R,?_⟩;cases q:gi δ with
 |no=>rw[q]at o;exact o
 |rz C=>rw[q]at o;exact o
 |ok ds =>
  rw[q]at o;have o:E6 K E A H (if ds.length<=1000000 then fL cond ge tgt δ c ds else .no) Q:=o;by_cases hz:ds.length<=1000000
  case neg=>rw[if_neg hz]at o;exact o.elim
  rw[if_pos hz]at o;intro J H1 S hJ D L;have R1:=R.same S;have nD:D∉A:=R1.ls.new L;cases qo:fL cond ge tgt δ c ds with
  |rz C =>
   exfalso;have:∀l,fL cond ge tgt δ c l≠.rz C:=by
    intro l
    induction l with
    |nil=>intro z;cases z
    |cons d r ih =>
     intro z;unfold fL at z;split at z
     ·cases z
     ·rename_i t _;cases c1:cond (c++t) with
      |ok b =>
       simp only[c1,Rs.dz,Rs.ag]at z;split at z
       ·cases w:ge (δ++t) with
        |ok x =>
         simp only[w,Rs.dz,Rs.ag]at z;cases B:fL cond ge tgt δ c r with
         |ok l=>simp only[B,Rs.ag]at z;cases z
         |rz C'=>simp only[B,Rs.eP]at z;cases z;exact ih B
         |no=>simp only[B,Rs.bH]at z;cases z
        |rz C'=>simp only[w,Rs.calm,Rs.bH]at z;cases z
        |no=>simp only[w,Rs.calm,Rs.bH]at z;cases z
       ·exact ih z
      |rz C'=>simp only[c1,Rs.calm,Rs.bH]at z;cases z
      |no=>simp only[c1,Rs.calm,Rs.bH]at z;cases z
   exact this ds qo
  |no=>rw[qo]at o;exact o.elim
  |ok out =>
   rw[qo]at o;have base:ax (del H1 A) (del (upd H1 D (.lst [])) (D::A)):=λb o e=>by obtain⟨z,e⟩:=bf e;have nb:b≠D:=aK e L;rw[aP (by simp[nb,z]),aA nb];exact e
   refine⟨λi m ys H'=>m=ds.length-i/\i<=ds.length/\ax H1 H'/\H' D=some (.lst ys)/\ys.length<=i/\∃U rest,fL cond ge tgt δ c (ds.drop i)=.ok rest/\out=U++rest/\Iss K (del H' (D::A)) U ys,
    ⟨ds.length,by simp,Nd _,bL L,aH,Mu _,[],out,qo,rfl,cR⟩,?_⟩
   rintro i m ys H' ⟨rfl,hi,F,hl,hy,U,rest,c1,w,B⟩
   refine⟨hl,?_⟩;have sG:ax (del H1 A) H':=aB.trans F;have X:∀b∈D::A,(del H1 A) b=none:=λb M=>by
    rcases M7.mp M with z|z
    ·rw[z,aP nD];exact L
    ·exact gW z
   obtain⟨jg,js,jy⟩:=hJ H' (D::A) sG (λb M=>by
    rcases M7.mp M with z|z
    ·exact⟨_,by rw[z];exact hl,rfl⟩
    ·exact (R1.ls.same F) b z) X
   by_cases hlt:i<ds.length
   ·refine .inr ⟨jg i hlt,λx H2 σ' Y y=>?_⟩;obtain⟨s2,d,ed,hd⟩:=jy i x H2 hlt y;have edr:ds.drop i=d::ds.drop (i+1):=by
     rw[NZ hlt];have:ds[i]=d:=by have:=M1 hlt;rw[this]at ed;exact Option.some.inj ed
     rw[this]
    rw[edr]at c1;unfold fL at c1;cases et:tgt d with
    |none=>rw[et]at c1;cases c1
    |some ow =>
     rw[et]at c1;have l2:H2 D=some (.lst ys):=s2 _ _ hl;have h:Ls H2 (D::A):=λb M=>by
      rcases M7.mp M with z|z
      ·exact⟨_,by rw[z];exact l2,rfl⟩
      ·exact (R1.ls.same (F.trans s2)) b z
     obtain⟨Z,hgo⟩:=hT d x σ σ' H2 (D::A) (λj H2=>tt j H2 λb H3 =>
      if b=true then eD K E0 ge j H3 λv H4=>H4 D=some (.lst ys)/\ys.length<sizeLine/\(∃f,j=σ++f/\f.length=own.length)/\∃m',m' < ds.length-i/\_
      else (∃f,j=σ++f/\f.length=own.length)/\∃m',m' < ds.length-i/\_) ow hσ Y h hd et
     refine hgo λvs n G=>?_
     have sAll:ax (del H1 A) (del H2 (D::A)):=lF (sG.trans s2) X;have RE:dC K H2 (D::A) (δ++ow) (σ++vs):=by
      refine⟨h,by rw[Mv,Mv,R.len,n,Z],λk e p=>?_⟩;by_cases hk:k<δ.length
      ·rw[ML hk]at p;obtain⟨u,e1,N⟩:=R1.get k e p;exact⟨u,by rw[ML (by rw[<-R.len];exact hk)];exact e1,N.same sAll⟩
      ·rw[MO (by omega)]at p;obtain⟨u,e1,N⟩:=G _ e p;exact⟨u,by rw[MO (by rw[<-R.len];omega),<-R.len];exact e1,N⟩
     have RE2:dC K H2 (D::T) (c++ow) (σ++vs):=by
      have hsub:ax (del H2 (D::A)) (del H2 (D::T)):=λb u s=>by
       obtain⟨q1,q2⟩:=bf s;rw[aP (λz=>q1 (by
        rcases M7.mp z with z|z
        ·rw[z];exact M6
        ·exact M4 _ (I b z)))];exact q2
      have Rf1:=P.same (S.trans (F.trans s2));have nD2:D∉T:=λz=>nD (I D z)
      have hD0:H D=none:=S.free L;refine⟨λb M=>?_,by rw[Mv,Mv,P.len,n,Z],λk e p=>?_⟩
      ·rcases M7.mp M with z|z
       ·exact h b (by rw[z];exact M6)
       ·exact h b (M4 _ (I b z))
      ·by_cases hk:k<c.length
       ·rw[ML hk]at p;obtain⟨u,e1,N⟩:=P.get k e p;refine⟨u,by rw[ML (by rw[<-P.len];exact hk)];exact e1,N.same λb u s=>?_⟩;obtain⟨q1,q2⟩:=bf s;have nb:b≠D:=λz=>by rw[z,hD0]at q2;cases q2
        rw[aP (by simp[nb,q1])];exact (S.trans (F.trans s2)) _ _ q2
       ·rw[MO (by omega)]at p;obtain⟨u,e1,N⟩:=G _ e p;exact⟨u,by rw[MO (by rw[<-P.len];omega),<-P.len];exact e1,N.same hsub⟩
     have bad:∀r:Rs Bool,r=.rz 0->r.calm=.no:=λr e=>by rw[e];rfl
     refine htt _ _ _ (cD.run RE2 (λb s H3 O R3f=>?_) (λC s=>?_) (λs=>?_))
     ·simp only[s,Rs.dz,Rs.ag]at c1;cases b with
      |true =>
       simp only[if_true]at c1;refine eD.run (RE.same O) (λxd ex v H4 s4 R4 hv=>?_) (λC ex=>?_) (λex=>?_)
       ·simp only[ex,Rs.dz,Rs.ag]at c1;cases cr:fL cond ge tgt δ c (ds.drop (i+1)) with
        |ok rs =>
         simp only[cr,Rs.ag]at c1;cases c1;have l4:H4 D=some (.lst ys):=s4 _ _ (O _ _ l2);have dU:del (upd H4 D (.lst (ys++[v]))) (D::A)=del H4 (D::A):=kn (M6);refine⟨l4,by rw[sizeLine_eq];omega,⟨vs,rfl,n⟩,ds.length-(i+1),by omega,rfl,hlt,?_,aH,by simp;omega,U++[xd],rs,cr,by rw[w];simp,?_⟩
         ·exact ax.put (((F.trans s2).trans O).trans s4) L
         ·rw[dU];exact (B.same (ax.del (s2.trans (O.trans s4)))).append (i8 hv)
        |rz C=>simp only[cr,Rs.eP]at c1;cases c1
        |no=>simp only[cr,Rs.bH]at c1;cases c1
       ·simp only[ex,Rs.calm,Rs.bH]at c1;cases c1
       ·simp only[ex,Rs.calm,Rs.bH]at c1;cases c1
      |false =>simp only[MJ,if_false]at c1;exact⟨⟨vs,rfl,n⟩,ds.length-(i+1),by omega,rfl,hlt,(F.trans s2).trans O,O _ _ l2,by omega,U,rest,c1,w,B.same (ax.del (s2.trans O))⟩
     ·simp only[s,Rs.calm,Rs.bH]at c1;cases c1
     ·simp only[s,Rs.calm,Rs.bH]at c1;cases c1
   ·have e:i=ds.length:=by omega
    subst e;rw[Ou]at c1;cases c1;rw[N4]at w;subst w;exact .inl ⟨js,o D ys H' (S.free L) (S.trans F) hl B⟩
def oP (O:List Nat) (i n0:Nat) (a:Ds->Rs (List PyData)) (cond:Ds->Rs Bool) (ge:Ds->Rs PyData) (tgt:PyData->Option Ds):Ds->Sr:=λδ=>if i<δ.length then ofR (nA n0 a cond ge tgt (mask O δ) δ) λds=>.nx (δ.set i (some (.list ds))) else .no
section
variable {E:XK}
theorem CJ {b:Ds->Rs (List PyData)} {g:TG} (hc:X.calm=true) (m:X.N.Nodup) (hi:PID X E tg iter b)
  (n:TgD X.K n0 (fQ tg).length tgt g) (r:∀C s2 H2 fp,PG (bk X tg scope C s2 H2 fp) tg g) (j:∀C s2 H2 fp,PIf (bk X tg scope C s2 H2 fp) ifs cond) (t:∀C s2 H2 fp,PD (bk X tg scope C s2 H2 fp) E0 elt ge) (u:i∉O)
  (c:X.N[i]?=some x) (v:Loc X.env.scope x) (e:swapsWith (.ListComp elt [⟨tg,iter,ifs,0⟩] scope pos) (some (.Name x pos')) spos.line X.env=pure true)
  (hB:JW X tg scope=true) (w:∀x,foldedSetIterable iter X.env x=pure x) (y:X.fn x=true\/X.env.scope.names.lookup x=some .local) :
  PSD X E O (.Assign [.Name x pos'] (.ListComp elt [⟨tg,iter,ifs,0⟩] scope pos) spos) (oP O i n0 b cond ge tgt) :=
 PS.imp (pX (own:=fQ tg) (te:=eD X.K E0 ge) hc m c v e hi r (λC s2 H2 fp=>(j C s2 H2 fp).pts) (λC s2 H2 fp=>t C s2 H2 fp) hB w y) λD σ H f=>by
  obtain⟨H0,A0,A,δ,R,o⟩:=f;unfold oP at o;split at o
  ·rename_i hl;have l:=R.part;refine EN n (PIf.tt (j 0 X.s₀ X.H₀ [])) l R.full (λa ha=>Mt _ ha) ?_;cases q:nA n0 b cond ge tgt (mask O δ) δ with
   |ok ds =>rw[q]at o;intro p xs H' hn s z h;exact o A _ H' ((R.step s).set u hl (jC (by rw[aP (l.ls.new hn)];exact z) (h.same mM)))
   |rz C=>rw[q]at o;exact λH' s'=>o H' (R.same.trans s')
   |no=>rw[q]at o;exact o
  ·exact o.elim
end
theorem iT.of {k:Nat} {G:Ds->Sr} (F:Fun K m qual st f fd) (S:cX N ps (aE st)) (b:Binds K fd ps []) (cl:Cls K C) (hm:Meth K C m f) (a:∀i∈O,ps.length<=i)
  (body:∀(cdv:Value) (A:Around) (outer:List Env) (s:Shared) (H:Hp) (E:XK),cw k (A.deeper (envOfC qual (aE st) s.heap.objs.size f cdv))->PBD (c8 (CXW P w) P w K mg base N qual (aE st) f cdv A outer s H E) E O (cj st) G)
  (c:∀ds,ds.length=ps.length->gf ds≠.no->bc (G (ds.map some++List.replicate (N.length-ps.length) none))=gf ds):iT P w K mg base (k+1) C m ps.length gf :=
 ⟨f,fd,ps,cl,hm,RS.zK F S a body c,b⟩
def qY (xs ys:List PyData):List PyData:=List.zipWith (λa b=>PyData.tuple [a,b]) xs ys
theorem CW {G:Hp} {xs:List V} {es:List PyData} (h1:Iss K G ds xs) (h2:Iss K G es ys) (hl:ys.length=xs.length) (c:∀H1,ax G H1->SqT K H1 a xs) (f:∀H1,ax G H1->SqL K H1 b ys):Bl K (Itz K a b xs.length) (qY ds es) G:=λH1 B s m hB=>by
 have l1:=h1.length;have l2:=h2.length;have n:(qY ds es).length=xs.length:=by unfold qY;rw[List.length_zipWith];omega
 rw[n];refine⟨λi hi=>⟨hi,xs,ys,c H1 s,f H1 s,rfl,hl⟩,⟨rfl,xs,ys,c H1 s,f H1 s,rfl,hl⟩,λi x H2 hi y=>?_⟩;obtain⟨t,p,r,rfl,g,rfl,u,v⟩:=y;obtain⟨d,e,hd⟩:=h1.get (u xs (c H1 s));obtain⟨d',w,h⟩:=h2.get (v ys (f H1 s));refine⟨bL g,.tuple [d,d'],by unfold qY;rw[List.getElem?_zipWith,e,w],?_⟩;have A:t∉B:=m.new g;have j:ax G (del (upd H1 t (.tup [p,r])) B):=λb o q=>by have l:=s b o q;have nt:b≠t:=aK l g;rw[aP (λz=>by rw[hB b z]at q;cases q),aA nt];exact l
 exact iz (by rw[aP A];exact aH) (cG (hd.same j) (i8 (h.same j)))
section
variable {E:XK} {a b:Expr}
def Hm:List PyData->Rs (List PyData)
 |[.tuple xs,.list ys]=>if ys.length=xs.length then .ok (qY xs ys) else .no
 |_=>.no
def Fg (g:Ds->Rs (List PyData)):Ds->Rs (List PyData):=λδ=>(g δ).bind Hm
theorem Gn {l:Pos} (hm:X.mg "zip"=none) (ha:PAD X E [a,b] gs) (m:Gl X "zip") (n:starEach [a,b] X.env=[(false,eval a X.env),(false,eval b X.env)]) (c:starEach [b] X.env=[(false,eval b X.env)]) :
  PID X E (.Tuple elts x1 l) (.Call (.Name "zip" p) [a,b] [] pos) (Fg gs):=(Jm m hm ha.1 n c).imp λσ H R ⟨A,δ,Rp,o⟩=>yu Rp o λds vs H1 e s1 R1 h1 o=>by
 unfold Hm at o;split at o
 ·split at o
  ·rename_i hl;obtain⟨v,u,rfl,h,h'⟩:=E3 h1;obtain⟨p,xs,rfl,f,g⟩:=h.ofTup;obtain⟨q,ys,rfl,i,j⟩:=h'.ofLst;have l1:=g.length;have l2:=j.length;exact⟨p,q,xs,ys,rfl,SqT.of (aB _ _ f),SqL.of (aB _ _ i),by omega,o _ H1 (ax.refl _) (CW g j (by omega) (λH2 s2=>SqT.of (s2 _ _ f)) λH2 s2=>SqL.of (s2 _ _ i))⟩
  ·exact o.elim
 ·exact o.elim
end
end L2
namespace RS
open PySem L2
abbrev JN:List Str:=["number", "parts", "rank", "row"]
abbrev JT:List (Str×Int):=[("job",0),("part",0),("spent",0)]
def fj (cs:Cs):Ds->Sr :=
 (az (aL [] 2 (g2 dIx (af 0) (gC (.int 0))))
  (az (aL [] 3 (g2 dIx (af 0) (gC (.int 2))))
  (az (aL [] 4 (g2 gy (gC (.int 0)) (af 3)))
  (az (fA [] (bG (af 1)) (bw 5) (az (aL [] 6 (gF iS (ae (af 4) (ae (g2 gy (af 5) (af 3)) ah))))
  (az (sIf (gT (g2 dGt (af 6) (af 5))) (bh (gC (.bool false))) aY)
  (aL [] 4 (g2 ba (af 6) (af 2))))))
  (bh (gC (.bool true)))))))
def k9 (cs:Cs) (aO b9:Gf):Ds->Sr :=
 (az (sIf (cOr (gK (gT (g1 (k7 "list") (af 1)))) (gT (g2 dGt (gF b8 (ae (af 1) ah)) (gC (.int 60))))) (bh (gC (.bool false))) aY)
  (bh (BV (gF n6 (ae (gL (a8 2 (bG (af 1)) bA (aq aO (ae (af 2) (ae (gC (.int 0)) (ae (gC (.int 9999)) ah)))) aI)) ah)) (aq b9 (ae (af 0) (ae (af 1) ah))))))
def dP (cs:Cs) (de br:Gf):Ds->Sr :=
 (az (j4 (aq br (ae (af 0) ah)))
  (az (sIf (cOr (gK (gT (g1 (k7 "list") (af 1)))) (gT (g2 dNe (gF b8 (ae (af 1) ah)) (gF b8 (ae (af 0) ah))))) (iY cs.NoComings (ae (gC (.str "comings are a list of one list for each errand")) ah)) aY)
  (az (sIf (gK (gT (gF n6 (ae (gL (a8 2 (Fg (ae (af 0) (ae (af 1) ah))) bA (aq de (ae (af 2) (ae (af 3) ah))) jI)) ah)))) (iY cs.NoComings (ae (gC (.str "an errand can not come so")) ah)) aY)
  (bh (gL (a8 2 (bG (af 1)) bA (gF vS (ae (af 2) ah)) aI))))))
def dE (cs:Cs):Ds->Sr :=
 (bh (g2 dEq (g1 (bB cs.Jobs "job") (af 0)) (gF b8 (ae (g1 (bB cs.Jobs "row") (af 0)) ah))))
def eG (cs:Cs):Ds->Sr :=
 (bh (gIf (gT (g2 dEq (g1 (bB cs.Jobs "spent") (af 0)) (gC (.int 0)))) (g2 dIx (g2 dIx (g1 (bB cs.Jobs "parts") (af 0)) (g1 (bB cs.Jobs "part") (af 0))) (gC (.int 1))) (gC .none)))
def fS (cs:Cs):Ds->Sr :=
 (bh (gIf (gT (g2 dGt (g1 (bB cs.Jobs "spent") (af 0)) (gC (.int 0)))) (g2 dIx (g2 dIx (g1 (bB cs.Jobs "parts") (af 0)) (g1 (bB cs.Jobs "part") (af 0))) (gC (.int 1))) (gC .none)))
def jW (cs:Cs) (aT:Gf):Ds->Sr :=
 (az (sIf (gT (g1 m8 (af 1))) (bh (gC .none)) aY)
  (az (fA [] (bG (af 0)) (bw 2) (sIf (gT (g2 dEq (bx cs.Jobs "held" aT (af 2) ah) (af 1))) (bh (af 2)) aY))
  (bh (gC .none))))
def gO (cs:Cs) (aM bN:Gf):Ds->Sr :=
 (az (wX 1)
  (az (fA [1] (bG (af 0)) (bw 2) (az (aL [1] 3 (aq bN (ae (af 0) (ae (bx cs.Jobs "wanted" aM (af 2) ah) ah))))
  (sIf (gT (g1 iu (af 3))) (oX 1 (g1 (bB cs.Jobs "number") (af 3)) (gF kG (ae (g1 (bB cs.Jobs "rank") (af 2)) (ae (lL (af 1) (g1 (bB cs.Jobs "number") (af 3)) (g1 (bB cs.Jobs "rank") (af 3))) ah)))) aY)))
  (bh (af 1))))
def cg (cs:Cs) (aT:Gf):Ds->Sr :=
 (az (aL [] 2 (bx cs.Jobs "held" aT (af 0) ah))
  (az (sIf (gT (g1 m8 (af 2))) (bh (fD (ae (g1 (bB cs.Jobs "rank") (af 0)) (ae (gC (.int 1)) ah)))) aY)
  (bh (fD (ae (gF kG (ae (g1 (bB cs.Jobs "rank") (af 0)) (ae (g2 dIx (af 1) (af 2)) ah))) (ae (gC (.int 0)) ah))))))
def dD (cs:Cs):Ds->Sr :=
 (bh (BV (g2 dLt (g1 (bB cs.Jobs "job") (af 0)) (gF b8 (ae (g1 (bB cs.Jobs "row") (af 0)) ah))) (g2 dLe (g2 dIx (g1 (bB cs.Jobs "row") (af 0)) (g1 (bB cs.Jobs "job") (af 0))) (af 1))))
def zY (cs:Cs) (bu eu aV br:Gf):Ds->Sr :=
 (az (j4 (aq br (ae (af 0) ah)))
  (az (j4 (aq aV (ae (af 0) (ae (af 1) ah))))
  (bh (aq eu (ae (af 0) (ae (af 1) (ae (aq bu (ae (af 0) (ae (af 2) ah))) (ae (af 3) ah))))))))
def c7 (cs:Cs) (aj:Gf):Ds->Sr :=
 (az (aL [6] 4 (aq aj (ae (af 0) (ae (af 1) (ae (g2 Dt (gC (.int 10)) (gC (.int 9))) ah)))))
  (az (aL [6] 5 (g2 gy (g2 eJ (af 4) (g2 ba (g2 dIx (af 2) (gC (.int 0))) (gC (.int 2)))) (g2 dIx (af 2) (gC (.int 2)))))
  (az (eV [6] 6 ah)
  (az (aL [6] 7 (gC (.int 0)))
  (az (λδ=>bU (AW (gT (g2 dLt (g2 ba (af 5) (g2 dIx (af 2) (gC (.int 2)))) (af 3))) (gT (g2 dLt (gF b8 (ae (af 6) ah)) (gC (.int 60))))) (az (aL [6] 8 (g2 eJ (g2 b0 (g2 ba (g2 ba (af 4) (g2 b0 (g2 b0 (gC (.int 104729)) (af 7)) (af 7))) (g2 b0 (gC (.int 7919)) (af 7))) (gC (.int 48271))) (gC (.int 2147483647))))
  (az (aL [6] 9 (gF iS (ae (gC (.int 0)) (ae (g2 ba (af 5) (g2 eJ (g2 iV (af 8) (gC (.int 7))) (g2 ba (g2 dIx (af 2) (gC (.int 2))) (gC (.int 1))))) ah))))
  (az (sIf (gT (g2 dNe (af 6) (rh ah))) (qM 9 (gF iS (ae (af 9) (ae (g2 ba (g2 dIx (af 6) (g1 mZ (gC (.int 1)))) (gC (.int 1))) ah)))) aY)
  (az (gH [6] 6 (af 9))
  (az (aL [6] 5 (g2 ba (af 5) (g2 dIx (af 2) (gC (.int 0)))))
  (az (sIf (gT (g2 dEq (g2 eJ (g2 iV (af 8) (gC (.int 61))) (gC (.int 3))) (gC (.int 0)))) (aL [6] 5 (g2 ba (af 5) (g2 eJ (g2 iV (af 8) (gC (.int 997))) (g2 dIx (af 2) (gC (.int 0)))))) aY)
  (aL [6] 7 (g2 ba (af 7) (gC (.int 1)))))))))) 1000000 δ)
  (bh (af 6)))))))
def eI (cs:Cs) (bq:Gf):Ds->Sr :=
 (bh (gL (a8 4 (fW (ae (gF b8 (ae (af 2) ah)) ah)) bA (aq bq (ae (af 0) (ae (g2 ba (af 1) (af 4)) (ae (g2 dIx (af 2) (af 4)) (ae (af 3) ah))))) aI)))
def i6 (cs:Cs) (aR aW cM aQ:Gf) (a:List (Str×PyData)->Option (List (Str×PyData))) (as:List Addr):Ds->Sr :=
 (az (eV [6] 6 ah)
  (az (λδ=>bU (gK (gT (gF n6 (ae (gL (a8 9 (bG (af 5)) bA (bx cs.Jobs "are_done" aW (af 9) ah) aI)) ah)))) (az (oP [6] 7 9 (bG (af 5)) (gT (bx cs.Jobs "is_there" aQ (af 9) (ae (gF b8 (ae (af 6) ah)) ah))) (af 9) aI)
  (sIf (gT (g2 dEq (gF b8 (ae (af 7) ah)) (gC (.int 0)))) (gH [6] 6 (gC .none)) (az (aL [6] 8 (aq cM (ae (af 7) (ae (af 4) (ae (af 3) ah)))))
  (az (gH [6] 6 (fD (ae (g1 (bB cs.Jobs "number") (af 8)) (ae (g1 (bB cs.Jobs "job") (af 8)) ah))))
  (kJ as cs.Jobs "go_on" 8 a))))) 1000000 δ)
  (bh (af 6))))
def gJ (cs:Cs) (as:List Addr):Ds->Sr :=
 (az (eM as cs.Jobs 0 "spent" (gC (.int 1)))
  (az (sIf (gT (g2 dEq (g1 (bB cs.Jobs "spent") (af 0)) (g2 dIx (g2 dIx (g1 (bB cs.Jobs "parts") (af 0)) (g1 (bB cs.Jobs "part") (af 0))) (gC (.int 0))))) (az (lq as cs.Jobs 0 "spent" (gC (.int 0)))
  (eM as cs.Jobs 0 "part" (gC (.int 1)))) aY)
  (sIf (gT (g2 dEq (g1 (bB cs.Jobs "part") (af 0)) (gF b8 (ae (g1 (bB cs.Jobs "parts") (af 0)) ah)))) (az (lq as cs.Jobs 0 "part" (gC (.int 0)))
  (eM as cs.Jobs 0 "job" (gC (.int 1)))) aY)))
def jQ (cs:Cs) (cE aM bN bZ:Gf):Ds->Sr :=
 (az (sIf (gT (g2 dEq (af 2) (gC (.str "high")))) (bh (jm [1] (af 0) (aq bZ (ae (af 0) (ae (af 1) ah))))) aY)
  (az (aL [] 3 (gL (a8 5 (bG (af 0)) (gT (g1 m8 (aq bN (ae (af 0) (ae (bx cs.Jobs "wanted" aM (af 5) ah) ah))))) (af 5) aI)))
  (az (aL [] 4 (gIf (gT (g2 dEq (af 2) (gC (.str "asked")))) (aq cE (ae (af 0) ah)) (gC (cQ []))))
  (bh (jm [4] (af 3) (lL (af 1) (g1 (bB cs.Jobs "number") (af 0)) (g1 (bB cs.Jobs "rank") (af 0))))))))
end RS
set_option maxHeartbeats 1000000
namespace RS
open PySem L2
def hvM (every late:Int):Int->List Int->Bool
 |_,[]=>true
 |m,c::r=>if c<(if c-late>m then c-late else m) then false else hvM every late ((if c-late>m then c-late else m)+every) r
def hvE (e:Er) (ns:List Int):Bool:=hvM e.every e.late (0-e.late) ns
def b9:Gf
 |[d,.list xs]=>if uw d then (match fF xs with|some ns=>.ok (.bool (hvE (deE d) ns))|none=>.no) else .no
 |_=>.no
theorem g0 (h:e.Sh):b9 [e.d,.list (ns.map PyData.int)]=.ok (.bool (hvE e ns)):=by unfold b9;simp only[lp h,if_true,e9,wu]
def hvB:Ds->Sr:=(az (aL [] 6 (gF iS (ae (af 4) (ae (g2 gy (af 5) (af 3)) ah))))
 (az (sIf (gT (g2 dGt (af 6) (af 5))) (bh (gC (.bool false))) aY)
 (aL [] 4 (g2 ba (af 6) (af 2)))))
theorem Ab (E L:PyData) (every late:Int):∀(ns:List Int) (m:Int) (a x6:Option PyData),
   (hvM every late m ns=true/\∃δ,forL (bw 5) hvB (ns.map PyData.int) [some E,some L,some (.int every),some (.int late),some (.int m),a,x6]=.nx δ)
  \/(hvM every late m ns=false/\forL (bw 5) hvB (ns.map PyData.int) [some E,some L,some (.int every),some (.int late),some (.int m),a,x6]=.rt (.bool false))
 |[],m,a,x6=>.inl ⟨rfl,_,rfl⟩
 |c::r,m,a,x6=>by
   have h1:bw 5 (.int c) [some E,some L,some (.int every),some (.int late),some (.int m),a,x6]=some [some E,some L,some (.int every),some (.int late),some (.int m),some (.int c),x6]:=rfl;rw[M5];unfold forL;rw[h1];unfold hvM;by_cases hc:c<(if c-late>m then c-late else m)
   ·have b:hvB [some E,some L,some (.int every),some (.int late),some (.int m),some (.int c),x6]=.rt (.bool false):=by simp[hvB,hc]
    refine .inr ⟨if_pos hc,?_⟩;simp only[b]
   ·have b:hvB [some E,some L,some (.int every),some (.int late),some (.int m),some (.int c),x6]=.nx [some E,some L,some (.int every),some (.int late),some (.int ((if c-late>m then c-late else m)+every)),some (.int c),some (.int (if c-late>m then c-late else m))]:=by simp[hvB,hc]
    rw[if_neg hc];simp only[b];exact Ab E L every late r _ _ _
theorem EK {f:PyData->List PyData->Rs PyData} (h:(match ds with|[a,.list x1]=>f a x1|_=>.no)≠.no):∃a x1,ds=[a,.list x1]/\f a x1≠.no:=by
 rcases ds with _|⟨a,_|⟨x1,_|⟨y,ys⟩⟩⟩
 ·exact absurd rfl h
 ·exact absurd rfl h
 ·skip
  cases x1 with
  |list x1 =>exact⟨_,_,rfl,h⟩
  |_=>exact absurd rfl h
 ·first|exact absurd rfl h|(cases x1 <;> exact absurd rfl h)
theorem qL (cs:Cs):LLq (fj cs) 2 5 b9:=by
 intro ds hl a;obtain⟨d,xs,g,f⟩:=EK a;clear a;subst g;have a:=f;clear f
 ·skip
  split at a
  ·rename_i hd;split at a
   ·rename_i ns h;have b:=d6 h;subst b;obtain⟨e1,sh⟩:=rL hd;rw[<-e1,g0 sh];generalize deE d=e at *;show bc (fj cs [some e.d,some (.list (ns.map PyData.int)),none,none,none,none,none])=_;unfold fj;have a0:dIx e.d (.int 0)=some (.int e.every):=rfl;have a2:dIx e.d (.int 2)=some (.int e.late):=rfl;simp only[aN,ij,bK,ak,ar,cF,Rs.ag,a0,a2,Rs.ai,av,nU];have i:=Ab e.d (.list (ns.map PyData.int)) e.every e.late ns (0-e.late) none none;have j:fA [] (bG (af 1)) (bw 5) hvB [some e.d,some (.list (ns.map PyData.int)),some (.int e.every),some (.int e.late),some (.int (0-e.late)),none,none]=forL (bw 5) hvB (ns.map PyData.int) [some e.d,some (.list (ns.map PyData.int)),some (.int e.every),some (.int e.late),some (.int (0-e.late)),none,none]:=rfl;show bc (match fA [] (bG (af 1)) (bw 5) hvB [some e.d,some (.list (ns.map PyData.int)),some (.int e.every),some (.int e.late),some (.int (0-e.late)),none,none] with|.nx c=>bh (gC (.bool true)) c|r=>r)=_;rw[j];rcases i with⟨h1,δ,h2⟩|⟨h1,h2⟩
    ·rw[h2];show Rs.ok _=_;unfold hvE;rw[h1]
    ·rw[h2];show Rs.ok _=_;unfold hvE;rw[h1]
   ·exact absurd rfl a
  ·exact absurd rfl a
structure pH (ns:List Int):Prop where
 few:ns.length<=60
 lo:∀c∈ns,0<=c
 hi:∀c∈ns,c<=9999
def rR (ns:List Int):Bool:=decide (ns.length<=60)&&ns.all λc=>decide (0<=c)&&decide (c<=9999)
theorem rG:rR ns=true↔pH ns:=by
 unfold rR;rw[M8,decide_eq_true_eq,MD];constructor
 ·rintro⟨h1,h2⟩
  refine⟨h1,λc hc=>?_,λc hc=>?_⟩
  ·have:=h2 c hc;rw[M8,decide_eq_true_eq,decide_eq_true_eq]at this;exact this.1
  ·have:=h2 c hc;rw[M8,decide_eq_true_eq,decide_eq_true_eq]at this;exact this.2
 ·rintro⟨h1,h2,a⟩
  refine⟨h1,λc hc=>?_⟩;rw[M8,decide_eq_true_eq,decide_eq_true_eq];exact⟨h2 c hc,a c hc⟩
def de:Gf
 |[d,.list xs]=>if uw d then (match fF xs with|some ns=>if rR ns then .ok (.bool (hvE (deE d) ns)) else .no|none=>.no) else .no
 |_=>.no
theorem ll (h:e.Sh) (a:pH ns):de [e.d,.list (ns.map PyData.int)]=.ok (.bool (hvE e ns)):=by unfold de;simp only[lp h,if_true,e9,wu,rG.mpr a]
theorem j7 (ns:List Int):aG (.list (ns.map PyData.int))=true:=by
 induction ns with
 |nil=>rfl
 |cons a r ih =>
  have:aG (.list (PyData.int a::r.map PyData.int))=aG (.list (r.map PyData.int)):=by simp[aG,dw]
  rw[M5,this];exact ih
theorem Eb (cs:Cs):LLq (k9 cs aO b9) 2 0 de:=by
 intro ds hl a;obtain⟨d,xs,i,g⟩:=EK a;clear a;subst i;have a:=g;clear g
 ·skip
  split at a
  ·rename_i hd;split at a
   ·rename_i ns j;split at a
    ·rename_i l;have f:=d6 j;subst f;obtain⟨e1,sh⟩:=rL hd;have R:=rG.mp l;rw[<-e1,ll sh R];generalize deE d=e at *;show bc (k9 cs aO b9 [some e.d,some (.list (ns.map PyData.int))])=_;have m:k7 "list" (.list (ns.map PyData.int))=some (.bool true):=by unfold k7;rw[if_pos (j7 ns)];rfl
     have hc:a8 2 (bG (af 1)) bA (aq aO (ae (af 2) (ae (gC (.int 0)) (ae (gC (.int 9999)) ah)))) aI [some e.d,some (.list (ns.map PyData.int))]=.ok ((ns.map PyData.int).map λd=>.bool (isWhole d 0 9999)) :=
      cu rfl rfl (by have:=R.few;rw[M3];omega) λd b=>by obtain⟨c,hc,rfl⟩:=M9.mp b;simp only[bj,ay,aF,MU,MS,ak,ar,cF,Rs.ag];exact vZ rfl
     have h:=iH (λd=>isWhole d 0 9999) (ns.map PyData.int);have ha:(ns.map PyData.int).all (λd=>isWhole d 0 9999)=true:=by rw[MD];intro d b;obtain⟨c,hc,rfl⟩:=M9.mp b;have h1:=R.lo c hc;have h2:=R.hi c hc;simp[isWhole,h1,h2]
     rw[ha]at h;have hn:¬ ((60:Int)<((ns.map PyData.int).length:Int)):=by have:=R.few;rw[M3];omega
     unfold k9;simp only[aN,cJ,AA,tP,dH,gx,bK,fI,ay,aF,ak,ar,cF,Rs.ag,m,Rs.ai,aX,jE,Fq,O7,MJ,if_false,decide_eq_false hn,av,eO,bW,ye,n5,hc,h,bj,g0 sh,if_true,aU]
    ·exact absurd rfl a
   ·exact absurd rfl a
  ·exact absurd rfl a
def df (r:List Int):PyData:=.list (r.map PyData.int)
def cmD (rows:List (List Int)):PyData:=.list (rows.map df)
inductive Cms:List Er->List (List Int)->Prop
 |nil:Cms [] []
 |cons {e:Er} {r:List Int} {es:List Er} {rows:List (List Int)}:pH r->hvE e r=true->Cms es rows->Cms (e::es) (r::rows)
theorem Cms.len (h:Cms es rows):rows.length=es.length:=by
 induction h with
 |nil=>rfl
 |cons _ _ _ ih=>simp[ih]
theorem Cms.rR (h:Cms es rows):∀r∈rows,pH r:=by
 induction h with
 |nil=>intro r a;cases a
 |cons a _ _ ih =>
  intro b h';rcases M7.mp h' with rfl|h'
  ·exact a
  ·exact ih b h'
structure xV (es:List Er):Prop where
 l1:1<=es.length
 l6:es.length<=6
 ok:∀e∈es,e.Ok
open Classical in
def bu (cs:Cs):Gf:=λds=>if ∃es rows,xV es/\Cms es rows/\ds=[aw es,cmD rows] then .ok (ds.getD 1 .none) else .no
theorem fG (h:xV es) (c:Cms es rows):bu cs [aw es,cmD rows]=.ok (cmD rows):=by unfold bu;rw[if_pos ⟨es,rows,h,c,rfl⟩];rfl
theorem Cn {δ:Ds} (f:δ.length=2):∀{es:List Er} {rows:List (List Int)},Cms es rows->(∀e∈es,e.Sh)->fe bA (aq de (ae (af 2) (ae (af 3) ah))) jI δ (qY (es.map Er.d) (rows.map df))=.ok (rows.map λ_=>.bool true)
 |_,_,.nil,_=>rfl
 |_,_,.cons (e:=e) (r:=r) (es:=es) (rows:=rows) hr hv c,hs=>by
  obtain⟨a,b,rfl⟩:∃a b,δ=[a,b]:=by
   match δ,f with
   |[a,b],_=>exact⟨a,b,rfl⟩
  have g:=Cn f c λx h=>hs x (M4 _ h)
  show fe _ _ _ _ (PyData.tuple [e.d,df r]::qY (es.map Er.d) (rows.map df))=_;unfold fe;rw[show jI (PyData.tuple [e.d,df r])=some [some e.d,some (df r)] from rfl];have i:aq de (ae (af 2) (ae (af 3) ah)) ([a,b]++[some e.d,some (df r)])=.ok (.bool true):=by simp only[bj,ay,aF,MU,MS,ak,ar,Rs.ag];rw[show df r=.list (r.map PyData.int) from rfl,ll (hs e M6) hr,hv]
  simp only[bA,Rs.dz,Rs.ag,if_true,i,g,M5]
theorem qj (rows:List (List Int)):aG (cmD rows)=true:=by
 unfold cmD
 induction rows with
 |nil=>rfl
 |cons a r ih =>
  have h1:=j7 a;have:aG (.list (df a::r.map df))=(aG (df a)&&aG (.list (r.map df))):=by simp[aG,dw]
  rw[M5,this,ih];simp only[NS];exact h1
theorem lZ (cs:Cs):LLq (dP cs de (br cs)) 2 0 (bu cs):=by
 intro ds hl a;by_cases h:∃es rows,xV es/\Cms es rows/\ds=[aw es,cmD rows]
 ·obtain⟨es,rows,ok,c,rfl⟩:=h;rw[fG ok c];have k1:=iE cs ok.l1 ok.l6 ok.ok;have j:k7 "list" (cmD rows)=some (.bool true):=by unfold k7;rw[if_pos (qj rows)];rfl
  have hn:dNe (.int ((rows.map df).length:Int)) (.int ((es.map Er.d).length:Int))=some (.bool false):=by have:=c.len;rw[M3,M3,this,Lf];simp
  have l:a8 2 (Fg (ae (af 0) (ae (af 1) ah))) bA (aq de (ae (af 2) (ae (af 3) ah))) jI [some (aw es),some (cmD rows)]=.ok (rows.map λ_=>.bool true):=by
   unfold a8;rw[if_pos (show [some (aw es),some (cmD rows)].length=2 from rfl)];have m:Fg (ae (af 0) (ae (af 1) ah)) [some (aw es),some (cmD rows)]=.ok (qY (es.map Er.d) (rows.map df)):=by show (if (rows.map df).length=(es.map Er.d).length then Rs.ok (qY (es.map Er.d) (rows.map df)) else Rs.no)=_;exact if_pos (by rw[M3,M3];exact c.len)
   rw[m];simp only[Rs.ag];rw[if_pos (by unfold qY;rw[List.length_zipWith,M3,M3];have:=ok.l6;omega)];exact Cn rfl c λe n=>(ok.ok e n).sh
  have i:=iH (λ_:List Int=>true) rows;have ha:rows.all (λ_=>true)=true:=by rw[MD];intros;rfl
  rw[ha]at i;have b:a8 2 (bG (af 1)) bA (gF vS (ae (af 2) ah)) aI [some (aw es),some (cmD rows)]=.ok ((rows.map df).map id) :=
   cu rfl rfl (by have:=c.len;have:=ok.l6;rw[M3];omega) λd f=>by obtain⟨r,hr,rfl⟩:=M9.mp f;rfl
  show bc (dP cs de (br cs) [some (aw es),some (cmD rows)])=_;unfold dP;have g:b8 [cmD rows]=some (.int ((rows.map df).length:Int)):=rfl;have hle:b8 [aw es]=some (.int ((es.map Er.d).length:Int)):=rfl;simp only[aN,oA,bj,ay,aF,ak,ar,Rs.ag,k1,av,cJ,AA,tP,dH,gx,bK,fI,j,Rs.ai,aX,g,hle,hn,O7,MJ,if_false,eO,n5,l,i,bW,b,Ni,aU];rfl
 ·exfalso;apply a;unfold bu;rw[if_neg h]
structure Jb where
 num:Int
 parts:List (Int×Option Int)
 rank:Int
 row:List Int
 job:Nat
 part:Nat
 spent:Nat
variable {key:Jb->PyData} {s:List Jb×List PyData} {j:Jb} {p q:Addr×Jb} {js:List Jb} {ts:List (Addr×Jb)}
def Jb.fds (j:Jb):List (Str×PyData):=[("number",.int j.num),("parts",.tuple (j.parts.map aJ)),("rank",.int j.rank),("row",df j.row),("job",.int j.job),("part",.int j.part),("spent",.int j.spent)]
def Jb.d (C a:Addr) (j:Jb):PyData:=cA C a j.fds
theorem k6 {f:Str} {r:List (Str×PyData)} (h:("@":Str)≠f):bB C f (cA C a r)=jv f (r.map λp=>(.str p.1,p.2)):=by show (if ("":Str)=""/\(C:Int)=(C:Int) then (if ("@":Str)=f then some (PyData.int (a:Int)) else jv f (r.map λp=>(.str p.1,p.2))) else none)=_;rw[if_pos ⟨rfl,rfl⟩,if_neg h]
section
theorem yr:bB C "number" (j.d C a)=some (.int j.num):=by unfold Jb.d;rw[k6 (by decide)];rfl
theorem lh:bB C "parts" (j.d C a)=some (.tuple (j.parts.map aJ)):=by unfold Jb.d;rw[k6 (by decide)];rfl
theorem og:bB C "rank" (j.d C a)=some (.int j.rank):=by unfold Jb.d;rw[k6 (by decide)];rfl
theorem ym:bB C "row" (j.d C a)=some (df j.row):=by unfold Jb.d;rw[k6 (by decide)];rfl
theorem t8:bB C "job" (j.d C a)=some (.int j.job):=by unfold Jb.d;rw[k6 (by decide)];rfl
theorem oB:bB C "part" (j.d C a)=some (.int j.part):=by unfold Jb.d;rw[k6 (by decide)];rfl
theorem jR:bB C "spent" (j.d C a)=some (.int j.spent):=by unfold Jb.d;rw[k6 (by decide)];rfl
end
def gfG (n k:Nat) (G:Ds->Sr):Gf:=λds=>if ds.length=n then bc (G (ds.map some++List.replicate k none)) else .no
theorem jJ {n k:Nat} {G:Ds->Sr}:∀ds,ds.length=n->gfG n k G ds≠.no->bc (G (ds.map some++List.replicate k none))=gfG n k G ds:=by intro ds hl _;unfold gfG;rw[if_pos hl]
def aW (cs:Cs):Gf:=gfG 1 0 (dE cs)
def aM (cs:Cs):Gf:=gfG 1 0 (eG cs)
def aT (cs:Cs):Gf:=gfG 1 0 (fS cs)
def aQ (cs:Cs):Gf:=gfG 2 0 (dD cs)
theorem vn:aW cs [j.d cs.Jobs a]=.ok (.bool ((j.job:Int)==(j.row.length:Int))):=by
 have hl:b8 [df j.row]=some (.int (j.row.length:Int)):=by unfold df;rw[jE,M3]
 show bc (dE cs [some (j.d cs.Jobs a)])=_;unfold dE;simp only[bW,bK,gx,ak,Rs.ag,t8,ym,Rs.ai,fI,ay,aF,hl,jA,av,aU]
def Jb.tool (j:Jb):Option Int:=(j.parts[j.part]?.map (·.2)).getD none
theorem uV {p:Int×Option Int} (h:j.parts[j.part]?=some p):dIx (.tuple (j.parts.map aJ)) (.int (j.part:Int))=some (aJ p):=by rw[wx];exact oG (by rw[MA,h];rfl)
theorem part1 (p:Int×Option Int):dIx (aJ p) (.int 1)=some (bg p.2):=rfl
theorem rX (h:j.part<j.parts.length):aM cs [j.d cs.Jobs a]=.ok (bg (if j.spent=0 then j.tool else none)):=by
 show bc (eG cs [some (j.d cs.Jobs a)])=_;unfold eG;have b:j.parts[j.part]?=some j.parts[j.part]:=M1 h;have c:j.tool=j.parts[j.part].2:=by unfold Jb.tool;rw[b];rfl
 by_cases z:j.spent=0
 ·have e:((j.spent:Int)==0)=true:=by rw[z];rfl
  rw[if_pos z,c];simp only[bW,gIf,dH,bK,gx,ak,cF,Rs.ag,jR,lh,oB,Rs.ai,jA,e,aX,if_true,uV b,part1,av,aU]
 ·have e:((j.spent:Int)==0)=false:=by rw[beq_eq_false_iff_ne];omega
  rw[if_neg z];simp only[bW,gIf,dH,bK,gx,ak,cF,Rs.ag,jR,Rs.ai,jA,e,aX,MJ,if_false,av,aU];rfl
theorem yY (h:j.part<j.parts.length):aT cs [j.d cs.Jobs a]=.ok (bg (if j.spent=0 then none else j.tool)):=by
 show bc (fS cs [some (j.d cs.Jobs a)])=_;unfold fS;have b:j.parts[j.part]?=some j.parts[j.part]:=M1 h;have c:j.tool=j.parts[j.part].2:=by unfold Jb.tool;rw[b];rfl
 by_cases z:j.spent=0
 ·have e:decide ((0:Int)<(j.spent:Int))=false:=by rw[z];rfl
  rw[if_pos z];simp only[bW,gIf,dH,bK,gx,ak,cF,Rs.ag,jR,Rs.ai,Fq,e,aX,MJ,if_false,av,aU];rfl
 ·have e:decide ((0:Int)<(j.spent:Int))=true:=by rw[decide_eq_true_eq];omega
  rw[if_neg z,c];simp only[bW,gIf,dH,bK,gx,ak,cF,Rs.ag,jR,lh,oB,Rs.ai,Fq,e,aX,if_true,uV b,part1,av,aU]
def Jb.there (j:Jb) (t:Int):Bool:=match j.row[j.job]? with
 |some c=>decide (c<=t)
 |none=>false
theorem vC (h:j.job<=j.row.length):aQ cs [j.d cs.Jobs a,.int t]=.ok (.bool (j.there t)):=by
 have hl:b8 [df j.row]=some (.int (j.row.length:Int)):=by unfold df;rw[jE,M3]
 show bc (dD cs [some (j.d cs.Jobs a),some (.int t)])=_;unfold dD Jb.there;by_cases z:j.job<j.row.length
 ·have b:j.row[j.job]?=some j.row[j.job]:=M1 z;have e:decide ((j.job:Int)<(j.row.length:Int))=true:=by rw[decide_eq_true_eq];omega
  have c:dIx (df j.row) (.int (j.job:Int))=some (.int j.row[j.job]):=by show atI (j.row.map PyData.int) _=_;exact oG (by rw[MA,b];rfl)
  rw[b];simp only[bW,ye,bK,gx,ak,ar,Rs.ag,t8,ym,Rs.ai,fI,ay,aF,hl,HE,e,aX,if_true,c,J7,av,aU]
 ·have b:j.row[j.job]?=none:=NN (by omega);have e:decide ((j.job:Int)<(j.row.length:Int))=false:=by rw[decide_eq_false_iff_not];omega
  rw[b];simp only[bW,ye,bK,gx,ak,ar,Rs.ag,t8,ym,Rs.ai,fI,ay,aF,hl,HE,e,aX,MJ,if_false,av,aU]
def jD (C:Addr) (p:Addr×Jb):PyData:=p.2.d C p.1
def Jb.held (j:Jb):Option Int:=if j.spent=0 then none else j.tool
def Jb.wanted (j:Jb):Option Int:=if j.spent=0 then j.tool else none
def holdsT (t:Int) (p:Addr×Jb):Bool:=p.2.held==some t
theorem eq_none_int (x:Int):dEq .none (.int x)=some (.bool false):=by
 have h:PySem.SeqAt.shaped (.int x)=true:=by simp[PySem.SeqAt.shaped,PyData.canLay0,PyData.depth]
 unfold dEq;rw[h];simp[aG,PyData.eqv]
 first|done|rfl|decide
theorem J8 (o:Option Int) (t:Int):dEq (bg o) (.int t)=some (.bool (o==some t)):=by
 cases o with
 |none=>exact eq_none_int t
 |some i=>rw[show bg (some i)=.int i from rfl,jA];simp
theorem uK (h1:("@":Str)≠m) (h:jt m (j.fds.map λp=>(.str p.1,p.2))=true):isC C m (j.d C a)=true:=by
 show (decide (("":Str)="")&&decide ((C:Int)=(C:Int))&&jt m ((.str "@",.int (a:Int))::(j.fds.map λp=>(.str p.1,p.2))))=true;have:jt m ((.str "@",.int (a:Int))::(j.fds.map λp=>(PyData.str p.1,p.2)))=true:=by unfold jt;simp only[h,NS];simpa using h1
 rw[this];simp
theorem wc:isC C "held" (j.d C a)=true:=uK (by decide) rfl
theorem oH:isC C "wanted" (j.d C a)=true:=uK (by decide) rfl
theorem u0:isC C "are_done" (j.d C a)=true:=uK (by decide) rfl
theorem tJ:isC C "is_there" (j.d C a)=true:=uK (by decide) rfl
def bN (cs:Cs):Gf:=gfG 2 1 (jW cs (aT cs))
def jS (C:Addr) (ts:List (Addr×Jb)) (tool:Option Int):PyData:=match tool with
 |none=>.none
 |some t=>match ts.find? (holdsT t) with
  |none=>.none
  |some p=>jD C p
theorem nV {cs:Cs} {t:Int} {X:PyData}:∀(ts:List (Addr×Jb)) (x2:Option PyData),(∀p∈ts,p.2.part<p.2.parts.length) ->
   (∃p,ts.find? (holdsT t)=some p/\forL (bw 2) (sIf (gT (g2 dEq (bx cs.Jobs "held" (aT cs) (af 2) ah) (af 1))) (bh (af 2)) aY) (ts.map (jD cs.Jobs)) [some X,some (.int t),x2]=.rt (jD cs.Jobs p))
  \/(ts.find? (holdsT t)=none/\∃δ,forL (bw 2) (sIf (gT (g2 dEq (bx cs.Jobs "held" (aT cs) (af 2) ah) (af 1))) (bh (af 2)) aY) (ts.map (jD cs.Jobs)) [some X,some (.int t),x2]=.nx δ)
 |[],x2,_=>.inr ⟨rfl,_,rfl⟩
 |p::r,x2,h=>by
   have h1:bw 2 (jD cs.Jobs p) [some X,some (.int t),x2]=some [some X,some (.int t),some (jD cs.Jobs p)]:=rfl;have hm:bx cs.Jobs "held" (aT cs) (af 2) ah [some X,some (.int t),some (jD cs.Jobs p)]=.ok (bg p.2.held):=by unfold bx;simp only[ak,ar,Rs.ag];rw[if_pos (show isC cs.Jobs "held" (jD cs.Jobs p)=true from wc)];simp only[aF,Rs.ag];exact yY (h p M6)
   have hc:gT (g2 dEq (bx cs.Jobs "held" (aT cs) (af 2) ah) (af 1)) [some X,some (.int t),some (jD cs.Jobs p)]=.ok (holdsT t p):=by simp only[dH,bK,hm,ak,ar,Rs.ag,J8,Rs.ai,aX];rfl
   rw[M5];unfold forL;rw[h1];cases z:holdsT t p with
   |true =>refine .inl ⟨p,by rw[List.find?_cons_of_pos z],?_⟩;simp only[cJ,hc,z,av,if_true,bW,ak,ar]
   |false =>simp only[cJ,hc,z,av,MJ,if_false,eO];rw[List.find?_cons_of_neg (by rw[z];exact MG)];exact nV r _ λq a=>h q (M4 _ a)
theorem rM {tool:Option Int} (h:∀p∈ts,p.2.part<p.2.parts.length):bN cs [.list (ts.map (jD cs.Jobs)),bg tool]=.ok (jS cs.Jobs ts tool):=by
 show bc (jW cs (aT cs) [some (.list (ts.map (jD cs.Jobs))),some (bg tool),none])=_;unfold jW jS;cases tool with
 |none=>rfl
 |some t =>
  have hn:gT (g1 m8 (af 1)) [some (.list (ts.map (jD cs.Jobs))),some (.int t),none]=.ok false:=rfl;show bc (az (sIf (gT (g1 m8 (af 1))) (bh (gC .none)) aY) (az (fA [] (bG (af 0)) (bw 2) (sIf (gT (g2 dEq (bx cs.Jobs "held" (aT cs) (af 2) ah) (af 1))) (bh (af 2)) aY)) (bh (gC .none))) [some (.list (ts.map (jD cs.Jobs))),some (.int t),none])=_;have a:fA [] (bG (af 0)) (bw 2) (sIf (gT (g2 dEq (bx cs.Jobs "held" (aT cs) (af 2) ah) (af 1))) (bh (af 2)) aY) [some (.list (ts.map (jD cs.Jobs))),some (.int t),none]=forL (bw 2) (sIf (gT (g2 dEq (bx cs.Jobs "held" (aT cs) (af 2) ah) (af 1))) (bh (af 2)) aY) (ts.map (jD cs.Jobs)) [some (.list (ts.map (jD cs.Jobs))),some (.int t),none]:=rfl;simp only[aN,cJ,hn,av,MJ,if_false,eO,a];rcases nV (cs:=cs) (t:=t) (X:=.list (ts.map (jD cs.Jobs))) ts none h with⟨p,f1,f2⟩|⟨f1,δ,f2⟩
  ·rw[f1,f2];rfl
  ·rw[f1,f2];rfl
def cE (cs:Cs):Gf:=gfG 1 3 (gO cs (aM cs) (bN cs))
theorem GN:iu (jD C q)=some (.bool true):=rfl
def lrB (cs:Cs):Ds->Sr:=(az (aL [1] 3 (aq (bN cs) (ae (af 0) (ae (bx cs.Jobs "wanted" (aM cs) (af 2) ah) ah))))
 (sIf (gT (g1 iu (af 3))) (oX 1 (g1 (bB cs.Jobs "number") (af 3)) (gF kG (ae (g1 (bB cs.Jobs "rank") (af 2)) (ae (lL (af 1) (g1 (bB cs.Jobs "number") (af 3)) (g1 (bB cs.Jobs "rank") (af 3))) ah)))) aY))
theorem GA (l:List (Int×Int)) (k v:Int):(xA l k v).length<=l.length+1:=by unfold xA;split <;> simp
def bZ (cs:Cs):Gf:=gfG 2 1 (cg cs (aT cs))
theorem rO {x y:Option PyData} (h:p.2.part<p.2.parts.length):bx cs.Jobs "held" (aT cs) (af 0) ah [some (jD cs.Jobs p),x,y]=.ok (bg p.2.held):=by unfold bx;simp only[ak,Rs.ag];rw[if_pos (show isC cs.Jobs "held" (jD cs.Jobs p)=true from wc)];simp only[aF,Rs.ag];exact yY h
theorem Ee (h:ts≠[]):∃p∈ts,jS C ts p.2.wanted=.none:=by
 by_cases z:∃p∈ts,p.2.spent≠0
 ·obtain⟨p,a,b⟩:=z;refine⟨p,a,?_⟩;unfold Jb.wanted;rw[if_neg b];rfl
 ·have c:∀p∈ts,p.2.spent=0:=λp a=>by
   by_cases q:p.2.spent=0
   ·exact q
   ·exact absurd ⟨p,a,q⟩ z
  obtain⟨p,r,rfl⟩:=List.exists_cons_of_ne_nil h;refine⟨p,M6,?_⟩;unfold jS;cases p.2.wanted with
  |none=>rfl
  |some t =>
   have:(p::r).find? (holdsT t)=none:=by rw[Oh];intro q e;unfold holdsT Jb.held;rw[if_pos (c q e)];exact MG
   simp only[this]
def cM (cs:Cs):Gf:=gfG 3 2 (jQ cs (cE cs) (aM cs) (bN cs) (bZ cs))
theorem eq_str {s t:Str} (h1:PySem.SeqAt.shaped (.str s)=true) (h2:PySem.SeqAt.shaped (.str t)=true):dEq (.str s) (.str t)=some (.bool (s==t)):=by unfold dEq;rw[h1,h2];simp[aG,PyData.eqv]
def DE (cs:Cs) (δ:Ds) (d:PyData):Bool:=match aq (bN cs) (ae (af 0) (ae (bx cs.Jobs "wanted" (aM cs) (af 5) ah) ah)) (δ++[some d]) with
 |.ok x=>eN x
 |_=>false
theorem As {x1 x2 x3 x4:Option PyData} (h:∀p∈ts,p.2.part<p.2.parts.length) (a:q∈ts) :
  aq (bN cs) (ae (af 0) (ae (bx cs.Jobs "wanted" (aM cs) (af 5) ah) ah)) [some (.list (ts.map (jD cs.Jobs))),x1,x2,x3,x4,some (jD cs.Jobs q)]=.ok (jS cs.Jobs ts q.2.wanted):=by
 have h2:bx cs.Jobs "wanted" (aM cs) (af 5) ah [some (.list (ts.map (jD cs.Jobs))),x1,x2,x3,x4,some (jD cs.Jobs q)]=.ok (bg q.2.wanted):=by unfold bx;simp only[ak,ar,Rs.ag];rw[if_pos (show isC cs.Jobs "wanted" (jD cs.Jobs q)=true from oH)];simp only[aF,Rs.ag];exact rX (h q a)
 simp only[bj,ay,aF,ak,h2,Rs.ag];exact rM h
structure uA (s:Str):Prop where
 sh:PySem.SeqAt.shaped (.str s)=true
theorem zC:PySem.SeqAt.shaped (.str "high")=true:=by decide +kernel
theorem vQ:PySem.SeqAt.shaped (.str "asked")=true:=by decide +kernel
theorem tM (ps:List (Int×Option Int)):aG (.tuple (ps.map aJ))=true:=by
 induction ps with
 |nil=>rfl
 |cons a r ih =>
  have h1:aG (aJ a)=true:=by obtain⟨x,o⟩:=a;cases o <;> rfl
  have:aG (.tuple (aJ a::r.map aJ))=(aG (aJ a)&&aG (.tuple (r.map aJ))):=by simp[aG,dw]
  rw[M5,this,h1,ih];rfl
theorem Jb.flat (j:Jb):gB j.fds=true:=by have h1:=tM j.parts;have h2:aG (df j.row)=true:=j7 j.row;unfold gB Jb.fds;simp only[M5,N8,kY,h1,h2,NS,O6];rfl
theorem l5:nL [a] C 0 [some (j.d C a)]=some (a,j.fds):=by
 unfold nL;have h1:gG [some (j.d C a)]=true:=by unfold gG Jb.d;simp only[NR,List.all_nil,NS,wL];exact j.flat
 show (match objOf (j.d C a) with|some (c,b,fds)=>if c=C/\b∈[a]/\gG [some (j.d C a)]=true/\gB fds=true/\fds.length<1000 then some (b,fds) else none|none=>none)=_;unfold Jb.d at *;rw[sq];exact if_pos ⟨rfl,Mw.mpr rfl,h1,j.flat,show 7<1000 by decide⟩
theorem j8 {fds:List (Str×PyData)} (b:gB fds=true):kQ a nd [some (cA C a fds)]=[some nd]:=by show [some (fB a nd (cA C a fds))]=_;unfold cA fB;refine congrArg (λx=>[some x]) (if_pos ?_);unfold j9;unfold gB at b;simp[b]
section
theorem rC:eM [a] C 0 "spent" (gC (.int 1)) [some (j.d C a)]=.nx [some (Jb.d C a { j with spent:=j.spent+1 })]:=by unfold eM;rw[l5];show Sr.nx (kQ a (cA C a (pG "spent" (.int ((j.spent:Int)+1)) j.fds)) [some (cA C a j.fds)])=_;rw[j8 j.flat];rfl
theorem Es:eM [a] C 0 "part" (gC (.int 1)) [some (j.d C a)]=.nx [some (Jb.d C a { j with part:=j.part+1 })]:=by unfold eM;rw[l5];show Sr.nx (kQ a (cA C a (pG "part" (.int ((j.part:Int)+1)) j.fds)) [some (cA C a j.fds)])=_;rw[j8 j.flat];rfl
theorem F4:eM [a] C 0 "job" (gC (.int 1)) [some (j.d C a)]=.nx [some (Jb.d C a { j with job:=j.job+1 })]:=by unfold eM;rw[l5];show Sr.nx (kQ a (cA C a (pG "job" (.int ((j.job:Int)+1)) j.fds)) [some (cA C a j.fds)])=_;rw[j8 j.flat];rfl
theorem BZ:lq [a] C 0 "spent" (gC (.int 0)) [some (j.d C a)]=.nx [some (Jb.d C a { j with spent:=0 })]:=by unfold lq;rw[l5];show Sr.nx (kQ a (cA C a (pG "spent" (.int 0) j.fds)) [some (cA C a j.fds)])=_;rw[j8 j.flat];rfl
theorem D7:lq [a] C 0 "part" (gC (.int 0)) [some (j.d C a)]=.nx [some (Jb.d C a { j with part:=0 })]:=by unfold lq;rw[l5];show Sr.nx (kQ a (cA C a (pG "part" (.int 0) j.fds)) [some (cA C a j.fds)])=_;rw[j8 j.flat];rfl
end
def Jb.step1 (j:Jb) (n:Int):Jb:=if (j.spent:Int)+1=n then { j with spent:=0,part:=j.part+1 } else { j with spent:=j.spent+1 }
def Jb.step2 (j:Jb):Jb:=if j.part=j.parts.length then { j with part:=0,job:=j.job+1 } else j
def Jb.len (j:Jb):Int:=(j.parts[j.part]?.map (·.1)).getD 0
def Jb.next (j:Jb):Jb:=(j.step1 j.len).step2
theorem Hb (h:j.part<j.parts.length):gJ cs [a] [some (j.d cs.Jobs a)]=.nx [some (j.next.d cs.Jobs a)]:=by
 have b:j.parts[j.part]?=some j.parts[j.part]:=M1 h;have hn:j.len=j.parts[j.part].1:=by unfold Jb.len;rw[b];rfl
 have second:∀k:Jb,sIf (gT (g2 dEq (g1 (bB cs.Jobs "part") (af 0)) (gF b8 (ae (g1 (bB cs.Jobs "parts") (af 0)) ah)))) (az (lq [a] cs.Jobs 0 "part" (gC (.int 0))) (eM [a] cs.Jobs 0 "job" (gC (.int 1)))) aY [some (k.d cs.Jobs a)]=.nx [some (k.step2.d cs.Jobs a)]:=by
  intro k;have hc:gT (g2 dEq (g1 (bB cs.Jobs "part") (af 0)) (gF b8 (ae (g1 (bB cs.Jobs "parts") (af 0)) ah))) [some (k.d cs.Jobs a)]=.ok ((k.part:Int)==(k.parts.length:Int)):=by simp only[dH,bK,gx,fI,ay,aF,ak,Rs.ag,oB,lh,Rs.ai,B1,M3,jA,aX]
  unfold Jb.step2;by_cases z:k.part=k.parts.length
  ·have e:((k.part:Int)==(k.parts.length:Int))=true:=by rw[z];exact beq_self_eq_true _
   rw[if_pos z];simp only[cJ,hc,e,av,if_true,aN,D7,F4]
  ·have e:((k.part:Int)==(k.parts.length:Int))=false:=by rw[beq_eq_false_iff_ne];omega
   rw[if_neg z];simp only[cJ,hc,e,av,MJ,if_false,eO]
 have hc:gT (g2 dEq (g1 (bB cs.Jobs "spent") (af 0)) (g2 dIx (g2 dIx (g1 (bB cs.Jobs "parts") (af 0)) (g1 (bB cs.Jobs "part") (af 0))) (gC (.int 0)))) [some (Jb.d cs.Jobs a { j with spent:=j.spent+1 })]=.ok (((j.spent:Int)+1)==j.len):=by have q:=uV (j:={ j with spent:=j.spent+1 }) b;have c:dIx (aJ j.parts[j.part]) (.int 0)=some (.int j.parts[j.part].1):=rfl;simp only[dH,bK,gx,ak,cF,Rs.ag,jR,lh,oB,Rs.ai,q,c,jA,aX,hn];rfl
 unfold gJ Jb.next Jb.step1;by_cases z:(j.spent:Int)+1=j.len
 ·have e:(((j.spent:Int)+1)==j.len)=true:=by rw[z];exact beq_self_eq_true _
  rw[if_pos z];simp only[aN,rC];rw[cJ,hc];simp only[e,av,if_true,aN,BZ,Es];exact second _
 ·have e:(((j.spent:Int)+1)==j.len)=false:=by rw[beq_eq_false_iff_ne];exact z
  rw[if_neg z];simp only[aN,rC];rw[cJ,hc];simp only[e,av,MJ,if_false,eO];exact second _
theorem Ck {a b:Option Int} (h:bg a=bg b):a=b:=by cases a <;> cases b <;> first|rfl|(injection h with h;rw[h])|cases h
theorem AV {p q:Int×Option Int} (h:aJ p=aJ q):p=q:=by
 obtain⟨a,o⟩:=p;obtain⟨b,u⟩:=q;unfold aJ at h;injection h with h
 injection h with h1 h2
 injection h1 with h1
 injection h2 with h2 _
 have c:=Ck h2;exact Prod.ext h1 c
theorem pN {α β:Type} {f:α->β} (c:∀x y,f x=f y->x=y):∀{l m:List α},l.map f=m.map f->l=m
 |[],[],_=>rfl
 |[],_::_,h=>by cases h
 |_::_,[],h=>by cases h
 |a::l,b::m,h=>by
  rw[M5,M5]at h;injection h with h1 h2
  rw[c a b h1,pN c h2]
theorem Fv {k:Jb} (h:j.fds=k.fds):j=k:=by
 obtain⟨a1,a2,a3,a4,a,b,c⟩:=j;obtain⟨b1,b2,b3,b4,e,f,g⟩:=k;unfold Jb.fds df at h;simp only[List.cons.injEq,Prod.mk.injEq,true_and,and_true,PyData.int.injEq,PyData.tuple.injEq,PyData.list.injEq]at h;obtain⟨h1,h2,i,l,h5,h6,h7⟩:=h;have e2:=pN (λx y=>AV) h2;have m:=pN (λx y (q:PyData.int x=PyData.int y)=>by injection q) l;have n:a=e:=by omega
 have o:b=f:=by omega
 have p:c=g:=by omega
 subst h1 i e2 m n o p;rfl
open Classical in
def fV:List (Str×PyData)->Option (List (Str×PyData)):=λfds=>if h:∃j:Jb,j.part<j.parts.length/\fds=j.fds then some (Classical.choose h).next.fds else none
theorem Hx (h:j.part<j.parts.length):fV j.fds=some j.next.fds:=by
 have a:∃k:Jb,k.part<k.parts.length/\j.fds=k.fds:=⟨j,h,rfl⟩
 unfold fV;rw[dif_pos a];have:=Fv (Classical.choose_spec a).2;rw[<-this]
theorem D9 (cs:Cs):∀a fds b,gB fds=true->fds.length<1000->fV fds=some b->∃δ,gJ cs [a] (some (cA cs.Jobs a fds)::List.replicate 0 none)=.nx δ/\δ[0]?=some (some (cA cs.Jobs a b)):=by
 intro a fds b _ _ e;by_cases hx:∃k:Jb,k.part<k.parts.length/\fds=k.fds
 ·obtain⟨k,c,rfl⟩:=hx;rw[Hx c]at e;cases e;exact⟨_,Hb c,rfl⟩
 ·unfold fV at e;rw[dif_neg hx]at e;cases e
instance:Inhabited Jb:=⟨⟨0,[],0,[],0,0,0⟩⟩
def jo (ks:List PyData):Nat:=bst (λi j=>ltD (ks.getD i .none) (ks.getD j .none)) (ks.length-1)
def iy (key:Jb->PyData) (js:List Jb):Jb:=js.getD (jo (js.map key)) default
theorem ql {C:Addr} {g:PyData->Rs PyData} {key:Jb->PyData}:∀{ts:List (Addr×Jb)},(∀p∈ts,g (jD C p)=.ok (key p.2))->allR g (ts.map (jD C))=.ok ((ts.map (·.2)).map key)
 |[],_=>rfl
 |p::r,h=>by
  have a:=ql (ts:=r) λx b=>h x (M4 _ b)
  rw[M5];unfold allR;rw[h p M6,Rs.ag,a,Rs.ag];rfl
theorem l8 (hd:ga δ=.ok (.list (ts.map (jD C)))) (o:ts≠[]) (f:∀p∈ts,gb (some (jD C p)::t9 cap δ)=.ok (key p.2))
  (hK:(∀p∈ts,∃n:Int,key p.2=.int n)\/(∀p∈ts,∃a b:Int,key p.2=.tuple [.int a,.int b])):∃q∈ts,q.2=iy key (ts.map (·.2))/\jm cap ga gb δ=.ok (jD C q):=by
 have hlen:0<ts.length:=Nt.mpr o;have e:=ql (C:=C) (g:=λx=>gb (some x::t9 cap δ)) (key:=key) f;have q:keysOk ((ts.map (·.2)).map key)=true:=by
  unfold keysOk;rw[Bool.or_eq_true];rcases hK with hK|hK
  ·refine .inl (MD.mpr λk f=>?_);obtain⟨j,h,rfl⟩:=M9.mp f;obtain⟨p,l,rfl⟩:=M9.mp h;obtain⟨n,hn⟩:=hK p l;rw[hn];rfl
  ·refine .inr (MD.mpr λk f=>?_);obtain⟨j,h,rfl⟩:=M9.mp f;obtain⟨p,l,rfl⟩:=M9.mp h;obtain⟨a,b,hn⟩:=hK p l;rw[hn];rfl
 have hb:=pR (λi j=>ltD (((ts.map (·.2)).map key).getD i .none) (((ts.map (·.2)).map key).getD j .none)) (ts.length-1);have m:jo ((ts.map (·.2)).map key)=bst (λi j=>ltD (((ts.map (·.2)).map key).getD i .none) (((ts.map (·.2)).map key).getD j .none)) (ts.length-1):=by unfold jo;rw[M3,M3]
 have c:jo ((ts.map (·.2)).map key)<ts.length:=by rw[m];omega
 refine⟨ts[jo ((ts.map (·.2)).map key)],MZ c,?_,?_⟩
 ·unfold iy;rw[MK,MA,M1 c];rfl
 ·unfold jm;rw[hd];simp only[Rs.ag,M3,if_pos hlen,e];show (if keysOk _=true then Rs.fc _ else Rs.no)=_;rw[if_pos q,<-m,MA,M1 c];rfl
def sC (js:List Jb) (tool:Option Int):Option Jb:=tool.bind λt=>js.find? λj=>j.held==some t
theorem Ad {tool:Option Int}:(sC (ts.map (·.2)) tool=none/\jS C ts tool=.none)\/∃q∈ts,sC (ts.map (·.2)) tool=some q.2/\jS C ts tool=jD C q:=by
 unfold sC jS;cases tool with
 |none=>exact .inl ⟨rfl,rfl⟩
 |some t =>
  have hm:(ts.map (·.2)).find? (λj=>j.held==some t)=(ts.find? (holdsT t)).map (·.2):=by rw[List.find?_map];rfl
  simp only[NP,hm];cases h:ts.find? (holdsT t) with
  |none=>exact .inl ⟨rfl,rfl⟩
  |some p=>exact .inr ⟨p,List.mem_of_find?_eq_some h,rfl,rfl⟩
def lS (js:List Jb) (l:List (Int×Int)) (j:Jb):List (Int×Int):=match sC js j.wanted with
 |none=>l
 |some o=>xA l o.num (if (md l o.num).getD o.rank<j.rank then (md l o.num).getD o.rank else j.rank)
def vp (js:List Jb):List (Int×Int):=js.foldl (lS js) []
theorem Cm (h:∀p∈ts,p.2.part<p.2.parts.length) (c:p∈ts) (hl:l.length<1000000) (x3:Option PyData) :
  ∃x,lrB cs [some (.list (ts.map (jD cs.Jobs))),some (cQ l),some (jD cs.Jobs p),x3]=.nx [some (.list (ts.map (jD cs.Jobs))),some (cQ (lS (ts.map (·.2)) l p.2)),some (jD cs.Jobs p),x]:=by
 have hm:aq (bN cs) (ae (af 0) (ae (bx cs.Jobs "wanted" (aM cs) (af 2) ah) ah)) [some (.list (ts.map (jD cs.Jobs))),none,some (jD cs.Jobs p),x3]=.ok (jS cs.Jobs ts p.2.wanted):=by
  have h2:bx cs.Jobs "wanted" (aM cs) (af 2) ah [some (.list (ts.map (jD cs.Jobs))),none,some (jD cs.Jobs p),x3]=.ok (bg p.2.wanted):=by unfold bx;simp only[ak,ar,Rs.ag];rw[if_pos (show isC cs.Jobs "wanted" (jD cs.Jobs p)=true from oH)];simp only[aF,Rs.ag];exact rX (h p c)
  simp only[bj,ay,aF,ak,h2,Rs.ag];exact rM h
 have a:aL [1] 3 (aq (bN cs) (ae (af 0) (ae (bx cs.Jobs "wanted" (aM cs) (af 2) ah) ah))) [some (.list (ts.map (jD cs.Jobs))),some (cQ l),some (jD cs.Jobs p),x3]=.nx [some (.list (ts.map (jD cs.Jobs))),some (cQ l),some (jD cs.Jobs p),some (jS cs.Jobs ts p.2.wanted)]:=by show (if 3<4 then ofR (aq (bN cs) (ae (af 0) (ae (bx cs.Jobs "wanted" (aM cs) (af 2) ah) ah)) [some (.list (ts.map (jD cs.Jobs))),none,some (jD cs.Jobs p),x3]) _ else _)=_;rw[if_pos (by decide),hm];rfl
 unfold lrB lS;simp only[aN,a];rcases Ad (C:=cs.Jobs) (ts:=ts) (tool:=p.2.wanted) with⟨b,e⟩|⟨q,hq,b,e⟩
 ·rw[e,b];exact⟨_,rfl⟩
 ·rw[e,b];simp only[cJ,dH,gx,ak,ar,Rs.ag,GN,Rs.ai,aX,av,if_true];have f1:bB cs.Jobs "number" (jD cs.Jobs q)=some (.int q.2.num):=yr;have f2:bB cs.Jobs "rank" (jD cs.Jobs q)=some (.int q.2.rank):=og;have f:bB cs.Jobs "rank" (jD cs.Jobs p)=some (.int p.2.rank):=og;refine⟨some (jD cs.Jobs q),?_⟩;unfold oX;simp only[Nk,Nl,sV,fI,ay,aF,gx,ak,ar,Rs.ag,f1,f2,f,Rs.ai,lL,yB,av,if_pos hl];rfl
theorem AH (js:List Jb) (l:List (Int×Int)) (j:Jb):(lS js l j).length<=l.length+1:=by
 unfold lS;split
 ·exact NT _
 ·exact GA _ _ _
theorem xj {cs:Cs} {ts:List (Addr×Jb)} (h:∀p∈ts,p.2.part<p.2.parts.length):∀(us:List (Addr×Jb)) (l:List (Int×Int)) (x2 x3:Option PyData),(∀p∈us,p∈ts)->l.length+us.length<1000000 ->
  ∃a b,forL (bw 2) (lrB cs) (us.map (jD cs.Jobs)) [some (.list (ts.map (jD cs.Jobs))),some (cQ l),x2,x3]=.nx [some (.list (ts.map (jD cs.Jobs))),some (cQ ((us.map (·.2)).foldl (lS (ts.map (·.2))) l)),a,b]
 |[],l,x2,x3,_,_=>⟨x2,x3,rfl⟩
 |p::r,l,x2,x3,hu,hl=>by have h1:bw 2 (jD cs.Jobs p) [some (.list (ts.map (jD cs.Jobs))),some (cQ l),x2,x3]=some [some (.list (ts.map (jD cs.Jobs))),some (cQ l),some (jD cs.Jobs p),x3]:=rfl;rw[MC]at hl;obtain⟨x,e1⟩:=Cm (cs:=cs) h (hu p M6) (l:=l) (by omega) x3;have hl1:=AH (ts.map (·.2)) l p.2;rw[M5];unfold forL;rw[h1];simp only[e1];exact xj h r _ _ _ (λq c=>hu q (M4 _ c)) (by omega)
theorem Ff (h:∀p∈ts,p.2.part<p.2.parts.length) (hl:ts.length<=1000):cE cs [.list (ts.map (jD cs.Jobs))]=.ok (cQ (vp (ts.map (·.2)))):=by obtain⟨y2,y3,e⟩:=xj (cs:=cs) h ts [] none none (λp a=>a) (by rw[Nm];omega);show bc (gO cs (aM cs) (bN cs) [some (.list (ts.map (jD cs.Jobs))),none,none,none])=_;have b:wX 1 [some (.list (ts.map (jD cs.Jobs))),none,none,none]=.nx [some (.list (ts.map (jD cs.Jobs))),some (cQ []),none,none]:=rfl;have c:fA [1] (bG (af 0)) (bw 2) (lrB cs) [some (.list (ts.map (jD cs.Jobs))),some (cQ []),none,none]=forL (bw 2) (lrB cs) (ts.map (jD cs.Jobs)) [some (.list (ts.map (jD cs.Jobs))),some (cQ []),none,none]:=rfl;show bc (az (wX 1) (az (fA [1] (bG (af 0)) (bw 2) (lrB cs)) (bh (af 1))) [some (.list (ts.map (jD cs.Jobs))),none,none,none])=_;simp only[aN,b,c,e];rfl
def Ft (tops:PyData) (t:Int):Int:=match dIx tops (.int t) with
 |some (.int n)=>n
 |_=>0
def tY (tops:PyData) (j:Jb):PyData:=match j.held with
 |none=>.tuple [.int j.rank,.int 1]
 |some t=>.tuple [.int (if Ft tops t<j.rank then Ft tops t else j.rank),.int 0]
theorem FQ (h:p.2.part<p.2.parts.length) (c:∀t,p.2.held=some t->∃n:Int,dIx tops (.int t)=some (.int n)):bZ cs [jD cs.Jobs p,tops]=.ok (tY tops p.2):=by
 have b:bB cs.Jobs "rank" (jD cs.Jobs p)=some (.int p.2.rank):=og;unfold tY;cases z:p.2.held with
 |none =>
  show bc (cg cs (aT cs) [some (jD cs.Jobs p),some tops,none])=_;unfold cg;have hm:=rO (cs:=cs) (p:=p) (x:=some tops) (y:=none) h;rw[z]at hm;have a:aL [] 2 (bx cs.Jobs "held" (aT cs) (af 0) ah) [some (jD cs.Jobs p),some tops,none]=.nx [some (jD cs.Jobs p),some tops,some .none]:=by rw[ij,hm];rfl
  simp only[aN,a,cJ,dH,gx,ak,ar,Rs.ag,DK,qI,Rs.ai,aX,av,if_true,bW,jT,ay,aF,b,cF,aU]
 |some t =>
  obtain⟨n,hn⟩:=c t z;have e:Ft tops t=n:=by unfold Ft;rw[hn]
  show bc (cg cs (aT cs) [some (jD cs.Jobs p),some tops,none])=_;unfold cg;have hm:=rO (cs:=cs) (p:=p) (x:=some tops) (y:=none) h;rw[z]at hm;have a:aL [] 2 (bx cs.Jobs "held" (aT cs) (af 0) ah) [some (jD cs.Jobs p),some tops,none]=.nx [some (jD cs.Jobs p),some tops,some (.int t)]:=by rw[ij,hm];rfl
  simp only[aN,a,cJ,dH,gx,bK,ak,ar,Rs.ag,DK,rN,Rs.ai,aX,av,MJ,if_false,eO,bW,jT,ay,aF,b,hn,fI,yB,cF,aU,e]
def jq (js:List Jb) (j:Jb):Bool:=(sC js j.wanted).isNone
def K3 (l:List (Int×Int)) (j:Jb):PyData:=.int ((md l j.num).getD j.rank)
def jX (tops:PyData) (len:Str) (js:List Jb):Jb:=if (len==("high":Str))=true then iy (tY tops) js else iy (K3 (if (len==("asked":Str))=true then vp js else [])) (js.filter (jq js))
theorem wF {tool:Option Int}:eN (jS C ts tool)=(sC (ts.map (·.2)) tool).isNone:=by
 rcases Ad (C:=C) (ts:=ts) (tool:=tool) with⟨a,e⟩|⟨q,_,a,e⟩
 ·rw[e,a];rfl
 ·rw[e,a];rfl
theorem wY (h:ts≠[]):ts.filter (λp=>jq (ts.map (·.2)) p.2)≠[]:=by obtain⟨p,b,e⟩:=Ee h (C:=0);refine List.ne_nil_of_mem (a:=p) (MV.mpr ⟨b,?_⟩);unfold jq;rw[<-wF (C:=0),e];rfl
theorem lz {C:Addr} {ts:List (Addr×Jb)} {f:PyData->Bool} {g:Jb->Bool}:∀{us:List (Addr×Jb)},(∀p∈us,f (jD C p)=g p.2)->(us.map (jD C)).filter f=(us.filter λp=>g p.2).map (jD C)
 |[],_=>rfl
 |p::r,h=>by
  have a:=lz (ts:=ts) (us:=r) λx b=>h x (M4 _ b)
  rw[M5,NF,NF,h p M6,a];cases g p.2 <;> rfl
theorem BD {len:Str} (j:ts≠[]) (hl:ts.length<=1000) (h:∀p∈ts,p.2.part<p.2.parts.length) (r:∀p∈ts,∀t,p.2.held=some t->∃n:Int,dIx tops (.int t)=some (.int n)) (m:uA len) :
  ∃q∈ts,q.2=jX tops len (ts.map (·.2))/\cM cs [.list (ts.map (jD cs.Jobs)),tops,.str len]=.ok (jD cs.Jobs q):=by
 have o:gT (g2 dEq (af 2) (gC (.str "high"))) [some (.list (ts.map (jD cs.Jobs))),some tops,some (.str len),none,none]=.ok (len=="high"):=by simp only[dH,bK,ak,ar,cF,Rs.ag,eq_str m.sh zC,Rs.ai,aX]
 show ∃q∈ts,q.2=_/\bc (jQ cs (cE cs) (aM cs) (bN cs) (bZ cs) [some (.list (ts.map (jD cs.Jobs))),some tops,some (.str len),none,none])=.ok _;unfold jQ jX;cases z:(len==("high":Str)) with
 |true =>
  obtain⟨q,i,e2,e⟩:=l8 (C:=cs.Jobs) (cap:=[1]) (ga:=af 0) (gb:=aq (bZ cs) (ae (af 0) (ae (af 1) ah))) (δ:=[some (.list (ts.map (jD cs.Jobs))),some tops,some (.str len),none,none]) (key:=tY tops) rfl j (λp a=>FQ (h p a) (r p a)) (.inr λp a=>by unfold tY;cases p.2.held <;> exact⟨_,_,rfl⟩)
  refine⟨q,i,by rw[if_pos rfl];exact e2,?_⟩;simp only[aN,cJ,o,z,av,if_true,bW,e,aU]
 |false =>
  have hc:a8 5 (bG (af 0)) (gT (g1 m8 (aq (bN cs) (ae (af 0) (ae (bx cs.Jobs "wanted" (aM cs) (af 5) ah) ah))))) (af 5) aI [some (.list (ts.map (jD cs.Jobs))),some tops,some (.str len),none,none]=.ok ((ts.filter λp=>jq (ts.map (·.2)) p.2).map (jD cs.Jobs)):=by
   rw[<-lz (ts:=ts) (f:=DE cs [some (.list (ts.map (jD cs.Jobs))),some tops,some (.str len),none,none]) (λp a=>by have g:=As (cs:=cs) (x1:=some tops) (x2:=some (.str len)) (x3:=none) (x4:=none) h a;unfold DE;simp only[MU,MS,g];exact wF)]
   refine lU rfl rfl (by rw[M3];omega) λd hd=>?_
   obtain⟨p,a,rfl⟩:=M9.mp hd;refine⟨?_,rfl⟩;have g:=As (cs:=cs) (x1:=some tops) (x2:=some (.str len)) (x3:=none) (x4:=none) h a;unfold DE;simp only[MU,MS,g];simp only[dH,gx,g,Rs.ag,DK,Rs.ai,aX]
  have hn:=wY j;have s:(ts.map (·.2)).filter (jq (ts.map (·.2)))=(ts.filter λp=>jq (ts.map (·.2)) p.2).map (·.2):=by rw[List.filter_map];rfl
  have c:∀p∈ts.filter (λp=>jq (ts.map (·.2)) p.2),p∈ts:=λp a=>(MV.mp a).1
  rw[s];generalize (ts.filter λp=>jq (ts.map (·.2)) p.2)=fr at hc hn c;have b:gIf (gT (g2 dEq (af 2) (gC (.str "asked")))) (aq (cE cs) (ae (af 0) ah)) (gC (cQ [])) [some (.list (ts.map (jD cs.Jobs))),some tops,some (.str len),some (.list (fr.map (jD cs.Jobs))),none]=.ok (cQ (if (len==("asked":Str))=true then vp (ts.map (·.2)) else [])):=by
   have u:gT (g2 dEq (af 2) (gC (.str "asked"))) [some (.list (ts.map (jD cs.Jobs))),some tops,some (.str len),some (.list (fr.map (jD cs.Jobs))),none]=.ok (len=="asked"):=by simp only[dH,bK,ak,ar,cF,Rs.ag,eq_str m.sh vQ,Rs.ai,aX]
   unfold gIf;rw[u];simp only[Rs.ag];cases (len==("asked":Str)) with
   |true=>simp only[if_true,bj,ay,aF,ak,Rs.ag,Ff h hl]
   |false=>simp
  generalize (if (len==("asked":Str))=true then vp (ts.map (·.2)) else [])=l at b;obtain⟨q,i,e2,e⟩:=l8 (C:=cs.Jobs) (cap:=[4]) (ga:=af 3) (gb:=lL (af 1) (g1 (bB cs.Jobs "number") (af 0)) (g1 (bB cs.Jobs "rank") (af 0))) (δ:=[some (.list (ts.map (jD cs.Jobs))),some tops,some (.str len),some (.list (fr.map (jD cs.Jobs))),some (cQ l)]) (key:=K3 l) rfl hn (λp a=>by have f1:bB cs.Jobs "number" (jD cs.Jobs p)=some (.int p.2.num):=yr;have f2:bB cs.Jobs "rank" (jD cs.Jobs p)=some (.int p.2.rank):=og;show lL (af 1) (g1 (bB cs.Jobs "number") (af 0)) (g1 (bB cs.Jobs "rank") (af 0)) [some (jD cs.Jobs p),some (cQ l)]=_;unfold lL;simp only[ak,ar,Rs.ag,sV,gx,f1,f2,Rs.ai];rfl) (.inl λp a=>⟨_,rfl⟩)
  refine⟨q,c q i,by rw[if_neg MG];exact e2,?_⟩;have v:aL [] 3 (gL (a8 5 (bG (af 0)) (gT (g1 m8 (aq (bN cs) (ae (af 0) (ae (bx cs.Jobs "wanted" (aM cs) (af 5) ah) ah))))) (af 5) aI)) [some (.list (ts.map (jD cs.Jobs))),some tops,some (.str len),none,none]=.nx [some (.list (ts.map (jD cs.Jobs))),some tops,some (.str len),some (.list (fr.map (jD cs.Jobs))),none]:=by rw[ij,n5,hc];rfl
  have w:aL [] 4 (gIf (gT (g2 dEq (af 2) (gC (.str "asked")))) (aq (cE cs) (ae (af 0) ah)) (gC (cQ []))) [some (.list (ts.map (jD cs.Jobs))),some tops,some (.str len),some (.list (fr.map (jD cs.Jobs))),none]=.nx [some (.list (ts.map (jD cs.Jobs))),some tops,some (.str len),some (.list (fr.map (jD cs.Jobs))),some (cQ l)]:=by rw[ij,b];rfl
  simp only[aN,cJ,o,z,av,MJ,if_false,eO,v,w,bW,e,aU]
theorem vg:fB a nd (jD C p)=if p.1=a then nd else jD C p:=by
 have b:=p.2.flat;have c:j9 ((PyData.str "",PyData.int (C:Int))::(PyData.str "@",PyData.int (p.1:Int))::p.2.fds.map λx=>(PyData.str x.1,x.2))=some (p.1:Int):=by unfold j9;unfold gB at b;simp[b]
 unfold jD Jb.d cA fB;rw[c];by_cases z:p.1=a
 ·rw[if_pos z,if_pos (by rw[z])]
 ·have f:¬ (some (p.1:Int)=some (a:Int)):=λe=>z (Int.ofNat.inj (Option.some.inj e))
  rw[if_neg z,if_neg f]
theorem zV {C a:Addr} {j:Jb}:∀ts:List (Addr×Jb),ju a (jD C (a,j)) (ts.map (jD C))=(ts.map λp=>if p.1=a then (a,j) else p).map (jD C)
 |[]=>rfl
 |p::r=>by
  rw[M5,M5,M5];unfold ju;rw[zV r,vg];by_cases z:p.1=a
  ·rw[if_pos z,if_pos z]
  ·rw[if_neg z,if_neg z]
theorem Bu:fB a (jD C (a,j)) (.list (ts.map (jD C)))=.list ((ts.map λp=>if p.1=a then (a,j) else p).map (jD C)):=by unfold fB;rw[zV]
mutual
theorem mU {a:Addr} {nd:PyData}:∀d:PyData,aG d=true->fB a nd d=d
 |.none,_=>by unfold fB;rfl
 |.bool _,_=>by unfold fB;rfl
 |.int _,_=>by unfold fB;rfl
 |.str _,_=>by unfold fB;rfl
 |.list ds,h=>by unfold fB;rw[tZ ds (by simpa[aG] using h)]
 |.tuple ds,h=>by unfold fB;rw[tZ ds (by simpa[aG] using h)]
 |.dict _,h=>by simp[aG]at h
theorem tZ {a:Addr} {nd:PyData}:∀ds:List PyData,dw ds=true->ju a nd ds=ds
 |[],_=>by unfold ju;rfl
 |d::r,h=>by unfold dw at h;rw[M8]at h;unfold ju;rw[mU d h.1,tZ r h.2]
end
theorem pM {C:Addr} {elt:Ds->Rs PyData} {δ:Ds} {k:Jb->PyData}:∀(ts:List (Addr×Jb)),(∀p∈ts,elt (δ++[some (jD C p)])=.ok (k p.2))->fe bA elt aI δ (ts.map (jD C))=.ok ((ts.map (·.2)).map k)
 |[],_=>rfl
 |p::r,h=>by
  have a:=pM r λe b=>h e (M4 _ b)
  rw[M5];unfold fe;simp only[aI,bA,Rs.dz,Rs.ag,if_true,h p M6];rw[a];rfl
def Jb.done (j:Jb):Bool:=(j.job:Int)==(j.row.length:Int)
def rnD (C:Addr) (E R W tops:PyData) (len:Str) (qs:List (Addr×Jb)) (told:List PyData) (x7 x8:Option PyData):Ds:=[some E,some R,some W,some (.str len),some tops,some (.list (qs.map (jD C))),some (.list told),x7,x8]
section
variable {E R W:PyData} {len:Str} {qs:List (Addr×Jb)} {x8:Option PyData}
theorem cond_of (hl:qs.length<=1000):gK (gT (gF n6 (ae (gL (a8 9 (bG (af 5)) bA (bx cs.Jobs "are_done" (aW cs) (af 9) ah) aI)) ah))) (rnD cs.Jobs E R W tops len qs told x7 x8)=.ok (!((qs.map (·.2)).all Jb.done)):=by
 have hc:a8 9 (bG (af 5)) bA (bx cs.Jobs "are_done" (aW cs) (af 9) ah) aI (rnD cs.Jobs E R W tops len qs told x7 x8)=.ok ((qs.map (·.2)).map λj=>.bool j.done):=by
  unfold a8;rw[if_pos (show (rnD cs.Jobs E R W tops len qs told x7 x8).length=9 from rfl)];rw[show bG (af 5) (rnD cs.Jobs E R W tops len qs told x7 x8)=.ok (qs.map (jD cs.Jobs)) from rfl];simp only[Rs.ag];rw[if_pos (by rw[M3];omega)];refine pM qs λp hp=>?_
  show bx cs.Jobs "are_done" (aW cs) (af 9) ah [some E,some R,some W,some (.str len),some tops,some (.list (qs.map (jD cs.Jobs))),some (.list told),x7,x8,some (jD cs.Jobs p)]=_;unfold bx;simp only[ak,ar,Rs.ag];rw[if_pos (show isC cs.Jobs "are_done" (jD cs.Jobs p)=true from u0)];simp only[aF,Rs.ag];exact vn
 have a:=iH Jb.done (qs.map (·.2));simp only[tP,dH,fI,ay,aF,n5,hc,Rs.ag,a,Rs.ai,aX]
def cK (told:List PyData) (p:Addr×Jb):Bool:=p.2.there (told.length:Int)
theorem nC (h:∀p∈qs,p.2.job<=p.2.row.length) {x6:Option PyData}:∀(us:List (Addr×Jb)),(∀p∈us,p∈qs) ->
  fL (gT (bx cs.Jobs "is_there" (aQ cs) (af 9) (ae (gF b8 (ae (af 6) ah)) ah))) (af 9) aI [some E,some R,some W,some (.str len),some tops,some (.list (qs.map (jD cs.Jobs))),x6,x7,x8] (rnD cs.Jobs E R W tops len qs told x7 x8) (us.map (jD cs.Jobs))=.ok ((us.filter (cK told)).map (jD cs.Jobs))
 |[],_=>rfl
 |p::r,hu=>by
  have a:=nC h (x6:=x6) r λq b=>hu q (M4 _ b)
  have hc:gT (bx cs.Jobs "is_there" (aQ cs) (af 9) (ae (gF b8 (ae (af 6) ah)) ah)) (rnD cs.Jobs E R W tops len qs told x7 x8++[some (jD cs.Jobs p)])=.ok (cK told p):=by show gT (bx cs.Jobs "is_there" (aQ cs) (af 9) (ae (gF b8 (ae (af 6) ah)) ah)) [some E,some R,some W,some (.str len),some tops,some (.list (qs.map (jD cs.Jobs))),some (.list told),x7,x8,some (jD cs.Jobs p)]=_;rw[dH];unfold bx;simp only[ak,ar,Rs.ag];rw[if_pos (show isC cs.Jobs "is_there" (jD cs.Jobs p)=true from tJ)];simp only[ay,aF,fI,ak,ar,jE,Rs.ai,Rs.ag];rw[show aQ cs [jD cs.Jobs p,.int (told.length:Int)]=_ from vC (h p (hu p M6))];rfl
  rw[M5];unfold fL;rw[show aI (jD cs.Jobs p)=some [some (jD cs.Jobs p)] from rfl];simp only[hc,Rs.dz,Rs.ag];rw[NF];cases cK told p with
  |true =>simp only[if_true];rw[show af 9 ([some E,some R,some W,some (.str len),some tops,some (.list (qs.map (jD cs.Jobs))),x6,x7,x8]++[some (jD cs.Jobs p)])=.ok (jD cs.Jobs p) from rfl];simp only[Rs.dz,Rs.ag,a];rfl
  |false=>simp only[MJ,if_false,a]
end
mutual
theorem km:∀d:PyData,aG d=true->objs d=true
 |.none,_=>by unfold objs;rfl
 |.bool _,_=>by unfold objs;rfl
 |.int _,_=>by unfold objs;rfl
 |.str _,_=>by unfold objs;rfl
 |.list ds,h=>by unfold objs;exact oY ds (by simpa[aG] using h)
 |.tuple ds,h=>by unfold objs;exact oY ds (by simpa[aG] using h)
 |.dict _,h=>by simp[aG]at h
theorem oY:∀ds:List PyData,dw ds=true->jB ds=true
 |[],_=>by unfold jB;rfl
 |d::r,h=>by unfold dw at h;rw[M8]at h;unfold jB;rw[km d h.1,oY r h.2];rfl
end
theorem Ac:objs (jD C p)=true:=by unfold jD Jb.d;rw[wL];exact p.2.flat
theorem sj {C:Addr}:∀ts:List (Addr×Jb),jB (ts.map (jD C))=true
 |[]=>by unfold jB;rfl
 |p::r=>by rw[M5];unfold jB;rw[Ac,sj r];rfl
theorem xv:objs (.list (ts.map (jD C)))=true:=by unfold objs;exact sj ts
section
variable {E R W:PyData} {len:Str} {qs:List (Addr×Jb)}
structure NoD (E R W tops:PyData) (told:List PyData):Prop where
 e:aG E=true
 r:aG R=true
 w:aG W=true
 t:aG tops=true
 o:aG (.list told)=true
theorem AZ (n:NoD E R W tops told) (ha:q.1∈as):nL as cs.Jobs 8 (rnD cs.Jobs E R W tops len qs told (some (.list (ts.map (jD cs.Jobs)))) (some (jD cs.Jobs q)))=some (q.1,q.2.fds):=by
 have h1:gG (rnD cs.Jobs E R W tops len qs told (some (.list (ts.map (jD cs.Jobs)))) (some (jD cs.Jobs q)))=true:=by
  unfold gG rnD;have b:objs (.str len)=true:=by unfold objs;rfl
  simp only[NR,List.all_nil,NS,km _ n.e,km _ n.r,km _ n.w,km _ n.t,km _ n.o,b,xv,Ac,Oj]
 show (match objOf (jD cs.Jobs q) with|some (c,a,fds)=>if c=cs.Jobs/\a∈as/\gG (rnD cs.Jobs E R W tops len qs told (some (.list (ts.map (jD cs.Jobs)))) (some (jD cs.Jobs q)))=true/\gB fds=true/\fds.length<1000 then some (a,fds) else none|none=>none)=_;rw[show objOf (jD cs.Jobs q)=some (cs.Jobs,q.1,q.2.fds) from sq _ _ _];exact if_pos ⟨rfl,ha,h1,q.2.flat,show 7<1000 by decide⟩
end
def tT (a:Addr) (j:Jb) (qs:List (Addr×Jb)):List (Addr×Jb):=qs.map λp=>if p.1=a then (a,j) else p
section
variable {E R W:PyData} {len:Str} {qs:List (Addr×Jb)}
theorem Jp (n:NoD E R W tops told):kQ q.1 (jD cs.Jobs (q.1,j)) (rnD cs.Jobs E R W tops len qs told (some (.list (ts.map (jD cs.Jobs)))) (some (jD cs.Jobs q)))=rnD cs.Jobs E R W tops len (tT q.1 j qs) told (some (.list ((tT q.1 j ts).map (jD cs.Jobs)))) (some (jD cs.Jobs (q.1,j))):=by
 have a:fB q.1 (jD cs.Jobs (q.1,j)) (.str len)=.str len:=by unfold fB;rfl
 have b:fB q.1 (jD cs.Jobs (q.1,j)) (jD cs.Jobs q)=jD cs.Jobs (q.1,j):=by rw[vg,if_pos rfl]
 unfold kQ rnD tT;simp only[M5,N8,Nn,mU _ n.e,mU _ n.r,mU _ n.w,mU _ n.t,mU _ n.o,a,Bu,b]
theorem G0 (n:NoD E R W tops told) (ha:q.1∈as) (a:q.2.part<q.2.parts.length):kJ as cs.Jobs "go_on" 8 fV (rnD cs.Jobs E R W tops len qs told (some (.list (ts.map (jD cs.Jobs)))) (some (jD cs.Jobs q)))=.nx (rnD cs.Jobs E R W tops len (tT q.1 q.2.next qs) told (some (.list ((tT q.1 q.2.next ts).map (jD cs.Jobs)))) (some (jD cs.Jobs (q.1,q.2.next)))):=by unfold kJ;rw[AZ n ha];have b:nR "go_on" q.2.fds=none:=rfl;simp only[b,if_true,Hx a];exact congrArg Sr.nx (Jp (cs:=cs) (len:=len) (qs:=qs) (ts:=ts) (q:=q) (j:=q.2.next) n)
end
section
variable {E R W:PyData} {len:Str} {qs:List (Addr×Jb)} {x8:Option PyData}
theorem Dx (hl:qs.length<=1000) (h:∀p∈qs,p.2.job<=p.2.row.length):oP [6] 7 9 (bG (af 5)) (gT (bx cs.Jobs "is_there" (aQ cs) (af 9) (ae (gF b8 (ae (af 6) ah)) ah))) (af 9) aI (rnD cs.Jobs E R W tops len qs told x7 x8)=.nx (rnD cs.Jobs E R W tops len qs told (some (.list ((qs.filter (cK told)).map (jD cs.Jobs)))) x8):=by
 have hm:mask [6] (rnD cs.Jobs E R W tops len qs told x7 x8)=[some E,some R,some W,some (.str len),some tops,some (.list (qs.map (jD cs.Jobs))),none,x7,x8]:=rfl;have hc:nA 9 (bG (af 5)) (gT (bx cs.Jobs "is_there" (aQ cs) (af 9) (ae (gF b8 (ae (af 6) ah)) ah))) (af 9) aI (mask [6] (rnD cs.Jobs E R W tops len qs told x7 x8)) (rnD cs.Jobs E R W tops len qs told x7 x8)=.ok ((qs.filter (cK told)).map (jD cs.Jobs)):=by rw[hm];unfold nA;rw[if_pos (show [some E,some R,some W,some (.str len),some tops,some (.list (qs.map (jD cs.Jobs))),none,x7,x8].length=9 from rfl)];rw[show bG (af 5) [some E,some R,some W,some (.str len),some tops,some (.list (qs.map (jD cs.Jobs))),none,x7,x8]=.ok (qs.map (jD cs.Jobs)) from rfl];simp only[Rs.ag];rw[if_pos (by rw[M3];omega)];exact nC h qs λp a=>a
 unfold oP;rw[if_pos (show 7<(rnD cs.Jobs E R W tops len qs told x7 x8).length from (by decide:7<9)),hc];rfl
end
def dB (told:List PyData) (js:List Jb):List Jb:=js.filter λj=>j.there (told.length:Int)
def dO (b:Jb) (js:List Jb):List Jb:=js.map λj=>if j.num=b.num then b.next else j
def eY (b:Jb):PyData:=.tuple [.int b.num,.int (b.job:Int)]
def eE (tops:PyData) (len:Str) (s:List Jb×List PyData):List Jb×List PyData :=
 if dB s.2 s.1=[] then (s.1,s.2++[.none]) else (dO (jX tops len (dB s.2 s.1)) s.1,s.2++[eY (jX tops len (dB s.2 s.1))])
structure QOk (as:List Addr) (qs:List (Addr×Jb)):Prop where
 few:qs.length<=1000
 pl:qs.map (·.1)=as
 nda:as.Nodup
 ndn:(qs.map (·.2.num)).Nodup
 pt:∀p∈qs,p.2.part<p.2.parts.length
 jb:∀p∈qs,p.2.job<=p.2.row.length
theorem mS {α β:Type} {f:α->β}:∀{l:List α},(l.map f).Nodup->∀x∈l,∀y∈l,f x=f y->x=y
 |[],_,x,b,_,_,_=>by cases b
 |a::r,h,x,b,y,c,e=>by
  rw[M5,MX]at h;rcases M7.mp b with rfl|b
  ·rcases M7.mp c with rfl|c
   ·rfl
   ·exact (h.1 (M9.mpr ⟨y,by assumption,e.symm⟩)).elim
  ·rcases M7.mp c with rfl|c
   ·exact (h.1 (M9.mpr ⟨x,by assumption,e⟩)).elim
   ·exact mS h.2 x b y c e
def rnB (cs:Cs) (as:List Addr):Ds->Sr:=(az (oP [6] 7 9 (bG (af 5)) (gT (bx cs.Jobs "is_there" (aQ cs) (af 9) (ae (gF b8 (ae (af 6) ah)) ah))) (af 9) aI)
 (sIf (gT (g2 dEq (gF b8 (ae (af 7) ah)) (gC (.int 0)))) (gH [6] 6 (gC .none)) (az (aL [6] 8 (aq (cM cs) (ae (af 7) (ae (af 4) (ae (af 3) ah)))))
 (az (gH [6] 6 (fD (ae (g1 (bB cs.Jobs "number") (af 8)) (ae (g1 (bB cs.Jobs "job") (af 8)) ah))))
 (kJ as cs.Jobs "go_on" 8 fV)))))
section
variable {E R W:PyData} {len:Str} {qs:List (Addr×Jb)}
theorem vG:(qs.filter (cK told)).map (·.2)=dB told (qs.map (·.2)):=by unfold dB;rw[List.filter_map];rfl
theorem GH (K:QOk as qs) (a:q∈qs) (c:j=q.2.next):(tT q.1 j qs).map (·.2)=dO q.2 (qs.map (·.2)):=by
 unfold tT dO;rw[MF,MF];refine MH λp b=>?_
 show (if p.1=q.1 then (q.1,j) else p).2=if p.2.num=q.2.num then q.2.next else p.2
 by_cases z:p.1=q.1
 ·have:p=q:=mS (f:=(·.1)) (by rw[K.pl];exact K.nda) p b q a z;rw[if_pos z,if_pos (by rw[this]),c]
 ·have:p.2.num≠q.2.num:=λe=>z (by rw[mS (f:=λx:Addr×Jb=>x.2.num) K.ndn p b q a e])
  rw[if_neg z,if_neg this]
theorem GJ:(tT a j qs).map (·.1)=qs.map (·.1):=by
 unfold tT;rw[MF];refine MH λp hp=>?_
 show (if p.1=a then (a,j) else p).1=p.1;by_cases z:p.1=a
 ·rw[if_pos z,z]
 ·rw[if_neg z]
theorem E9 (K:QOk as qs) (n:NoD E R W tops told) (m:uA len) (s:∀p∈qs,∀t,p.2.held=some t->∃n:Int,dIx tops (.int t)=some (.int n)) (hl:told.length<1000000) (x7 x8:Option PyData) :
  ∃b u v,rnB cs as (rnD cs.Jobs E R W tops len qs told x7 x8)=.nx (rnD cs.Jobs E R W tops len b (eE tops len (qs.map (·.2),told)).2 u v)/\b.map (·.1)=qs.map (·.1)/\b.map (·.2)=(eE tops len (qs.map (·.2),told)).1:=by
 have f:=Dx (cs:=cs) (E:=E) (R:=R) (W:=W) (tops:=tops) (len:=len) (told:=told) (x7:=x7) (x8:=x8) K.few K.jb;have hc:gT (g2 dEq (gF b8 (ae (af 7) ah)) (gC (.int 0))) (rnD cs.Jobs E R W tops len qs told (some (.list ((qs.filter (cK told)).map (jD cs.Jobs)))) x8)=.ok (((qs.filter (cK told)).length:Int)==0):=by unfold rnD;simp only[dH,bK,fI,ay,aF,ak,ar,cF,Rs.ag,jE,M3,Rs.ai,jA,aX]
 unfold rnB eE;simp only[aN,f];have c:=vG (qs:=qs) (told:=told);by_cases z:qs.filter (cK told)=[]
 ·have h:(((qs.filter (cK told)).length:Int)==0)=true:=by rw[z];rfl
  have i:dB told (qs.map (·.2))=[]:=by rw[<-c,z];rfl
  rw[if_pos i,cJ,hc];simp only[h,av,if_true];refine⟨qs,some (.list ((qs.filter (cK told)).map (jD cs.Jobs))),x8,?_,rfl,rfl⟩;show (if told.length<1000000 then Sr.nx _ else Sr.no)=_;rw[if_pos hl];rfl
 ·have h:(((qs.filter (cK told)).length:Int)==0)=false:=by rw[beq_eq_false_iff_ne];have:=Nt.mpr z;omega
  have i:¬ dB told (qs.map (·.2))=[]:=λe=>z (by rw[<-c]at e;exact Oe.mp e)
  have a:∀p∈qs.filter (cK told),p∈qs:=λp g=>(MV.mp g).1
  obtain⟨q,j,e2,e⟩:=BD (cs:=cs) (tops:=tops) z (Nc (List.length_filter_le _ _) K.few) (λp g=>K.pt p (a p g)) (λp g=>s p (a p g)) m;rw[c]at e2;rw[if_neg i,cJ,hc];simp only[h,av,MJ,if_false];have x:aL [6] 8 (aq (cM cs) (ae (af 7) (ae (af 4) (ae (af 3) ah)))) (rnD cs.Jobs E R W tops len qs told (some (.list ((qs.filter (cK told)).map (jD cs.Jobs)))) x8)=.nx (rnD cs.Jobs E R W tops len qs told (some (.list ((qs.filter (cK told)).map (jD cs.Jobs)))) (some (jD cs.Jobs q))):=by have l:aq (cM cs) (ae (af 7) (ae (af 4) (ae (af 3) ah))) (mask [6] (rnD cs.Jobs E R W tops len qs told (some (.list ((qs.filter (cK told)).map (jD cs.Jobs)))) x8))=.ok (jD cs.Jobs q):=e;unfold aL;rw[if_pos (show 8<(rnD cs.Jobs E R W tops len qs told (some (.list ((qs.filter (cK told)).map (jD cs.Jobs)))) x8).length from (by decide:8<9)),l];rfl
  have f1:bB cs.Jobs "number" (jD cs.Jobs q)=some (.int q.2.num):=yr;have f2:bB cs.Jobs "job" (jD cs.Jobs q)=some (.int (q.2.job:Int)):=t8;have y:gH [6] 6 (fD (ae (g1 (bB cs.Jobs "number") (af 8)) (ae (g1 (bB cs.Jobs "job") (af 8)) ah))) (rnD cs.Jobs E R W tops len qs told (some (.list ((qs.filter (cK told)).map (jD cs.Jobs)))) (some (jD cs.Jobs q)))=.nx (rnD cs.Jobs E R W tops len qs (told++[eY q.2]) (some (.list ((qs.filter (cK told)).map (jD cs.Jobs)))) (some (jD cs.Jobs q))):=by
   have l:fD (ae (g1 (bB cs.Jobs "number") (af 8)) (ae (g1 (bB cs.Jobs "job") (af 8)) ah)) (mask [6] (rnD cs.Jobs E R W tops len qs told (some (.list ((qs.filter (cK told)).map (jD cs.Jobs)))) (some (jD cs.Jobs q))))=.ok (eY q.2):=by show fD _ [some E,some R,some W,some (.str len),some tops,some (.list (qs.map (jD cs.Jobs))),none,some (.list ((qs.filter (cK told)).map (jD cs.Jobs))),some (jD cs.Jobs q)]=_;simp only[jT,ay,aF,gx,ak,ar,Rs.ag,f1,f2,Rs.ai];rfl
   show ofR (fD _ (mask [6] _)) (λd=>if told.length<1000000 then Sr.nx _ else Sr.no)=_;rw[l];show (if told.length<1000000 then Sr.nx _ else Sr.no)=_;rw[if_pos hl];rfl
  have n':NoD E R W tops (told++[eY q.2]):=⟨n.e,n.r,n.w,n.t,by
   have h1:=n.o;refine eW λd hd=>?_
   rcases MM.mp hd with hd|hd
   ·exact iZ (by simpa[aG] using h1) d hd
   ·rw[Mw.mp hd];rfl⟩
  have ha:q.1∈as:=by rw[<-K.pl];exact M9.mpr ⟨q,a q j,rfl⟩
  have A:=G0 (cs:=cs) (len:=len) (qs:=qs) (ts:=qs.filter (cK told)) n' ha (K.pt q (a q j));simp only[aN,x,y,A];rw[<-e2];exact⟨_,_,_,rfl,GJ,GH K (a q j) rfl⟩
end
structure JOk (tops:PyData) (j:Jb):Prop where
 pt:j.part<j.parts.length
 jb:j.job<=j.row.length
 ln:∀p∈j.parts,1<=p.1
 sp:(j.spent:Int)<j.len
 tl:∀p∈j.parts,∀t,p.2=some t->∃n:Int,dIx tops (.int t)=some (.int n)
theorem JOk.held (h:JOk tops j):∀t,j.held=some t->∃n:Int,dIx tops (.int t)=some (.int n):=by
 intro t e;have hpt:=h.pt;have a:j.parts[j.part]?=some j.parts[j.part]:=M1 h.pt;unfold Jb.held Jb.tool at e;rw[a]at e;by_cases z:j.spent=0
 ·rw[if_pos z]at e;cases e
 ·rw[if_neg z]at e;exact h.tl _ (MZ h.pt) t e
theorem len_pos {tops:PyData} (h:∀p∈j.parts,1<=p.1) (a:j.part<j.parts.length):1<=j.len:=by unfold Jb.len;rw[M1 a];exact h _ (MZ a)
theorem He (h:JOk tops j) (c:j.job<j.row.length):JOk tops j.next:=by
 have a:0<j.parts.length:=Nat.lt_of_le_of_lt (Nd _) h.pt;have hsp:=h.sp;unfold Jb.next Jb.step1;by_cases z:(j.spent:Int)+1=j.len
 ·rw[if_pos z];unfold Jb.step2;by_cases y:j.part+1=j.parts.length
  ·rw[if_pos (show ({ j with spent:=0,part:=j.part+1 }:Jb).part=({ j with spent:=0,part:=j.part+1 }:Jb).parts.length from y)];refine⟨a,c,h.ln,?_,h.tl⟩;have:=len_pos (tops:=tops) (j:={ j with spent:=0,part:=0,job:=j.job+1 }) h.ln a;show (0:Int)<_;exact Oi (by decide) this
  ·rw[if_neg (show ¬ ({ j with spent:=0,part:=j.part+1 }:Jb).part=({ j with spent:=0,part:=j.part+1 }:Jb).parts.length from y)];have b:j.part+1<j.parts.length:=by have:=h.pt;omega
   refine⟨b,h.jb,h.ln,?_,h.tl⟩;have:=len_pos (tops:=tops) (j:={ j with spent:=0,part:=j.part+1 }) h.ln b;show (0:Int)<_;exact Oi (by decide) this
 ·rw[if_neg z];unfold Jb.step2;rw[if_neg (show ¬ ({ j with spent:=j.spent+1 }:Jb).part=({ j with spent:=j.spent+1 }:Jb).parts.length from MB h.pt)];refine⟨h.pt,h.jb,h.ln,?_,h.tl⟩;show ((j.spent+1:Nat):Int)<j.len;omega
theorem sE (h:js≠[]):iy key js∈js:=by
 have hl:0<js.length:=Nt.mpr h;have hb:=pR (λi j=>ltD ((js.map key).getD i .none) ((js.map key).getD j .none)) (js.length-1);have a:jo (js.map key)<js.length:=by unfold jo;rw[M3];omega
 unfold iy;rw[MK,M1 a];exact MZ a
theorem mr {len:Str} (h:js≠[]):jX tops len js∈js:=by
 unfold jX;split
 ·exact sE h
 ·have hn:=wY (ts:=js.map λj=>((0:Addr),j)) (by simpa using h);have hm:(js.map λj=>((0:Addr),j)).map (·.2)=js:=by rw[MF];exact Ni js
  rw[hm]at hn;have a:js.filter (jq js)≠[]:=by
   obtain⟨p,r,e⟩:=List.exists_cons_of_ne_nil hn;have b:p∈(js.map λj=>((0:Addr),j)).filter (λp=>jq js p.2):=by rw[e];exact M6
   obtain⟨h1,h2⟩:=MV.mp b;obtain⟨j,c,rfl⟩:=M9.mp h1;exact List.ne_nil_of_mem (MV.mpr ⟨c,h2⟩)
  exact (MV.mp (sE a)).1
theorem oQ (h:j.there t=true):j.job<j.row.length:=by
 unfold Jb.there at h;by_cases z:j.job<j.row.length
 ·exact z
 ·rw[NN (by omega)]at h;cases h
theorem pq (j:Jb):j.next.num=j.num:=by unfold Jb.next Jb.step1 Jb.step2;split <;> split <;> rfl
structure yF (tops:PyData) (js:List Jb):Prop where
 ok:∀j∈js,JOk tops j
 nd:(js.map (·.num)).Nodup
theorem BL {b:Jb}:(dO b js).map (·.num)=js.map (·.num):=by
 unfold dO;rw[MF];refine MH λj hj=>?_
 show (if j.num=b.num then b.next else j).num=j.num;by_cases z:j.num=b.num
 ·rw[if_pos z,pq,z]
 ·rw[if_neg z]
theorem uH {len:Str} (h:yF tops js):yF tops (eE tops len (js,told)).1:=by
 unfold eE;by_cases z:dB told js=[]
 ·rw[if_pos z];exact h
 ·rw[if_neg z];have a:=mr (tops:=tops) (len:=len) z;obtain⟨hm,b⟩:=MV.mp a;refine⟨λj c=>?_,by rw[BL];exact h.nd⟩;obtain⟨k,e,rfl⟩:=M9.mp c;by_cases y:k.num=(jX tops len (dB told js)).num
  ·simp only[y,if_true];exact He (h.ok _ hm) (oQ b)
  ·simp only[if_neg y];exact h.ok k e
def pW (tops:PyData) (len:Str):Nat->List Jb×List PyData->Option (List PyData)
 |0,_=>none
 |n+1,s=>if s.1.all Jb.done=true then some s.2 else pW tops len n (eE tops len s)
def rnC (cs:Cs):Ds->Rs Bool:=gK (gT (gF n6 (ae (gL (a8 9 (bG (af 5)) bA (bx cs.Jobs "are_done" (aW cs) (af 9) ah) aI)) ah)))
theorem CQ {len:Str}:(eE tops len s).2.length=s.2.length+1:=by unfold eE;split <;> simp
theorem yK {len:Str} (h:aG (.list s.2)=true):aG (.list (eE tops len s).2)=true:=by
 have h1:∀d∈s.2,aG d=true:=iZ (by simpa[aG] using h);refine eW λd hd=>?_
 unfold eE at hd;split at hd
 ·rcases MM.mp hd with hd|hd
  ·exact h1 d hd
  ·rw[Mw.mp hd];rfl
 ·rcases MM.mp hd with hd|hd
  ·exact h1 d hd
  ·rw[Mw.mp hd];rfl
section
variable {E R W:PyData} {len:Str}
theorem Kd {qs:List (Addr×Jb)} (hl:qs.length<=1000) (a:qs.map (·.1)=as) (nd:as.Nodup) (h:yF tops (qs.map (·.2))):QOk as qs:=by
 have hm:∀p∈qs,JOk tops p.2:=λp a=>h.ok _ (M9.mpr ⟨p,a,rfl⟩)
 refine⟨hl,a,nd,?_,λp a=>(hm p a).pt,λp a=>(hm p a).jb⟩;have:=h.nd;rw[MF]at this;exact this
theorem wy (i:uA len) (nd:as.Nodup):∀(n:Nat) (qs:List (Addr×Jb)) (told t:List PyData) (x7 x8:Option PyData),qs.length<=1000->qs.map (·.1)=as->yF tops (qs.map (·.2))->NoD E R W tops told->told.length+n<=1000000->pW tops len n (qs.map (·.2),told)=some t ->
  ∃a c f,bU (rnC cs) (rnB cs as) n (rnD cs.Jobs E R W tops len qs told x7 x8)=.nx (rnD cs.Jobs E R W tops len a t c f)
 |0,_,_,_,_,_,_,_,_,_,_,h=>by cases h
 |n+1,qs,told,t,x7,x8,hl,b,hj,no,hn,h=>by
  have K:=Kd hl b nd hj;have hc:rnC cs (rnD cs.Jobs E R W tops len qs told x7 x8)=.ok (!((qs.map (·.2)).all Jb.done)):=cond_of hl;unfold pW at h;unfold bU;rw[hc];simp only[av];cases z:(qs.map (·.2)).all Jb.done with
  |true =>rw[if_pos z]at h;cases h;simp only[O7,MJ,if_false];exact⟨qs,x7,x8,rfl⟩
  |false =>
   rw[if_neg (by rw[z];exact MG)]at h;simp only[O2,if_true];obtain⟨a,c,f,e,f1,f2⟩:=E9 (cs:=cs) K no i (λp b=>(hj.ok _ (M9.mpr ⟨p,b,rfl⟩)).held) (by omega) x7 x8;rw[e];have g:a.length<=1000:=by have:=congrArg List.length f1;rw[M3,M3]at this;omega
   refine wy i nd n a _ t c f g (by rw[f1];exact b) (by rw[f2];exact uH hj) ⟨no.e,no.r,no.w,no.t,yK (s:=(qs.map (·.2),told)) no.o⟩ (by rw[CQ];show told.length+1+n<=_;omega) ?_;rw[f2];exact h
end
def cV (ps:List (Int×Option Int)):Int:=(ps.map (·.1)).sum
theorem fH (p:Int×Option Int) (r:List (Int×Option Int)):cV (p::r)=p.1+cV r:=by unfold cV;rw[M5,N7]
def Jb.work (j:Jb):Int:=cV j.parts
def Jb.cur (j:Jb):Int:=cV (j.parts.take j.part)+j.spent
def Jb.tot (j:Jb):Int:=j.job*j.work+j.cur
theorem mX:∀{ps:List (Int×Option Int)} {k:Nat} (h:k<ps.length),cV (ps.take (k+1))=cV (ps.take k)+ps[k].1
 |[],k,h=>by cases h
 |p::r,0,_=>by rw[NW,List.take_zero,fH];show p.1+cV []=cV []+p.1;omega
 |p::r,k+1,h=>by
  have a:k<r.length:=by simpa using h
  have b:=mX (ps:=r) (k:=k) a;rw[NW,NW,fH,fH,b];show p.1+(cV (r.take k)+r[k].1)=p.1+cV (r.take k)+r[k].1;omega
theorem qt (h:JOk tops j):j.next.tot=j.tot+1:=by
 have hpt:=h.pt;have hlen:j.len=j.parts[j.part].1:=by unfold Jb.len;rw[M1 h.pt];rfl
 have ht:=mX h.pt;unfold Jb.next Jb.step1;by_cases z:(j.spent:Int)+1=j.len
 ·rw[if_pos z];unfold Jb.step2;by_cases y:j.part+1=j.parts.length
  ·rw[if_pos (show ({ j with spent:=0,part:=j.part+1 }:Jb).part=({ j with spent:=0,part:=j.part+1 }:Jb).parts.length from y)];have hw:cV (j.parts.take (j.part+1))=cV j.parts:=by rw[y,List.take_length]
   show ((j.job+1:Nat):Int)*cV j.parts+(cV (j.parts.take 0)+((0:Nat):Int))=(j.job:Int)*cV j.parts+(cV (j.parts.take j.part)+(j.spent:Int))+1;have a:cV (j.parts.take 0)=0:=rfl;have e1:((j.job+1:Nat):Int)*cV j.parts=(j.job:Int)*cV j.parts+cV j.parts:=by rw[Int.natCast_add,NL];simp
   rw[a,e1];omega
  ·rw[if_neg (show ¬ ({ j with spent:=0,part:=j.part+1 }:Jb).part=({ j with spent:=0,part:=j.part+1 }:Jb).parts.length from y)];show (j.job:Int)*cV j.parts+(cV (j.parts.take (j.part+1))+((0:Nat):Int))=(j.job:Int)*cV j.parts+(cV (j.parts.take j.part)+(j.spent:Int))+1;omega
 ·rw[if_neg z];unfold Jb.step2;rw[if_neg (show ¬ ({ j with spent:=j.spent+1 }:Jb).part=({ j with spent:=j.spent+1 }:Jb).parts.length from MB h.pt)];show (j.job:Int)*cV j.parts+(cV (j.parts.take j.part)+((j.spent+1:Nat):Int))=(j.job:Int)*cV j.parts+(cV (j.parts.take j.part)+(j.spent:Int))+1;omega
theorem nW:∀(a b:List (Int×Option Int)),cV (a++b)=cV a+cV b
 |[],b=>by show cV b=0+cV b;omega
 |p::r,b=>by rw[MU,fH,fH,nW r b];omega
theorem oq:∀{ps:List (Int×Option Int)},(∀p∈ps,1<=p.1)->0<=cV ps
 |[],_=>NA 0
 |p::r,h=>by
  have:=h p M6;have ih:=oq (ps:=r) λq a=>h q (M4 _ a)
  rw[fH];omega
theorem uU {ps:List (Int×Option Int)} (h:∀p∈ps,1<=p.1) (k:Nat):cV (ps.take k)<=cV ps:=by
 have e:=nW (ps.take k) (ps.drop k);rw[List.take_append_drop]at e;have:=oq (ps:=ps.drop k) λq a=>h q (NQ a)
 omega
theorem vt (h:JOk tops j):0<=j.cur/\j.cur<j.work:=by
 have hpt:=h.pt;have hlen:j.len=j.parts[j.part].1:=by unfold Jb.len;rw[M1 h.pt];rfl
 have ht:=mX h.pt;have h1:=uU h.ln (j.part+1);have h2:=oq (ps:=j.parts.take j.part) λq a=>h.ln q (Nj a)
 have h3:=h.sp;unfold Jb.cur Jb.work;omega
theorem DZ (h:JOk tops j) {k:Nat} (hj:j.job<k):j.tot<(k:Int)*j.work:=by obtain⟨c0,c1⟩:=vt h;have:=MY (a:=(j.job:Int)+1) (b:=(k:Int)) (c:=j.work) (by omega) (by omega);rw[NL,Int.one_mul]at this;unfold Jb.tot;omega
theorem jN (j:Jb):j.next.row=j.row:=by unfold Jb.next Jb.step1 Jb.step2;split <;> split <;> rfl
theorem kI (j:Jb):j.next.parts=j.parts:=by unfold Jb.next Jb.step1 Jb.step2;split <;> split <;> rfl
def Jb.left (j:Jb):Nat:=((j.row.length:Int)*j.work-j.tot).toNat
theorem sI (j:Jb):j.next.work=j.work:=by unfold Jb.work;rw[kI]
theorem By (h:JOk tops j) (a:j.job<j.row.length):j.next.left+1=j.left:=by have h1:=qt h;have h2:=DZ h a;unfold Jb.left;rw[jN,sI,h1];omega
theorem Al {b:Jb}:∀{r:List Jb},(∀k∈r,k.num≠b.num)->dO b r=r
 |[],_=>rfl
 |k::t,h=>by show (if k.num=b.num then b.next else k)::dO b t=_;rw[if_neg (h k M6),Al λx a=>h x (M4 _ a)]
theorem nu {b:Jb} {r:List Jb} (nd:((j::r).map (·.num)).Nodup) (a:b∈j::r):(j=b/\dO b (j::r)=b.next::r)\/(j.num≠b.num/\b∈r/\dO b (j::r)=j::dO b r):=by
 rw[M5,MX]at nd;have e:dO b (j::r)=(if j.num=b.num then b.next else j)::dO b r:=rfl;by_cases z:j.num=b.num
 ·left;have c:j=b:=by
   rcases M7.mp a with h|h
   ·exact h.symm
   ·exact (nd.1 (M9.mpr ⟨b,h,z.symm⟩)).elim
  refine⟨c,?_⟩;rw[e,if_pos z,Al λk f q=>nd.1 (M9.mpr ⟨k,f,q.trans z.symm⟩)]
 ·right;refine⟨z,?_,by rw[e,if_neg z]⟩;rcases M7.mp a with h|h
  ·exact (z (by rw[h])).elim
  ·exact h
theorem wU {f:Jb->Nat} {b:Jb}:∀{js:List Jb},(js.map (·.num)).Nodup->b∈js->f b.next+1=f b->((dO b js).map f).sum+1=(js.map f).sum
 |[],_,a,_=>by cases a
 |j::r,nd,a,hf=>by
  rcases nu nd a with⟨g,e⟩|⟨_,c,e⟩
  ·rw[e,M5,M5,N7,N7,g];omega
  ·rw[M5,MX]at nd;have:=wU nd.2 c hf;rw[e,M5,M5,N7,N7];omega
def zu (js:List Jb):Nat:=(js.map Jb.left).sum
theorem iN {b k:Jb} (hb:b∈js) (a:k∈dO b js):k∈js\/k=b.next:=by
 obtain⟨j,c,rfl⟩:=M9.mp a;by_cases z:j.num=b.num
 ·right;exact if_pos z
 ·left;rw[if_neg z];exact c
theorem kf {len:Str} (z:dB told js=[]):eE tops len (js,told)=(js,told++[.none]):=by unfold eE;exact if_pos z
theorem ml {len:Str} (z:dB told js≠[]):∃b,b∈js/\b.there (told.length:Int)=true/\eE tops len (js,told)=(dO b js,told++[eY b]):=by obtain⟨hm,a⟩:=MV.mp (mr (tops:=tops) (len:=len) z);refine⟨_,hm,a,?_⟩;unfold eE;exact if_neg z
theorem EM (h:JOk tops j) (hd:j.done=false):j.job<j.row.length:=by have:=h.jb;unfold Jb.done at hd;rw[beq_eq_false_iff_ne]at hd;omega
theorem oR {tops:PyData} {len:Str} {B:Nat}:∀(n:Nat) (js:List Jb) (told:List PyData),yF tops js->(∀j∈js,∀c∈j.row,c<(B:Int))->zu js+(B-told.length)<n->∃t,pW tops len n (js,told)=some t
 |0,_,_,_,_,hn=>by omega
 |n+1,js,told,h,hr,hn=>by
  unfold pW;by_cases z:js.all Jb.done=true
  ·exact⟨told,if_pos z⟩
  ·rw[if_neg (show ¬ ((js,told).1.all Jb.done=true) from z)];by_cases y:dB told js=[]
   ·rw[kf y];refine oR n js _ h hr ?_;rw[MD]at z;obtain⟨j,o⟩:=Classical.not_forall.mp z;obtain⟨hm,hd⟩:=Classical.not_imp.mp o;have a:=EM (h.ok j hm) (Bool.eq_false_iff.mpr hd);have hc:=hr j hm _ (MZ a);have g:¬ j.there (told.length:Int)=true:=λe=>by have:j∈dB told js:=MV.mpr ⟨hm,e⟩;rw[y]at this;cases this
    unfold Jb.there at g;rw[M1 a]at g;simp only[decide_eq_true_eq]at g;rw[Mv,MR];omega
   ·obtain⟨b,l,g,e⟩:=ml (tops:=tops) (len:=len) y;have i:=uH (len:=len) (told:=told) h;rw[e]at i ⊢;have hs:=wU (f:=Jb.left) h.nd l (By (h.ok _ l) (oQ g));refine oR (B:=B) n _ _ i (λk m=>?_) ?_
    ·rcases iN l m with m|rfl
     ·exact hr k m
     ·rw[jN];exact hr b l
    ·rw[Mv,MR];unfold zu at hn ⊢;omega
def iI (r:List Int) (t:Int):Nat:=(r.filter λc=>decide (c<=t)).length
theorem fJ (a:Int) (s:List Int) (t:Int):iI (a::s) t=(if a<=t then 1 else 0)+iI s t:=by
 unfold iI;rw[NF];by_cases z:a<=t
 ·rw[if_pos (decide_eq_true z),if_pos z,MC];omega
 ·rw[if_neg (by simpa using z),if_neg z];omega
theorem EF (r:List Int) (t:Int):iI r t<=r.length:=List.length_filter_le _ _
theorem rA {t u:Int} (h:t<=u):∀r:List Int,iI r t<=iI r u
 |[]=>Mu _
 |a::s=>by
  have ih:=rA h s;rw[fJ,fJ];by_cases z:a<=t
  ·rw[if_pos z,if_pos (by omega)];omega
  ·rw[if_neg z];omega
theorem sA {t:Int}:∀{r:List Int},(∀c∈r,t<c)->iI r t=0
 |[],_=>rfl
 |a::s,h=>by have:=h a M6;rw[fJ,if_neg (by omega),sA λc hc=>h c (M4 _ hc)]
theorem Ai {t:Int}:∀{r:List Int} {k:Nat} (b:k<r.length),r.Pairwise (· < ·)->t<r[k]->iI r t<=k
 |[],_,b,_,_=>by cases b
 |a::s,0,_,hp,h=>by rw[O1]at hp;have h:t<a:=h;have:=hp.1;rw[fJ,if_neg (by omega),sA λc hc=>Int.lt_trans h (this c hc)];exact Mu _
 |a::s,k+1,b,hp,h=>by
  rw[O1]at hp;have e:k<s.length:=by simpa using b
  have ih:=Ai e hp.2 (show t<s[k] from h);rw[fJ];split <;> omega
theorem Ax {t:Int}:∀{r:List Int} {k:Nat} (c:k<r.length),r.Pairwise (· < ·)->r[k]<=t->k<iI r t
 |[],_,c,_,_=>by cases c
 |a::s,0,_,hp,h=>by have h:a<=t:=h;rw[fJ,if_pos h];omega
 |a::s,k+1,c,hp,h=>by
  rw[O1]at hp;have b:k<s.length:=by simpa using c
  have h:s[k]<=t:=h;have ih:=Ax b hp.2 h;have:=hp.1 _ (MZ b);rw[fJ,if_pos (by omega)];omega
def fY (t:Int) (j:Jb):Int:=(iI j.row t:Int)*j.work-j.tot
structure IvJ (tops:PyData) (t:Int) (js:List Jb):Prop where
 ok:yF tops js
 srt:∀j∈js,j.row.Pairwise (· < ·)
 low:∀j∈js,0<=fY t j
theorem yC (h:JOk tops j) (c:j.row.Pairwise (· < ·)) (b:j.there t=true):0<fY t j:=by have a:=oQ b;unfold Jb.there at b;rw[M1 a]at b;have:=DZ h (Ax a c (of_decide_eq_true b));unfold fY;omega
theorem Dk (h:JOk tops j) (f:j.row.Pairwise (· < ·)) (hl:0<=fY t j) (e:j.there t=false):fY t j=0:=by
 have hc:iI j.row t<=j.job:=by
  by_cases z:j.job<j.row.length
  ·unfold Jb.there at e;rw[M1 z]at e;have:=of_decide_eq_false e;exact Ai z f (by omega)
  ·have:=EF j.row t;omega
 obtain⟨c0,c1⟩:=vt h;have:=MY (a:=(iI j.row t:Int)) (b:=(j.job:Int)) (c:=j.work) (by omega) (by omega);unfold fY Jb.tot at hl ⊢;omega
theorem m9 {u:Int} (e:t<=u) (h:JOk tops j):fY t j<=fY u j:=by have h1:=rA e j.row;have h2:=vt h;have:=MY (a:=(iI j.row t:Int)) (b:=(iI j.row u:Int)) (c:=j.work) (by omega) (by omega);unfold fY;omega
theorem Gh {len:Str} (h:IvJ tops (told.length:Int) js):IvJ tops ((eE tops len (js,told)).2.length:Int) (eE tops len (js,told)).1:=by
 have c:=uH (len:=len) (told:=told) h.ok;by_cases z:dB told js=[]
 ·rw[kf z]at c ⊢;refine⟨c,h.srt,λj a=>?_⟩;have:=h.low j a;have:=m9 (u:=(((told++[PyData.none]).length:Nat):Int)) (t:=(told.length:Int)) (by rw[Mv];omega) (h.ok.ok j a);show 0<=fY (((told++[PyData.none]).length:Nat):Int) j;omega
 ·obtain⟨b,f,g,e⟩:=ml (tops:=tops) (len:=len) z;rw[e]at c ⊢;refine⟨c,λj a=>?_,λj a=>?_⟩
  ·rcases iN f a with a|rfl
   ·exact h.srt j a
   ·rw[jN];exact h.srt b f
  ·show 0<=fY (((told++[eY b]).length:Nat):Int) j;rcases iN f a with a|rfl
   ·have:=h.low j a;have:=m9 (u:=(((told++[eY b]).length:Nat):Int)) (t:=(told.length:Int)) (by rw[Mv];omega) (h.ok.ok j a);omega
   ·have h2:=yC (h.ok.ok b f) (h.srt b f) g;have i:=m9 (u:=(((told++[eY b]).length:Nat):Int)) (t:=(told.length:Int)) (by rw[Mv];omega) (h.ok.ok b f);have l:=qt (h.ok.ok b f);unfold fY at h2 i ⊢;rw[jN,sI,l];omega
def eK (j:Jb):Int×List (Int×Option Int)×List Int:=(j.num,j.parts,j.row)
theorem nh {b:Jb}:∀{js:List Jb},(js.map (·.num)).Nodup->b∈js->(dO b js).map eK=js.map eK
 |[],_,a=>by cases a
 |j::r,nd,a=>by
  rcases nu nd a with⟨f,e⟩|⟨_,c,e⟩
  ·rw[e,M5,M5,f];unfold eK;rw[pq,kI,jN]
  ·rw[M5,MX]at nd;rw[e,M5,M5,nh nd.2 c]
theorem sf {tops:PyData} {b:Jb}:∀{js:List Jb},(js.map (·.num)).Nodup->b∈js->JOk tops b->∀(i:Nat) (hi:i<js.length),js[i].num=b.num->(dO b js).map Jb.tot=(js.map Jb.tot).set i (b.tot+1)
 |[],_,c,_,_,_,_=>by cases c
 |j::r,nd,c,hk,i,hi,hn=>by
  rcases nu nd c with⟨h,e⟩|⟨f,g,e⟩
  ·rw[M5,MX]at nd;cases i with
   |zero=>rw[e,M5,M5,NK,qt hk]
   |succ i =>
    have a:i<r.length:=by simpa using hi
    have hn:r[i].num=b.num:=hn;exact (nd.1 (M9.mpr ⟨r[i],MZ a,by rw[hn,h]⟩)).elim
  ·cases i with
   |zero=>exact (f hn).elim
   |succ i =>
    have a:i<r.length:=by simpa using hi
    have hn:r[i].num=b.num:=hn;rw[M5,MX]at nd;rw[e,M5,M5,NJ,sf nd.2 g hk i a hn]
theorem dN {g:Ds->Rs PyData} {d:PyData} (hi:i<δ.length) (a:g (mask O δ)=.ok d):aL O i g δ=.nx (δ.set i (some d)):=by unfold aL;rw[if_pos hi,a];rfl
def mkJ (es:List Er) (rs:List Int) (k:Nat) (row:List Int):Jb:=⟨(k:Int),(aS es (k:Int)).parts,(placeOf rs (k:Int):Int),row,0,0,0⟩
def startJ (es:List Er) (rs:List Int) (rows:List (List Int)):List Jb:=rows.mapIdx (mkJ es rs)
section
theorem nk (i:Nat):(startJ es rs rows)[i]?=(rows[i]?).map (mkJ es rs i):=NB
theorem dF (h:j∈startJ es rs rows):∃(k:Nat) (row:List Int),k<rows.length/\row∈rows/\rows[k]?=some row/\j=mkJ es rs k row:=by obtain⟨k,b⟩:=List.mem_iff_getElem?.mp h;rw[nk]at b;obtain⟨row,a,e⟩:=Nz.mp b;exact⟨k,row,(MQ.mp a).1,N0 a,a,e.symm⟩
theorem eC:(startJ es rs rows).length=rows.length:=List.length_mapIdx
theorem yv:(startJ es rs rows).map (·.num)=(List.range rows.length).map λ(k:Nat)=>(k:Int) :=
 Oa (by simp[startJ]) (λi h1 h2=>by simp[startJ,mkJ])
theorem xZ:(startJ es rs rows).map (·.row)=rows :=
 Oa (by simp[startJ]) (λi h1 h2=>by simp[startJ,mkJ])
theorem GK (n:Nat):((List.range n).map λ(k:Nat)=>(k:Int)).Nodup:=List.Pairwise.map _ (λa b h e=>h (by omega)) List.nodup_range
theorem mF (k:Nat) (row:List Int):(mkJ es rs k row).tot=0:=by show ((0:Nat):Int)*_+(cV (List.take 0 _)+((0:Nat):Int))=0;rw[List.take_zero];have:cV []=0:=rfl;rw[this];simp
end
theorem uc:∀{ps:List (Int×Option Int)},(∀p∈ps,p.1<=20)->cV ps<=20*(ps.length:Int)
 |[],_=>NA 0
 |p::r,h=>by
  have:=h p M6;have ih:=uc (ps:=r) λq a=>h q (M4 _ a)
  rw[fH,MC];omega
theorem Ao {α:Type} (f:α->Nat) {c:Nat}:∀{l:List α},(∀x∈l,f x<=c)->(l.map f).sum<=l.length*c
 |[],_=>Nd _
 |a::r,h=>by
  have h1:=h a M6;have ih:=Ao f (l:=r) λx b=>h x (M4 _ b)
  rw[M5,N7,MC,Nat.add_mul];omega
theorem xF (t0:0<=t) (t3:t<=3) (h:bF es rs t=some n):dIx (aZ es rs) (.int t)=some (.int n):=by
 obtain⟨m,rfl⟩:∃m:Nat,t=(m:Int):=⟨t.toNat,by omega⟩
 show atI ((List.range 4).map λ(t:Nat)=>bg (bF es rs t)) (m:Int)=_;refine oG ?_;rw[MA,NV (by omega),Nn,h];rfl
theorem qT (es:List Er) (rs:List Int):aG (aZ es rs)=true:=eW λd hd=>by obtain⟨t,_,rfl⟩:=M9.mp hd;exact sT _
structure Ran (es:List Er) (rs:List Int) (rows:List (List Int)) (len:Str):Prop where
 eok:xV es
 rok:cf es.length rs
 ln:rows.length=es.length
 le:uA len
def kL (es:List Er) (rs:List Int) (rows:List (List Int)) (len:Str):Option (List PyData):=pW (aZ es rs) len 1000000 (startJ es rs rows,[])
section
variable {len:Str} {t:List PyData}
theorem lg (h:xV es) (f:cf es.length rs) (hl:rows.length=es.length):yF (aZ es rs) (startJ es rs rows):=by
 refine⟨λj g=>?_,by rw[yv];exact GK _⟩;obtain⟨k,row,hk,_,_,rfl⟩:=dF g;have c:(0:Int)<=(k:Int):=by omega
 have h1:(k:Int)<es.length:=by omega
 have ok:=h.ok _ (bV c h1);have a:0<(aS es (k:Int)).parts.length:=Nt.mpr ok.p1;refine⟨a,Nd _,λp b=>(ok.pl p b).1,?_,λp b u e=>?_⟩
 ·have:=len_pos (tops:=.none) (j:=mkJ es rs k row) (λp b=>(ok.pl p b).1) a;show (0:Int)<_;exact Oi (by decide) this
 ·obtain⟨i,l⟩:=(ok.pl p b).2.2 u e;have m:(aS es (k:Int)).has u=true:=by unfold Er.has;rw[O9];exact⟨p,b,by rw[e];exact beq_self_eq_true _⟩
  obtain⟨n,hn⟩:=oJ es u rs 0 (k:Int) (f.mem c h1) m;exact⟨n,xF i l hn⟩
theorem Dr (R:Ran es rs rows len) (C:Cms es rows):∃t,kL es rs rows len=some t:=by
 have a:=C.rR;refine oR (B:=10000) 1000000 _ [] (lg R.eok R.rok R.ln) (λj b c hc=>?_) ?_
 ·obtain⟨k,row,_,hm,_,rfl⟩:=dF b;have:=(a row hm).hi c hc;omega
 ·have f:zu (startJ es rs rows)<=(startJ es rs rows).length*4800:=Ao Jb.left λj b=>by
   obtain⟨k,row,hk,hm,_,rfl⟩:=dF b;have ok:=R.eok.ok _ (bV (n:=(k:Int)) (by omega) (by have:=R.ln;omega));have h1:=uc λp e=>(ok.pl p e).2.1
   have h2:=ok.p2;have h3:=(a row hm).few;have g:=oq λp e=>(ok.pl p e).1
   unfold Jb.left;rw[mF];have h5:((mkJ es rs k row).row.length:Int)*(mkJ es rs k row).work<=60*80:=Int.mul_le_mul (by show (row.length:Int)<=60;omega) (by show cV (aS es (k:Int)).parts<=80;omega) g (by decide);omega
  rw[eC]at f;have h6:=R.eok.l6;have h7:=R.ln;show zu (startJ es rs rows)+(10000-0)<1000000;have h8:rows.length*4800<=6*4800:=Nat.mul_le_mul_right _ (by omega);omega
end
def fsJ (j:Jb):List PyData:=[.int j.num,.tuple (j.parts.map aJ),.int j.rank,df j.row]
theorem xE (h:∀j∈js,j.job=0/\j.part=0/\j.spent=0):kF C JN JT as (js.map fsJ)=(as.zip js).map (jD C):=by
 unfold kF;rw[List.zip_map_right,MF];refine MH λp c=>?_
 obtain⟨h1,h2,e⟩:=h p.2 (NX (a:=p.1) (b:=p.2) c).2;show cA C p.1 (JN.zip (fsJ p.2)++tlD JT)=cA C p.1 p.2.fds;unfold Jb.fds;rw[h1,h2,e];rfl
section
variable {len:Str} {t:List PyData}
theorem Gv (R:Ran es rs rows len) (c:kL es rs rows len=some t) (hl:as.length=rows.length) (nd:as.Nodup) :
  i6 cs aR (aW cs) (cM cs) (aQ cs) fV as [some (aw es),some (au rs),some (cmD rows),some (.str len),some (aZ es rs),some (.list ((as.zip (startJ es rs rows)).map (jD cs.Jobs))),none,none,none]=.rt (.list t):=by
 have b:(as.zip (startJ es rs rows)).map (·.1)=as:=List.map_fst_zip (by rw[eC,hl];exact Mu _);have a:(as.zip (startJ es rs rows)).map (·.2)=startJ es rs rows:=List.map_snd_zip (by rw[eC,hl];exact Mu _);obtain⟨qs',y7,y8,e⟩:=wy (cs:=cs) (E:=aw es) (R:=au rs) (W:=cmD rows) (tops:=aZ es rs) (len:=len) (as:=as) R.le nd 1000000 (as.zip (startJ es rs rows)) [] t none none
  (by rw[List.length_zip,eC];have:=R.eok.l6;have:=R.ln;omega) b (by rw[a];exact lg R.eok R.rok R.ln) ⟨sZ es,oW rs,qj rows,qT es rs,eW λd hd=>by cases hd⟩ (by rw[Nm];omega) (by rw[a];exact c)
 have f:eV [6] 6 ah [some (aw es),some (au rs),some (cmD rows),some (.str len),some (aZ es rs),some (.list ((as.zip (startJ es rs rows)).map (jD cs.Jobs))),none,none,none]=.nx (rnD cs.Jobs (aw es) (au rs) (cmD rows) (aZ es rs) len (as.zip (startJ es rs rows)) [] none none):=rfl;show az (eV [6] 6 ah) (az (λδ=>bU (rnC cs) (rnB cs as) 1000000 δ) (bh (af 6))) _=_;rw[aN,f];show (match bU (rnC cs) (rnB cs as) 1000000 (rnD cs.Jobs (aw es) (au rs) (cmD rows) (aZ es rs) len (as.zip (startJ es rs rows)) [] none none) with
  |.nx δ'=>bh (af 6) δ'
  |r=>r)=_
 rw[e];rfl
end
def En:PyData->List Int
 |.list xs=>(fF xs).getD []
 |_=>[]
def Cz:PyData->List (List Int)
 |.list l=>l.map En
 |_=>[]
theorem Dn (rows:List (List Int)):Cz (cmD rows)=rows:=by
 show (rows.map df).map En=rows;rw[MF];have:∀r∈rows,(En∘df) r=id r:=λr _=>by show (fF (r.map PyData.int)).getD []=r;rw[e9];rfl
 rw[MH this,Ni]
def lenOf:PyData->Str
 |.str s=>s
 |_=>""
def Df (d r c l:PyData):PyData:=match kL (cN d) (cp r) (Cz c) (lenOf l) with
 |some t=>.list t
 |none=>.none
theorem uY {len:Str} {t:List PyData} (a:kL es rs rows len=some t):Df (aw es) (au rs) (cmD rows) (.str len)=.list t:=by unfold Df;rw[eS,d7,Dn,show lenOf (.str len)=len from rfl,a]
def atD (δ:Ds) (i:Nat):PyData:=((δ[i]?).getD none).getD .none
open Classical in
def kX:Ds->Sr:=λδ=>if ∃es rs rows len t,Ran es rs rows len/\kL es rs rows len=some t/\δ=[some (aw es),some (au rs),some (cmD rows),some (.str len),some (aZ es rs),none,none,none,none] then .rt (Df (atD δ 0) (atD δ 1) (atD δ 2) (atD δ 3)) else .no
theorem Hi {len:Str} {t:List PyData} (R:Ran es rs rows len) (a:kL es rs rows len=some t):kX [some (aw es),some (au rs),some (cmD rows),some (.str len),some (aZ es rs),none,none,none,none]=.rt (.list t):=by unfold kX;rw[if_pos ⟨es,rs,rows,len,t,R,a,rfl⟩];exact congrArg Sr.rt (uY a)
theorem Gq (cs:Cs):∀δ,kX δ≠.no->∃d ds a,kX δ=.rt d/\5<δ.length/\δ.length=9/\(iO (ae (af 2) ah)) (mask [6] δ)=.ok ds/\ds.length<=1000000/\a.length=ds.length/\(∀(i:Nat) d,ds[i]?=some d->∃f fs,jI d=some f/\a[i]?=some fs/\(ae (af 9) (ae (g2 dIx (g2 dIx (af 0) (af 9)) (gC (.int 3))) (ae (kW (af 1) (af 9)) (ae (af 10) ah)))) (mask [6] δ++f)=.ok fs/\fs.length=JN.length) /\
   ∀as:List Addr,as.length=ds.length->as.Nodup->i6 cs aR (aW cs) (cM cs) (aQ cs) fV as (δ.set 5 (some (.list (kF cs.Jobs JN JT as a))))=.rt d:=by
 intro δ b;by_cases hx:∃es rs rows len t,Ran es rs rows len/\kL es rs rows len=some t/\δ=[some (aw es),some (au rs),some (cmD rows),some (.str len),some (aZ es rs),none,none,none,none]
 ·obtain⟨es,rs,rows,len,t,R,g,rfl⟩:=hx;have hln:=R.ln;refine⟨.list t,ik (rows.map df),(startJ es rs rows).map fsJ,Hi R g,(by decide:5<9),rfl,rfl,?_,?_,?_,?_⟩
  ·rw[ki,M3];have:=R.eok.l6;omega
  ·rw[ki,M3,M3,eC]
  ·intro i d hd;unfold ik at hd;rw[NB,MA]at hd;cases q:rows[i]? with
   |none=>rw[q]at hd;cases hd
   |some row =>
    rw[q]at hd;have e:some (PyData.tuple [.int (i:Int),df row])=some d:=hd;cases e;have hi:=(MQ.mp q).1;have h:(0:Int)<=(i:Int):=by omega
    have h1:(i:Int)<es.length:=by omega
    refine⟨[some (.int (i:Int)),some (df row)],fsJ (mkJ es rs i row),rfl,?_,?_,rfl⟩
    ·rw[MA,nk,q];rfl
    ·have a1:dIx (aw es) (.int (i:Int))=some (aS es (i:Int)).d:=ie h h1;have a2:=GP (aS es (i:Int));have l:=ig (R.rok.mem h h1);show (ae (af 9) (ae (g2 dIx (g2 dIx (af 0) (af 9)) (gC (.int 3))) (ae (kW (af 1) (af 9)) (ae (af 10) ah)))) [some (aw es),some (au rs),some (cmD rows),some (.str len),some (aZ es rs),none,none,none,none,some (.int (i:Int)),some (df row)]=_;simp only[ay,aF,bK,ak,ar,cF,ue,Rs.ag,a1,a2,Rs.ai,au,l];rfl
  ·intro as c nd;rw[ki,M3]at c;rw[xE λj m=>by obtain⟨k,row,_,_,_,rfl⟩:=dF m;exact⟨rfl,rfl,rfl⟩];exact Gv R g c nd
 ·unfold kX at b;rw[if_neg hx]at b;exact absurd rfl b
open Classical in
def eu (cs:Cs):Gf:=λds=>if ∃es rs rows len t,Ran es rs rows len/\kL es rs rows len=some t/\ds=[aw es,au rs,cmD rows,.str len] then .ok (Df (ds.getD 0 .none) (ds.getD 1 .none) (ds.getD 2 .none) (ds.getD 3 .none)) else .no
theorem lQ {len:Str} {t:List PyData} (R:Ran es rs rows len) (a:kL es rs rows len=some t):eu cs [aw es,au rs,cmD rows,.str len]=.ok (.list t):=by unfold eu;rw[if_pos ⟨es,rs,rows,len,t,R,a,rfl⟩];exact congrArg Rs.ok (uY a)
theorem DP (cs:Cs):∀ds,ds.length=4->eu cs ds≠.no->bc (az (aL [6] 4 (aq aR (ae (af 0) (ae (af 1) ah)))) kX (ds.map some++List.replicate 5 none))=eu cs ds:=by
 intro ds hl a;by_cases hx:∃es rs rows len t,Ran es rs rows len/\kL es rs rows len=some t/\ds=[aw es,au rs,cmD rows,.str len]
 ·obtain⟨es,rs,rows,len,t,R,b,rfl⟩:=hx;rw[lQ R b];have c:=fM (es:=es) (rs:=rs) (by have:=R.eok.l6;omega) (λe f=>(R.eok.ok e f).sh) R.rok;have g:aL [6] 4 (aq aR (ae (af 0) (ae (af 1) ah))) [some (aw es),some (au rs),some (cmD rows),some (.str len),none,none,none,none,none]=.nx [some (aw es),some (au rs),some (cmD rows),some (.str len),some (aZ es rs),none,none,none,none]:=by have h:aq aR (ae (af 0) (ae (af 1) ah)) (mask [6] [some (aw es),some (au rs),some (cmD rows),some (.str len),none,none,none,none,none])=.ok (aZ es rs):=c;exact dN (by decide:4<9) h
  show bc (az (aL [6] 4 (aq aR (ae (af 0) (ae (af 1) ah)))) kX [some (aw es),some (au rs),some (cmD rows),some (.str len),none,none,none,none,none])=_;rw[aN,g];simp only;rw[Hi R b];rfl
 ·exfalso;apply a;unfold eu;rw[if_neg hx]
open Classical in
def cY (cs:Cs):Gf:=λds=>if ∃es rs rows len t,Ran es rs rows len/\Cms es rows/\kL es rs rows len=some t/\ds=[aw es,au rs,cmD rows,.str len] then .ok (Df (ds.getD 0 .none) (ds.getD 1 .none) (ds.getD 2 .none) (ds.getD 3 .none)) else .no
theorem kx {len:Str} {t:List PyData} (R:Ran es rs rows len) (C:Cms es rows) (a:kL es rs rows len=some t):cY cs [aw es,au rs,cmD rows,.str len]=.ok (.list t):=by unfold cY;rw[if_pos ⟨es,rs,rows,len,t,R,C,a,rfl⟩];exact congrArg Rs.ok (uY a)
theorem KU (cs:Cs):LLq (zY cs (bu cs) (eu cs) (aV cs) (br cs)) 4 0 (cY cs):=by
 intro ds hl a;by_cases hx:∃es rs rows len t,Ran es rs rows len/\Cms es rows/\kL es rs rows len=some t/\ds=[aw es,au rs,cmD rows,.str len]
 ·obtain⟨es,rs,rows,len,t,R,C,b,rfl⟩:=hx;rw[kx R C b];have k1:=iE cs R.eok.l1 R.eok.l6 R.eok.ok;have k2:=gA cs R.eok.l6 R.rok;have k3:=fG (cs:=cs) R.eok C;have c:=lQ (cs:=cs) R b;show bc (zY cs (bu cs) (eu cs) (aV cs) (br cs) [some (aw es),some (au rs),some (cmD rows),some (.str len)])=_;unfold zY;simp only[aN,oA,bj,ay,aF,ak,ar,Rs.ag,k1,k2,k3,c,av,bW,aU]
 ·exfalso;apply a;unfold cY;rw[if_neg hx]
end RS
variable {js ks ts:List RS.Jb}
namespace L2
open PySem PySem.Spec PyProof.Rows
end L2
namespace RS
open PySem L2
variable {j:Jb} {a:Int} {tgt:PyData->Ds->Option Ds}
theorem vo:∀a b:List Int,PyData.eqvAll (a.map PyData.int) (b.map PyData.int)=decide (a=b)
 |[],[]=>by simp[PyData.eqvAll]
 |[],_::_=>by simp[PyData.eqvAll]
 |_::_,[]=>by simp[PyData.eqvAll]
 |x::a,y::b=>by
  have h:(x==y)=decide (x=y):=by by_cases z:x=y <;> simp[z]
  simp[PyData.eqvAll,PyData.eqv,vo a b,h]
theorem EO (a b:List Int):dNe (.list (a.map PyData.int)) (.list (b.map PyData.int))=some (.bool (!decide (a=b))):=by unfold dNe;rw[eW (kR a),eW (kR b),shaped_ints,shaped_ints];simp[PyData.eqv,vo]
def hvS (every late m:Int) (row:List Int):Int:=row.foldl (λm c=>(if c-late>m then c-late else m)+every) m
theorem zQ (every late:Int):∀(row:List Int) (m c:Int),hvM every late m row=true->¬ c<(if c-late>hvS every late m row then c-late else hvS every late m row)->hvM every late m (row++[c])=true
 |[],m,c,_,h=>by show (if c<(if c-late>m then c-late else m) then false else true)=true;exact if_neg h
 |a::r,m,c,h1,h=>by
  rw[MU];unfold hvM at h1 ⊢;by_cases z:a<(if a-late>m then a-late else m)
  ·rw[if_pos z]at h1;cases h1
  ·rw[if_neg z]at h1 ⊢;exact zQ every late r _ c h1 h
structure CrI (every late span:Int) (made:List Int) (moment:Int):Prop where
 lo:-late<=moment
 hv:hvM every late (0-late) made=true
 ea:hvS every late (0-late) made<=moment
 la:∀c,made.getLast?=some c->c+1<=moment+late
 c0:∀c∈made,0<=c
 c1:∀c∈made,c<span
theorem Hh {every late moment c:Int} {made:List Int} (h:CrI every late span made moment) (hs:moment+late<span) (e:0<=c) (h1:moment<=c) (h2:c<=moment+late) (he:1<=every) (hl:0<=late) (hx:moment+every<=a):CrI every late span (made++[c]) a:=by
 have b:=h.ea;have hlo:=h.lo;refine⟨by omega,zQ every late made _ c h.hv (by split <;> omega),?_,λd hd=>?_,λd hd=>?_,λd hd=>?_⟩
 ·unfold hvS at b ⊢;rw[List.foldl_append];show (if c-late>List.foldl _ _ made then c-late else List.foldl _ _ made)+every<=a;split <;> omega
 ·rw[List.getLast?_concat]at hd;cases hd;omega
 ·rcases MM.mp hd with hd|hd
  ·exact h.c0 d hd
  ·rw[Mw.mp hd];exact e
 ·rcases MM.mp hd with hd|hd
  ·exact h.c1 d hd
  ·rw[Mw.mp hd];omega
theorem DH {every late:Int} {moment:Int} (h:-late<=moment):CrI every late span [] moment:=⟨h,rfl,by show 0-late<=moment;omega,λc hc=>(by cases hc),λc hc=>(by cases hc),λc hc=>(by cases hc)⟩
theorem sy {every late:Int} (hl:late<every) (f:0<=late):∀(row:List Int) (m:Int),hvM every late m row=true->(∀c∈row,m<=c)/\row.Pairwise (· < ·)
 |[],_,_=>⟨λc hc=>(by cases hc),List.Pairwise.nil⟩
 |a::r,m,h=>by
  unfold hvM at h;by_cases z:a<(if a-late>m then a-late else m)
  ·rw[if_pos z]at h;cases h
  ·rw[if_neg z]at h;obtain⟨h1,h2⟩:=sy hl f r _ h;have hm:m<=a:=by split at z <;> omega
   have b:∀c∈r,a<c:=λc hc=>by have:=h1 c hc;split at this <;> omega
   refine⟨λc hc=>?_,O1.mpr ⟨b,h2⟩⟩;rcases M7.mp hc with e|hc
   ·rw[e];exact hm
   ·have:=b c hc;omega
theorem FH {g:Ds->Rs PyData} {d:PyData} (hi:i<δ.length) (a:g δ=.ok d) (hn:fo d=true):qM i g δ=.nx (δ.set i (some d)):=by unfold qM;rw[if_pos hi,a,av,if_pos hn]
theorem Kz (k:Int):b0 (.int 104729) (.int k)=some (.int (104729*k)):=oK (by decide) (by decide)
theorem KP (k:Int):b0 (.int 7919) (.int k)=some (.int (7919*k)):=oK (by decide) (by decide)
theorem Lh (a:Int):b0 (.int a) (.int 48271)=some (.int (a*48271)):=xT (by decide) (by decide)
theorem K9 (a:Int):eJ (.int a) (.int 2147483647)=some (.int (a % 2147483647)):=by rw[rK,if_pos (by decide)]
theorem Lj {k:Int} (h0:0<=k) (h1:k<=60):b0 (.int a) (.int k)=some (.int (a*k)):=xT (by omega) (by omega)
theorem D4 {seed k:Int} (a:af 4 δ=.ok (.int seed)) (b:af 7 δ=.ok (.int k)) (c:0<=k) (h1:k<=60) :
  ∃e:Int,g2 eJ (g2 b0 (g2 ba (g2 ba (af 4) (g2 b0 (g2 b0 (gC (.int 104729)) (af 7)) (af 7))) (g2 b0 (gC (.int 7919)) (af 7))) (gC (.int 48271))) (gC (.int 2147483647)) δ=.ok (.int e):=by
 generalize hA:(seed+104729*k*k+7919*k)*48271 % 2147483647=A;refine⟨A,?_⟩;rw[bK,bK,bK,bK,bK,bK,bK];rw[a,b];simp only[cF,Rs.ag,Kz,Lj c h1,KP,Lh,K9,dW,Rs.ai,hA]
def crC:Ds->Rs Bool:=(AW (gT (g2 dLt (g2 ba (af 5) (g2 dIx (af 2) (gC (.int 2)))) (af 3))) (gT (g2 dLt (gF b8 (ae (af 6) ah)) (gC (.int 60)))))
def crB:Ds->Sr:=(az (aL [6] 8 (g2 eJ (g2 b0 (g2 ba (g2 ba (af 4) (g2 b0 (g2 b0 (gC (.int 104729)) (af 7)) (af 7))) (g2 b0 (gC (.int 7919)) (af 7))) (gC (.int 48271))) (gC (.int 2147483647))))
 (az (aL [6] 9 (gF iS (ae (gC (.int 0)) (ae (g2 ba (af 5) (g2 eJ (g2 iV (af 8) (gC (.int 7))) (g2 ba (g2 dIx (af 2) (gC (.int 2))) (gC (.int 1))))) ah))))
 (az (sIf (gT (g2 dNe (af 6) (rh ah))) (qM 9 (gF iS (ae (af 9) (ae (g2 ba (g2 dIx (af 6) (g1 mZ (gC (.int 1)))) (gC (.int 1))) ah)))) aY)
 (az (gH [6] 6 (af 9))
 (az (aL [6] 5 (g2 ba (af 5) (g2 dIx (af 2) (gC (.int 0)))))
 (az (sIf (gT (g2 dEq (g2 eJ (g2 iV (af 8) (gC (.int 61))) (gC (.int 3))) (gC (.int 0)))) (aL [6] 5 (g2 ba (af 5) (g2 eJ (g2 iV (af 8) (gC (.int 997))) (g2 dIx (af 2) (gC (.int 0)))))) aY)
 (aL [6] 7 (g2 ba (af 7) (gC (.int 1))))))))))
section
variable {S A:PyData} {seed moment:Int} {made:List Int}
def crD (e:Er) (S A:PyData) (span seed moment:Int) (made:List Int) (k:Int) (x8 x9:Option PyData):Ds:=[some S,some A,some e.d,some (.int span),some (.int seed),some (.int moment),some (.list (made.map PyData.int)),some (.int k),x8,x9]
theorem KG (e:Er):dIx e.d (.int 0)=some (.int e.every):=rfl
theorem Jx (e:Er):dIx e.d (.int 2)=some (.int e.late):=rfl
theorem zL {k:Int} {x8:Option PyData}:crC (crD e S A span seed moment made k x8 x9)=.ok (decide (moment+e.late<span)&&decide (made.length<60)):=by
 have hl:decide (((made.map PyData.int).length:Int)<60)=decide (made.length<60):=by rw[M3];exact decide_eq_decide.mpr (by omega)
 unfold crC crD;simp only[IX,dH,bK,fI,ay,aF,ak,ar,cF,Rs.ag,Jx,dW,HE,jE,Rs.ai,aX,hl];cases decide (moment+e.late<span) <;> simp
theorem GD (ok:e.Ok) (h:CrI e.every e.late span made moment) (y:moment+e.late<span) (hm:made.length<60) (x8 x9:Option PyData) :
  ∃c b B C,crB (crD e S A span seed moment made (made.length:Int) x8 x9)=.nx (crD e S A span seed b (made++[c]) ((made++[c]).length:Int) B C)/\CrI e.every e.late span (made++[c]) b:=by
 have e1:=ok.e1;have e2:=ok.e2;have l1:=ok.l1;have l2:=ok.l2;have hlo:=h.lo;obtain⟨a,m⟩:=D4 (δ:=mask [6] (crD e S A span seed moment made (made.length:Int) x8 x9)) (seed:=seed) (k:=(made.length:Int)) rfl rfl (by omega) (by omega);have D:aL [6] 8 (g2 eJ (g2 b0 (g2 ba (g2 ba (af 4) (g2 b0 (g2 b0 (gC (.int 104729)) (af 7)) (af 7))) (g2 b0 (gC (.int 7919)) (af 7))) (gC (.int 48271))) (gC (.int 2147483647))) (crD e S A span seed moment made (made.length:Int) x8 x9)=.nx (crD e S A span seed moment made (made.length:Int) (some (.int a)) x9):=dN (by decide:8<10) m
 -- the first reckoning of the coming
 have E:0<=a / 7 % (e.late+1)/\a / 7 % (e.late+1)<e.late+1:=⟨Na _ (by omega),Nw _ (by omega)⟩
 have F:iV (.int a) (.int 7)=some (.int (a / 7)):=by rw[xk,if_pos (by decide)]
 have x:eJ (.int (a / 7)) (.int (e.late+1))=some (.int (a / 7 % (e.late+1))):=by rw[rK,if_pos (by omega)]
 generalize a / 7 % (e.late+1)=q at E x;have n:∃c:Int,aL [6] 9 (gF iS (ae (gC (.int 0)) (ae (g2 ba (af 5) (g2 eJ (g2 iV (af 8) (gC (.int 7))) (g2 ba (g2 dIx (af 2) (gC (.int 2))) (gC (.int 1))))) ah))) (crD e S A span seed moment made (made.length:Int) (some (.int a)) x9)=.nx (crD e S A span seed moment made (made.length:Int) (some (.int a)) (some (.int c)))/\0<=c/\moment<=c/\c<=moment+e.late:=by refine⟨if moment+q>0 then moment+q else 0,?_,by split <;> omega,by split <;> omega,by split <;> omega⟩;refine dN (by decide:9<10) ?_;show gF iS _ [some S,some A,some e.d,some (.int span),some (.int seed),some (.int moment),none,some (.int (made.length:Int)),some (.int a),x9]=_;simp only[fI,ay,aF,bK,ak,ar,cF,Rs.ag,Jx,F,dW,x,Rs.ai,Cq]
 obtain⟨c,n,c0,c1,G⟩:=n
 -- behind the one ahead
 have f:∃c':Int,sIf (gT (g2 dNe (af 6) (rh ah))) (qM 9 (gF iS (ae (af 9) (ae (g2 ba (g2 dIx (af 6) (g1 mZ (gC (.int 1)))) (gC (.int 1))) ah)))) aY (crD e S A span seed moment made (made.length:Int) (some (.int a)) (some (.int c)))=.nx (crD e S A span seed moment made (made.length:Int) (some (.int a)) (some (.int c')))/\0<=c'/\moment<=c'/\c'<=moment+e.late:=by
  have o:dNe (.list (made.map PyData.int)) (.list [])=some (.bool (!decide (made=[]))):=EO made [];unfold crD;rw[cJ];simp only[dH,bK,ak,ar,yV,aF,Rs.ag,o,Rs.ai,aX,av];cases hk:made.getLast? with
  |none =>have p:made=[]:=List.getLast?_eq_none_iff.mp hk;rw[p];exact⟨c,rfl,c0,c1,G⟩
  |some l =>
   have p:made≠[]:=λz=>by rw[z]at hk;cases hk
   have hla:=h.la l hk;have r:dIx (.list (made.map PyData.int)) (.int (-1))=some (.int l):=by rw[DG,kj,O4,hk];rfl
   rw[decide_eq_false p];simp only[O2,if_true];refine⟨if l+1>c then l+1 else c,?_,by split <;> omega,by split <;> omega,by split <;> omega⟩;refine FH (by decide:9<10) ?_ rfl;simp only[fI,ay,aF,bK,gx,ak,ar,cF,Ho,Rs.ag,r,dW,Rs.ai,Cq]
 obtain⟨c',f,s,t,u⟩:=f;have H:gH [6] 6 (af 9) (crD e S A span seed moment made (made.length:Int) (some (.int a)) (some (.int c')))=.nx (crD e S A span seed moment (made++[c']) (made.length:Int) (some (.int a)) (some (.int c'))):=by show (if (made.map PyData.int).length<1000000 then Sr.nx _ else Sr.no)=_;rw[if_pos (by rw[M3];omega)];unfold crD;rw[N3];rfl
 have I:aL [6] 5 (g2 ba (af 5) (g2 dIx (af 2) (gC (.int 0)))) (crD e S A span seed moment (made++[c']) (made.length:Int) (some (.int a)) (some (.int c')))=.nx (crD e S A span seed (moment+e.every) (made++[c']) (made.length:Int) (some (.int a)) (some (.int c'))):=dN (by decide:5<10) rfl;have g:∃i,sIf (gT (g2 dEq (g2 eJ (g2 iV (af 8) (gC (.int 61))) (gC (.int 3))) (gC (.int 0)))) (aL [6] 5 (g2 ba (af 5) (g2 eJ (g2 iV (af 8) (gC (.int 997))) (g2 dIx (af 2) (gC (.int 0)))))) aY (crD e S A span seed (moment+e.every) (made++[c']) (made.length:Int) (some (.int a)) (some (.int c')))=.nx (crD e S A span seed i (made++[c']) (made.length:Int) (some (.int a)) (some (.int c')))/\moment+e.every<=i:=by
  have v:iV (.int a) (.int 61)=some (.int (a / 61)):=by rw[xk,if_pos (by decide)]
  have J:eJ (.int (a / 61)) (.int 3)=some (.int (a / 61 % 3)):=by rw[rK,if_pos (by decide)]
  have j:iV (.int a) (.int 997)=some (.int (a / 997)):=by rw[xk,if_pos (by decide)]
  have K:eJ (.int (a / 997)) (.int e.every)=some (.int (a / 997 % e.every)):=by rw[rK,if_pos (by omega)]
  have hx:0<=a / 997 % e.every:=Na _ (by omega);have hc:gT (g2 dEq (g2 eJ (g2 iV (af 8) (gC (.int 61))) (gC (.int 3))) (gC (.int 0))) (crD e S A span seed (moment+e.every) (made++[c']) (made.length:Int) (some (.int a)) (some (.int c')))=.ok (a / 61 % 3==0):=by unfold crD;simp only[dH,bK,ak,ar,cF,Rs.ag,v,J,Rs.ai,jA,aX]
  rw[cJ,hc,av];cases (a / 61 % 3==0) with
  |false=>exact⟨_,rfl,NA _⟩
  |true =>rw[if_pos rfl];refine⟨moment+e.every+a / 997 % e.every,dN (by decide:5<10) ?_,by omega⟩;show g2 ba _ _ [some S,some A,some e.d,some (.int span),some (.int seed),some (.int (moment+e.every)),none,some (.int (made.length:Int)),some (.int a),some (.int c')]=_;simp only[bK,ak,ar,cF,Rs.ag,KG,j,K,dW,Rs.ai]
 obtain⟨i,g,w⟩:=g;have L:aL [6] 7 (g2 ba (af 7) (gC (.int 1))) (crD e S A span seed i (made++[c']) (made.length:Int) (some (.int a)) (some (.int c')))=.nx (crD e S A span seed i (made++[c']) ((made++[c']).length:Int) (some (.int a)) (some (.int c'))):=by
  have hl:((made++[c']).length:Int)=(made.length:Int)+1:=by rw[Mv,MR];omega
  rw[hl];exact dN (by decide:7<10) rfl
 refine⟨c',i,some (.int a),some (.int c'),?_,Hh h y s t u (by omega) l1 w⟩;unfold crB;rw[aN,D];simp only;rw[aN,n];simp only;rw[aN,f];simp only;rw[aN,H];simp only;rw[aN,I];simp only;rw[aN,g];simp only;rw[L]
end
theorem qk {c:Ds->Rs Bool} {b:Ds->Sr} {I:Nat->Ds->Prop} {J:Ds->Prop} (h:∀k δ,I k δ->(c δ=.ok false/\J δ)\/(c δ=.ok true/\∃f,f < k/\∃a,b δ=.nx a/\I f a)):∀(n k:Nat) (δ:Ds),I k δ->k<n->∃a,bU c b n δ=.nx a/\J a
 |0,_,_,_,hn=>by cases hn
 |n+1,k,δ,i,hn=>by
  unfold bU;rcases h k δ i with⟨e,j⟩|⟨e,f,g,a,e2,i'⟩
  ·rw[e,av,if_neg MG];exact⟨δ,rfl,j⟩
  ·rw[e,av,if_pos rfl,e2];exact qk h n f a i' (ME g (Nat.le_of_lt_succ hn))
section
variable {S A:PyData} {seed moment:Int} {made:List Int}
theorem ES (ok:e.Ok) (h:CrI e.every e.late span made moment) (hl:made.length<=60) {n:Nat} (hn:60<n) (x8 x9:Option PyData) :
  ∃a f g i,bU crC crB n (crD e S A span seed moment made (made.length:Int) x8 x9)=.nx (crD e S A span seed f a (a.length:Int) g i)/\CrI e.every e.late span a f/\a.length<=60:=by
 obtain⟨δ',e1,a,f,g,i,rfl,h1,h2⟩:=qk (c:=crC) (b:=crB) (I:=λk δ=>∃made moment x8 x9,δ=crD e S A span seed moment made (made.length:Int) x8 x9/\CrI e.every e.late span made moment/\made.length<=60/\k=60-made.length)
  (J:=λδ=>∃a f g i,δ=crD e S A span seed f a (a.length:Int) g i/\CrI e.every e.late span a f/\a.length<=60) (λk δ j=>by
   obtain⟨made,moment,x8,x9,hd,h,hl,hk⟩:=j;subst hd;by_cases z:moment+e.late<span/\made.length<60
   ·right;refine⟨by rw[zL,decide_eq_true z.1,decide_eq_true z.2];rfl,?_⟩;obtain⟨c,l,g,i,m,h'⟩:=GD (S:=S) (A:=A) (seed:=seed) ok h z.1 z.2 x8 x9;have hl2:(made++[c]).length=made.length+1:=by rw[Mv,MR]
    exact⟨60-(made++[c]).length,by omega,_,m,made++[c],l,g,i,rfl,h',by omega,rfl⟩
   ·left;refine⟨?_,made,moment,x8,x9,rfl,h,hl⟩;rw[zL];refine congrArg Rs.ok (Bool.eq_false_iff.mpr ?_);rw[Ne,M8,decide_eq_true_eq,decide_eq_true_eq];exact z) n (60-made.length) _ ⟨made,moment,x8,x9,rfl,h,hl,rfl⟩ (by omega)
 exact⟨a,f,g,i,e1,h1,h2⟩
end
def bq (cs:Cs):Gf:=gfG 4 6 (c7 cs aj)
theorem nv (cs:Cs):LLq (c7 cs aj) 4 6 (bq cs):=jJ
theorem rm (ok:e.Ok) (ha:0<=a) (hs:span<=10000):∃row,bq cs [ao ns,.int a,e.d,.int span]=.ok (df row)/\pH row/\hvE e row=true:=by
 have e1:=ok.e1;have e2:=ok.e2;have b:Dt (.int 10) (.int 9)=some (.int 1000000000):=rfl;have f:=cx (ns:=ns) (k:=a) (many:=1000000000) ha (by decide);have g:eJ (.int (mixed ns a 1000000000)) (.int (e.every+2))=some (.int (mixed ns a 1000000000 % (e.every+2))):=by rw[rK,if_pos (by omega)]
 have hm0:0<=mixed ns a 1000000000 % (e.every+2):=Na _ (by omega);generalize mixed ns a 1000000000=seed at *;generalize seed % (e.every+2)=m0 at *;obtain⟨row,m',y8,y9,i,hc,hl⟩:=ES (e:=e) (S:=ao ns) (A:=.int a) (span:=span) (seed:=seed) (made:=[]) (moment:=m0-e.late) ok (DH (by omega)) (by decide) (n:=1000000) (by decide) none none;refine⟨row,?_,⟨hl,hc.c0,λc h=>by have:=hc.c1 c h;omega⟩,hc.hv⟩;have j:aL [6] 4 (aq aj (ae (af 0) (ae (af 1) (ae (g2 Dt (gC (.int 10)) (gC (.int 9))) ah)))) [some (ao ns),some (.int a),some e.d,some (.int span),none,none,none,none,none,none]=.nx [some (ao ns),some (.int a),some e.d,some (.int span),some (.int seed),none,none,none,none,none]:=by refine dN (by decide:4<10) ?_;show aq aj _ [some (ao ns),some (.int a),some e.d,some (.int span),none,none,none,none,none,none]=_;simp only[bj,ay,aF,bK,ak,ar,cF,Rs.ag,b,Rs.ai,f]
 have l:aL [6] 5 (g2 gy (g2 eJ (af 4) (g2 ba (g2 dIx (af 2) (gC (.int 0))) (gC (.int 2)))) (g2 dIx (af 2) (gC (.int 2)))) [some (ao ns),some (.int a),some e.d,some (.int span),some (.int seed),none,none,none,none,none]=.nx [some (ao ns),some (.int a),some e.d,some (.int span),some (.int seed),some (.int (m0-e.late)),none,none,none,none]:=by refine dN (by decide:5<10) ?_;show g2 gy _ _ [some (ao ns),some (.int a),some e.d,some (.int span),some (.int seed),none,none,none,none,none]=_;simp only[bK,ak,ar,cF,Rs.ag,KG,Jx,dW,g,nU,Rs.ai]
 have m:eV [6] 6 ah [some (ao ns),some (.int a),some e.d,some (.int span),some (.int seed),some (.int (m0-e.late)),none,none,none,none]=.nx [some (ao ns),some (.int a),some e.d,some (.int span),some (.int seed),some (.int (m0-e.late)),some (.list []),none,none,none]:=rfl;have o:aL [6] 7 (gC (.int 0)) [some (ao ns),some (.int a),some e.d,some (.int span),some (.int seed),some (.int (m0-e.late)),some (.list []),none,none,none]=.nx (crD e (ao ns) (.int a) span seed (m0-e.late) [] (([]:List Int).length:Int) none none):=dN (by decide:7<10) rfl;show bc (c7 cs aj [some (ao ns),some (.int a),some e.d,some (.int span),none,none,none,none,none,none])=_;have p:c7 cs aj=az (aL [6] 4 (aq aj (ae (af 0) (ae (af 1) (ae (g2 Dt (gC (.int 10)) (gC (.int 9))) ah)))))
  (az (aL [6] 5 (g2 gy (g2 eJ (af 4) (g2 ba (g2 dIx (af 2) (gC (.int 0))) (gC (.int 2)))) (g2 dIx (af 2) (gC (.int 2)))))
  (az (eV [6] 6 ah) (az (aL [6] 7 (gC (.int 0))) (az (λδ=>bU crC crB 1000000 δ) (bh (af 6)))))):=rfl
 rw[p];rw[aN,j];simp only;rw[aN,l];simp only;rw[aN,m];simp only;rw[aN,o];simp only;rw[aN,i];rfl
def bR (cs:Cs):Gf:=gfG 4 0 (eI cs (bq cs))
theorem rg (cs:Cs):LLq (eI cs (bq cs)) 4 0 (bR cs):=jJ
theorem CY:∀{es:List Er} {rows:List (List Int)},rows.length=es.length->(∀(i:Nat) (h:i<es.length) (h':i<rows.length),pH rows[i]/\hvE es[i] rows[i]=true)->Cms es rows
 |[],[],_,_=>.nil
 |[],_::_,h,_=>by cases h
 |_::_,[],h,_=>by cases h
 |e::es,r::rows,h,k=>by have k0:=k 0 (Nat.succ_pos _) (Nat.succ_pos _);refine .cons k0.1 k0.2 (CY (by simpa using h) λi h1 h2=>?_);exact k (i+1) (Nat.succ_lt_succ h1) (Nat.succ_lt_succ h2)
theorem IS (l6:es.length<=6) {a x1:Option PyData} {r:Ds}:fW (ae (gF b8 (ae (af 2) ah)) ah) (a::x1::some (aw es)::r)=.ok (bX 0 es.length):=by
 have b:=kh (j:=(es.length:Int)) (by omega) (by omega);rw[MT]at b;have hv:(ae (gF b8 (ae (af 2) ah)) ah) (a::x1::some (aw es)::r)=.ok [.int (es.length:Int)]:=by simp only[ay,aF,fI,ak,ar,Rs.ag,Iq,Rs.ai]
 rw[kg,hv,Rs.ag,b]
theorem xB (h:xV es) (ha:0<=a) (g:span<=10000):∃rows,bR cs [ao ns,.int a,aw es,.int span]=.ok (cmD rows)/\Cms es rows:=by
 have j:∀i:Nat,∃row,i<es.length->bq cs [ao ns,.int (a+(i:Int)),(aS es (i:Int)).d,.int span]=.ok (df row)/\pH row/\hvE (aS es (i:Int)) row=true:=λi=>by
  by_cases z:i<es.length
  ·obtain⟨row,h1⟩:=rm (cs:=cs) (h.ok _ (bV (n:=(i:Int)) (by omega) (by omega))) (ns:=ns) (a:=a+(i:Int)) (span:=span) (by omega) g;exact⟨row,λ_=>h1⟩
  ·exact⟨[],λy=>(z y).elim⟩
 obtain⟨F,c⟩:=Classical.axiomOfChoice j;have l6:=h.l6;refine⟨(List.range es.length).map F,?_,CY (by simp) λi h1 h2=>?_⟩
 ·have m:a8 4 (fW (ae (gF b8 (ae (af 2) ah)) ah)) bA (aq (bq cs) (ae (af 0) (ae (g2 ba (af 1) (af 4)) (ae (g2 dIx (af 2) (af 4)) (ae (af 3) ah))))) aI [some (ao ns),some (.int a),some (aw es),some (.int span)]=.ok ((bX 0 es.length).map λd=>df (F (deI d).toNat)):=by
   refine cu rfl ?_ (by rw[dk];omega) λd hd=>?_
   ·exact IS l6
   ·obtain⟨k,f,rfl⟩:=M9.mp hd;have b:=NC.mp f;have hn:(0:Int)+(k:Int)=(k:Int):=by omega
    have hd2:(deI (.int (k:Int))).toNat=k:=MT k;have a2:dIx (aw es) (.int (k:Int))=some (aS es (k:Int)).d:=ie (by omega) (by omega);rw[hn,hd2];simp only[MU,MS,bj,ay,aF,bK,ak,ar,Rs.ag,dW,a2,Rs.ai,(c k b).1]
  show bc (eI cs (bq cs) [some (ao ns),some (.int a),some (aw es),some (.int span)])=_;unfold eI;simp only[bW,n5,m,Rs.ag,av,aU];unfold cmD bX;rw[MF,MF];refine congrArg (λl=>Rs.ok (PyData.list l)) (MH λk f=>?_);show df (F (deI (.int (0+(k:Int)))).toNat)=df (F k);rw[show (0:Int)+(k:Int)=(k:Int) by omega,show (deI (.int (k:Int))).toNat=k from MT k]
 ·have e:=jF (es:=es) (n:=(i:Int)) (by omega) (by omega);rw[MT,M1 h1]at e;have o:es[i]=aS es (i:Int):=Option.some.inj e;have:=(c i h1).2;rw[Oy,List.getElem_range,o];exact this
theorem vi {xs:List α} {k:Nat} {v:α} (h:xs[k]?=some v):atI xs (k:Int)=some v:=uC (N2 k) (by rw[MT];exact h)
def cn (js:List Jb):PyData:=cmD (js.map (·.row))
structure Sx (js:List Jb):Prop where
 num:∀(i:Nat) (h:i<js.length),js[i].num=(i:Int)
 row:∀j∈js,j.row.length<=1000
 wk:∀j∈js,j.work<=1000
section
variable {S E R D:PyData}
theorem EW (h:i<js.length):dIx (cn js) (.int (i:Int))=some (df js[i].row):=vi (by rw[MA,MA,M1 h];rfl)
theorem zE (h:i<js.length):dIx (.list ((js.map Jb.tot).map PyData.int)) (.int (i:Int))=some (.int js[i].tot):=vi (by rw[MA,MA,M1 h];rfl)
theorem AN (i:Int):fo (.int i)=true:=rfl
theorem xG {b:Int} (h0:0<=b) (h1:b<=1000):b0 (.int a) (.int b)=some (.int (a*b)):=xT (by omega) (by omega)
theorem iK {f:PyData->PyData->Option PyData} {a b:Ds->Rs PyData} {x y z:PyData} (ha:a δ=.ok x) (c:b δ=.ok y) (e:f x y=some z):g2 f a b δ=.ok z:=by rw[bK,ha,Rs.ag,c,Rs.ag,e];rfl
end
def sL (k:Nat) (l:List PyData):List PyData:=l.mapIdx λi d=>.tuple [.int ((k+i:Nat):Int),d]
theorem ke {body:Ds->Sr} {d:PyData} {r:List PyData} {a b:Ds} (h1:tgt d δ=some a) (h2:body a=.nx b):forL tgt body (d::r) δ=forL tgt body r b:=by rw[forL,h1];simp only[h2]
theorem p6 (k:Nat) (d:PyData) (r:List PyData):sL k (d::r)=.tuple [.int (k:Int),d]::sL (k+1) r:=by
 unfold sL;rw[Ox];have a:(λ(i:Nat) (d:PyData)=>PyData.tuple [.int ((k+(i+1):Nat):Int),d])=λi d=>.tuple [.int ((k+1+i:Nat):Int),d]:=by funext i d;rw[show k+(i+1)=k+1+i by omega]
 rw[a];rfl
theorem Bk (h:ks.map eK=js.map eK):cn ks=cn js:=by have:=congrArg (List.map λx=>x.2.2) h;rw[MF,MF]at this;exact congrArg cmD this
theorem wq (h:ks.map eK=js.map eK):ks.length=js.length:=by
 have:=congrArg List.length h
 rwa[M3,M3]at this
theorem Fe (h:ks.map eK=js.map eK) (s:Sx js):Sx ks:=by
 have hl:=wq h;have hm:∀k∈ks,∃j∈js,eK j=eK k:=λk a=>by have:eK k∈ks.map eK:=M9.mpr ⟨k,a,rfl⟩;rw[h]at this;exact M9.mp this
 refine⟨λi hi=>?_,λk a=>?_,λk a=>?_⟩
 ·have e:(ks.map eK)[i]?=(js.map eK)[i]?:=by rw[h]
  rw[MA,MA,M1 hi,M1 (hl▸hi)]at e;have e2:eK ks[i]=eK (js[i]'(hl▸hi)):=Option.some.inj e;have:=congrArg (·.1) e2;exact this.trans (s.num i (hl▸hi))
 ·obtain⟨j,b,e⟩:=hm k a;have e2:j.row=k.row:=congrArg (·.2.2) e;rw[<-e2];exact s.row j b
 ·obtain⟨j,b,e⟩:=hm k a;have e2:j.parts=k.parts:=congrArg (·.2.1) e;have:=s.wk j b;unfold Jb.work at this ⊢;rw[<-e2];exact this
theorem uo {lt:Nat->Nat->Bool} (a:∀i,lt i i=false) (b:∀i j k,lt i j=true->lt j k=true->lt i k=true):∀(n i:Nat),i<=n->lt i (bst lt n)=false
 |0,i,h=>by
  have:i=0:=by omega
  rw[this];exact a 0
 |n+1,i,h=>by
  unfold bst;cases q:lt (n+1) (bst lt n) with
  |true =>
   rw[if_pos rfl];by_cases z:i=n+1
   ·rw[z];exact a _
   ·have c:=uo a b n i (by omega);cases y:lt i (n+1) with
    |false=>rfl
    |true=>rw[b _ _ _ y q]at c;cases c
  |false =>
   rw[if_neg MG];by_cases z:i=n+1
   ·rw[z];exact q
   ·exact uo a b n i (by omega)
theorem Jq (d:PyData):ltD d d=false:=by
 have h:∀l:List Int,HT.lexLt l l=false:=λl=>by
  induction l with
  |nil=>rfl
  |cons a r ih=>show (if a=a then HT.lexLt r r else _)=false;rw[if_pos rfl,ih]
 unfold ltD;split
 ·rename_i e1 e2;rw[e1]at e2;cases e2;exact h _
 ·rfl
theorem EL:∀a b c:List Int,HT.lexLt a b=true->HT.lexLt b c=true->HT.lexLt a c=true
 |[],[],_,h,_=>by cases h
 |[],_::_,[],_,h=>by cases h
 |[],_::_,_::_,_,_=>rfl
 |_::_,[],_,h,_=>by cases h
 |_::_,_::_,[],_,h=>by cases h
 |x::a,y::b,z::c,h1,h2=>by
  have h1:(if x=y then HT.lexLt a b else decide (x<y))=true:=h1;have h2:(if y=z then HT.lexLt b c else decide (y<z))=true:=h2;show (if x=z then HT.lexLt a c else decide (x<z))=true;by_cases e1:x=y
  ·rw[if_pos e1]at h1;by_cases e2:y=z
   ·rw[if_pos e2]at h2;rw[if_pos (e1.trans e2)];exact EL a b c h1 h2
   ·rw[if_neg e2]at h2;rw[if_neg (λq=>e2 (e1.symm.trans q)),e1];exact h2
  ·rw[if_neg e1]at h1;have l1:=of_decide_eq_true h1;by_cases e2:y=z
   ·rw[if_neg (λq=>e1 (q.trans e2.symm)),<-e2];exact h1
   ·rw[if_neg e2]at h2;have l2:=of_decide_eq_true h2;rw[if_neg (by omega)];exact decide_eq_true (by omega)
theorem Ir (a b c:PyData) (h1:ltD a b=true) (h2:ltD b c=true):ltD a c=true:=by
 unfold ltD at h1 h2 ⊢;cases ka:kK a with
 |none=>rw[ka]at h1;cases h1
 |some p =>
  cases kb:kK b with
  |none=>rw[ka,kb]at h1;cases h1
  |some q =>
   cases kc:kK c with
   |none=>rw[kb,kc]at h2;cases h2
   |some r =>rw[ka,kb]at h1;rw[kb,kc]at h2;exact EL _ _ _ h1 h2
theorem Ba {key:Jb->PyData} (c:js≠[]) (e:j∈js):ltD (key j) (key (iy key js))=false:=by
 have hl:0<js.length:=Nt.mpr c;have hm:=uo (lt:=λi j=>ltD ((js.map key).getD i .none) ((js.map key).getD j .none)) (λi=>Jq _) (λi j k=>Ir _ _ _) (js.length-1);have hb:=pR (λi j=>ltD ((js.map key).getD i .none) ((js.map key).getD j .none)) (js.length-1);obtain⟨i,hi,rfl⟩:=List.getElem_of_mem e;have h1:=hm i (by omega);have b:jo (js.map key)=bst (λi j=>ltD ((js.map key).getD i .none) ((js.map key).getD j .none)) (js.length-1):=by unfold jo;rw[M3]
 have a:jo (js.map key)<js.length:=by rw[b];omega
 have e1:(js.map key).getD i .none=key js[i]:=by rw[MK,MA,M1 hi];rfl
 have e2:(js.map key).getD (jo (js.map key)) .none=key (iy key js):=by unfold iy;rw[MK,MA,M1 a,MK,M1 a];rfl
 rw[<-b]at h1;rw[e1,e2]at h1;exact h1
theorem FZ (a b c d:Int):ltD (.tuple [.int a,.int b]) (.tuple [.int c,.int d])=if a=c then (if b=d then false else decide (b<d)) else decide (a<c):=rfl
theorem tj (h:j.held=none):tY tops j=.tuple [.int j.rank,.int 1]:=by unfold tY;rw[h]
theorem Bh (j:Jb):j.next.rank=j.rank:=by unfold Jb.next Jb.step1 Jb.step2;split <;> split <;> rfl
section
end
theorem ft {f:Gf} {a:Ds->Rs (List PyData)} {d:PyData} (ha:a δ=.ok ds) (b:f ds=.ok d):aq f a δ=.ok d:=by rw[bj,ha,Rs.ag,b]
theorem eF {a b:Ds->Sr} {c:Ds} (h:a δ=.nx c):az a b δ=b c:=by rw[aN,h]
theorem tL {body:Ds->Sr} (h:src (mask O δ)=.ok ds):fA O src tgt body δ=forL tgt body ds δ:=by rw[kU,h,av]
theorem Jd {g:Ds->Rs (List PyData)} (hi:i<δ.length) (a:g (mask O δ)=.ok ds):eV O i g δ=.nx (δ.set i (some (.list ds))):=by unfold eV;rw[if_pos hi,a,av]
theorem Cms.sorted (h:Cms es rows) (ok:∀e∈es,e.Ok):∀r∈rows,r.Pairwise (· < ·):=by
 induction h with
 |nil=>intro r a;cases a
 |cons a hv _ ih =>
  intro b h';rcases M7.mp h' with rfl|h'
  ·have o:=ok _ M6;exact (sy o.l3 o.l1 _ _ hv).2
  ·exact ih (λe c=>ok e (M4 _ c)) b h'
section
variable {len:Str}
theorem pJ (h:i<(startJ es rs rows).length):∃row,(startJ es rs rows)[i]=mkJ es rs i row:=by
 have e:=nk (es:=es) (rs:=rs) (rows:=rows) i;rw[M1 h]at e;cases q:rows[i]? with
 |none=>rw[q]at e;cases e
 |some row=>rw[q]at e;exact⟨row,Option.some.inj e⟩
theorem xp (hl:rows.length=es.length):(startJ es rs rows).map Jb.tot=es.map λ_=>0 :=
 Oa (by rw[M3,M3,eC,hl]) (λi h1 h2=>by
  have a:i<(startJ es rs rows).length:=by rwa[M3]at h1
  obtain⟨row,e⟩:=pJ a;rw[Oy,Oy,e];exact mF i _)
theorem DO (R:Ran es rs rows len) (C:Cms es rows):IvJ (aZ es rs) ((([]:List PyData).length:Nat):Int) (startJ es rs rows):=by
 refine⟨lg R.eok R.rok R.ln,λj a=>?_,λj a=>?_⟩
 ·obtain⟨k,row,_,hm,_,rfl⟩:=dF a;exact C.sorted R.eok.ok row hm
 ·have hw:=vt ((lg R.eok R.rok R.ln).ok j a);obtain⟨k,row,_,hm,_,rfl⟩:=dF a;unfold fY;rw[mF];have:=Of (N2 (iI (mkJ es rs k row).row ((([]:List PyData).length:Nat):Int))) (show 0<=(mkJ es rs k row).work by omega);omega
theorem CM (R:Ran es rs rows len) (C:Cms es rows):Sx (startJ es rs rows):=by
 refine⟨λi hi=>?_,λj a=>?_,λj a=>?_⟩
 ·obtain⟨row,e⟩:=pJ hi;rw[e];rfl
 ·obtain⟨k,row,_,hm,_,rfl⟩:=dF a;have:=(C.rR row hm).few;show row.length<=1000;omega
 ·obtain⟨k,row,hk,hm,_,rfl⟩:=dF a;have ok:=R.eok.ok _ (bV (n:=(k:Int)) (by omega) (by have:=R.ln;omega));have h1:=uc λp b=>(ok.pl p b).2.1
  have h2:=ok.p2;show cV (aS es (k:Int)).parts<=1000;omega
end
theorem Fl:PySem.SeqAt.shaped (.str "none")=true:=by decide +kernel
def mK (js:List Jb):Prop:=∀j∈js,∀p∈j.parts,p.2=none
theorem zJ (h:∀p∈j.parts,p.2=none):j.tool=none:=by
 unfold Jb.tool;cases q:j.parts[j.part]? with
 |none=>rfl
 |some p=>exact h p (N0 q)
theorem Av (h:∀p∈j.parts,p.2=none):j.held=none:=by unfold Jb.held;rw[zJ h];split <;> rfl
theorem sQ (h:∀p∈j.parts,p.2=none):j.wanted=none:=by unfold Jb.wanted;rw[zJ h];split <;> rfl
theorem GB (h:mK ts):ts.filter (jq js)=ts:=by
 refine List.filter_eq_self.mpr λj a=>?_
 unfold jq;rw[sQ (h j a)];rfl
theorem zP {js:List Jb}:∀{ts:List Jb},mK ts->ts.foldl (lS js) []=[]
 |[],_=>rfl
 |j::r,h=>by
  rw[NI];have e:lS js [] j=[]:=by unfold lS;rw[sQ (h j M6)];rfl
  rw[e];exact zP λk a=>h k (M4 _ a)
def GV (j:Jb):PyData:=.int j.rank
theorem lt_int (a b:Int):ltD (.int a) (.int b)=decide (a<b):=by
 show HT.lexLt [a] [b]=_;unfold HT.lexLt;by_cases h:a=b
 ·subst h;simp[HT.lexLt]
 ·simp[h]
theorem u6 {lt lt':Nat->Nat->Bool}:∀n,(∀i j,i<=n->j<=n->lt i j=lt' i j)->bst lt n=bst lt' n
 |0,_=>rfl
 |n+1,h=>by
  have c:=u6 n λi j a b=>h i j (by omega) (by omega)
  have hb:=pR lt' n;unfold bst;rw[c,h (n+1) (bst lt' n) (by omega) (by omega)]
theorem si {k1 k2:Jb->PyData} (h:∀a∈js,∀b∈js,ltD (k1 a) (k1 b)=ltD (k2 a) (k2 b)):iy k1 js=iy k2 js:=by
 cases js with
 |nil=>rfl
 |cons x r =>
  unfold iy jo;rw[M3,M3];congr 1;refine u6 _ λi j hi f=>?_
  have c:i<(x::r).length:=by rw[MC]at hi ⊢;omega
  have e:j<(x::r).length:=by rw[MC]at f ⊢;omega
  have g:∀(k:Jb->PyData) (m:Nat) (hm:m<(x::r).length),((x::r).map k).getD m .none=k (x::r)[m]:=λk m hm=>by rw[MK,MA,M1 hm];rfl
  show ltD _ _=ltD _ _;rw[g k1 i c,g k1 j e,g k2 i c,g k2 j e];exact h _ (MZ c) _ (MZ e)
theorem uN {len:Str} (h:mK ts):jX tops len ts=iy GV ts:=by
 unfold jX;split
 ·refine si λa ha b c=>?_
  rw[tj (Av (h a ha)),tj (Av (h b c)),FZ];unfold GV;rw[lt_int];by_cases q:a.rank=b.rank
  ·rw[if_pos q,if_pos rfl,q,decide_eq_false (Int.lt_irrefl _)]
  ·rw[if_neg q]
 ·rw[GB h];refine si λa ha b c=>?_
  have e:(if (len==("asked":Str))=true then vp ts else [])=[]:=by
   split
   ·exact zP h
   ·rfl
  rw[e];rfl
theorem zO (h:∀p∈j.parts,p.2=none):∀p∈j.next.parts,p.2=none:=by rw[kI];exact h
theorem qK (h:mK js):mK (dB told js):=λj a=>h j (MV.mp a).1
theorem Gj {len:Str} (h:mK js):mK (eE tops len (js,told)).1:=by
 by_cases z:dB told js=[]
 ·rw[kf z];exact h
 ·obtain⟨b,c,_,e⟩:=ml (tops:=tops) (len:=len) z;rw[e];intro j a;rcases iN c a with a|rfl
  ·exact h j a
  ·exact zO (h b c)
theorem vV {len len':Str} (h:mK js):eE tops len (js,told)=eE tops len' (js,told):=by unfold eE;rw[uN (qK h),uN (qK h)]
theorem kZ {tops:PyData} {len len':Str}:∀(n:Nat) (js:List Jb) (told:List PyData),mK js->pW tops len n (js,told)=pW tops len' n (js,told)
 |0,_,_,_=>rfl
 |n+1,js,told,h=>by unfold pW;rw[<-vV (len:=len) (len':=len') h];exact ite_congr rfl (λ_=>rfl) λ_=>kZ n _ _ (Gj h)
theorem sF (hl:rows.length=es.length) (h:∀e∈es,∀p∈e.parts,p.2=none):mK (startJ es rs rows):=by intro j a;obtain⟨k,row,hk,_,_,rfl⟩:=dF a;exact h _ (bV (N2 k) (by omega))
theorem Bo {len:Str} (h:mK ts) (a:ts≠[]) (b:j∈ts):(jX tops len ts).rank<=j.rank:=by rw[uN h];have:ltD (.int j.rank) (.int (iy GV ts).rank)=false:=Ba (key:=GV) a b;rw[lt_int]at this;have:=of_decide_eq_false this;omega
theorem xN {len:Str} (h:mK js) (z:dB told js≠[]):∃b,b∈js/\b.there (told.length:Int)=true/\eE tops len (js,told)=(dO b js,told++[eY b])/\∀j∈js,j.rank<b.rank->j.there (told.length:Int)=false:=by
 have hm:=mr (tops:=tops) (len:=len) z;refine⟨jX tops len (dB told js),(MV.mp hm).1,(MV.mp hm).2,?_,λj a hr=>?_⟩
 ·unfold eE;rw[if_neg z]
 ·cases e:j.there (told.length:Int) with
  |false=>rfl
  |true =>have:=Bo (tops:=tops) (len:=len) (qK h) z (MV.mpr ⟨a,e⟩);omega
def ndD (S E R C D:PyData) (sp:List Int) (x6 x7 x8 x9 x10 x11 x12:Option PyData):Ds:=[some S,some E,some R,some C,some D,some (.list (sp.map PyData.int)),x6,x7,x8,x9,x10,x11,x12]
def inB:Ds->Sr:=(az (aL [5] 9 (gF qQ (ae (gL (a8 13 (bG (g2 dIx (g2 dIx (af 1) (af 8)) (gC (.int 3)))) bA (g2 dIx (af 13) (gC (.int 0))) aI)) ah)))
 (sIf (gT (g2 dGt (g2 b0 (gF b8 (ae (gL (a8 13 (bG (g2 dIx (af 3) (af 8))) (gT (g2 dLe (af 13) (af 6))) (af 13) aI)) ah)) (af 9)) (g2 dIx (af 5) (af 8)))) (bh (gC (.bool false))) aY))
def nbB:Ds->Sr:=(sIf (gT (g1 iu (af 7))) (az (fA [5] (bG (hV (af 2) fN (jV (kW (af 2) (g2 dIx (af 7) (gC (.int 0))))))) (bw 8) inB)
 (q9 5 (g2 dIx (af 7) (gC (.int 0))) (g2 ba (g2 dIx (af 5) (g2 dIx (af 7) (gC (.int 0)))) (gC (.int 1))))) aY)
section
variable {S R D:PyData}
theorem G6 (h:i<js.length) (o:JOk tops js[i]) (m:Sx js) (a:dIx (aw es) (.int (i:Int))=some (Er.d ⟨0,0,0,js[i].parts⟩)\/∃e:Er,e.parts=js[i].parts/\e.parts.length<=4/\dIx (aw es) (.int (i:Int))=some e.d) (b:js[i].parts.length<=4) (q:fY t js[i]=0) {x10:Option PyData} :
  inB (ndD S (aw es) R (cn js) D (js.map Jb.tot) (some (.int t)) x7 (some (.int (i:Int))) x9 x10 x11 x12)=.nx (ndD S (aw es) R (cn js) D (js.map Jb.tot) (some (.int t)) x7 (some (.int (i:Int))) (some (.int js[i].work)) x10 x11 x12):=by
 obtain⟨e,f,hel,g⟩:∃e:Er,e.parts=js[i].parts/\e.parts.length<=4/\dIx (aw es) (.int (i:Int))=some e.d:=by
  rcases a with a|a
  ·exact⟨_,rfl,b,a⟩
  ·exact a
 have hm:=MZ h;have hrow:=m.row _ hm;have j:=m.wk _ hm;have hw0:=vt o;have r:dIx e.d (.int 3)=some (.tuple (e.parts.map aJ)):=rfl;have h2:a8 13 (bG (g2 dIx (g2 dIx (af 1) (af 8)) (gC (.int 3)))) bA (g2 dIx (af 13) (gC (.int 0))) aI [some S,some (aw es),some R,some (cn js),some D,none,some (.int t),x7,some (.int (i:Int)),x9,x10,x11,x12]=.ok ((e.parts.map aJ).map λd=>.int (bO d).1):=by
  refine cu rfl ?_ (by rw[M3];omega) λd hd=>?_
  ·simp only[mR,bK,cF,ak,ar,Rs.ag,g,r,Rs.ai,uv]
  ·obtain⟨p,_,rfl⟩:=M9.mp hd;rw[fm];rfl
 have n:=wK (λd=>(bO d).1) (e.parts.map aJ);have s:((e.parts.map aJ).map λd=>(bO d).1).sum=js[i].work:=by unfold Jb.work cV;rw[MF,<-f];refine congrArg List.sum (MH λp _=>?_);show (bO (aJ p)).1=p.1;rw[fm]
 rw[s]at n;have u:aL [5] 9 (gF qQ (ae (gL (a8 13 (bG (g2 dIx (g2 dIx (af 1) (af 8)) (gC (.int 3)))) bA (g2 dIx (af 13) (gC (.int 0))) aI)) ah)) (ndD S (aw es) R (cn js) D (js.map Jb.tot) (some (.int t)) x7 (some (.int (i:Int))) x9 x10 x11 x12)=.nx (ndD S (aw es) R (cn js) D (js.map Jb.tot) (some (.int t)) x7 (some (.int (i:Int))) (some (.int js[i].work)) x10 x11 x12):=by refine dN (by decide:9<13) ?_;show gF qQ (ae (gL (a8 13 (bG (g2 dIx (g2 dIx (af 1) (af 8)) (gC (.int 3)))) bA (g2 dIx (af 13) (gC (.int 0))) aI)) ah) [some S,some (aw es),some R,some (cn js),some D,none,some (.int t),x7,some (.int (i:Int)),x9,x10,x11,x12]=_;simp only[fI,ay,aF,n5,h2,Rs.ag,n,Rs.ai]
 have hc:a8 13 (bG (g2 dIx (af 3) (af 8))) (gT (g2 dLe (af 13) (af 6))) (af 13) aI (ndD S (aw es) R (cn js) D (js.map Jb.tot) (some (.int t)) x7 (some (.int (i:Int))) (some (.int js[i].work)) x10 x11 x12)=.ok ((js[i].row.map PyData.int).filter λd=>decide (deI d<=t)):=by
  refine lU rfl ?_ (by rw[M3];omega) λd hd=>?_
  ·unfold ndD;simp only[mR,bK,ak,ar,Rs.ag,EW h,Rs.ai];rfl
  ·obtain⟨c,_,rfl⟩:=M9.mp hd;refine⟨?_,rfl⟩;unfold ndD;simp only[MU,MS,dH,bK,ak,ar,Rs.ag,J7,Rs.ai,aX];rfl
 have hl:((js[i].row.map PyData.int).filter λd=>decide (deI d<=t)).length=iI js[i].row t:=by rw[List.filter_map,M3];rfl
 have hmul:b0 (.int (iI js[i].row t:Int)) (.int js[i].work)=some (.int ((iI js[i].row t:Int)*js[i].work)):=xG (by omega) j;have l:gF b8 (ae (gL (a8 13 (bG (g2 dIx (af 3) (af 8))) (gT (g2 dLe (af 13) (af 6))) (af 13) aI)) ah) (ndD S (aw es) R (cn js) D (js.map Jb.tot) (some (.int t)) x7 (some (.int (i:Int))) (some (.int js[i].work)) x10 x11 x12)=.ok (.int (iI js[i].row t:Int)):=by simp only[fI,ay,aF,n5,hc,Rs.ag,jE,hl,Rs.ai]
 have v:g2 dGt (g2 b0 (gF b8 (ae (gL (a8 13 (bG (g2 dIx (af 3) (af 8))) (gT (g2 dLe (af 13) (af 6))) (af 13) aI)) ah)) (af 9)) (g2 dIx (af 5) (af 8)) (ndD S (aw es) R (cn js) D (js.map Jb.tot) (some (.int t)) x7 (some (.int (i:Int))) (some (.int js[i].work)) x10 x11 x12)=.ok (.bool false):=by have d2:decide (js[i].tot<(iI js[i].row t:Int)*js[i].work)=false:=decide_eq_false (by unfold fY at q;omega);refine iK (iK l (y:=.int js[i].work) rfl hmul) (iK rfl rfl (zE h)) ?_;rw[Fq,d2]
 unfold inB;rw[eF u,cJ,dH,v,Rs.ag,aX,av];rfl
theorem zM {tops:PyData} {t:Int} (f:Sx js) (hE:∀(i:Nat) (h:i<js.length),JOk tops js[i]/\js[i].parts.length<=4/\∃e:Er,e.parts=js[i].parts/\e.parts.length<=4/\dIx (aw es) (.int (i:Int))=some e.d) {x7 x10 x11 x12:Option PyData}:∀(g:List Int) (x8 x9:Option PyData),(∀m∈g,∃(i:Nat) (h:i<js.length),m=(i:Int)/\fY t js[i]=0) ->
  ∃a b,forL (bw 8) inB (g.map PyData.int) (ndD S (aw es) R (cn js) D (js.map Jb.tot) (some (.int t)) x7 x8 x9 x10 x11 x12)=.nx (ndD S (aw es) R (cn js) D (js.map Jb.tot) (some (.int t)) x7 a b x10 x11 x12)
 |[],x8,x9,_=>⟨x8,x9,rfl⟩
 |m::r,x8,x9,hm=>by
  obtain⟨i,hi,rfl,j⟩:=hm m M6;obtain⟨ok,pl,l⟩:=hE i hi;obtain⟨a,b,e⟩:=zM f hE (x7:=x7) (x10:=x10) (x11:=x11) (x12:=x12) r (some (.int (i:Int))) (some (.int js[i].work)) λm c=>hm m (M4 _ c)
  refine⟨a,b,?_⟩;rw[M5];exact (ke rfl (G6 hi ok f (.inr l) pl j)).trans e
end
theorem yf {p:Nat} {m:Int} (h:m∈rs.take p):placeOf rs m<p:=by have e:placeOf (rs.take p++rs.drop p) m=placeOf (rs.take p) m:=yj h;rw[List.take_append_drop]at e;have h1:=yp h;rw[NO]at h1;omega
structure NdI (es:List Er) (rs:List Int) (js:List Jb):Prop where
 ln:js.length=es.length
 hE:∀(i:Nat) (h:i<js.length),js[i].parts.length<=4/\∃e:Er,e.parts=js[i].parts/\e.parts.length<=4/\dIx (aw es) (.int (i:Int))=some e.d
 rk:∀j∈js,j.rank=(placeOf rs j.num:Int)
 nt:mK js
theorem NdI.work {b:Jb} (h:NdI es rs js) (nd:(js.map (·.num)).Nodup) (c:b∈js):NdI es rs (dO b js):=by
 have f:=nh nd c;have hl:=wq f;refine⟨hl.trans h.ln,λi hi=>?_,λj a=>?_,λj a=>?_⟩
 ·have e:((dO b js).map eK)[i]?=(js.map eK)[i]?:=by rw[f]
  rw[MA,MA,M1 hi,M1 (hl▸hi)]at e;have e2:eK (dO b js)[i]=eK (js[i]'(hl▸hi)):=Option.some.inj e;have g:(dO b js)[i].parts=(js[i]'(hl▸hi)).parts:=congrArg (·.2.1) e2;rw[g];exact h.hE i (hl▸hi)
 ·rcases iN c a with a|rfl
  ·exact h.rk j a
  ·rw[Bh,pq];exact h.rk b c
 ·rcases iN c a with a|rfl
  ·exact h.nt j a
  ·exact zO (h.nt b c)
section
variable {S D:PyData} {x6 x8 x10:Option PyData}
theorem Fn {t:PyData} {sp:List Int} {C:PyData}:nbB (ndD S (aw es) (au rs) C D sp (some t) (some .none) x8 x9 x10 x11 x12)=.nx (ndD S (aw es) (au rs) C D sp (some t) (some .none) x8 x9 x10 x11 x12):=by unfold nbB ndD;simp only[cJ,dH,gx,ak,ar,Rs.ag,tq,qI,O7,Rs.ai,aX,av,MJ,if_false,eO]
theorem EZ {b:Jb} (B:cf js.length rs) (l:IvJ tops (told.length:Int) js) (t:Sx js) (u:NdI es rs js) (r:b∈js) (ht:b.there (told.length:Int)=true) (C:∀j∈js,j.rank<b.rank->j.there (told.length:Int)=false) :
  ∃c f,nbB (ndD S (aw es) (au rs) (cn js) D (js.map Jb.tot) (some (.int (told.length:Int))) (some (eY b)) x8 x9 x10 x11 x12)=.nx (ndD S (aw es) (au rs) (cn js) D ((dO b js).map Jb.tot) (some (.int (told.length:Int))) (some (eY b)) c f x10 x11 x12):=by
 obtain⟨i,hi,rfl⟩:=List.getElem_of_mem r;have hn:=t.num i hi;have s:=l.ok.ok _ r;have hw:=sf l.ok.nd r s i hi rfl;have n:(i:Int)∈rs:=B.mem (N2 i) (by omega);have v:=ig n;have w:eY js[i]=.tuple [.int (i:Int),.int (js[i].job:Int)]:=by unfold eY;rw[hn]
 rw[w,hw];have x:eN (.tuple [.int (i:Int),.int (js[i].job:Int)])=false:=rfl;have y:dIx (.tuple [.int (i:Int),.int (js[i].job:Int)]) (.int 0)=some (.int (i:Int)):=rfl;have src:bG (hV (af 2) fN (jV (kW (af 2) (g2 dIx (af 7) (gC (.int 0)))))) (mask [5] (ndD S (aw es) (au rs) (cn js) D (js.map Jb.tot) (some (.int (told.length:Int))) (some (.tuple [.int (i:Int),.int (js[i].job:Int)])) x8 x9 x10 x11 x12))=.ok ((rs.take (placeOf rs (i:Int))).map PyData.int):=by show bG (hV (af 2) fN (jV (kW (af 2) (g2 dIx (af 7) (gC (.int 0)))))) [some S,some (aw es),some (au rs),some (cn js),some D,none,some (.int (told.length:Int)),some (.tuple [.int (i:Int),.int (js[i].job:Int)]),x8,x9,x10,x11,x12]=_;simp only[mR,pT,ud,mG,ue,bK,cF,ak,ar,Rs.ag,y,au,v,Rs.ai,tF,yT,uv];rw[Ek,List.map_take]
 have z:∀m∈rs.take (placeOf rs (i:Int)),∃(k:Nat) (h:k<js.length),m=(k:Int)/\fY (told.length:Int) js[k]=0:=λm hm=>by
  have hm':=B.rng m (Nj hm);have g:m.toNat<js.length:=by omega
  have a:=MZ g;have A:=t.num m.toNat g;refine⟨m.toNat,g,by omega,Dk (l.ok.ok _ a) (l.srt _ a) (l.low _ a) (C _ a ?_)⟩;rw[u.rk _ a,u.rk _ r,A,hn,show ((m.toNat:Nat):Int)=m by omega];have:=yf hm;omega
 obtain⟨c,f,e⟩:=zM (S:=S) (R:=au rs) (D:=D) (es:=es) t (λk s=>⟨l.ok.ok _ (MZ s),u.hE k s⟩) (x7:=some (.tuple [.int (i:Int),.int (js[i].job:Int)])) (x10:=x10) (x11:=x11) (x12:=x12) (rs.take (placeOf rs (i:Int))) x8 x9 z;refine⟨c,f,?_⟩;have o:g2 ba (g2 dIx (af 5) (g2 dIx (af 7) (gC (.int 0)))) (gC (.int 1)) (ndD S (aw es) (au rs) (cn js) D (js.map Jb.tot) (some (.int (told.length:Int))) (some (.tuple [.int (i:Int),.int (js[i].job:Int)])) c f x10 x11 x12)=.ok (.int (js[i].tot+1)) :=
  iK (iK rfl (iK rfl rfl y) (zE hi)) rfl rfl
 have p:g2 dIx (af 7) (gC (.int 0)) (ndD S (aw es) (au rs) (cn js) D (js.map Jb.tot) (some (.int (told.length:Int))) (some (.tuple [.int (i:Int),.int (js[i].job:Int)])) c f x10 x11 x12)=.ok (.int (i:Int)):=iK rfl rfl y;have q:ixN ((js.map Jb.tot).map PyData.int).length (i:Int)=some i:=by unfold ixN;rw[if_pos (N2 i),if_pos (by rw[M3,M3];omega),MT]
 have sp:q9 5 (g2 dIx (af 7) (gC (.int 0))) (g2 ba (g2 dIx (af 5) (g2 dIx (af 7) (gC (.int 0)))) (gC (.int 1))) (ndD S (aw es) (au rs) (cn js) D (js.map Jb.tot) (some (.int (told.length:Int))) (some (.tuple [.int (i:Int),.int (js[i].job:Int)])) c f x10 x11 x12)=.nx (ndD S (aw es) (au rs) (cn js) D ((js.map Jb.tot).set i (js[i].tot+1)) (some (.int (told.length:Int))) (some (.tuple [.int (i:Int),.int (js[i].job:Int)])) c f x10 x11 x12):=by
  generalize hδ:ndD S (aw es) (au rs) (cn js) D (js.map Jb.tot) (some (.int (told.length:Int))) (some (.tuple [.int (i:Int),.int (js[i].job:Int)])) c f x10 x11 x12=δ at o p;have E:δ[5]?=some (some (.list ((js.map Jb.tot).map PyData.int))):=by rw[<-hδ];rfl
  unfold q9;rw[E];simp only[o,p,av,q,AN,if_true];rw[<-hδ];unfold ndD;rw[List.map_set];rfl
 have F:gT (g1 iu (af 7)) (ndD S (aw es) (au rs) (cn js) D (js.map Jb.tot) (some (.int (told.length:Int))) (some (.tuple [.int (i:Int),.int (js[i].job:Int)])) x8 x9 x10 x11 x12)=.ok true:=by unfold ndD;simp only[dH,gx,ak,ar,Rs.ag,tq,x,O2,Rs.ai,aX]
 unfold nbB;rw[cJ,F,av,if_pos rfl,eF ((tL src).trans e)];exact sp
end
theorem tG {tops:PyData} {len:Str} {es:List Er} {rs:List Int} {S D:PyData} {x10 x11 x12:Option PyData} (g:cf es.length rs):∀(n:Nat) (js:List Jb) (told out:List PyData),pW tops len n (js,told)=some out->IvJ tops (told.length:Int) js->Sx js->NdI es rs js ->
  ∃rest a,out=told++rest/\(∀d∈rest,d=.none\/∃b,d=eY b) /\
   ∀x6 x7 x8 x9,∃t u i j,forL (fZ [6,7]) nbB (sL told.length rest) (ndD S (aw es) (au rs) (cn js) D (js.map Jb.tot) x6 x7 x8 x9 x10 x11 x12)=.nx (ndD S (aw es) (au rs) (cn js) D ((a:List Jb).map Jb.tot) t u i j x10 x11 x12)
 |0,_,_,_,h,_,_,_=>by cases h
 |n+1,js,told,out,h,iv,sx,ni=>by
  unfold pW at h;by_cases z:js.all Jb.done=true
  ·rw[if_pos (show (js,told).1.all Jb.done=true from z)]at h;cases h;exact⟨[],js,(N4 _).symm,λd hd=>(nomatch hd),λx6 x7 x8 x9=>⟨x6,x7,x8,x9,rfl⟩⟩
  ·rw[if_neg (show ¬ ((js,told).1.all Jb.done=true) from z)]at h;have c:=Gh (len:=len) iv;by_cases y:dB told js=[]
   ·rw[kf y]at h c;obtain⟨rest,a,e1,e2,l⟩:=tG (S:=S) (D:=D) (x10:=x10) (x11:=x11) (x12:=x12) g n js (told++[.none]) out h c sx ni;refine⟨.none::rest,a,by rw[e1,N6];rfl,λd hd=>?_,λx6 x7 x8 x9=>?_⟩
    ·rcases M7.mp hd with rfl|hd
     ·exact .inl rfl
     ·exact e2 d hd
    ·obtain⟨m,o,p,q,e⟩:=l (some (.int (told.length:Int))) (some .none) x8 x9;refine⟨m,o,p,q,?_⟩;rw[Mv,MR]at e;rw[p6];exact (ke rfl Fn).trans e
   ·obtain⟨b,r,v,s,w⟩:=xN (tops:=tops) (len:=len) ni.nt y;rw[s]at h c;have f:=nh iv.ok.nd r;obtain⟨rest,a,e1,e2,l⟩:=tG (S:=S) (D:=D) (x10:=x10) (x11:=x11) (x12:=x12) g n (dO b js) (told++[eY b]) out h c (Fe f sx) (ni.work iv.ok.nd r);refine⟨eY b::rest,a,by rw[e1,N6];rfl,λd hd=>?_,λx6 x7 x8 x9=>?_⟩
    ·rcases M7.mp hd with rfl|hd
     ·exact .inr ⟨b,rfl⟩
     ·exact e2 d hd
    ·obtain⟨i,j,x⟩:=EZ (S:=S) (D:=D) (x8:=x8) (x9:=x9) (x10:=x10) (x11:=x11) (x12:=x12) (by rw[ni.ln];exact g) iv sx ni r v w;obtain⟨m,o,p,q,e⟩:=l (some (.int (told.length:Int))) (some (eY b)) i j;refine⟨m,o,p,q,?_⟩;rw[Mv,MR,Bk f]at e;rw[p6];exact (ke rfl x).trans e
def f6 (cs:Cs):Ds->Sr :=
 (az (eV [2] 2 ah)
  (az (fA [2] (bG (af 0)) (fZ [3,4,5,6]) (gH [2] 2 (fD (ae (g2 b0 (af 3) (af 1)) (ae (g2 b0 (af 4) (af 1)) (ae (g2 b0 (af 5) (af 1)) (ae (gF fg (ae (gL (a8 7 (bG (af 6)) bA (fD (ae (g2 b0 (g2 dIx (af 7) (gC (.int 0))) (af 1)) (ae (gC .none) ah))) aI)) ah)) ah)))))))
  (bh (gF fg (ae (af 2) ah)))))
def z0 (cs:Cs) (en bE bI aj cY bR bT bp:Gf):Ds->Sr :=
 (az (aL [5] 1 (aq bp (ae (af 0) (ae (gC (.int 12)) (ae (gC (.int 4)) (ae (gC (.int 17)) (ae (gC (.bool false)) ah)))))))
  (az (aL [5] 2 (aq bT (ae (af 0) (ae (gC (.int 0)) (ae (gF b8 (ae (af 1) ah)) ah)))))
  (az (aL [5] 3 (aq bR (ae (af 0) (ae (gC (.int 5)) (ae (af 1) (ae (gC (.int 50)) ah))))))
  (az (aL [5] 4 (aq cY (ae (af 1) (ae (af 2) (ae (af 3) (ae (gC (.str "high")) ah))))))
  (az (sIf (cOr (gT (g2 dNe (aq cY (ae (af 1) (ae (af 2) (ae (af 3) (ae (gC (.str "none")) ah))))) (af 4))) (gT (g2 dNe (aq cY (ae (af 1) (ae (af 2) (ae (af 3) (ae (gC (.str "asked")) ah))))) (af 4)))) (bh (gC (.bool false))) aY)
  (az (eV [5] 5 (a8 13 (bG (af 1)) bA (gC (.int 0)) aI))
  (az (fA [5] (iO (ae (af 4) ah)) (fZ [6,7]) (sIf (gT (g1 iu (af 7))) (az (fA [5] (bG (hV (af 2) fN (jV (kW (af 2) (g2 dIx (af 7) (gC (.int 0))))))) (bw 8) (az (aL [5] 9 (gF qQ (ae (gL (a8 13 (bG (g2 dIx (g2 dIx (af 1) (af 8)) (gC (.int 3)))) bA (g2 dIx (af 13) (gC (.int 0))) aI)) ah)))
  (sIf (gT (g2 dGt (g2 b0 (gF b8 (ae (gL (a8 13 (bG (g2 dIx (af 3) (af 8))) (gT (g2 dLe (af 13) (af 6))) (af 13) aI)) ah)) (af 9)) (g2 dIx (af 5) (af 8)))) (bh (gC (.bool false))) aY)))
  (q9 5 (g2 dIx (af 7) (gC (.int 0))) (g2 ba (g2 dIx (af 5) (g2 dIx (af 7) (gC (.int 0)))) (gC (.int 1))))) aY))
  (az (aL [5] 10 (g2 ba (gC (.int 2)) (aq aj (ae (af 0) (ae (gC (.int 10)) (ae (gC (.int 2)) ah))))))
  (az (fA [5] (fW (ae (gF b8 (ae (af 1) ah)) ah)) (bw 8) (az (aL [5] 11 (aq bI (ae (af 1) (ae (af 2) (ae (af 8) ah)))))
  (az (aL [5] 12 (af 11))
  (az (sIf (gT (g1 iu (af 11))) (aL [5] 12 (g2 b0 (af 11) (af 10))) aY)
  (sIf (cOr (gT (g2 dNe (aq en (ae (af 1) (ae (af 2) (ae (af 8) ah)))) (gC (.int 0)))) (gT (g2 dNe (aq bI (ae (aq bE (ae (af 1) (ae (af 10) ah))) (ae (af 2) (ae (af 8) ah)))) (af 12)))) (bh (gC (.bool false))) aY)))))
  (bh (gC (.bool true))))))))))))
theorem ku {d:PyData} (h:d=.none\/∃b,d=eY b):aG d=true/\d.depth<=2/\d.canLay0=true/\PyData.eqv d d=true:=by
 rcases h with rfl|⟨b,rfl⟩
 ·exact⟨rfl,by simp[PyData.depth],by simp[PyData.canLay0],by simp[PyData.eqv]⟩
 ·unfold eY;exact⟨rfl,by simp[PyData.depth,PyData.depthAll],by simp[PyData.canLay0,PyData.canLayAll0],by simp[PyData.eqv,PyData.eqvAll]⟩
theorem pk:∀{l:List PyData},(∀d∈l,d.depth<=2)->PyData.depthAll l<=2
 |[],_=>by simp[PyData.depthAll]
 |a::r,h=>by
  have h1:=h a M6;have h2:=pk λd hd=>h d (M4 _ hd)
  simp only[PyData.depthAll];omega
theorem u7:∀{l:List PyData},(∀d∈l,d.canLay0=true)->PyData.canLayAll0 l=true
 |[],_=>by simp[PyData.canLayAll0]
 |a::r,h=>by simp[PyData.canLayAll0,h a M6,u7 λd hd=>h d (M4 _ hd)]
theorem vq:∀{l:List PyData},(∀d∈l,PyData.eqv d d=true)->PyData.eqvAll l l=true
 |[],_=>by simp[PyData.eqvAll]
 |a::r,h=>by simp[PyData.eqvAll,h a M6,vq λd hd=>h d (M4 _ hd)]
theorem Fc {t:List PyData} (h:∀d∈t,d=.none\/∃b,d=eY b):dNe (.list t) (.list t)=some (.bool false):=by
 have hd:aG (.list t)=true:=eW λd hd=>(ku (h d hd)).1
 have h1:=pk λd hd=>(ku (h d hd)).2.1
 have h2:(PyData.list t).depth<=64:=by simp only[PyData.depth];omega
 have a:=u7 λd hd=>(ku (h d hd)).2.2.1
 have c:SeqAt.shaped (.list t)=true:=by simp[SeqAt.shaped,PyData.canLay0,a,h2]
 have e:=vq λd hd=>(ku (h d hd)).2.2.2
 unfold dNe;rw[hd,c];simp[PyData.eqv,e]
def bE (cs:Cs):Gf:=gfG 2 5 (f6 cs)
theorem vR (cs:Cs):LLq (f6 cs) 2 5 (bE cs):=jJ
def tkB:Ds->Sr:=(gH [2] 2 (fD (ae (g2 b0 (af 3) (af 1)) (ae (g2 b0 (af 4) (af 1)) (ae (g2 b0 (af 5) (af 1)) (ae (gF fg (ae (gL (a8 7 (bG (af 6)) bA (fD (ae (g2 b0 (g2 dIx (af 7) (gC (.int 0))) (af 1)) (ae (gC .none) ah))) aI)) ah)) ah))))))
section
variable {k:Int} {E:PyData}
theorem E4 (k0:0<=k) (k1:k<=1000) (hp:e.parts.length<=4) {acc:List PyData} (ha:acc.length<1000000) :
  tkB [some E,some (.int k),some (.list acc),some (.int e.every),some (.int e.due),some (.int e.late),some (.tuple (e.parts.map aJ))]=.nx [some E,some (.int k),some (.list (acc++[(e.tk k).d])),some (.int e.every),some (.int e.due),some (.int e.late),some (.tuple (e.parts.map aJ))]:=by
 have m:∀a:Int,b0 (.int a) (.int k)=some (.int (a*k)):=λa=>xG k0 k1
 have hc:a8 7 (bG (af 6)) bA (fD (ae (g2 b0 (g2 dIx (af 7) (gC (.int 0))) (af 1)) (ae (gC .none) ah))) aI [some E,some (.int k),none,some (.int e.every),some (.int e.due),some (.int e.late),some (.tuple (e.parts.map aJ))]=.ok ((e.parts.map aJ).map λd=>.tuple [.int ((bO d).1*k),.none]):=by
  refine cu rfl rfl (by rw[M3];omega) λd hd=>?_
  obtain⟨p,_,rfl⟩:=M9.mp hd;have b:dIx (aJ p) (.int 0)=some (.int p.1):=rfl;rw[fm];simp only[MU,MS,jT,ay,aF,bK,cF,ak,ar,Rs.ag,b,Rs.ai,m]
 have c:((e.parts.map aJ).map λd=>PyData.tuple [.int ((bO d).1*k),.none])=(e.tk k).parts.map aJ:=by
  show _=(e.parts.map λp=>(p.1*k,none)).map aJ;rw[MF,MF];refine MH λp _=>?_
  show PyData.tuple [.int ((bO (aJ p)).1*k),.none]=_;rw[fm];rfl
 have f:fD (ae (g2 b0 (af 3) (af 1)) (ae (g2 b0 (af 4) (af 1)) (ae (g2 b0 (af 5) (af 1)) (ae (gF fg (ae (gL (a8 7 (bG (af 6)) bA (fD (ae (g2 b0 (g2 dIx (af 7) (gC (.int 0))) (af 1)) (ae (gC .none) ah))) aI)) ah)) ah)))) [some E,some (.int k),none,some (.int e.every),some (.int e.due),some (.int e.late),some (.tuple (e.parts.map aJ))]=.ok (e.tk k).d:=by simp only[jT,ay,aF,bK,fI,n5,ak,ar,Rs.ag,m,hc,c,uI,Rs.ai];rfl
 show (ofR (fD (ae (g2 b0 (af 3) (af 1)) (ae (g2 b0 (af 4) (af 1)) (ae (g2 b0 (af 5) (af 1)) (ae (gF fg (ae (gL (a8 7 (bG (af 6)) bA (fD (ae (g2 b0 (g2 dIx (af 7) (gC (.int 0))) (af 1)) (ae (gC .none) ah))) aI)) ah)) ah)))) [some E,some (.int k),none,some (.int e.every),some (.int e.due),some (.int e.late),some (.tuple (e.parts.map aJ))]) λd=>if acc.length<1000000 then Sr.nx _ else Sr.no)=_;rw[f,av,if_pos ha];rfl
theorem zH (k0:0<=k) (k1:k<=1000):∀(es:List Er) (acc:List PyData) (x3 x4 a x6:Option PyData),(∀e∈es,e.parts.length<=4)->acc.length+es.length<=1000 ->
  ∃b c f g,forL (fZ [3,4,5,6]) tkB (es.map Er.d) [some E,some (.int k),some (.list acc),x3,x4,a,x6]=.nx [some E,some (.int k),some (.list (acc++(es.map (Er.tk k)).map Er.d)),b,c,f,g]
 |[],acc,x3,x4,a,x6,_,_=>⟨x3,x4,a,x6,by rw[N8,N8,N8,N4];rfl⟩
 |e::r,acc,x3,x4,a,x6,h,hl=>by rw[MC]at hl;obtain⟨b,c,f,g,i⟩:=zH k0 k1 r (acc++[(e.tk k).d]) (some (.int e.every)) (some (.int e.due)) (some (.int e.late)) (some (.tuple (e.parts.map aJ))) (λx j=>h x (M4 _ j)) (by rw[Mv,MR];omega);refine⟨b,c,f,g,?_⟩;rw[M5];refine (ke rfl (E4 k0 k1 (h e M6) (by omega))).trans (i.trans ?_);rw[N6];rfl
end
theorem CT {k:Int} (k0:0<=k) (k1:k<=1000) (a:∀e∈es,e.parts.length<=4) (hl:es.length<=6):bE cs [aw es,.int k]=.ok (aw (es.map (Er.tk k))):=by obtain⟨y3,y4,y5,y6,e⟩:=zH (E:=aw es) k0 k1 es [] none none none none a (by rw[Nm];omega);show bc (f6 cs [some (aw es),some (.int k),none,none,none,none,none])=_;have b:eV [2] 2 ah [some (aw es),some (.int k),none,none,none,none,none]=.nx [some (aw es),some (.int k),some (.list []),none,none,none,none]:=rfl;have src:bG (af 0) (mask [2] [some (aw es),some (.int k),some (.list []),none,none,none,none])=.ok (es.map Er.d):=rfl;have c:f6 cs=az (eV [2] 2 ah) (az (fA [2] (bG (af 0)) (fZ [3,4,5,6]) tkB) (bh (gF fg (ae (af 2) ah)))):=rfl;rw[c,eF b,eF ((tL src).trans e)];simp only[bW,fI,ay,aF,ak,ar,Rs.ag,MS,uI,Rs.ai,av,aU];rfl
theorem BE (hl:rows.length=es.length) (ok:∀e∈es,e.Ok) (h:∀e∈es,∀p∈e.parts,p.2=none):NdI es rs (startJ es rs rows):=by
 refine⟨by rw[eC,hl],λi hi=>?_,λj b=>?_,sF hl h⟩
 ·obtain⟨row,e⟩:=pJ hi;have a:(i:Int)<es.length:=by rw[eC,hl]at hi;omega
  have p2:=(ok _ (bV (N2 i) a)).p2;rw[e];exact⟨p2,aS es (i:Int),rfl,p2,ie (N2 i) a⟩
 ·obtain⟨k,row,_,_,_,rfl⟩:=dF b;rfl
def lgB (cs:Cs):Ds->Sr:=(az (aL [5] 11 (aq bI (ae (af 1) (ae (af 2) (ae (af 8) ah)))))
 (az (aL [5] 12 (af 11))
 (az (sIf (gT (g1 iu (af 11))) (aL [5] 12 (g2 b0 (af 11) (af 10))) aY)
 (sIf (cOr (gT (g2 dNe (aq en (ae (af 1) (ae (af 2) (ae (af 8) ah)))) (gC (.int 0)))) (gT (g2 dNe (aq bI (ae (aq (bE cs) (ae (af 1) (ae (af 10) ah))) (ae (af 2) (ae (af 8) ah)))) (af 12)))) (bh (gC (.bool false))) aY))))
theorem GG {E R a:PyData} {k:Int} {L:Option Int} (e:bI [E,R,.int n]=.ok (bg L)) (f:en [E,R,.int n]=.ok (.int 0)) (h:bE cs [E,.int k]=.ok a) (b:bI [a,R,.int n]=.ok (bg (L.map (· * k)))) (k0:0<=k) (k1:k<=1000) {S C D:PyData} {sp:List Int} {x6:Option PyData} :
  lgB cs (ndD S E R C D sp x6 x7 (some (.int n)) x9 (some (.int k)) x11 x12)=.nx (ndD S E R C D sp x6 x7 (some (.int n)) x9 (some (.int k)) (some (bg L)) (some (bg (L.map (· * k))))):=by
 have i:aL [5] 11 (aq bI (ae (af 1) (ae (af 2) (ae (af 8) ah)))) (ndD S E R C D sp x6 x7 (some (.int n)) x9 (some (.int k)) x11 x12)=.nx (ndD S E R C D sp x6 x7 (some (.int n)) x9 (some (.int k)) (some (bg L)) x12):=dN (by decide:11<13) (ft rfl e);have s2:aL [5] 12 (af 11) (ndD S E R C D sp x6 x7 (some (.int n)) x9 (some (.int k)) (some (bg L)) x12)=.nx (ndD S E R C D sp x6 x7 (some (.int n)) x9 (some (.int k)) (some (bg L)) (some (bg L))):=dN (by decide:12<13) rfl;have j:sIf (gT (g1 iu (af 11))) (aL [5] 12 (g2 b0 (af 11) (af 10))) aY (ndD S E R C D sp x6 x7 (some (.int n)) x9 (some (.int k)) (some (bg L)) (some (bg L)))=.nx (ndD S E R C D sp x6 x7 (some (.int n)) x9 (some (.int k)) (some (bg L)) (some (bg (L.map (· * k))))):=by
  cases L with
  |none =>unfold ndD;simp only[bg,Option.map_none,cJ,dH,gx,ak,ar,Rs.ag,tq,qI,O7,Rs.ai,aX,av,MJ,if_false,eO]
  |some T =>
   have st:aL [5] 12 (g2 b0 (af 11) (af 10)) (ndD S E R C D sp x6 x7 (some (.int n)) x9 (some (.int k)) (some (bg (some T))) (some (bg (some T))))=.nx (ndD S E R C D sp x6 x7 (some (.int n)) x9 (some (.int k)) (some (bg (some T))) (some (.int (T*k)))):=dN (by decide:12<13) (iK (x:=.int T) (y:=.int k) rfl rfl (xG k0 k1));have c:gT (g1 iu (af 11)) (ndD S E R C D sp x6 x7 (some (.int n)) x9 (some (.int k)) (some (bg (some T))) (some (bg (some T))))=.ok true:=by unfold ndD;simp only[bg,dH,gx,ak,ar,Rs.ag,tq,rN,O2,Rs.ai,aX]
   rw[cJ,c,av,if_pos rfl,st];rfl
 have c1:gT (g2 dNe (aq en (ae (af 1) (ae (af 2) (ae (af 8) ah)))) (gC (.int 0))) (ndD S E R C D sp x6 x7 (some (.int n)) x9 (some (.int k)) (some (bg L)) (some (bg (L.map (· * k)))))=.ok false:=by have g:g2 dNe (aq en (ae (af 1) (ae (af 2) (ae (af 8) ah)))) (gC (.int 0)) (ndD S E R C D sp x6 x7 (some (.int n)) x9 (some (.int k)) (some (bg L)) (some (bg (L.map (· * k)))))=.ok (.bool false):=iK (ft rfl f) rfl (D8 (some 0));rw[dH,g,Rs.ag,aX]
 have l:gT (g2 dNe (aq bI (ae (aq (bE cs) (ae (af 1) (ae (af 10) ah))) (ae (af 2) (ae (af 8) ah)))) (af 12)) (ndD S E R C D sp x6 x7 (some (.int n)) x9 (some (.int k)) (some (bg L)) (some (bg (L.map (· * k)))))=.ok false:=by
  have m:aq (bE cs) (ae (af 1) (ae (af 10) ah)) (ndD S E R C D sp x6 x7 (some (.int n)) x9 (some (.int k)) (some (bg L)) (some (bg (L.map (· * k)))))=.ok a:=ft rfl h;have o:(ae (aq (bE cs) (ae (af 1) (ae (af 10) ah))) (ae (af 2) (ae (af 8) ah))) (ndD S E R C D sp x6 x7 (some (.int n)) x9 (some (.int k)) (some (bg L)) (some (bg (L.map (· * k)))))=.ok [a,R,.int n]:=by rw[ay,m,Rs.ag];rfl
  have g:g2 dNe (aq bI (ae (aq (bE cs) (ae (af 1) (ae (af 10) ah))) (ae (af 2) (ae (af 8) ah)))) (af 12) (ndD S E R C D sp x6 x7 (some (.int n)) x9 (some (.int k)) (some (bg L)) (some (bg (L.map (· * k)))))=.ok (.bool false):=iK (ft o b) rfl (D8 _);rw[dH,g,Rs.ag,aX]
 unfold lgB;rw[eF i,eF s2,eF j,cJ,AA,c1,Rs.ag,if_neg MG,l,av,if_neg MG];rfl
theorem law_holds (cs:Cs) (ns:List Int):z0 cs en (bE cs) bI aj (cY cs) (bR cs) bT bp (some (ao ns)::List.replicate 12 none)=.rt (.bool true):=by
 obtain⟨es,rs,l1,l4,hok,s,b,G,H⟩:=Eo ns;have l6:es.length<=6:=by omega
 have ok:xV es:=⟨l1,l6,hok⟩
 have c:∀e∈es,∀p∈e.parts,p.2=none:=λe u=>(s e u).nt
 obtain⟨rows,I,C⟩:=xB (cs:=cs) ok (ns:=ns) (a:=5) (span:=50) (by decide) (by decide);have J:=cx (ns:=ns) (k:=10) (many:=2) (by decide) (by decide);have m0:=cz ns 10 (many:=2) (by decide);have m1:=cy ns 10 (many:=2) (by decide);have R:Ran es rs rows "high":=⟨ok,b,C.len,⟨zC⟩⟩
 have W:Ran es rs rows "asked":=⟨ok,b,C.len,⟨vQ⟩⟩
 have X:Ran es rs rows "none":=⟨ok,b,C.len,⟨Fl⟩⟩
 obtain⟨t,E⟩:=Dr R C;have nt:=sF (rs:=rs) R.ln c;have K:kL es rs rows "asked"=some t:=(kZ _ _ _ nt).trans E;have L:kL es rs rows "none"=some t:=(kZ _ _ _ nt).trans E;have v:=kx (cs:=cs) R C E;have h:=kx (cs:=cs) W C K;have l:=kx (cs:=cs) X C L;have hjl:(startJ es rs rows).length=es.length:=by rw[eC,R.ln]
 have M:cn (startJ es rs rows)=cmD rows:=congrArg cmD xZ;have N:=xp (rs:=rs) R.ln;obtain⟨rest,g,e1,e2,Y⟩:=tG (es:=es) (S:=ao ns) (D:=.list t) (x10:=none) (x11:=none) (x12:=none) b 1000000 (startJ es rs rows) [] t E (DO R C) (CM R C) (BE R.ln hok c);rw[MS]at e1;subst e1;obtain⟨m,o,q,r,Z⟩:=Y none none none none;have w:=Fc e2;have s1:aL [5] 1 (aq bp (ae (af 0) (ae (gC (.int 12)) (ae (gC (.int 4)) (ae (gC (.int 17)) (ae (gC (.bool false)) ah)))))) [some (ao ns),none,none,none,none,none,none,none,none,none,none,none,none]=.nx [some (ao ns),some (aw es),none,none,none,none,none,none,none,none,none,none,none]:=dN (by decide:1<13) (ft rfl G);have s2:aL [5] 2 (aq bT (ae (af 0) (ae (gC (.int 0)) (ae (gF b8 (ae (af 1) ah)) ah)))) [some (ao ns),some (aw es),none,none,none,none,none,none,none,none,none,none,none]=.nx [some (ao ns),some (aw es),some (au rs),none,none,none,none,none,none,none,none,none,none]:=by refine dN (by decide:2<13) (ft (ds:=[ao ns,.int 0,.int (es.length:Int)]) ?_ H);show (ae (af 0) (ae (gC (.int 0)) (ae (gF b8 (ae (af 1) ah)) ah))) [some (ao ns),some (aw es),none,none,none,none,none,none,none,none,none,none,none]=_;simp only[ay,aF,fI,ak,ar,cF,Rs.ag,Iq,Rs.ai]
 have s3:aL [5] 3 (aq (bR cs) (ae (af 0) (ae (gC (.int 5)) (ae (af 1) (ae (gC (.int 50)) ah))))) [some (ao ns),some (aw es),some (au rs),none,none,none,none,none,none,none,none,none,none]=.nx [some (ao ns),some (aw es),some (au rs),some (cmD rows),none,none,none,none,none,none,none,none,none]:=dN (by decide:3<13) (ft rfl I);have s4:aL [5] 4 (aq (cY cs) (ae (af 1) (ae (af 2) (ae (af 3) (ae (gC (.str "high")) ah))))) [some (ao ns),some (aw es),some (au rs),some (cmD rows),none,none,none,none,none,none,none,none,none]=.nx [some (ao ns),some (aw es),some (au rs),some (cmD rows),some (.list t),none,none,none,none,none,none,none,none]:=dN (by decide:4<13) (ft rfl v);have s5:sIf (cOr (gT (g2 dNe (aq (cY cs) (ae (af 1) (ae (af 2) (ae (af 3) (ae (gC (.str "none")) ah))))) (af 4))) (gT (g2 dNe (aq (cY cs) (ae (af 1) (ae (af 2) (ae (af 3) (ae (gC (.str "asked")) ah))))) (af 4)))) (bh (gC (.bool false))) aY [some (ao ns),some (aw es),some (au rs),some (cmD rows),some (.list t),none,none,none,none,none,none,none,none]=.nx [some (ao ns),some (aw es),some (au rs),some (cmD rows),some (.list t),none,none,none,none,none,none,none,none]:=by have g1:g2 dNe (aq (cY cs) (ae (af 1) (ae (af 2) (ae (af 3) (ae (gC (.str "none")) ah))))) (af 4) [some (ao ns),some (aw es),some (au rs),some (cmD rows),some (.list t),none,none,none,none,none,none,none,none]=.ok (.bool false):=iK (ft rfl l) rfl w;have O:g2 dNe (aq (cY cs) (ae (af 1) (ae (af 2) (ae (af 3) (ae (gC (.str "asked")) ah))))) (af 4) [some (ao ns),some (aw es),some (au rs),some (cmD rows),some (.list t),none,none,none,none,none,none,none,none]=.ok (.bool false):=iK (ft rfl h) rfl w;rw[cJ,AA,dH,g1,Rs.ag,aX,Rs.ag,if_neg MG,dH,O,Rs.ag,aX,av,if_neg MG];rfl
 have s6:eV [5] 5 (a8 13 (bG (af 1)) bA (gC (.int 0)) aI) [some (ao ns),some (aw es),some (au rs),some (cmD rows),some (.list t),none,none,none,none,none,none,none,none]=.nx (ndD (ao ns) (aw es) (au rs) (cn (startJ es rs rows)) (.list t) ((startJ es rs rows).map Jb.tot) none none none none none none none):=by
  have hg:a8 13 (bG (af 1)) bA (gC (.int 0)) aI (mask [5] [some (ao ns),some (aw es),some (au rs),some (cmD rows),some (.list t),none,none,none,none,none,none,none,none])=.ok ((es.map Er.d).map λ_=>.int 0):=cu rfl rfl (by rw[M3];omega) λd _=>rfl
  refine (Jd (by decide:5<13) hg).trans ?_;unfold ndD;rw[N,M,MF,MF];rfl
 have src:iO (ae (af 4) ah) (mask [5] (ndD (ao ns) (aw es) (au rs) (cn (startJ es rs rows)) (.list t) ((startJ es rs rows).map Jb.tot) none none none none none none none))=.ok (sL 0 t):=by show Rs.ok (ik t)=_;unfold ik sL;refine congrArg (λf=>Rs.ok (t.mapIdx f)) ?_;funext i d;rw[ND]
 have T:aL [5] 10 (g2 ba (gC (.int 2)) (aq aj (ae (af 0) (ae (gC (.int 10)) (ae (gC (.int 2)) ah))))) (ndD (ao ns) (aw es) (au rs) (cn (startJ es rs rows)) (.list t) (g.map Jb.tot) m o q r none none none)=.nx (ndD (ao ns) (aw es) (au rs) (cn (startJ es rs rows)) (.list t) (g.map Jb.tot) m o q r (some (.int (2+mixed ns 10 2))) none none):=dN (by decide:10<13) (iK (x:=.int 2) rfl (ft rfl J) rfl);generalize hk:2+mixed ns 10 2=k at T;have k2:2<=k:=by omega
 have k3:k<=3:=by omega
 have hT:=CT (cs:=cs) (es:=es) (k:=k) (by omega) (by omega) (λe u=>(hok e u).p2) l6;have y:∀e∈es.map (Er.tk k),e.Ok:=λe u=>by obtain⟨x,F,rfl⟩:=M9.mp u;exact Kx (hok x F) (s x F) k2 k3
 have P:cf (es.map (Er.tk k)).length rs:=by rw[M3];exact b
 have z:fW (ae (gF b8 (ae (af 1) ah)) ah) (mask [5] (ndD (ao ns) (aw es) (au rs) (cn (startJ es rs rows)) (.list t) (g.map Jb.tot) m o q r (some (.int k)) none none))=.ok (bX 0 es.length):=by
  have A:=kh (j:=(es.length:Int)) (N2 _) (by omega);rw[MT]at A;show fW (ae (gF b8 (ae (af 1) ah)) ah) [some (ao ns),some (aw es),some (au rs),some (cn (startJ es rs rows)),some (.list t),none,m,o,q,r,some (.int k),none,none]=_;have hv:(ae (gF b8 (ae (af 1) ah)) ah) [some (ao ns),some (aw es),some (au rs),some (cn (startJ es rs rows)),some (.list t),none,m,o,q,r,some (.int k),none,none]=.ok [.int (es.length:Int)]:=by simp only[ay,aF,fI,ak,ar,Rs.ag,Iq,Rs.ai]
  rw[kg,hv,Rs.ag,A]
 obtain⟨δ',eg,x8,x11,x12,hδ⟩:=jl (β:=Unit) (tgt:=bw 8) (body:=lgB cs) (λ_ δ=>∃x8 x11 x12,δ=ndD (ao ns) (aw es) (au rs) (cn (startJ es rs rows)) (.list t) (g.map Jb.tot) m o x8 r (some (.int k)) x11 x12) (bX 0 es.length) 0 (λi d δ hi Q=>by
  obtain⟨x8,x11,x12,F⟩:=Q;subst F;obtain⟨hil,hd⟩:=gZ hi;rw[Int.zero_add]at hd;subst hd;have n0:(0:Int)<=(i:Int):=N2 i;have n1:(i:Int)<es.length:=by omega
  have hL:=iC (n:=(i:Int)) l1 l6 hok b n0 n1;have U:=pz (n:=(i:Int)) l1 l6 hok b n0 n1;rw[tH c b]at U;have B:=iC (es:=es.map (Er.tk k)) (n:=(i:Int)) (by rw[M3];exact l1) (by rw[M3];exact l6) y P n0 (by rw[M3];exact n1);rw[xR hok c b n0 n1 (by omega)]at B;exact⟨_,_,rfl,GG hL U hT B (by omega) (by omega),_,_,_,rfl⟩) _ ⟨q,none,none,rfl⟩
 have hG:z0 cs en (bE cs) bI aj (cY cs) (bR cs) bT bp=az (aL [5] 1 (aq bp (ae (af 0) (ae (gC (.int 12)) (ae (gC (.int 4)) (ae (gC (.int 17)) (ae (gC (.bool false)) ah)))))))
  (az (aL [5] 2 (aq bT (ae (af 0) (ae (gC (.int 0)) (ae (gF b8 (ae (af 1) ah)) ah)))))
  (az (aL [5] 3 (aq (bR cs) (ae (af 0) (ae (gC (.int 5)) (ae (af 1) (ae (gC (.int 50)) ah))))))
  (az (aL [5] 4 (aq (cY cs) (ae (af 1) (ae (af 2) (ae (af 3) (ae (gC (.str "high")) ah))))))
  (az (sIf (cOr (gT (g2 dNe (aq (cY cs) (ae (af 1) (ae (af 2) (ae (af 3) (ae (gC (.str "none")) ah))))) (af 4))) (gT (g2 dNe (aq (cY cs) (ae (af 1) (ae (af 2) (ae (af 3) (ae (gC (.str "asked")) ah))))) (af 4)))) (bh (gC (.bool false))) aY)
  (az (eV [5] 5 (a8 13 (bG (af 1)) bA (gC (.int 0)) aI))
  (az (fA [5] (iO (ae (af 4) ah)) (fZ [6,7]) nbB)
  (az (aL [5] 10 (g2 ba (gC (.int 2)) (aq aj (ae (af 0) (ae (gC (.int 10)) (ae (gC (.int 2)) ah))))))
  (az (fA [5] (fW (ae (gF b8 (ae (af 1) ah)) ah)) (bw 8) (lgB cs))
  (bh (gC (.bool true))))))))))):=rfl
 exact (congrFun hG _).trans ((eF s1).trans ((eF s2).trans ((eF s3).trans ((eF s4).trans ((eF s5).trans ((eF s6).trans ((eF ((tL src).trans Z)).trans ((eF T).trans ((eF ((tL z).trans eg)).trans rfl)))))))))
theorem Kt (cs:Cs):LLq (z0 cs en (bE cs) bI aj (cY cs) (bR cs) bT bp) 1 12 (fR 63):=lawT_of (law_holds cs)
end RS
namespace L2
open PySem PySem.Spec PyProof.Rows
section
variable {E:XK}
end
end L2
set_option maxHeartbeats 4000000
namespace L2
open PySem PySem.Spec PyProof.Rows
section
variable {E:XK} {k:Expr} {gk:Ds->Rs PyData} {apos:Pos}
end
section
variable {E:XK} {e:Expr}
end
def ndB:List Str->Bool
 |[]=>true
 |x::r=>!r.elem x&&ndB r
theorem uP:∀{l:List Str},ndB l=true->l.Nodup
 |[],_=>List.nodup_nil
 |x::r,h=>by simp only[ndB,M8,Ol]at h;exact MX.mpr ⟨λz=>(by have:=List.elem_eq_true_of_mem z;rw[h.1]at this;cases this),uP h.2⟩
section
variable {k n n':Nat}
def AtX (X:Cx) (P:Program) (w:World) (K:PySem.W.Frag) (mg:Str->Option Value) (base:Heap):Prop:=X.prog=P/\X.w=w/\X.K=K/\X.mg=mg/\X.base=base
theorem iA.to (h:iA P w K mg base k x n gf) (a:AtX X P w K mg base) (hn:n=n'):iA X.prog X.w X.K X.mg X.base k x n' gf:=by obtain⟨rfl,rfl,rfl,rfl,rfl⟩:=a;subst hn;exact h
theorem iT.to (h:iT P w K mg base k C m n gf) (a:AtX X P w K mg base) (hn:n=n'):iT X.prog X.w X.K X.mg X.base k C m n' gf:=by obtain⟨rfl,rfl,rfl,rfl,rfl⟩:=a;subst hn;exact h
theorem jP.to (h:jP P w K mg base k C m g) (a:AtX X P w K mg base):jP X.prog X.w X.K X.mg X.base k C m g:=by obtain⟨rfl,rfl,rfl,rfl,rfl⟩:=a;exact h
theorem pV.to {l:List Str} (h:pV P w K mg base k x C l) (a:AtX X P w K mg base):pV X.prog X.w X.K X.mg X.base k x C l:=by obtain⟨rfl,rfl,rfl,rfl,rfl⟩:=a;exact h
end
def yM (K:PySem.W.Frag) (C:Addr) (m q:Str) (st:Stmt) (ps:List Str):Prop:=∃f fd,Fun K m q st f fd/\Binds K fd ps []/\Meth K C m f
def Lz (K:PySem.W.Frag) (C:Addr) (q:Str) (st:Stmt) (ps:List Str):Prop:=∃f fd,Mk K C f/\Fun K "__init__" q st f fd/\Binds K fd ps []
end L2
namespace RS
open PySem PySem.Spec PyProof.Rows L2
theorem AQ (d:α) {us:List α} {n:Nat} (h:us.length=n):∃f:Nat->α,us=(List.range n).map f :=
 ⟨λi=>us.getD i d,Oa (by simp[h]) λi h1 h2=>by simp[MK,M1 h1]⟩
section
variable {q:Str} {G:Ds->Sr} {gf:Gf}
abbrev Bod (P:Program) (w:World) (K:PySem.W.Frag) (mg:Str->Option Value) (base:Heap) (q:Str) (st:Stmt) (k:Nat) (O:List Nat) (N:List Str) (G:Ds->Sr):Prop:=∀(f:Addr) (cdv:Value) (A:Around) (outer:List Env) (s:Shared) (H:Hp) (E:XK),N.Nodup->cw k (A.deeper (envOfC q (aE st) s.heap.objs.size f cdv))->PBD (c8 (CXW P w) P w K mg base N q (aE st) f cdv A outer s H E) E O (cj st) G
theorem dA (P:Program) (w:World) (base:Heap) (k:Nat) (O:List Nat) (N:List Str) (h:bM K mg x st ps) (a:∀ds,ds.length=ps.length->gf ds≠.no->bc (G (ds.map some++List.replicate (N.length-ps.length) none))=gf ds)
  (body:Bod P w K mg base x st k O N G) (S:cX N ps (aE st):=by exact⟨rfl,rfl,rfl,by decide +kernel,rfl,by decide +kernel,by decide +kernel⟩) (c:∀i∈O,ps.length<=i:=by decide):iA P w K mg base (k+1) x ps.length gf:=by
 obtain⟨f,fd,F,b,m⟩:=h;exact iA.of F S b m c (λcdv A outer s H E=>body f cdv A outer s H E S.nd) a
theorem dM (P:Program) (w:World) (base:Heap) (k:Nat) (O:List Nat) (N:List Str) (h:yM K C m q st ps) (cl:Cls K C) (a:∀ds,ds.length=ps.length->gf ds≠.no->bc (G (ds.map some++List.replicate (N.length-ps.length) none))=gf ds)
  (body:Bod P w K mg base q st k O N G) (S:cX N ps (aE st):=by exact⟨rfl,rfl,rfl,by decide +kernel,rfl,by decide +kernel,by decide +kernel⟩) (c:∀i∈O,ps.length<=i:=by decide):iT P w K mg base (k+1) C m ps.length gf:=by
 obtain⟨f,fd,F,b,hm⟩:=h;exact iT.of F S b cl hm c (λcdv A outer s H E=>body f cdv A outer s H E S.nd) a
theorem dK (k:Nat) (N:List Str) {p:Str} {G:List Addr->Ds->Sr} (h:yM K C m q st [p]) (cl:Cls K C) (e:∀a fds c,gB fds=true->fds.length<1000->g fds=some c->∃δ,G [a] (some (cA C a fds)::List.replicate (N.length-1) none)=.nx δ/\δ[0]?=some (some (cA C a c)))
  (body:∀(as:List Addr) (f:Addr) (cdv:Value) (A:Around) (outer:List Env) (s:Shared) (H:Hp) (E:XK),N.Nodup->cw k (A.deeper (envOfC q (aE st) s.heap.objs.size f cdv))->PBN as (c8 (CXW P w) P w K mg base N q (aE st) f cdv A outer s H E) E [] (cj st) (G as)) (S:cX N [p] (aE st):=by exact⟨rfl,rfl,rfl,by decide +kernel,rfl,by decide +kernel,by decide +kernel⟩):jP P w K mg base (k+1) C m g:=by
 obtain⟨f,fd,F,b,hm⟩:=h;exact jP.of F S b cl hm (λas cdv A outer s H E=>body as f cdv A outer s H E S.nd) e
theorem dT (k:Nat) (O:List Nat) (N:List Str) (h:bM K mg x st ps) (hm:∀g,PySem.W.nsIn K mainGlobals x=some (some (.ref g))->mg x=some (.ref g)) (a:Gs K x) (hB:nB mg base) (hK:K.In base) (e:∀ds,ds.length=ps.length->gf ds≠.no->bc (G (ds.map some++List.replicate (N.length-ps.length) none))=gf ds)
  (body:∀(f:Addr) (cdv:Value) (A:Around) (outer:List Env) (s:Shared) (H:Hp) (E:XK),N.Nodup->cw k (A.deeper (envOfC x (aE st) s.heap.objs.size f cdv))->∀c j,Eg (c8 (CXW P w) P w K mg base N x (aE st) f cdv A outer s H E) c j->PBD (c8 (CXW P w) P w K mg base N x (aE st) f cdv A outer s H E) E O (cj st) G) (S:cX N ps (aE st):=by exact⟨rfl,rfl,rfl,by decide +kernel,rfl,by decide +kernel,by decide +kernel⟩) (l:∀i∈O,ps.length<=i:=by decide) (n:x∈lG:=by decide) (o:∀(f L:Addr) (cdv:Value),(envOfC x (aE st) L f cdv).qual++"<lambda>"=x++".<locals>.<lambda>":=by exact λ_ _ _=>rfl):iA P w K mg base (k+1) x ps.length gf:=by
 obtain⟨f,fd,F,b,m⟩:=h;exact iA.ofL F S b m l n hm a hB hK (o f) (λcdv A outer s H E=>body f cdv A outer s H E S.nd) e
theorem dL (k:Nat) (O:List Nat) (N:List Str) (F:Fun K x x st f fd) (a:∀ds,ds.length=ps.length->gf ds≠.no->bc (G (ds.map some++List.replicate (N.length-ps.length) none))=gf ds)
  (body:Bod P w K mg base x st k O N G) (S:cX N ps (aE st):=by exact⟨rfl,rfl,rfl,by decide +kernel,rfl,by decide +kernel,by decide +kernel⟩) (b:∀i∈O,ps.length<=i:=by decide):gM P w K mg base (CXW P w) (k+1) f fd ps (spD K ps.length gf) :=
 zK F S b (λcdv A outer s H E=>body f cdv A outer s H E S.nd) a
end
end RS
set_option maxHeartbeats 0
namespace RS
open PySem PySem.Spec PyProof.Rows L2
def top (i:Nat):Stmt:=PySem.Challenge.pw_ranksure_k22_whole_without_tools.main.body.getD i (.Pass ⟨0,0,0,0⟩)
structure qd (K:PySem.W.Frag) (C:Addr):Prop where
 cl:Cls K C
 na:∀f∈["number", "part", "tool", "times"],fw K C f
 mi:Lz K C "Holding.__init__" (inClass (top 41) 0) ["self", "number", "part", "tool", "times"]
structure yW (K:PySem.W.Frag) (C:Addr):Prop where
 cl:Cls K C
 na:∀f∈["number", "parts", "rank", "row", "job", "part", "spent"],fw K C f
 mi:Lz K C "Jobs.__init__" (inClass (top 33) 0) ["self", "number", "parts", "rank", "row"]
 mt_Jobs_are_done:yM K C "are_done" "Jobs.are_done" (inClass (top 33) 1) ["self"]
 mt_Jobs_is_there:yM K C "is_there" "Jobs.is_there" (inClass (top 33) 2) ["self", "time"]
 mt_Jobs_held:yM K C "held" "Jobs.held" (inClass (top 33) 3) ["self"]
 mt_Jobs_wanted:yM K C "wanted" "Jobs.wanted" (inClass (top 33) 4) ["self"]
 mt_Jobs_go_on:yM K C "go_on" "Jobs.go_on" (inClass (top 33) 5) ["self"]
structure Tx (K:PySem.W.Frag) (mg:Str->Option Value) (cs:Cs):Prop where
 f_is_whole:bM K mg "is_whole" (top 14) ["thing", "least", "most"]
 f_is_tuple:bM K mg "is_tuple" (top 15) ["thing", "fewest", "most"]
 f_is_part:bM K mg "is_part" (top 16) ["thing"]
 f_are_parts:bM K mg "are_parts" (top 17) ["thing"]
 f_is_errand:bM K mg "is_errand" (top 18) ["thing"]
 f_checked:bM K mg "checked" (top 19) ["errands"]
 f_checked_ranks:bM K mg "checked_ranks" (top 20) ["errands", "ranks"]
 f_checked_number:bM K mg "checked_number" (top 21) ["errands", "number"]
 f_check_place:bM K mg "check_place" (top 22) ["errands", "ranks", "number"]
 f_work_of:bM K mg "work_of" (top 23) ["errand"]
 f_has_tool:bM K mg "has_tool" (top 24) ["errand", "tool"]
 f_height:bM K mg "height" (top 25) ["errands", "ranks", "tool"]
 f_heights_of:bM K mg "heights_of" (top 26) ["errands", "ranks"]
 f_have_moments:bM K mg "have_moments" (top 30) ["errand", "row"]
 f_is_row:bM K mg "is_row" (top 31) ["errand", "thing"]
 f_checked_comings:bM K mg "checked_comings" (top 32) ["errands", "comings"]
 f_height_by_high:bM K mg "height_by_high" (top 34) ["jobs", "tops"]
 f_holder:bM K mg "holder" (top 35) ["there", "tool"]
 f_lent_ranks:bM K mg "lent_ranks" (top 36) ["there"]
 f_picked:bM K mg "picked" (top 37) ["there", "tops", "lending"]
 f_run_of:bM K mg "run_of" (top 38) ["errands", "ranks", "rows", "lending"]
 f_run:bM K mg "run" (top 39) ["errands", "ranks", "comings", "lending"]
 f_holdings:bM K mg "holdings" (top 42) ["errands", "ranks", "number"]
 f_hold_by_high:bM K mg "hold_by_high" (top 43) ["errands", "ranks", "number"]
 f_rounded_up:bM K mg "rounded_up" (top 44) ["times", "every"]
 f_need:bM K mg "need" (top 45) ["errands", "ranks", "number", "held_up", "times"]
 f_levels_by:bM K mg "levels_by" (top 46) ["errands", "ranks", "number", "held_up"]
 f_longest_by:bM K mg "longest_by" (top 47) ["errands", "ranks", "number", "held_up"]
 f_longest_by_high:bM K mg "longest_by_high" (top 48) ["errands", "ranks", "number"]
 f_hold:bM K mg "hold" (top 49) ["errands", "ranks", "number"]
 f_longest:bM K mg "longest" (top 50) ["errands", "ranks", "number"]
 f_law_cell_at:bM K mg "_law_cell_at" (top 52) ["_law_script", "_law_k"]
 f_law_mixed:bM K mg "_law_mixed" (top 53) ["_law_script", "_law_k", "_law_many"]
 f_law_errand:bM K mg "_law_errand" (top 54) ["_law_script", "_law_at", "_law_top", "_law_tools"]
 f_law_errands:bM K mg "_law_errands" (top 55) ["_law_script", "_law_at", "_law_most", "_law_top", "_law_tools"]
 f_law_ranks:bM K mg "_law_ranks" (top 56) ["_law_script", "_law_at", "_law_many"]
 f_law_coming_row:bM K mg "_law_coming_row" (top 57) ["_law_script", "_law_at", "_law_errand_here", "_law_span"]
 f_law_comings:bM K mg "_law_comings" (top 58) ["_law_script", "_law_at", "_law_errands_here", "_law_span"]
 f_law_taken:bM K mg "_law_taken" (top 59) ["_law_errands_here", "_law_times"]
 f_law:bM K mg "law" (top 60) ["_law_script"]
 bs:∀x∈["all", "bool", "enumerate", "int", "isinstance", "len", "list", "max", "min", "range", "set", "sum", "tuple", "zip"],mg x=none
 cst:∀q∈([("LAST_COMING",9999),("LEAST_EVERY",2),("MOST_COMINGS",60),("MOST_ERRANDS",6),("MOST_EVERY",60),("MOST_LATE",20),("MOST_LENGTH",20),("MOST_PARTS",4),("TOOLS",4)]:List (Str×Int)),∃t,mg q.1=some (.int q.2 t)
 e_NoComings:qR K mg "NoComings" cs.NoComings
 e_NoErrand:qR K mg "NoErrand" cs.NoErrand
 e_NoErrands:qR K mg "NoErrands" cs.NoErrands
 e_NoRanks:qR K mg "NoRanks" cs.NoRanks
 m_Holding:mg "Holding"=some (.ref cs.Holding)
 k_Holding:qd K cs.Holding
 m_Jobs:mg "Jobs"=some (.ref cs.Jobs)
 k_Jobs:yW K cs.Jobs
 tb_picked:Gs K "picked"
 nm_picked:∀g,PySem.W.nsIn K mainGlobals "picked"=some (some (.ref g))->mg "picked"=some (.ref g)
structure Ty (K:PySem.W.Frag) (mg:Str->Option Value) (cs:Cs) (base:Heap):Prop extends Tx K mg cs where
 hB:nB mg base
 hK:K.In base
section
theorem yA:cX ["_law_script", "_law_k"] ["_law_script", "_law_k"] (aE (top 52)):=⟨rfl,rfl,rfl,by decide +kernel,rfl,by decide +kernel,by decide +kernel⟩
theorem yO (F:Fun K "_law_cell_at" "_law_cell_at" (top 52) f fd) (bl:mg "len"=none):gM P w K mg base CX0 1 f fd ["_law_script", "_law_k"] (Ef K):=by
 refine F.ok yA (λvs H Q E h=>?_) (λcdv A outer s H vs Q E l h=>?_)
 ·obtain⟨a,ns,k,rfl,_⟩:=h;rfl
 ·obtain⟨a,ns,k,rfl,e,m,g⟩:=h;refine⟨_,cH (Am (yP (Lu (pv 1) (fU i7 rfl bl PySem.boot_len (ej (pv 0) f9)))) (ib (p5 (Ca tV (pv 0) (pv 1) (λ_ _=>rfl)))) uf)
   (cH (Am (kr (xm l.units) (pv 0) (yU f9) (jj _)) (ib (p5 gm)) uf)
   (ib (p5 (eZ mD (eZ mJ (Ca tV (pv 0) (eZ qa (pv 1) (fU i7 rfl bl PySem.boot_len (ej (pv 0) f9))) (λ_ _=>rfl)) gm) (pv 1))))),?_⟩
  refine⟨_,rfl,_,rfl,a,_,rfl,.inl e,k,_,rfl,rfl,_,rfl,?_⟩;have hlen:(ns.map V.int).length=ns.length:=M3 ..;rw[hlen];refine KR (λhc=>?_) (λhc=>?_)
  ·have hc:k<(ns.length:Int):=of_decide_eq_true hc;have hi:k.toNat<ns.length:=by omega
   refine⟨_,rfl,_,rfl,a,_,k,.int (ns.getD k.toNat 0),rfl,rfl,e,uC m ?_,?_⟩
   ·rw[MA,M1 hi,MK,M1 hi];rfl
   ·have:=g H (ax.refl H);rw[show cellAt ns k=ns.getD k.toNat 0 by unfold cellAt;rw[if_pos hc]]at this;exact this
  ·have hc:¬ k<(ns.length:Int):=λz=>hc (decide_eq_true z)
   refine⟨_,rfl,Nd _,λp i=>⟨.list (ns.map .int),.list [],(ug e (rD ns)).same (hU i),ug (SqL.of aH) pA,shaped_ints ns,xy,_,rfl,?_⟩⟩;rw[C4];refine KR (λb=>?_) (λb=>?_)
   ·have b:ns=[]:=of_decide_eq_true b;have:=g _ (hU (o:=.lst []) i);rw[show cellAt ns k=0 by unfold cellAt;rw[if_neg hc,if_pos b]]at this;exact this
   ·have b:¬ ns=[]:=λz=>b (decide_eq_true z)
    have c:0<(ns.length:Int):=by
     cases ns with
     |nil=>exact absurd rfl b
     |cons _ _=>simp
    have h1:0<=k % (ns.length:Int):=Na _ (by omega);have h2:k % (ns.length:Int)<(ns.length:Int):=Nw _ c;have hi:(k % (ns.length:Int)).toNat<ns.length:=by omega
    have j:ax H (upd H p (.lst [])):=hU i;refine⟨_,rfl,_,rfl,_,rfl,a,_,rfl,.inl (j.seq e),_,_,rfl,rfl,by rw[hlen];exact c,a,_,_,.int (ns.getD (k % (ns.length:Int)).toNat 0),rfl,rfl,j.seq e,?_,_,_,rfl,rfl,.inr ⟨by decide,by decide⟩,_,rfl,_,_,rfl,rfl,?_⟩
    ·rw[hlen];refine uC h1 ?_;rw[MA,M1 hi,MK,M1 hi];rfl
    ·have:=g _ j;rw[show cellAt ns k=ns.getD (k % (ns.length:Int)).toNat 0*31+k by unfold cellAt;rw[if_neg hc,if_neg b]]at this;exact this
theorem xa:cX ["_law_script", "_law_k", "_law_many", "_law_drawn"] ["_law_script", "_law_k", "_law_many"] (aE (top 53)):=⟨rfl,rfl,rfl,by decide +kernel,rfl,by decide +kernel,by decide +kernel⟩
theorem B3 {b:FuncData} (F:Fun K "_law_mixed" "_law_mixed" (top 53) f fd) (e:Fun K "_law_cell_at" "_law_cell_at" (top 52) c b) (g:Binds K b ["_law_script", "_law_k"] []) (j:mg "_law_cell_at"=some (.ref c)) (bl:mg "len"=none):gM P w K mg base CX0 2 f fd ["_law_script", "_law_k", "_law_many"] (Hk K):=by
 have l:gM P w K mg base CX0 1 c b _ (Ef K):=yO e bl;refine F.ok xa (λvs H Q E h=>?_) (λcdv A outer s H vs Q E m h=>?_)
 ·obtain⟨a,ns,k,many,rfl,_⟩:=h;rfl
 ·obtain⟨a,ns,k,many,rfl,n,o,hm,p⟩:=h;refine⟨_,cH (pZ (i:=3) xa.nd rfl (Or.inl rfl) (eZ qa (eZ mJ (eZ mD (eZ mD (Ag l m rfl j e.kp g .nil KQ (ej (pv 0) (ej (pv 1) f9))) (eZ mJ gm (pv 1))) gm) gm) gm))
   (ib (p5 (eZ qa (eZ qa (eZ mD (eZ mD (eZ mJ (pv 3) (pv 3)) (eZ mJ gm (pv 3))) (pv 1)) gm) (pv 2)))),?_⟩
  refine⟨_,rfl,_,rfl,a,ns,k,rfl,n,o,λH1 q=>?_⟩;refine⟨_,rfl,_,_,rfl,rfl,.inl ⟨by decide,by decide⟩,_,_,rfl,rfl,_,_,rfl,rfl,_,_,rfl,rfl,.inr ⟨by decide,by decide⟩,_,_,rfl,rfl,(by show (0:Int)<2147483647;decide),?_⟩;have b1:=Gm ns k;have b2:=G9 ns k;have eD:(cellAt ns k+7919*k+1)*48271 % 2147483647=BR ns k:=rfl;refine⟨_,rfl,_,rfl,_,_,rfl,rfl,.inl ⟨?_,?_⟩,_,rfl,_,_,rfl,rfl,.inl ⟨by decide,by decide⟩,_,_,rfl,rfl,_,rfl,_,_,rfl,rfl,_,_,rfl,rfl,(by show (0:Int)<2147483629;decide),_,rfl,_,_,rfl,rfl,hm,p H1 q⟩
  ·show -(2 ^ 64)<(cellAt ns k+7919*k+1)*48271 % 2147483647;rw[eD];omega
  ·show (cellAt ns k+7919*k+1)*48271 % 2147483647<2 ^ 64;rw[eD];omega
theorem wO (T:Tx K mg cs):iA P w K mg base 2 "_law_mixed" 3 aj:=by obtain⟨f,fd,F,b,m⟩:=T.f_law_mixed;obtain⟨fC,fdC,a,c,e⟩:=T.f_law_cell_at;exact iA.old (B3 F a c e (T.bs _ (by decide))) m F.kp b GL
theorem AU (T:Tx K mg cs):pV P w K mg base 1 "Holding" cs.Holding ["number", "part", "tool", "times"]:=by
 obtain⟨f,fd,M,F,b⟩:=T.k_Holding.mi;refine⟨f,fd,_,M,lH (k:=0) (N:=["self", "number", "part", "tool", "times"]) F ⟨rfl,rfl,rfl,by decide +kernel,rfl,by decide +kernel,by decide +kernel⟩ (λvs H Q E h=>?_) (λcdv A outer s H vs Q E hr h=>?_),b,T.m_Holding⟩
 ·obtain⟨x,dx,args,rfl,hl,_⟩:=h;rw[MC,hl];rfl
 ·obtain⟨x,dx,args,rfl,hl,c,k⟩:=h;obtain⟨g,rfl⟩:=AQ .non hl;refine⟨_,(cH (f7 (pv 0) (pv 1) rfl) (cH (f7 (pv 0) (pv 2) rfl) (cH (f7 (pv 0) (pv 3) rfl) (ib (f7 (pv 0) (pv 4) rfl))))),?_⟩;refine⟨_,rfl,_,rfl,x,cs.Holding,dx,_,rfl,c,T.k_Holding.cl,T.k_Holding.na _ (by decide),(by show 0<1000;decide),_,rfl,_,rfl,x,cs.Holding,dx,_,rfl,aH,T.k_Holding.cl,T.k_Holding.na _ (by decide),(by show 1<1000;decide),_,rfl,_,rfl,x,cs.Holding,dx,_,rfl,aH,T.k_Holding.cl,T.k_Holding.na _ (by decide),(by show 2<1000;decide),_,rfl,_,rfl,x,cs.Holding,dx,_,rfl,aH,T.k_Holding.cl,T.k_Holding.na _ (by decide),(by show 3<1000;decide),?_⟩;exact k _ (λb a=>by rw[aA a,aA a,aA a,aA a]) (by rw[aH];rfl)
theorem yQ (T:Tx K mg cs):MkD P w K mg base 1 "Jobs" cs.Jobs JN JT:=by
 obtain⟨f,fd,M,F,b⟩:=T.k_Jobs.mi;refine⟨f,fd,_,M,lH (k:=0) (N:=["self", "number", "parts", "rank", "row"]) F ⟨rfl,rfl,rfl,by decide +kernel,rfl,by decide +kernel,by decide +kernel⟩ (λvs H Q E h=>?_) (λcdv A outer s H vs Q E hr h=>?_),b,T.m_Jobs⟩
 ·obtain⟨x,dx,args,rfl,hl,_⟩:=h;rw[MC,hl];rfl
 ·obtain⟨x,dx,args,rfl,hl,c,k⟩:=h;obtain⟨g,rfl⟩:=AQ .non hl;refine⟨_,(cH (f7 (pv 0) (pv 1) rfl) (cH (f7 (pv 0) (pv 2) rfl) (cH (f7 (pv 0) (pv 3) rfl) (cH (f7 (pv 0) (pv 4) rfl) (cH (f7 (pv 0) gm rfl) (cH (f7 (pv 0) gm rfl) (ib (f7 (pv 0) gm rfl)))))))),?_⟩;refine⟨_,rfl,_,rfl,x,cs.Jobs,dx,_,rfl,c,T.k_Jobs.cl,T.k_Jobs.na _ (by decide),(by show 0<1000;decide),_,rfl,_,rfl,x,cs.Jobs,dx,_,rfl,aH,T.k_Jobs.cl,T.k_Jobs.na _ (by decide),(by show 1<1000;decide),_,rfl,_,rfl,x,cs.Jobs,dx,_,rfl,aH,T.k_Jobs.cl,T.k_Jobs.na _ (by decide),(by show 2<1000;decide),_,rfl,_,rfl,x,cs.Jobs,dx,_,rfl,aH,T.k_Jobs.cl,T.k_Jobs.na _ (by decide),(by show 3<1000;decide),_,rfl,x,cs.Jobs,dx,_,rfl,aH,T.k_Jobs.cl,T.k_Jobs.na _ (by decide),(by show 4<1000;decide),_,rfl,x,cs.Jobs,dx,_,rfl,aH,T.k_Jobs.cl,T.k_Jobs.na _ (by decide),(by show 5<1000;decide),_,rfl,x,cs.Jobs,dx,_,rfl,aH,T.k_Jobs.cl,T.k_Jobs.na _ (by decide),(by show 6<1000;decide),?_⟩;exact k _ (λb a=>by rw[aA a,aA a,aA a,aA a,aA a,aA a,aA a]) (by rw[aH];rfl)
set_option hygiene false
local macro_rules | `(tactic| infer_instance)=>`(tactic| first|((with_reducible show _=_);exact rfl)|(with_reducible first|(show PD _ _ _ _;first|refine' Il ..|refine' Jn ..|refine' GS ..|refine' Lo ..|refine' Iy ..|refine' HB ..|refine' KA ..|refine' JB ..|refine' Ig ..|refine' Js ..|refine' Km ..|refine' IF ..|refine' HM ..|refine' Ka ..|refine' JZ ..|refine' IH ..|refine' Lq ..|refine' K2 ..|refine' Kl ..|refine' IK ..|refine' JP ..|refine' De ..|refine' EU ..|refine' Ic ..|(show PD _ _ _ (aq (sP _ _) _);apply Fp)|refine' FP ..|(show PD _ _ _ (aq _ _);apply E2)|refine' Br ..|refine' Bp ..|refine' Ij ..|refine' Jc ..|refine' HA ..|refine' DW ..|refine' yx ..|refine' Bj ..|refine' FG ..|refine' Gb ..|refine' GI ..|refine' Cj ..|(show PD _ _ _ (bx _ _ _ _ ah);apply Dm)|(show PD _ _ _ (bx _ _ _ _ _);apply Fu)|refine' Ky ..|refine' Lg ..|refine' LA ..|refine' LD ..|refine' Ik ..|refine' F2 ..)|(show PAD _ _ _ _;first|refine' El ..|refine' Hd ..)|(show PCD _ _ _ _;first|refine' Jj ..|refine' JI ..|refine' Jf ..|refine' Ih ..|refine' Kc ..|refine' FN ..|refine' CH ..|refine' F7 ..|refine' Hw (zt ..)|refine' Hw (Dp ..)|refine' Gk ..)|(show PSD _ _ _ _ _;first|refine' ux ..|refine' Dg ..|refine' AR ..|(show PSD _ _ _ _ (oP _ _ _ _ _ _ _);apply CJ)|refine' Cf ..|(show PSD _ _ _ (.Assign _ (.ListComp _ _ _ _) _) (aL _ _ (gL _));apply Ea;apply xc;focus with_unfolding_all exact rfl)|(show PSD _ _ _ (.Assign _ (.ListComp _ _ _ _) _) (eV _ _ _);apply Cy;apply xc;focus with_unfolding_all exact rfl)|refine' Hc ..|refine' Cb ..|refine' FU ..|refine' C9 ..|refine' Hf ..|refine' Gp ..|refine' xC ..|refine' Gw ..|refine' DV ..|(show PSD _ _ _ _ (fA _ _ _ _);apply F3)|refine' BM ..)|(show PBD _ _ _ _ _;first|refine' uE ..|refine' oy ..|refine' iJ ..)|(show PLD _ _ _ _;first|(show PLD _ _ _ (a8 _ _ _ _ _);apply EC)|refine' Fy ..|refine' AJ ..)|(show PID _ _ _ _ _;first|refine' xu ..|refine' B4 ..|refine' Gn ..|refine' FK ..)|(show PIf _ _ _;first|exact PIf.nil|refine' PIf.one ..)|(show PWD _ _ _ _;first|refine' zt ..|refine' Dp ..|refine' DQ ..|refine' GO ..)|(show TgS _ _ _ _;first|refine' Co ..|refine' FL ..)|(show POD _ _ _ _;first|refine' Cc ..|refine' EI ..)|(show PSN _ _ _ _ _ _;first|refine' IY ..|refine' AM ..|refine' Fz ..|refine' yN ..|(show PSN _ _ _ _ _ (kJ _ _ _ _ _);apply DN)|refine' Kk ..)|(show PBN _ _ _ _ _ _;first|refine' Ha ..|refine' zw ..|refine' we ..)) <;> infer_instance|((with_reducible show PBD _ _ _ _ _); first|refine' iJ ?_ ?_|refine' oy ?_) <;> infer_instance|((with_reducible show PBN _ _ _ _ _ _); first|refine' we ?_ ?_|refine' zw ?_) <;> infer_instance|((with_reducible show PG _ _ _); first|refine' tw ?_ ?_ ?_|refine' DR ?_ ?_) <;> infer_instance|((with_reducible show PGs _ _ _); first|refine' qH ?_ ?_|exact Aj) <;> infer_instance|exact rfl|((with_reducible show iA _ _ _ _ _ _ _ _ _);(with_reducible refine' iA.to ?z1 ?z2 ?z3);(case z1=>with_reducible assumption);(case z2=>exact⟨rfl,rfl,rfl,rfl,rfl⟩);(case z3=>rfl))|((with_reducible show iT _ _ _ _ _ _ _ _ _ _);(with_reducible refine' iT.to ?z1 ?z2 ?z3);(case z1=>with_reducible assumption);(case z2=>exact⟨rfl,rfl,rfl,rfl,rfl⟩);(case z3=>rfl))|((with_reducible show jP _ _ _ _ _ _ _ _ _);(with_reducible refine' jP.to ?z1 ?z2);(case z1=>with_reducible assumption);(case z2=>exact⟨rfl,rfl,rfl,rfl,rfl⟩))|((with_reducible show pV _ _ _ _ _ _ _ _ _);(with_reducible refine' pV.to ?z1 ?z2);(case z1=>with_reducible assumption);(case z2=>exact⟨rfl,rfl,rfl,rfl,rfl⟩))|exact hr|exact F8|exact wb|exact T.bs _ (by decide +kernel)|exact T.cst (_,_) (by decide +kernel)|exact .inl rfl|exact .inr rfl|exact .inr (.inl rfl)|exact .inr (.inr rfl)|exact nd|exact uP (by kernel_rfl)|exact PassesOwn.leaving|exact Dh|exact wJ|exact λ_=>rfl|exact λ_ _=>rfl|((with_reducible intro _ _ _ _);infer_instance)|exact T.e_NoComings|exact T.e_NoErrand|exact T.e_NoErrands|exact T.e_NoRanks|exact IV|exact T.k_Holding.cl|exact T.k_Holding.na _ (by decide +kernel)|exact T.k_Jobs.cl|exact T.k_Jobs.na _ (by decide +kernel)|exact B9|exact bt_bool|exact wQ|exact tO|exact cw.u1 hr|exact hr.units|exact⟨rfl,rfl,rfl,rfl⟩|exact hr.in1.deeper _|exact cw.u1 (hr.in1.deeper _)|decide|with_unfolding_all rfl)
local macro_rules | `(tactic| nofun)=>`(tactic| (try have:=AU (P:=P) (w:=w) (base:=base) T.toTx;try have:=xP P w T;try have:=C6 P w T;try have:=jf P w T;try have:=yt P w T;try have:=qC P w T;try have:=xS P w T;try have:=ng P w T;try have:=yG P w T;try have:=n9 P w T;try have:=AF P w T;try have:=wB P w T;try have:=vJ P w T;try have:=AL P w T;try have:=qZ P w T;try have:=Iz P w T;try have:=vF P w T;try have:=Bt P w T;try have:=uB P w T;try have:=Jr P w T;try have:=vA P w T;try have:=uy P w T;try have:=k8 P w T;try have:=Bg P w T;try have:=wO (P:=P) (w:=w) (base:=base) T.toTx;try have:=qu P w T;try have:=CK P w T;try have:=lN P w T;try have:=gw P w T;try have:=rj P w T;try have:=wR P w T;try have:=CN P w T;try have:=u5 P w T;try have:=mz P w T;try have:=p8 P w T;try have:=gu P w T;try have:=jd P w T;try have:=CO P w T;try have:=Lr P w T;try have:=mx P w T;try have:=qN P w T;try have:=vO P w T;try have:=uG P w T;try have:=qO P w T))
local macro_rules | `(tactic| and_intros)=>`(tactic| (nofun;intro f cdv A outer s H E nd hr;infer_instance))
theorem AY (T:Tx K mg cs) { aR aW cM aQ gf:Gf} {gm_Jobs_go_on:List (Str×PyData)->Option (List (Str×PyData))} (jf:iA P w K mg base 3 "heights_of" 2 aR) (gw:iT P w K mg base 1 cs.Jobs "are_done" 1 aW) (p8:iA P w K mg base 6 "picked" 3 cM) (gu:iT P w K mg base 1 cs.Jobs "is_there" 2 aQ) (jd:jP P w K mg base 3 cs.Jobs "go_on" gm_Jobs_go_on) (yQ:MkD P w K mg base 1 "Jobs" cs.Jobs JN JT) {Gt:Ds->Sr}
  (hGt:∀δ,Gt δ≠.no->∃d ds fss,Gt δ=.rt d/\5<δ.length/\δ.length=9/\(iO (ae (af 2) ah)) (mask [6] δ)=.ok ds/\ds.length<=1000000/\fss.length=ds.length/\(∀(i:Nat) d,ds[i]?=some d->∃ow fs,jI d=some ow/\fss[i]?=some fs/\(ae (af 9) (ae (g2 dIx (g2 dIx (af 0) (af 9)) (gC (.int 3))) (ae (kW (af 1) (af 9)) (ae (af 10) ah)))) (mask [6] δ++ow)=.ok fs/\fs.length=JN.length) /\
   ∀as:List Addr,as.length=ds.length->as.Nodup->i6 cs aR aW cM aQ gm_Jobs_go_on as (δ.set 5 (some (.list (kF cs.Jobs JN JT as fss))))=.rt d)
  (hL:∀ds,ds.length=4->gf ds≠.no->bc (az (aL [6] 4 (aq aR (ae (af 0) (ae (af 1) ah)))) Gt (ds.map some++List.replicate 5 none))=gf ds):iA P w K mg base 7 "run_of" 4 gf :=
 dA P w base 6 [6] ["errands", "ranks", "rows", "lending", "tops", "queues", "told", "there", "best"] T.f_run_of hL λf cdv A outer s H E nd hr=>iJ (by infer_instance) (Fo (PS.imp (pX (i:=5) (M:=["errands", "ranks", "rows", "lending", "tops", "queues", "told", "there", "best"]) (own:=["number", "row"]) (te:=eMk K E0 cs.Jobs JN JT (ae (af 9) (ae (g2 dIx (g2 dIx (af 0) (af 9)) (gC (.int 3))) (ae (kW (af 1) (af 9)) (ae (af 10) ah))))) rfl nd rfl (by first|exact Or.inl rfl|exact Or.inr rfl) rfl (show PID _ E _ _ (iO (ae (af 2) ah)) from by infer_instance) (λ_ _ _ _=>(DR rfl (qH (tw (i:=9) (uP (by kernel_rfl)) rfl (Or.inl rfl) (.inr rfl)) (qH (tw (i:=10) (uP (by kernel_rfl)) rfl (Or.inl rfl) (.inr rfl)) Aj)))) (λ_ _ _ _=>.nil) (λ_ _ _ _=>K0 yQ hr wb (by infer_instance))) (λD σ H h=>Ie (n0:=9) wJ σ H _ h)) (λas=>by delta i6;infer_instance) (by decide) hGt)
variable (P w) (T:Ty K mg cs base)
def xP:=dA P w base 0 [] ["errand", "tool"] T.f_has_tool (yh cs) (by delta jh;and_intros)
def C6:=dA P w base 1 [] ["errands", "ranks", "tool", "place", "number"] T.f_height (Dw cs) (by delta me;and_intros)
def jf:=dA P w base 2 [] ["errands", "ranks"] T.f_heights_of (uq cs) (by delta gN;and_intros)
def yt:=dA P w base 3 [5] ["errands", "ranks", "number", "place", "tops", "found", "lower", "part", "pair"] T.f_holdings (xJ cs) (by delta ja;and_intros)
def qC:=dA P w base 4 [] ["errands", "ranks", "number"] T.f_hold_by_high (pE cs) (by delta fq;and_intros)
def xS:=dA P w base 0 [] ["thing", "least", "most"] T.f_is_whole (xq cs) (by delta jn;and_intros)
def ng:=dA P w base 1 [] ["errands", "number"] T.f_checked_number (mj cs) (by delta eo;and_intros)
def yG:=dA P w base 0 [] ["thing", "fewest", "most"] T.f_is_tuple (yR cs) (by delta i4;and_intros)
def n9:=dA P w base 1 [] ["errands", "ranks", "last"] T.f_checked_ranks (n8 cs) (by delta cL;and_intros)
def AF:=dA P w base 1 [] ["thing"] T.f_is_part (BI cs) (by delta gU;and_intros)
def wB:=dA P w base 2 [] ["thing"] T.f_are_parts (wo cs) (by delta fX;and_intros)
def vJ:=dA P w base 3 [] ["thing", "every", "due", "late"] T.f_is_errand (wt cs) (by delta dS;and_intros)
def AL:=dA P w base 4 [] ["errands"] T.f_checked (BK cs) (by delta iX;and_intros)
def qZ:=dA P w base 5 [] ["errands", "ranks", "number"] T.f_check_place (qX cs) (by delta fO;and_intros)
def Iz:=dA P w base 6 [] ["errands", "ranks", "number"] T.f_hold (Iw cs) (by delta tU;and_intros)
def vF:=dA P w base 0 [2] ["_law_errands_here", "_law_times", "_law_made", "_law_every", "_law_due", "_law_late", "_law_parts"] T.f_law_taken (vR cs) (by delta f6;and_intros)
def Bt:=dA P w base 0 [] ["errand"] T.f_work_of (AG cs) (by delta rF;and_intros)
def uB:=dA P w base 0 [] ["times", "every"] T.f_rounded_up (tR cs) (by delta gP;and_intros)
def Jr:=dA P w base 1 [] ["errands", "ranks", "number", "held_up", "times", "total", "higher", "errand"] T.f_need (HG cs) (by delta ui;and_intros)
def vA:=dA P w base 2 [5] ["errands", "ranks", "number", "held_up", "most", "found", "level", "following"] T.f_levels_by (wC cs) (by delta iq;and_intros)
def uy:=dA P w base 3 [] ["errands", "ranks", "number", "held_up", "found"] T.f_longest_by (tI cs) (by delta fz;and_intros)
def k8:=dA P w base 5 [] ["errands", "ranks", "number"] T.f_longest_by_high (lT cs) (by delta dQ;and_intros)
def Bg:=dA P w base 6 [] ["errands", "ranks", "number"] T.f_longest (BC cs) (by delta kl;and_intros)
def qu:=dA P w base 0 [] ["errand", "row", "every", "late", "earliest", "came", "moment"] T.f_have_moments (qL cs) (by delta fj;and_intros)
def CK:=dA P w base 1 [] ["errand", "thing"] T.f_is_row (Eb cs) (by delta k9;and_intros)
def lN:=dA P w base 5 [] ["errands", "comings"] T.f_checked_comings (lZ cs) (by delta dP;and_intros)
def gw:=dM P w base 0 [] ["self"] (gf:=aW cs) (G:=dE cs) T.k_Jobs.mt_Jobs_are_done T.k_Jobs.cl (mg:=mg) jJ (by delta dE;and_intros)
def rj:=dM P w base 0 [] ["self"] (gf:=aM cs) (G:=eG cs) T.k_Jobs.mt_Jobs_wanted T.k_Jobs.cl (mg:=mg) jJ (by delta eG;and_intros)
def wR:=dM P w base 0 [] ["self"] (gf:=aT cs) (G:=fS cs) T.k_Jobs.mt_Jobs_held T.k_Jobs.cl (mg:=mg) jJ (by delta fS;and_intros)
def CN:=dA P w base 1 [] ["there", "tool", "jobs"] (gf:=bN cs) (G:=jW cs _) T.f_holder jJ (by delta jW;and_intros)
def u5:=dA P w base 2 [1] ["there", "lent", "jobs", "other"] (gf:=cE cs) (G:=gO cs _ _) T.f_lent_ranks jJ (by delta gO;and_intros)
def mz:=dA P w base 1 [] ["jobs", "tops", "tool"] (gf:=bZ cs) (G:=cg cs _) T.f_height_by_high jJ (by delta cg;and_intros)
def p8:=dT (P:=P) (w:=w) 5 [] ["there", "tops", "lending", "free", "lent"] (gf:=cM cs) (G:=jQ cs _ _ _ _) T.f_picked T.nm_picked T.tb_picked T.hB T.hK jJ λf cdv A outer s H E nd hr c Pt TAB=>by delta jQ;nofun;exact (iJ (Dg (by infer_instance) (oy (ux (pF (N:=["jobs", "tops"]) (p:="jobs") (cap:=[1]) (T.bs _ (by decide)) hr (by infer_instance) TAB (λq c' s H=>(by infer_instance))))) uE)      (iJ (by infer_instance)      (iJ (by infer_instance)      (oy (ux (pF (N:=["jobs", "lent"]) (p:="jobs") (cap:=[4]) (T.bs _ (by decide)) hr (by infer_instance) TAB (λq c' s H=>(by infer_instance))))))))
def gu:=dM P w base 0 [] ["self", "time"] (gf:=aQ cs) (G:=dD cs) T.k_Jobs.mt_Jobs_is_there T.k_Jobs.cl (mg:=mg) jJ (by delta dD;and_intros)
def jd:=dK (P:=P) (w:=w) (base:=base) (mg:=mg) 2 ["self"] T.k_Jobs.mt_Jobs_go_on T.k_Jobs.cl (D9 cs) λas f cdv A outer s H E nd hr=>by delta gJ;nofun;infer_instance
def CO:=AY (P:=P) (w:=w) (base:=base) T.toTx (jf P w T) (gw P w T) (p8 P w T) (gu P w T) (jd P w T) (yQ T.toTx) (Gq cs) (DP cs)
def Lr:=dA P w base 7 [] ["errands", "ranks", "comings", "lending"] T.f_run (KU cs) (by delta zY;and_intros)
def mx:=dA P w base 2 [6] ["_law_script", "_law_at", "_law_errand_here", "_law_span", "_law_seed", "_law_moment", "_law_made", "_law_k", "_law_drawn", "_law_come"] T.f_law_coming_row (nv cs) (by delta c7;and_intros)
def qN:=dA P w base 3 [] ["_law_script", "_law_at", "_law_errands_here", "_law_span"] T.f_law_comings (rg cs) (by delta eI;and_intros)
def vO:=dA P w base 2 [3,4] ["_law_script", "_law_at", "_law_many", "_law_left", "_law_made", "_law_k"] T.f_law_ranks (u9 cs) (by delta ia;and_intros)
def uG:=dA P w base 2 [7] ["_law_script", "_law_at", "_law_top", "_law_tools", "_law_every", "_law_late", "_law_due", "_law_parts", "_law_k", "_law_cell"] T.f_law_errand (ur cs) (by delta gE;and_intros)
def qO:=dA P w base 3 [] ["_law_script", "_law_at", "_law_most", "_law_top", "_law_tools", "_law_many"] T.f_law_errands (rn cs) (by delta fP;and_intros)
theorem law_ok (T:Ty K mg cs base) (F:Fun K "law" "law" (top 60) f fd):gM P w K mg base (CXW P w) 9 f fd ["_law_script"] (spD K 1 (fR 63)) :=
 dL (ps:=["_law_script"]) 8 [5] ["_law_script", "_law_errands_here", "_law_ranks_here", "_law_comings_here", "_law_done", "_law_spent", "_law_time", "_law_job", "_law_number", "_law_whole", "_law_times", "_law_most", "_law_due"] F (Kt cs) (by delta z0;and_intros)
end
end RS
namespace L2
open PySem PySem.Spec PyProof.Rows
theorem E8 {kV dc:Value}
  (hb:∀(kV doc pm:Value) (an:Option Addr) (cdv ct:Value) (us:List Value),us.length=ps.length->bindArgs (PySem.W.fnOf m qual (fi st) (cj st) (aE st) .none kV doc pm an cdv ct) ⟨us,[]⟩=pure (ps.zip us))
  (hm:Meth K C m f) (l:K.lookup f=some ⟨oc,od,.func (PySem.W.fnOf m qual (fi st) (cj st) (aE st) .none kV dc pm an cd ct),sl⟩)
  (c:PySem.W.codeIn K cd qual=true) (k:PySem.W.keepIn K (.ref f)=true):∃f fd,Fun K m qual st f fd/\Binds K fd ps []/\Meth K C m f :=
 have F:=xH (st:=st) l c k
 ⟨f,_,F,F.binds hb,hm⟩
end L2
set_option maxHeartbeats 4000000
namespace L2
open PySem PySem.Spec PyProof.Rows
variable {P:Addr} {vs:Array Value}
theorem Ed {o:Obj} (h1:PySem.W.nsIn K mainGlobals x=some (some (.ref f))) (h2:K.lookup f=some ⟨oc,od,.func fd,sl⟩) (h3:fd.code=.ref c) (h4:K.lookup c=some o) (h5:o.data=.fields vs) (h6:vs[11]?=some (.ref P)):PySem.W.tabIn K x=some (c,P):=by obtain⟨cl,di,da,so⟩:=o;cases h5;unfold PySem.W.tabIn;rw[h1];simp only;rw[h2];simp only;rw[h3];simp only;rw[h4];simp only;rw[h6]
theorem Bq (hl:lG=[x]) {p:Program} {d:DefRec} (hr:(recsOf p).find? (λe=>e.name==x)=some d) (hn:PySem.W.noTabs K=true) (T:Top p loose mean mg mb h) (X:K.In h):mH K h:=by
 refine⟨λP q ⟨x',hx,f,oc,od,fd,sl,c,h1,h2,h3,⟨o,vs,h4,h5,h6⟩,hq⟩=>?_,λP q q' ⟨x1,hx1,_,_,_,_,_,_,_,_,_,_,e1⟩ ⟨x2,hx2,_,_,_,_,_,_,_,_,_,_,e2⟩=>?_⟩
 ·rw[hl]at hx;cases Mw.mp hx;have ht:=Ed h1 h2 h3 h4 h5 h6;obtain⟨hc,hp⟩:=PySem.W.tab_of T X hr ht;refine⟨hp,?_,?_⟩
  ·cases z:K.lookup P with
   |none=>rfl
   |some o' =>exfalso;have e:=X P o' z;rw[hp]at e;cases e;have h7:=MD.mp hn (P,_) (PySem.W.mem_of_lookupK z);exact absurd (show false=true from h7) MG
  ·obtain⟨o2,vs2,_,_,_,_,_,_,_,g1,g2,g3,g4,_⟩:=hc;exact⟨c,o2,vs2,g1,g2,g3,g4⟩
 ·rw[hl]at hx1 hx2;rw[e1,e2,Mw.mp hx1,Mw.mp hx2]
theorem A3 {file:Str} {tf:Nat} {flags text:Int} {tg tt:Nat} {inF:Bool} (l:K.lookup c=some ⟨.type "code",od,.fields vs,sl⟩) (h11:vs[11]?=some (.ref P)) (h18:vs.getD 18 .none=.str file tf) (h7:vs.getD 7 .none=.int flags tg) (h9:vs.getD 9 .none=.bool inF) (h10:vs.getD 10 .none=.int text tt) (ne:(c != P)=true):PySem.W.codeHdIn K c P=true:=by unfold PySem.W.codeHdIn;rw[l];simp only;rw[h11,h18,h7,h9,h10,ne];simp
theorem F0 {od2:Option Addr} {sl2:Array (Option Value)} {file:Str} {tf:Nat} {flags text:Int} {tg tt:Nat} {inF:Bool} (h1:PySem.W.nsIn K mainGlobals x=some (some (.ref f))) (h2:K.lookup f=some ⟨oc,od,.func fd,sl⟩) (h3:fd.code=.ref c) (l:K.lookup c=some ⟨.type "code",od2,.fields vs,sl2⟩) (h11:vs[11]?=some (.ref P)) (h18:vs.getD 18 .none=.str file tf) (h7:vs.getD 7 .none=.int flags tg) (h9:vs.getD 9 .none=.bool inF) (h10:vs.getD 10 .none=.int text tt) (ne:(c != P)=true):Gs K x :=
 ⟨f,oc,od,fd,sl,c,P,_,vs,h1,h2,h3,l,rfl,h11,A3 l h11 h18 h7 h9 h10 ne⟩
theorem yl (hl:lG=[x]) {p:Program} (hr:((recsOf p).find? (λe=>e.name==x)).isSome=true) (hn:PySem.W.noTabs K=true) (T:Top p loose mean mg mb h) (X:K.In h):mH K h:=by obtain⟨d,hd⟩:=Option.isSome_iff_exists.mp hr;exact Bq hl hd hn T X
end L2
set_option hygiene false
local macro_rules | `(tactic| and_intros)=>`(tactic| first|(refine' RS.Et KX G (λ_ _ _ _ _ _ us hl=>by obtain⟨f,rfl⟩:=RS.AQ PySem.Value.none hl;rfl) ?za ?zl ?zc ?zk;(case za=>k_is);(case zl=>k_is);(case zc=>k_is);(case zk=>k_is))|(refine' L2.E8 (λ_ _ _ _ _ _ us hl=>by obtain⟨f,rfl⟩:=RS.AQ PySem.Value.none hl;rfl) ⟨?zm,?zf,?zp⟩ ?zl ?zc ?zq;(case zm=>k_is);(case zf=>k_is);(case zp=>k_is);(case zl=>k_is);(case zc=>k_is);(case zq=>k_is))|(refine' PySem.W.mg_of KX G ?za;(case za=>k_is))|(refine' PySem.W.mg_none_of KX G ?zz;(case zz=>k_is))|(refine' RS.FV KX G ?zz;(case zz=>k_is))|(refine' RS.Aa KX G ?za ?ze;(case za=>k_is);(case ze=>k_exc))|(refine'⟨_,RS.Aa KX G ?za ?ze⟩;(case za=>k_is);(case ze=>k_exc))|(refine'⟨?zp,?zh,?zo,?zs⟩;(case zp=>k_is);(case zh=>k_is);(case zo=>k_is);(case zs=>k_is))|(refine' L2.GZ (λ_ _ _ _ _ _ us hl=>by obtain⟨f,rfl⟩:=RS.AQ PySem.Value.none hl;rfl) ?za ?zi ?zl ?zc ?zk ?zm ?zx;(case za=>k_is);(case zi=>k_is);(case zl=>k_is);(case zc=>k_is);(case zk=>k_is);(case zm=>k_is);(case zx=>k_is))|exact List.forall_mem_nil _|((first|refine List.forall_mem_cons.2 ⟨?_,?_⟩|refine List.forall_mem_singleton.2 ?_) <;> (try dsimp only) <;> and_intros)|(refine' L2.F0 ?za ?zb ?zc ?zd ?ze ?zf ?zg ?zh ?zi ?zj;(case za=>k_is);(case zb=>k_is);(case zc=>exact rfl);(case zd=>k_is);(case ze=>exact rfl);(case zf=>exact rfl);(case zg=>exact rfl);(case zh=>exact rfl);(case zi=>exact rfl);(case zj=>decide))|exact λg e=>PySem.W.mg_of KX G e|(delta L2.fw;k_is)|(dsimp only;and_intros))
open PySem PySem.W PyProof.Rows
set_option maxRecDepth 100000 in
set_option maxHeartbeats 0 in
theorem PySem.Challenge.cw_ranksure_k22_whole_without_tools_holds : PySem.Challenge.rw_ranksure_k22_whole_without_tools.Holds := by
 refine RS.hdTop ?_
 k_fill
 refine RS.Le (l:=PySem.Challenge.rw_ranksure_k22_whole_without_tools) (n:=63) (k:=9) (x:="_law_script") (st:=RS.top 60) rfl (by decide) rfl ⟨rfl,by decide,by decide⟩ (λw h Y=>PySem.W.km_in_of Y) (λ_ _ _ _ _ _ us hl=>by obtain⟨f,rfl⟩:=RS.AQ PySem.Value.none hl;rfl) ?F (λw h l m mg mb T X=>L2.yl (x:="picked") rfl (by kernel_rfl) (by kernel_rfl) T X)
 case F =>
  intro w mg h KX G;obtain⟨c_NoComings,h_NoComings⟩:∃C,L2.qR (L2.KOf KX) mg "NoComings" C:=by delta L2.KOf;and_intros
  obtain⟨c_NoErrand,h_NoErrand⟩:∃C,L2.qR (L2.KOf KX) mg "NoErrand" C:=by delta L2.KOf;and_intros
  obtain⟨c_NoErrands,h_NoErrands⟩:∃C,L2.qR (L2.KOf KX) mg "NoErrands" C:=by delta L2.KOf;and_intros
  obtain⟨c_NoRanks,h_NoRanks⟩:∃C,L2.qR (L2.KOf KX) mg "NoRanks" C:=by delta L2.KOf;and_intros
  obtain⟨c_Holding,h_Holding,k_Holding⟩:∃C,mg "Holding"=some (.ref C)/\RS.qd (L2.KOf KX) C:=by
   delta L2.KOf
   refine'⟨_,PySem.W.mg_of KX G ?za,⟨?zp,?zh,?zo,?zs⟩,?yHolding0,?yHolding1⟩
   (case za=>k_is);(case zp=>k_is);(case zh=>k_is);(case zo=>k_is);(case zs=>k_is);all_goals and_intros
  obtain⟨c_Jobs,h_Jobs,k_Jobs⟩:∃C,mg "Jobs"=some (.ref C)/\RS.yW (L2.KOf KX) C:=by
   delta L2.KOf
   refine'⟨_,PySem.W.mg_of KX G ?za,⟨?zp,?zh,?zo,?zs⟩,?yJobs0,?yJobs1,?yJobs2,?yJobs3,?yJobs4,?yJobs5,?yJobs6⟩
   (case za=>k_is);(case zp=>k_is);(case zh=>k_is);(case zo=>k_is);(case zs=>k_is);all_goals and_intros
  have T:RS.Tx (L2.KOf KX) mg ⟨0,c_NoErrands,c_NoRanks,c_NoComings,c_NoErrand,0,0,0,c_Holding,c_Jobs⟩:=by constructor <;> first|assumption|((try delta L2.KOf);and_intros)
  exact⟨T.f_law,λf fd F base hb hn hB=>RS.law_ok _ _ ⟨T,hB,hb⟩ F⟩
end
