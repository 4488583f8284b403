import PyProof.Rows.All
import OpenK.AllK
import PySem.Challenge.RW_ranksure_k22_whole_without_tools
import KE.RegKIsAll
import Wide.All
import OpenK.KWalk
import OpenK.KMake
import OpenK.KDescr
import OpenK.KCall
import OpenK.KOwn
import KE.KIsAll
import KE.KItem
import KE.KxBytes
import Wide.FinOn
import Lean
import PyProof.EqAt
import PyProof.EqKinds
import PyProof.TupleCall
import KE.LcSums
import PyProof.Rows.EqDataRows
import PyProof.RulesAs
import PyProof.ZipIter
import PyProof.Draws
import PyProof.Rows.TupAdd
import PyProof.ListMulRoad
import PyProof.AutoListH
import PyProof.Rows.Range3
import PyProof.ListRange
import PyProof.EnumMake
import PyProof.EnumFor
import PyProof.Rows.SetFrom
import PyProof.WalksMore
import PyProof.StrOps2
import PyProof.Rows.MinMaxN
import PyProof.ConsumeWalk
import PyProof.Rows.SortWalk
import PyProof.ExcArgsOwn
import PyProof.StrBlock2
import KE.KMinKey
import PyProof.Rows.CallKwBuiltin
import PySem.PyData
import KE.KLam
import KE.KDictLaws
import KE.KDictMeth
import KE.KDictObj
import KE.KDictLetter
import OpenK.KDict
import KE.KDictOf
import PyProof.Rows.RegDictMethods
import KE.KNestM
noncomputable section
set_option genSizeOf false
set_option genSizeOfSpec false
set_option genInjectivity false
set_option compiler.extract_closed false
set_option bootstrap.genMatcherCode false
set_option Elab.async false
set_option linter.all false
abbrev L0:=@PySem.Heap.get?_push_of_some
abbrev L1:=@List.getElem?_eq_getElem
abbrev L3:=@List.length_map
abbrev L4:=@List.mem_cons_of_mem
abbrev L5:=@List.map_cons
abbrev L6:=@List.mem_cons_self
abbrev L7:=@List.mem_cons
abbrev L8:=@Bool.and_eq_true
abbrev L9:=@List.mem_map
abbrev LJ:=@List.mem_append_right
abbrev LK:=@Nat.le_refl
abbrev LL:=@List.length_append
abbrev LM:=@List.mem_singleton
abbrev LN:=@PySem.Heap.lt_size
abbrev LO:=@List.size_toArray
abbrev LP:=@PySem.Heap.get?_push_size
abbrev LQ:=@List.getElem?_map
abbrev LR:=@Nat.ne_of_lt
abbrev LS:=@List.length_cons
abbrev LU:=@List.all_eq_true
abbrev LV:=@Nat.lt_of_lt_of_le
abbrev LW:=@List.map_map
abbrev LX:=@Bool.false_ne_true
abbrev LY:=@List.map_congr_left
abbrev LZ:=@List.not_mem_nil
abbrev M0:=@Bool.false_eq_true
abbrev M1:=@List.getD_eq_getElem?_getD
abbrev M3:=@List.getElem?_append_left
abbrev M4:=@List.mem_append
abbrev M5:=@List.lookup_cons
abbrev M6:=@List.getElem?_append_right
abbrev M7:=@List.getElem?_set_ne
abbrev M8:=@List.getElem?_eq_some_iff
abbrev M9:=@List.length_singleton
abbrev Ma:=@List.nil_append
abbrev Mb:=@Int.toNat_natCast
abbrev Mc:=@List.cons_append
abbrev Md:=@List.mem_filter
abbrev Me:=@List.mem_append_left
abbrev Mf:=@List.nodup_cons
abbrev Mg:=@Int.mul_le_mul_of_nonneg_right
abbrev Mh:=@List.getElem_mem
abbrev Mi:=@List.mem_of_getElem?
abbrev Mj:=@List.getElem?_set_self
abbrev Ml:=@Int.natCast_nonneg
abbrev Mm:=@List.map_append
abbrev Mn:=@List.append_nil
abbrev Mo:=@PySem.Heap.get?_update_other
abbrev Mp:=@List.append_assoc
abbrev Mq:=@List.sum_cons
abbrev Mr:=@List.map_nil
abbrev Ms:=@Bool.and_eq_false_iff
abbrev Mt:=@Int.emod_nonneg
abbrev Mu:=@Bool.and_eq_true_iff
abbrev Mv:=@Nat.le_trans
abbrev Mw:=@Nat.zero_le
abbrev Mx:=@Nat.lt_succ_of_lt
abbrev My:=@Nat.ne_of_gt
abbrev Mz:=@Nat.le_add_right
abbrev MA:=@List.map_id
abbrev MB:=@List.mem_of_mem_take
abbrev MC:=@List.getElem?_cons_succ
abbrev MD:=@List.getElem?_cons_zero
abbrev ME:=@List.length_nil
abbrev MF:=@Option.map_some
abbrev MG:=@List.find?_cons
abbrev MH:=@Array.length_toList
abbrev MI:=@List.replicate_succ
abbrev MJ:=@List.length_pos_iff
abbrev MK:=@Int.toNat_of_nonneg
abbrev ML:=@Nat.lt_irrefl
abbrev MM:=@Int.emod_lt_of_pos
abbrev MN:=@List.flatten_cons
abbrev MO:=@Nat.lt_succ_self
abbrev MP:=@Option.map_eq_some_iff
abbrev MQ:=@Int.le_refl
abbrev MR:=@List.getElem?_mapIdx
abbrev MS:=@List.mem_range
abbrev MT:=@Nat.zero_add
abbrev MU:=@List.filter_cons
abbrev MV:=@List.length_eq_zero_iff
abbrev MW:=@List.any_cons
abbrev MX:=@List.foldl_cons
abbrev MY:=@List.set_cons_succ
abbrev MZ:=@List.set_cons_zero
abbrev N0:=@Int.add_mul
abbrev N1:=@PySem.Heap.get?_update_self
abbrev N2:=@List.getElem?_eq_none
abbrev N3:=@List.length_take
abbrev N4:=@Option.bind_some
abbrev N5:=@List.mem_of_mem_drop
abbrev N6:=@List.all_cons
abbrev N7:=@Bool.and_true
abbrev N8:=@Nat.le_succ
abbrev N9:=@List.filterMap_cons
abbrev Na:=@List.getElem?_range
abbrev Nb:=@List.take_succ_cons
abbrev Nc:=@List.of_mem_zip
abbrev Nd:=@List.forIn_cons
abbrev Nf:=@List.drop_eq_getElem_cons
abbrev Ng:=@List.zip_cons_cons
abbrev Nh:=@List.pairwise_cons
abbrev Ni:=@Bool.not_false
abbrev Nj:=@List.getElem?_replicate
abbrev Nk:=@List.getLast?_map
abbrev Nl:=@Int.ediv_eq_zero_of_lt
abbrev Nm:=@Bool.true_and
abbrev Nn:=@Bool.not_true
abbrev Np:=@List.length_drop
abbrev Nq:=@List.any_eq_true
abbrev Nr:=@List.ext_getElem
abbrev Nt:=@Array.getElem?_toList
abbrev Nu:=@List.set_append_right
abbrev Nv:=@Int.mul_ediv_add_emod
abbrev Nw:=@List.map_eq_nil_iff
abbrev Nx:=@Int.mul_nonneg
abbrev Ny:=@List.mem_filterMap
abbrev Nz:=@List.find?_eq_none
abbrev NA:=@Int.lt_of_lt_of_le
abbrev NB:=@Bool.and_self
abbrev NC:=@Bool.not_eq_true'
abbrev ND:=@List.length_range
abbrev NF:=@List.nodup_append
abbrev NG:=@List.findIdx_cons
abbrev NH:=@Nat.le_of_lt
abbrev NI:=@List.drop_length
abbrev NJ:=@List.range'_succ
abbrev NK:=@Int.le_trans
abbrev NL:=@List.mapIdx_cons
abbrev NM:=@List.getElem_map
variable {p pos pos' cpos spos tp pn p2 pos2 kp:Pos} {q P prog:Program} {loose N M ps own names:List Str} {α β:Type} {us its':List Value} {a b it c C dx f D:Addr} {h base h':Heap} {items its:Array Value} {w:World} {g':Array GenState} {t' i j x1 n0:Nat} {ch A fp B A0 as:List Addr} {x m qual:Str} {E Q:Value->Shared->Prop} {u cd pm ct oc vl vu dc:Value} {s' s:Shared} {pins:List (Addr×Obj)} {op:CmpOp} {K:PySem.W.Frag} {n t many span:Int} {tg body iter elt:Expr} {g:List (Str×PyData)->Option (List (Str×PyData))} {lo hi:Option Int} {mA mg mb:Str->Option Value} {kw:List (Str×Value)} {env:Env} {outer:List Env} {fd:FuncData} {scope:Scope} {params:Arguments} {an od:Option Addr} {osl sl:Array (Option Value)} {l:List (Int×Int)} {ns rs:List Int} {XP:(Str->Option Value)->Heap->Prop} {YP:World->Heap->Prop} {st:Stmt} {ifs elts:List Expr} {ds told:List PyData} {newId:String} {O cap:List Nat} {d0 nd tops:PyData} {ss':List Stmt} {cl clos:List (Str×Addr)} {tl:List (Str×Int)} {rows:List (List Int)} {x9 x7 x11 x12:Option PyData} {mean:ExcName->Option Value}
namespace RS
open PySem PySem.W PyProof.Rows
def yF (p:Program) (w:World) (m:Nat) (ann:Option Value):Nat->SharedT->Thread->Option SharedT
 | 0,_,_=>none
 | n+1,s,t=>match through t with
  | true=>some s
  | false=>match Fast.tw6613529449190102663 m ann t with
   | false=>none
   | true=>match Fast.tw10156331382660048174 (Fast.tw11892475500146522536 Fast.tw14364793385576792824) p w s t with
    | some x=>yF p w m ann n x.1 x.2
    | none=>none
theorem wq {p:Program} {w:World} {m:Nat} {ann:Option Value}:∀ {n:Nat} {s s':SharedT} {t:Thread},yF p w m ann n s t=some s'->topRun treeTable p w m ann n s.abs t=some s'.abs
 | 0,_,_,_,h=>by cases h
 | n+1,s,s',t,h=>by
  unfold yF at h;rw [<-Fast.te6613529449190102663,<-Fast.te10156331382660048174,<-Fast.te11892475500146522536,<-Fast.te14364793385576792824] at h;unfold topRun;cases ht:through t with
  | true=>rw [ht] at h;cases h;rfl
  | false =>
   rw [ht] at h;cases hk:stepOk m ann t with
   | false=>rw [hk] at h;cases h
   | true =>
    rw [hk] at h;cases hs:stepT (denote treeTable) p w s t with
    | none=>rw [hs] at h;cases h
    | some x =>rw [hs] at h;rw [stepT_spec (s':=x.1) (t':=x.2) hs];exact wq h
def IW (l:List Obj):BT:=(l.foldl (fun x o=>(x.1.ins x.2 o,x.2+1)) (BT.nil,0)).1
def hdS (w:World) (os:OsState):SharedT:=⟨IW (boot_heap w.params).objs.toList,11,(boot_heap w.params).life,Array.mk [],boot_drawn,boot_toks,os⟩
theorem D6 (w:World):(fun os=>(hdS w os).abs)=fun os=>⟨boot_heap w.params,Array.mk [],boot_drawn,boot_toks,os⟩:=by kernel_rfl
theorem Iq (w:World):((boot_heap w.params).isNs mainGlobals&&(Array.mk []:Array GenState).size==0,(boot_heap w.params).objs.size,(boot_heap w.params).nsMap mainGlobals "__annotations__")=(true,11,some (.ref 6)):=by kernel_rfl
def B0 (p q:Program) (loose:List Str) (Xt:Shared->Bool) {α:Type} (Yf:Shared->α) (h:Heap) (s:Shared) :=
 (staticsOk (importedModules p.main.body) h s.heap&&namesBound p s.heap&&gensDone s&&laidKept h s.heap,Fast.tw4187177175401517315 q loose (importedModules p.main.body) Xt true s,Yf s)
theorem ID {p:Program} {Xt:Shared->Bool} {Yf:Shared->α} {Ya:World->α} {N M:Nat}
  (e:opening p=plainProg p.main.scope.names) (hN:Nat.ble 600 N=true) (f:∀ s,fenceModules? p s=some s) (le:Nat.ble M N=true)
  (h:∀ w,(fun os=>(yF p w 11 (some (.ref 6)) M (hdS w os) (topStub p)).map fun s=>B0 p q loose Xt Yf (boot_heap w.params) s.abs)=fun _=>some (true,openGood q loose,Ya w)):LeftO p q loose Xt Yf Ya N:=fun w=>by
 obtain ⟨⟨hp,gs,d,k,os⟩,e1,e'⟩:=MP.mp (boot_open e hN f w);obtain ⟨rfl,rfl,rfl,rfl⟩:hp=boot_heap w.params/\gs=Array.mk []/\d=boot_drawn/\k=boot_toks:=by simpa using e'
 obtain ⟨z1,z2,z3⟩:_/\_/\_:=by simpa only [Prod.mk.injEq] using Iq w
 obtain ⟨s,hs,hv⟩:=MP.mp (congrFun (h w) os);obtain ⟨l1,l2,l3⟩:_/\_/\_:=by simpa only [B0,<-Fast.te4187177175401517315,Prod.mk.injEq] using hv
 have r:=wq hs;rw [congrFun (D6 w) os] at r;have r:=topRun_mono (N-M) _ _ _ _ r;rw [show M+(N-M)=N by have:=Nat.le_of_ble_eq_true le;omega] at r;unfold openEnds;rw [e1];show (topFrom treeTable p w N _).map _=_;have t:topFrom treeTable p w N ⟨boot_heap w.params,Array.mk [],boot_drawn,boot_toks,os⟩=some s.abs:=by unfold topFrom;dsimp only;rw [z1,z2,z3,r];show (match staticsOk (importedModules p.main.body) (boot_heap w.params) s.abs.heap&&namesBound p s.abs.heap&&gensDone s.abs&&laidKept (boot_heap w.params) s.abs.heap with | true=>_ | false=>_)=_;rw [l1]
 rw [t];exact congrArg some (Prod.ext l2 l3)
end RS
section
open PySem PySem.W PyProof.Rows
def RS.vw:Program:=view PySem.Challenge.pw_ranksure_k22_whole_without_tools [1,2,3,4,5,7,8,9,10,11,12,13,14,15,16,17,18,19,20,21,22,23,24,25,26,28,29,30,31,32,33,34,35,36,37,38,39,41,42,43,44,45,46,47,48,49,50,52,53,54,55,56,57,58,59,60]
local macro_rules | `(tactic| o_head $H)=>`(tactic| (refine holds_open (N:=6094) (Xt:=fun s=>xlAt RS.vw [] s&&recOk (RowW.records (OpenRow.toRowW (OpenLaw.row PySem.Challenge.rw_ranksure_k22_whole_without_tools))) s) (XP:=XL RS.vw []) (q:=RS.vw) (loose:=[]) (Yf:=Hook.obs $H) (Ya:=Hook.val $H) (YP:=Hook.says $H) ?hl (Hook.of $H) (Hook.keeps $H) (fun s e=>xl_of s (Mu.mp e).1) XL.keeps (by rfl) (by rfl) (by rfl) (fun s e=>recFacts_of (Mu.mp e).2) (by rfl) (by assumption) (by decide +kernel) ⟨rfl,rfl,rfl,rfl,rfl,by decide +kernel⟩ ?hw ?hc;(case hl=>refine RS.ID (M:=3097) (by kernel_rfl) (by rfl) (by intro s;kernel_rfl) (by rfl) fun w=>?_;kernel_rfl)))
set_option maxRecDepth 100000 in
set_option maxHeartbeats 0 in
open_top RS.hdTop for PySem.Challenge.rw_ranksure_k22_whole_without_tools
end
set_option maxRecDepth 100000
namespace L2
open PySem PySem.Spec PyProof.Rows
variable {M:Model} {g:Int->Int->Int} {body:List Stmt} {A:Around} {es:List Expr} {e c:Expr}
abbrev Key:=Sum Int Str
def rV:Key->Value->Bool
 | .inl k,v=>Value.isInt k v
 | .inr x,v=>Value.isStrOf x v
def sM (w:World):Key->Int
 | .inl k=>hashInt k
 | .inr x=>hashStr w x
theorem cR:∀ {k:Key} {v:Value},rV k v=true->(∃ i t,k=Sum.inl i/\v=Value.int i t)\/(∃ x t,k=Sum.inr x/\v=Value.str x t)
 | .inl i,v,h=>by obtain ⟨t,e⟩:=Value.isInt_shape (k:=i) (v:=v) h;exact .inl ⟨i,t,rfl,e⟩
 | .inr x,v,h=>by obtain ⟨t,e⟩:=Value.isStrOf_shape (x:=x) (v:=v) h;exact .inr ⟨x,t,rfl,e⟩
theorem Ao (i:Int) (t:Tok):rV (.inl i) (.int i t)=true:=by simp [rV,Value.isInt]
theorem Al (x:Str) (t:Tok):rV (.inr x) (.str x t)=true:=by simp [rV,Value.isStrOf]
theorem HF (a b:Int):decide ((Sum.inl a:Key)=Sum.inl b)=(a==b):=by
 by_cases e:a=b
 ·subst e;simp
 ·have h:¬ (Sum.inl a:Key)=Sum.inl b:=fun q=>e (Sum.inl.inj q)
  rw [decide_eq_false h];exact (beq_eq_false_iff_ne.mpr e).symm
theorem Jv (a b:Str):decide ((Sum.inr a:Key)=Sum.inr b)=decide (a=b):=by
 by_cases e:a=b
 ·subst e;simp
 ·have h:¬ (Sum.inr a:Key)=Sum.inr b:=fun q=>e (Sum.inr.inj q)
  rw [decide_eq_false h,decide_eq_false e]
theorem HX (a:Int) (b:Str):decide ((Sum.inl a:Key)=Sum.inr b)=false:=decide_eq_false (fun q=>nomatch q)
theorem IC (a:Str) (b:Int):decide ((Sum.inr a:Key)=Sum.inl b)=false:=decide_eq_false (fun q=>nomatch q)
def dC (prog:Program) (w:World):PySem.KeyKind prog w Key where
 is:=rV
 hash:=sM w
 inj:=fun v a b ha hb=>by
  rcases cR ha with ⟨i,t,rfl,rfl⟩ | ⟨x,t,rfl,rfl⟩
  ·rcases cR hb with ⟨j,u,rfl,e⟩ | ⟨y,u,rfl,e⟩
   ·injection e with e1 _;rw [e1]
   ·exact nomatch e
  ·rcases cR hb with ⟨j,u,rfl,e⟩ | ⟨y,u,rfl,e⟩
   ·exact nomatch e
   ·injection e with e1 _;rw [e1]
 byValue:=fun k v h=>by rcases cR h with ⟨i,t,rfl,rfl⟩ | ⟨x,t,rfl,rfl⟩ <;> rfl
 pyHash:=fun hv h=>by
  rcases cR hv with ⟨i,t,rfl,rfl⟩ | ⟨x,t,rfl,rfl⟩
  ·exact wpAny_pyHash_int h
  ·exact wpAny_pyHash_str h
 eqBool:=fun hu hv h=>by
  rcases cR hu with ⟨i,t,rfl,rfl⟩ | ⟨x,t,rfl,rfl⟩
  ·rcases cR hv with ⟨j,u,rfl,rfl⟩ | ⟨y,u,rfl,rfl⟩
   ·rw [HF] at h;exact wpAny_eqBool_int h
   ·rw [HX] at h;exact SeqAt.EqAt.int_str i t y u _ _ _ _ h
  ·rcases cR hv with ⟨j,u,rfl,rfl⟩ | ⟨y,u,rfl,rfl⟩
   ·rw [IC] at h;exact SeqAt.EqAt.str_int x t j u _ _ _ _ h
   ·rw [Jv] at h;exact wpAny_eqBool_str h
 «strs»:=fun k x t v h=>by
  rcases cR h with ⟨i,u,rfl,e⟩ | ⟨y,u,rfl,e⟩
  ·exact nomatch e
  ·injection e with e1 _
   subst e1;cases v <;> rfl
theorem uS (prog:Program) (w:World) (i:Int) (t:Tok):(dC prog w).is (.inl i) (.int i t)=true:=Ao i t
theorem vh (prog:Program) (w:World) (x:Str) (t:Tok):(dC prog w).is (.inr x) (.str x t)=true:=Al x t
inductive V where
 | non | bl (b:Bool) | int (i:Int) | str (x:Str) | byt (b:Array UInt8) | flt (b:UInt64) | ref (a:Addr) | ty (n:String)
 deriving DecidableEq
variable {vs xs:List V} {v:V}
def RelV:V->Value->Prop
 | .non,u=>u=Value.none
 | .bl b,u=>u=Value.bool b
 | .int i,u=>∃ t,u=Value.int i t
 | .str x,u=>∃ t,u=Value.str x t
 | .byt b,u=>∃ t,u=Value.bytes b t
 | .flt b,u=>∃ t,u=Value.float b t
 | .ref a,u=>u=Value.ref a
 | .ty n,u=>u=Value.type n
abbrev Vals:List V->List Value->Prop:=Paired RelV
theorem Vals.length (r:Vals xs us):xs.length=us.length:=Paired.length r
theorem Vals.get:∀ {xs:List V} {us:List Value} {i:Nat} {x:V},Vals xs us->xs[i]?=some x->∃ u,us[i]?=some u/\RelV x u
 | _,_,_,_,.nil,e=>by simp at e
 | _,_,0,_,.cons r _,e=>by simp at e;subst e;exact ⟨_,rfl,r⟩
 | _,_,i+1,x,.cons _ t,e=>by obtain ⟨u,h1,h2⟩:=Vals.get (i:=i) (x:=x) t (by simpa using e);exact ⟨u,by simpa using h1,h2⟩
theorem Vals.set {x:V} {u:Value} (r:RelV x u):∀ {xs:List V} {us:List Value} (i:Nat),Vals xs us->Vals (xs.set i x) (us.set i u)
 | _,_,_,.nil=>.nil
 | _,_,0,.cons _ t=>.cons r t
 | _,_,i+1,.cons q t=>.cons q (Vals.set r i t)
theorem Vals.append {ys:List V} {ws:List Value} (h:Vals xs us) (s:Vals ys ws):Vals (xs++ys) (us++ws):=by
 induction h with
 | nil=>exact s
 | cons r t ih=>exact .cons r ih
theorem Vals.take:∀ {xs:List V} {us:List Value} (n:Nat),Vals xs us->Vals (xs.take n) (us.take n)
 | _,_,0,_=>.nil
 | _,_,_+1,.nil=>.nil
 | _,_,n+1,.cons r t=>.cons r (Vals.take n t)
theorem Vals.drop:∀ {xs:List V} {us:List Value} (n:Nat),Vals xs us->Vals (xs.drop n) (us.drop n)
 | _,_,0,r=>r
 | _,_,_+1,.nil=>.nil
 | _,_,n+1,.cons _ t=>Vals.drop n t
def kr:Option V->Option Value->Prop
 | some v,some u=>RelV v u
 | none,none=>True
 | _,_=>False
def KV {κ:Type}:List (κ×V)->List (κ×Value)->Prop:=Paired fun (p:κ×V) (q:κ×Value)=>p.1=q.1/\RelV p.2 q.2
def kV:Key->V
 | .inl i=>.int i
 | .inr x=>.str x
inductive HO where
 | lst (xs:List V)
 | tup (xs:List V)
 | dK (kvs:List (Key×V)) | dT (kvs:List (List Key×V))
 | set (S:Int->Bool) (n:Nat)
 | ins (C dx:Addr) (fs:List (Str×V))
 | own (x:Addr)
 | xd (fs:List (Str×V))
 | met (f x:Addr)
 | rng (lo hi:Int)
 | frz (o:Obj) (u:HO)
 | tbl (q:Str)
 | ext (φ:Heap->Prop)
variable {o:HO}
abbrev Hp:=Addr->Option HO
variable {H:Hp} {R:V->V->Hp->Prop}
def upd (H:Hp) (a:Addr) (o:HO):Hp:=fun b=>if b=a then some o else H b
theorem aG:upd H a o a=some o:=by unfold upd;rw [if_pos rfl]
theorem aA (h:b≠a):upd H a o b=H b:=by unfold upd;rw [if_neg h]
theorem KU {u:HO} (h:H a=some o) (h':H b=some u) (d:o≠u):a≠b:=by intro e;subst e;rw [h] at h';exact d (Option.some.inj h')
theorem aK (h:H a=some o) (h':H b=none):a≠b:=by intro e;subst e;rw [h] at h';cases h'
def tH (h:Heap) (a:Addr) (items:Array Value):Prop:=∃ o,h.get? a=some o/\o.cls=.type "tuple"/\o.dict=none/\∃ n,o.data=.seq items n
theorem tH.tup (x:tH h a items):IsTup h a items:=by obtain ⟨o,e,c,_,n,d⟩:=x;exact ⟨o,e,c,n,d⟩
theorem tH.new (h:Heap) (items:Array Value):tH (h.push { cls:=.type "tuple",data:=.seq items }) h.objs.size items:=⟨_,LP _ rfl,rfl,rfl,_,rfl⟩
section
variable (P:Program) (w:World)
def dg (H:Hp) (h:Heap) (a:Addr):HO->Prop
 | .lst xs=>xs.length<=sizeLine/\∃ (its:List Value) (n:Nat),Vals xs its/\h.get? a=some { cls:=.type "list",data:=.seq its.toArray n }
 | .tup xs=>xs.length<=sizeLine/\∃ its:List Value,Vals xs its/\tH h a its.toArray
 | .dK kvs=>kvs.length<=sizeLine/\(a==sysModules)=false/\∃ vs,KV kvs vs/\h.DictOf (dC P w) a vs
 | .dT kvs=>kvs.length<=sizeLine/\(a==sysModules)=false/\∃ xs:List (List Key×Addr×Value),
  Paired (fun (p:List Key×V) (q:List Key×Addr×Value)=>p.1=q.1/\H q.2.1=some (.tup (p.1.map kV))/\RelV p.2 q.2.2) kvs xs /\
  ∃ o es ep,h.get? a=some o/\o.ExactDict/\o.data=.dict es ep/\es.toList=xs.map (entryOfKey (tupleKind (dC P w)))/\(xs.map (·.1)).Nodup
 | .set S n=>h.SetOf (intKind P w) a S n
 | .ins C dx fs=>H dx=some (.own a)/\fs.length<=1000/\dx≠a/\h.get? a=some (PySem.W.instObj C dx) /\
  ∃ mA,h.Ns1 dx mA/\(∀ f,kr (fs.lookup f) (mA f))/\PySem.Within mA (fs.map (·.1))
 | .own _=>∃ o,h.get? a=some o
 | .xd fs=>∃ mA,h.Ns1 a mA/\∀ f,kr (fs.lookup f) (mA f)
 | .rng lo hi=>∃ t u v,h.get? a=some { cls:=.type "range",data:=.fields #[.int lo t,.int hi u,.int 1 v] }
 | .frz o u=>h.get? a=some o/\dg H h a u
 | .tbl q=>∃ ps:Array Value,h.get? a=some { cls:=.none,data:=.fields ps }/\TriplesOk ps.toList/\∀ pos cv,codeAmong pos ps.toList=some cv->∃ c' o vs t,cv=.ref c'/\H c'=some (.frz o (.own c'))/\o.data=.fields vs/\vs[1]?=some (.str q t)
 | .met f x=>h.get? a=some (PySem.W.methodObj (.ref f) (.ref x))
 | .ext φ=>φ h/\(∃ o,h.get? a=some o)/\∀ h1 h2:Heap,φ h1->(∀ o,h1.get? a=some o->h2.get? a=some o)->φ h2
def HOk (H:Hp) (h:Heap):Prop:=∀ a o,H a=some o->dg P w H h a o
end
section
variable {H':Hp}
theorem dg.lt (x:dg P w H h a o):a<h.objs.size:=by
 cases o with
 | lst xs=>obtain ⟨_,_,_,_,e⟩:=x;exact LN e
 | tup xs=>obtain ⟨_,_,_,p⟩:=x;exact p.tup.lt
 | dK kvs=>obtain ⟨_,_,_,_,o,_,_,e,_⟩:=x;exact LN e
 | dT kvs=>obtain ⟨_,_,_,_,o,_,_,e,_⟩:=x;exact LN e
 | set S n=>obtain ⟨o,_,_,_,e,_⟩:=x;exact LN e
 | ins C dx fs=>obtain ⟨_,_,_,e,_⟩:=x;exact LN e
 | own y=>obtain ⟨_,e⟩:=x;exact LN e
 | xd fs=>obtain ⟨_,⟨_,_,_,e,_⟩,_⟩:=x;exact LN e
 | rng lo hi=>obtain ⟨_,_,_,e⟩:=x;exact LN e
 | frz ob u=>obtain ⟨e,_⟩:=x;exact LN e
 | tbl q=>obtain ⟨_,e,_⟩:=x;exact LN e
 | met f y=>exact LN (show h.get? a=some _ from x)
 | ext φ=>obtain ⟨_,⟨_,e⟩,_⟩:=x;exact LN e
theorem Paired.mapP {F G:α->β->Prop} {l₁:List α} {l₂:List β} (h:Paired F l₁ l₂) (f:∀ a b,F a b->G a b):Paired G l₁ l₂:=by
 induction h with
 | nil=>exact .nil
 | cons r t ih=>exact .cons (f _ _ r) ih
theorem dg.stay (x:dg P w H h a o) (k:∀ b u,(b=a\/H b=some (.own a))->h.get? b=some u->h'.get? b=some u)
  (ho:∀ b,H b=some (.own a)->H' b=some (.own a)) (ht:∀ b xs,H b=some (.tup xs)->H' b=some (.tup xs)) (hf:∀ b o u,H b=some (.frz o u)->H' b=some (.frz o u):=by exact fun _ _ _ q=>q):dg P w H' h' a o:=by
 induction o with
 | lst xs=>obtain ⟨z,its,n,r,e⟩:=x;exact ⟨z,its,n,r,k _ _ (.inl rfl) e⟩
 | tup xs=>obtain ⟨z,its,r,ob,e,c⟩:=x;exact ⟨z,its,r,ob,k _ _ (.inl rfl) e,c⟩
 | dK kvs=>obtain ⟨z,y,vs,r,ob,es,ep,e,c⟩:=x;exact ⟨z,y,vs,r,ob,es,ep,k _ _ (.inl rfl) e,c⟩
 | dT kvs =>obtain ⟨z,y,xs,r,ob,es,ep,e,c⟩:=x;exact ⟨z,y,xs,Paired.mapP r fun p q z=>⟨z.1,ht _ _ z.2.1,z.2.2⟩,ob,es,ep,k _ _ (.inl rfl) e,c⟩
 | set S n=>obtain ⟨ob,es,ep,t,e,c⟩:=x;exact ⟨ob,es,ep,t,k _ _ (.inl rfl) e,c⟩
 | ins C dx fs =>obtain ⟨d,z,ne,e,mA,⟨od,es,ep,e2,c⟩,r⟩:=x;exact ⟨ho _ d,z,ne,k _ _ (.inl rfl) e,mA,⟨od,es,ep,k _ _ (.inr d) e2,c⟩,r⟩
 | own y=>obtain ⟨ob,e⟩:=x;exact ⟨ob,k _ _ (.inl rfl) e⟩
 | xd fs=>obtain ⟨mA,⟨od,es,ep,e,c⟩,r⟩:=x;exact ⟨mA,⟨od,es,ep,k _ _ (.inl rfl) e,c⟩,r⟩
 | rng lo hi=>obtain ⟨t,u,v,e⟩:=x;exact ⟨t,u,v,k _ _ (.inl rfl) e⟩
 | frz ob u ih=>obtain ⟨e,q⟩:=x;exact ⟨k _ _ (.inl rfl) e,ih q⟩
 | tbl q =>obtain ⟨ps,e,t,c⟩:=x;exact ⟨ps,k a _ (.inl rfl) e,t,fun pos cv z=>by obtain ⟨c',o,vs,t',e1,e2,e3⟩:=c pos cv z;exact ⟨c',o,vs,t',e1,hf _ _ _ e2,e3⟩⟩
 | met f y =>have e:h.get? a=some (PySem.W.methodObj (.ref f) (.ref y)):=x;show h'.get? a=some (PySem.W.methodObj (.ref f) (.ref y));exact k a _ (.inl rfl) e
 | ext φ=>obtain ⟨p,⟨o,e⟩,st⟩:=x;exact ⟨st _ _ p fun o q=>k _ _ (.inl rfl) q,⟨o,k _ _ (.inl rfl) e⟩,st⟩
theorem HOk.lt (x:HOk P w H h) (e:H a=some o):a<h.objs.size:=(x a o e).lt
theorem HOk.fresh (x:HOk P w H h) (e:h.objs.size<=a):H a=none:=by
 cases q:H a with
 | none=>rfl
 | some u=>exact absurd (LV (x.lt q) e) (ML _)
theorem HOk.kept (x:HOk P w H h) (k:∀ b u,h.get? b=some u->h'.get? b=some u):HOk P w H h':=fun a o e =>
 (x a o e).stay (fun b u _ q=>k b u q) (fun _ q=>q) fun _ _ q=>q
theorem HOk.laid (x:HOk P w H h) (k:∀ b u,h.get? b=some u->h'.get? b=some u) (hp:h.objs.size<=a) (new:dg P w (upd H a o) h' a o):HOk P w (upd H a o) h':=fun b u e=>by
 have hn:=x.fresh hp;by_cases hb:b=a
 ·subst hb;rw [aG] at e;cases e;exact new
 ·rw [aA hb] at e;exact (x b u e).stay (fun c v _ q=>k c v q) (fun c q=>by rw [aA (aK q hn)];exact q) (fun c xs q=>by rw [aA (aK q hn)];exact q) fun c ob w' q=>by rw [aA (aK q hn)];exact q
end
def Rd (H:Hp) (a:Addr) (u:HO):Prop:=H a=some u\/∃ o,H a=some (.frz o u)
theorem Rd.ok {u:HO} (r:Rd H a u) (x:HOk P w H h):dg P w H h a u:=by
 rcases r with r | ⟨o,r⟩
 ·exact x a u r
 ·obtain ⟨_,q⟩:=x a _ r;exact q
def Mut:Option HO->Prop
 | some (.lst _)=>True
 | some (.dK _)=>True
 | some (.dT _)=>True
 | some (.set _ _)=>True
 | some (.ins _ _ _)=>True
 | some (.ext _)=>True
 | _=>False
section
variable {x e:Addr} {o':HO}
theorem HOk.write (ok:HOk P w H h) (mu:Mut (H x)) (he:e=x\/H e=some (.own x)) (k:∀ b u,b≠e->h.get? b=some u->h'.get? b=some u) (heo:∃ u,h'.get? e=some u)
  (new:dg P w (upd H x o') h' x o'):HOk P w (upd H x o') h':=fun b u q=>by
 have nown:∀ c y,H c=some (.own y)->c≠x:=fun c y r z=>by subst z;rw [r] at mu;exact mu
 have ntup:∀ c xs,H c=some (.tup xs)->c≠x:=fun c xs r z=>by subst z;rw [r] at mu;exact mu
 have nfrz:∀ c o u,H c=some (.frz o u)->c≠x:=fun c o u r z=>by subst z;rw [r] at mu;exact mu
 by_cases hb:b=x
 ·subst hb;rw [aG] at q;cases q;exact new
 ·rw [aA hb] at q;by_cases hbe:b=e
  ·have q':H b=some (.own x):=by
    rcases he with z | z
    ·exact absurd (hbe.trans z) hb
    ·rw [hbe];exact z
   rw [q] at q';cases q';obtain ⟨v,hv⟩:=heo;exact ⟨v,by rw [hbe];exact hv⟩
  ·refine (ok b u q).stay (fun c v hc r=>k c v ?_ r) (fun c r=>by rw [aA (nown c b r)];exact r) (fun c xs r=>by rw [aA (ntup c xs r)];exact r) fun c o w' r=>by rw [aA (nfrz c o w' r)];exact r
   rcases hc with rfl | hc
   ·exact hbe
   ·rintro rfl
    rcases he with z | z
    ·exact nown c b hc z
    ·rw [hc] at z;cases z;exact hb rfl
end
structure Un (fs ex:List Addr) (H H':Hp) (h h':Heap):Prop where
 keep:∀ b o,h.get? b=some o->H b=none->b∉fs->b∉ex->h'.get? b=some o
 slot:∀ b o,h.get? b=some o->H b=none->b∈fs->b∉ex->∃ sl,h'.get? b=some { o with slots:=sl }
 free:∀ b o,h.get? b=some o->H b=none->b∉ex->H' b=none
 there:∀ b o,h.get? b=some o->b∉ex->∃ o',h'.get? b=some o'
 tups:∀ b xs,H b=some (.tup xs)->H' b=some (.tup xs)
 frzs:∀ b o u,H b=some (.frz o u)->H' b=some (.frz o u)
 tbls:∀ b q,H b=some (.tbl q)->H' b=some (.tbl q)
section
variable {fs fs' ex ex':List Addr} {H1 H2:Hp} {h1 h2:Heap} {x e:Addr}
theorem Un.any (u:Un fs ex H H1 h h1) {ob:Obj} (q:h.get? b=some ob) (n:H b=none) (hx:b∉ex):∃ sl,h1.get? b=some { ob with slots:=sl }:=by
 by_cases hb:b∈fs
 ·exact u.slot b ob q n hb hx
 ·exact ⟨ob.slots,u.keep b ob q n hb hx⟩
theorem Un.kept (k:∀ b u,h.get? b=some u->h'.get? b=some u):Un fs ex H H h h' :=
 ⟨fun b ob q _ _ _=>k b ob q,fun b ob q _ _ _=>⟨ob.slots,k b ob q⟩,fun _ _ _ n _=>n,fun b ob q _=>⟨ob,k b ob q⟩,fun _ _ q=>q,fun _ _ _ q=>q,fun _ _ q=>q⟩
theorem Un.refl:Un fs ex H H h h:=Un.kept fun _ _ q=>q
theorem Un.laid (k:∀ b u,h.get? b=some u->h'.get? b=some u) (hp:h.objs.size<=a) (hn:H a=none):Un fs ex H (upd H a o) h h' where
 keep:=fun b u q _ _ _=>k b u q
 slot:=fun b u q _ _ _=>⟨u.slots,k b u q⟩
 free:=fun b u q n _=>by rw [aA (LR (LV (LN q) hp))];exact n
 there:=fun b u q _=>⟨u,k b u q⟩
 tups:=fun b xs q=>by rw [aA (aK q hn)];exact q
 frzs:=fun b u xs q=>by rw [aA (aK q hn)];exact q
 tbls:=fun b ps q=>by rw [aA (aK q hn)];exact q
theorem Un.write (mu:Mut (H x)) (he:e=x\/H e=some (.own x)) (k:∀ b u,b≠e->h.get? b=some u->h'.get? b=some u) (heo:∃ u,h'.get? e=some u):Un fs ex H (upd H x o) h h':=by
 have hx:∀ b,H b=none->b≠x:=fun b n z=>by subst z;rw [n] at mu;exact mu
 have hb:∀ b,H b=none->b≠e:=fun b n z=>by
  subst z;rcases he with r | r
  ·exact hx b n r
  ·rw [n] at r;cases r
 have hm:∀ b u,H b=some u->¬ Mut (some u)->b≠x:=fun b u q nm z=>by subst z;rw [q] at mu;exact nm mu
 refine ⟨fun b u q n _ _=>k b u (hb b n) q,fun b u q n _ _=>⟨u.slots,k b u (hb b n) q⟩,fun b u q n _=>by rw [aA (hx b n)];exact n,fun b u q _=>?_,
  fun b xs q=>by rw [aA (hm b _ q fun z=>z)];exact q,fun b u xs q=>by rw [aA (hm b _ q fun z=>z)];exact q,fun b ps q=>by rw [aA (hm b _ q fun z=>z)];exact q⟩
 by_cases hbe:b=e
 ·subst hbe;exact heo
 ·exact ⟨u,k b u hbe q⟩
end
def trk (h:Heap) (H:Hp):List Addr:=(List.range h.objs.size).filter fun a=>(H a).isSome
def qR (h:Heap) (H:Hp):Heap:=PySem.W.hideAll h (trk h H)
theorem AR (h:Heap) (H:Hp):(qR h H).objs.size=h.objs.size:=PySem.W.hideAll_size _ _
theorem Cy {o:Obj} (e:h.get? b=some o) (n:H b=none):(qR h H).get? b=some o :=
 PySem.W.hideAll_get _ e fun hm=>by have q:(H b).isSome=true:=(Md.mp hm).2;rw [n] at q;simp at q
theorem Fb {o:Obj} (e:(qR h H).get? b=some o):h.get? b=some o/\H b=none:=by
 have e':h.get? b=some o:=PySem.W.of_hideAll (trk h H) e;refine ⟨e',?_⟩;cases q:H b with
 | none=>rfl
 | some x =>have hm:b∈trk h H:=Md.mpr ⟨MS.mpr (LN e'),by simp [q]⟩;have z:(qR h H).get? b=none:=PySem.W.hideAll_none (trk h H) hm;rw [z] at e;cases e
structure Mod (K:PySem.W.Frag) (mg:Str->Option Value) (base:Heap):Prop where
 kin:K.In base
 glob:base.Ns mainGlobals mg
 blt:∃ mb,base.Ns builtinsNs mb/\∀ x:Str,x≠"__name__"->mb x=bootBuiltins x
 nolimit:base.NoLimit
def lN:List Str:=["picked"]
def TabOf (K:PySem.W.Frag) (P:Addr) (q:Str):Prop:=∃ x∈lN,∃ f oc od fd sl c,PySem.W.nsIn K mainGlobals x=some (some (.ref f))/\K.lookup f=some ⟨oc,od,.func fd,sl⟩/\fd.code=.ref c/\(∃ o vs,K.lookup c=some o/\o.data=.fields vs/\vs[11]?=some (.ref P))/\q=x++".<locals>.<lambda>"
structure Cx where
 prog:Program
 w:World
 K:PySem.W.Frag
 mg:Str->Option Value
 base:Heap
 A:Around
 N:List Str
 s₀:Shared
 H₀:Hp
 env:Env
 outer:List Env
 stack:List Env
 ex:List Addr
 fn:Str->Bool
 calm:Bool
 pn:List (Addr×Obj)
 xe:Value->Shared->Prop
variable {X:Cx}
def frs (l:List Env):List Addr:=l.filterMap (·.frame)
abbrev Cx.fs (X:Cx):List Addr:=frs X.outer
def Vis (sc:Scope) (x:Str):Prop:=sc.names.lookup x=some .local\/sc.names.lookup x=some .cell\/sc.names.lookup x=some .free
def Loc (sc:Scope) (x:Str):Prop:=sc.names.lookup x=some .local\/sc.names.lookup x=some .cell
def Look (env:Env) (h:Heap) (m:Str->Option Value) (x:Str) (u:Value):Prop :=
 (env.kindOf x=some .local/\m x=some u)\/((env.kindOf x=some .cell\/env.kindOf x=some .free)/\∃ c,env.cells.lookup x=some c/\h.IsCell c (some u))
structure Cx.Ok (X:Cx):Prop where
 mod:Mod X.K X.mg X.base
 kind:X.env.scope.kind=.function
 glob:X.env.globals=mainGlobals
 blt:X.env.builtins=builtinsNs
 above:X.s₀.heap.objs.size<=X.env.locals
 inj:∀ x y c,X.env.cells.lookup x=some c->X.env.cells.lookup y=some c->x=y
 has:∀ x,(X.env.kindOf x=some .cell\/X.env.kindOf x=some .free)->∃ c,X.env.cells.lookup x=some c
 cab:∀ x c,X.fn x=true->X.env.cells.lookup x=some c->X.s₀.heap.objs.size<=c
 hd:X.calm=true->X.A.handled=none
 frames:X.A.frames=some X.stack
 stk:X.stack=X.outer\/(X.stack=X.env::X.outer/\X.env.frame=some X.env.locals)
 exf:∀ b∈X.ex,b≠X.env.locals/\∀ x c,X.env.cells.lookup x=some c->c≠b
 bs:∀ b o,X.base.get? b=some o->X.s₀.heap.get? b=some o/\X.H₀ b=none
 bsz:X.base.objs.size<=X.s₀.heap.objs.size
 noex:∀ b o,X.base.get? b=some o->b∉X.ex
 exfs:∀ b∈X.ex,b∉X.fs
 funs:X.s₀.heap.FunFrames X.base X.outer
 frf:∀ b∈X.fs,X.H₀ b=none
structure Inv (X:Cx) (pins:List (Addr×Obj)) (σ:List (Option V)) (H:Hp) (s:Shared):Prop where
 ok:X.Ok
 os:s.os=X.s₀.os
 bare:AllBare s.gens
 base:Un X.fs X.ex X.H₀ H X.s₀.heap s.heap
 loc:∃ m,s.heap.Ns X.env.locals m/\∀ (i:Nat) (x:Str) (v:V),X.N[i]?=some x->σ[i]?=some (some v)->Vis X.env.scope x->∃ u,RelV v u/\Look X.env s.heap m x u
 cell:∀ x c,X.env.cells.lookup x=some c->∃ v,s.heap.IsCell c v
 free:H X.env.locals=none
 freeC:∀ x c,X.env.cells.lookup x=some c->H c=none
 pin:∀ p∈X.pn++pins,s.heap.get? p.1=some p.2/\H p.1=none/\p.1≠X.env.locals/\p.1∉X.fs/\∀ v,p.2.data≠.cell v
 hok:HOk X.prog X.w H s.heap
 len:σ.length=X.N.length
 tab:∀ P q,TabOf X.K P q->H P=some (.tbl q)
section
variable {σ:List (Option V)} {H':Hp}
theorem Cx.Ok.nofr (ok:X.Ok) {o:Obj} (e:X.base.get? b=some o):b∉X.fs:=fun hb=>by have:=(ok.funs.mem hb).1;rw [e] at this;cases this
theorem Inv.bs (I:Inv X pins σ H s):∀ b o,X.base.get? b=some o->s.heap.get? b=some o/\H b=none:=fun b o e =>
 ⟨I.base.keep b o (I.ok.bs b o e).1 (I.ok.bs b o e).2 (I.ok.nofr e) (I.ok.noex b o e),I.base.free b o (I.ok.bs b o e).1 (I.ok.bs b o e).2 (I.ok.noex b o e)⟩
theorem Inv.bk (I:Inv X pins σ H s):∀ b o,X.base.get? b=some o->s.heap.get? b=some o:=fun b o e=>(I.bs b o e).1
theorem Inv.mod (I:Inv X pins σ H s):Mod X.K X.mg X.base:=I.ok.mod
theorem Inv.kIn (I:Inv X pins σ H s):X.K.In s.heap:=I.ok.mod.kin.keeps I.bk
theorem Inv.lt (I:Inv X pins σ H s):X.env.locals<s.heap.objs.size:=let ⟨_,hn,_⟩:=I.loc;hn.lt
theorem Inv.sz (I:Inv X pins σ H s):X.s₀.heap.objs.size<=s.heap.objs.size:=Mv I.ok.above (NH I.lt)
theorem Inv.nofs (I:Inv X pins σ H s) (h:s.heap.objs.size<=a):a∉X.fs:=fun hb=>by obtain ⟨_,o,ho,_⟩:=I.ok.funs.mem hb;exact absurd (LV (LN ho) (Mv I.sz h)) (ML _)
theorem Inv.cne (I:Inv X pins σ H s):∀ x c,X.env.cells.lookup x=some c->c≠X.env.locals:=fun x c e z=>by obtain ⟨v,o,ho,hd⟩:=I.cell x c e;obtain ⟨m,⟨o',es,ep,ho',hd',_⟩,_⟩:=I.loc;rw [z,ho'] at ho;cases ho;rw [hd'] at hd;cases hd
theorem Inv.funs (I:Inv X pins σ H s):s.heap.FunFrames X.base X.outer:=by
 have all:∀ (l:List Env),(∀ b∈frs l,b∈X.fs)->X.s₀.heap.FunFrames X.base l->s.heap.FunFrames X.base l:=by
  intro l
  induction l with
  | nil=>intro _ _;trivial
  | cons env r ih =>
   intro hs hl;obtain ⟨hk,⟨L,o,hf,hn,ho,hd⟩,hr⟩:=hl;have hL:L∈X.fs:=hs L (by unfold frs;rw [N9,hf];exact L6);obtain ⟨sl,e⟩:=I.base.slot L o ho (I.ok.frf L hL) hL fun z=>I.ok.exfs L z hL
   exact ⟨hk,⟨L,_,hf,hn,e,hd⟩,ih (fun b hb=>hs b (by unfold frs;rw [N9,hf];exact L4 _ hb)) hr⟩
 exact all X.outer (fun _ hb=>hb) I.ok.funs
theorem Inv.stack (I:Inv X pins σ H s):s.heap.FunFrames X.base X.stack:=by
 rcases I.ok.stk with e | ⟨e,hf⟩
 ·rw [e];exact I.funs
 ·rw [e];obtain ⟨m,hn,_⟩:=I.loc;refine .cons (by rw [I.ok.kind];decide) hf hn ?_ I.funs;exact Heap.get?_none_of_le (Mv I.ok.bsz I.ok.above)
theorem Inv.stkSub (I:Inv X pins σ H s):∀ b∈frs X.stack,b∈X.env.locals::X.fs:=fun b hb=>by
 rcases I.ok.stk with e | ⟨e,hf⟩
 ·rw [e] at hb;exact L4 _ hb
 ·rw [e] at hb;unfold frs at hb;rw [N9,hf] at hb;exact hb
theorem Inv.stkFree (I:Inv X pins σ H s):∀ b∈frs X.stack,H b=none:=fun b hb=>by
 rcases L7.mp (I.stkSub b hb) with e | hb
 ·rw [e];exact I.free
 ·obtain ⟨_,o,ho,_⟩:=I.ok.funs.mem hb;exact I.base.free b o ho (I.ok.frf b hb) fun z=>I.ok.exfs b z hb
theorem Inv.step {d':Drawn} (I:Inv X pins σ H s)
  (hch:∀ b∈ch,(b∈X.ex\/X.s₀.heap.objs.size<=b)/\b≠X.env.locals/\(∀ x c,X.env.cells.lookup x=some c->c≠b)/\∀ p∈X.pn++pins,p.1≠b)
  (keep:∀ b o,b≠X.env.locals->b∉X.fs->b∉ch->s.heap.get? b=some o->H b=none->h'.get? b=some o)
  (slot:∀ b o,b≠X.env.locals->b∈X.fs->b∉ch->s.heap.get? b=some o->H b=none->∃ sl,h'.get? b=some { o with slots:=sl }) (free:∀ b o,b∉ch->s.heap.get? b=some o->H b=none->H' b=none)
  (there:∀ b o,b∉ch->s.heap.get? b=some o->∃ o',h'.get? b=some o')
  (tups:∀ b xs,H b=some (.tup xs)->H' b=some (.tup xs)) (frzs:∀ b o u,H b=some (.frz o u)->H' b=some (.frz o u)) (tbls:∀ b q,H b=some (.tbl q)->H' b=some (.tbl q))
  (ns:∀ m,s.heap.Ns X.env.locals m->h'.Ns X.env.locals m) (hok:HOk X.prog X.w H' h') (hg:AllBare g') :
  Inv X pins σ H' { s with heap:=h',gens:=g',drawn:=d',toks:=t' }:=by
 have neL:∀ b o,X.s₀.heap.get? b=some o->b≠X.env.locals:=fun b o e=>LR (LV (LN e) I.ok.above)
 have neC:∀ b o,X.s₀.heap.get? b=some o->b∉X.ex->b∉ch:=fun b o e hx hb=>by
  rcases (hch b hb).1 with z | z
  ·exact hx z
  ·exact absurd (LV (LN e) z) (ML _)
 have cellK:∀ x c,X.env.cells.lookup x=some c->∀ v,s.heap.IsCell c v->h'.IsCell c v:=fun x c e v pz4=>by
  obtain ⟨o,ho,hd⟩:=pz4;have nch:c∉ch:=fun z=>(hch c z).2.2.1 x c e rfl
  by_cases hc:c∈X.fs
  ·obtain ⟨sl,q⟩:=slot c o (I.cne x c e) hc nch ho (I.freeC x c e);exact ⟨_,q,hd⟩
  ·exact ⟨o,keep c o (I.cne x c e) hc nch ho (I.freeC x c e),hd⟩
 refine ⟨I.ok,I.os,hg,⟨fun b o e n hb hx=>?_,fun b o e n hb hx=>?_,fun b o e n hx=>?_,fun b o e hx=>?_,fun b xs e=>tups b xs (I.base.tups b xs e),fun b o xs e=>frzs b o xs (I.base.frzs b o xs e),fun b ps e=>?_⟩,?_,fun x c e=>?_,?_,fun x c e=>?_,fun p hp=>?_,hok,I.len,fun P q t=>tbls P q (I.tab P q t)⟩
 ·exact keep b o (neL b o e) hb (neC b o e hx) (I.base.keep b o e n hb hx) (I.base.free b o e n hx)
 ·obtain ⟨sl,e1⟩:=I.base.slot b o e n hb hx;obtain ⟨sl',e2⟩:=slot b _ (neL b o e) hb (neC b o e hx) e1 (I.base.free b o e n hx);exact ⟨sl',e2⟩
 ·obtain ⟨o',e1⟩:=I.base.there b o e hx;exact free b o' (neC b o e hx) e1 (I.base.free b o e n hx)
 ·obtain ⟨o',e1⟩:=I.base.there b o e hx;exact there b o' (neC b o e hx) e1
 ·exact tbls b _ (I.base.tbls b ps e)
 ·obtain ⟨m,hn,hl⟩:=I.loc;refine ⟨m,ns m hn,fun i x v e1 e2 e3=>?_⟩;obtain ⟨u,r,l⟩:=hl i x v e1 e2 e3;refine ⟨u,r,?_⟩;rcases l with l | ⟨k,c,e,z⟩
  ·exact .inl l
  ·exact .inr ⟨k,c,e,cellK x c e _ z⟩
 ·obtain ⟨v,z⟩:=I.cell x c e;exact ⟨v,cellK x c e v z⟩
 ·obtain ⟨m,⟨o,_,_,ho,_⟩,_⟩:=I.loc;exact free _ o (fun z=>(hch _ z).2.1 rfl) ho I.free
 ·obtain ⟨v,o,ho,hd⟩:=I.cell x c e;exact free c o (fun z=>(hch c z).2.2.1 x c e rfl) ho (I.freeC x c e)
 ·obtain ⟨e,n,ne,nf,d⟩:=I.pin p hp;have nch:p.1∉ch:=fun z=>(hch p.1 z).2.2.2 p hp rfl
  exact ⟨keep p.1 p.2 ne nf nch e n,free p.1 p.2 nch e n,ne,nf,d⟩
theorem Inv.un (I:Inv X pins σ H s) (u:Un X.fs [] H H' s.heap h') (hok:HOk X.prog X.w H' h'):Inv X pins σ H' { s with heap:=h',toks:=t' }:=by obtain ⟨m,⟨o,es,ep,ho,r⟩,_⟩:=id I.loc;obtain ⟨sl,hL⟩:=u.any ho I.free (by simp);exact I.step (g':=s.gens) (d':=s.drawn) (ch:=[]) (fun _ z=>nomatch z) (fun b o _ hb _ e n=>u.keep b o e n hb (by simp)) (fun b o _ hb _ e n=>u.slot b o e n hb (by simp)) (fun b o _ e n=>u.free b o e n (by simp)) (fun b o _ e=>u.there b o e (by simp)) u.tups u.frzs u.tbls (fun m' hm=>by obtain ⟨o',es',ep',ho',r'⟩:=hm;rw [ho] at ho';cases ho';exact ⟨_,es',ep',hL,r'⟩) hok I.bare
theorem Inv.call {d':Drawn} (I:Inv X pins σ H s) (u:Un (frs X.stack) ch H H' s.heap h') (hok:HOk X.prog X.w H' h') (hg:AllBare g')
  (hch:∀ b∈ch,(b∈X.ex\/X.s₀.heap.objs.size<=b)/\b≠X.env.locals/\(∀ x c,X.env.cells.lookup x=some c->c≠b)/\∀ p∈X.pn++pins,p.1≠b) :
  Inv X pins σ H' { s with heap:=h',gens:=g',drawn:=d',toks:=t' }:=by
 obtain ⟨m,⟨o,es,ep,ho,r⟩,_⟩:=id I.loc;obtain ⟨sl,hL⟩:=u.any ho I.free fun z=>(hch _ z).2.1 rfl
 exact I.step (ch:=ch) hch (fun b o hL hb hc e n=>u.keep b o e n (fun z=>(L7.mp (I.stkSub b z)).elim hL hb) hc) (fun b o _ _ hc e n=>u.any e n hc) (fun b o hc e n=>u.free b o e n hc) (fun b o hc e=>u.there b o e hc) u.tups u.frzs u.tbls (fun m' hm=>by obtain ⟨o',es',ep',ho',r'⟩:=hm;rw [ho] at ho';cases ho';exact ⟨_,es',ep',hL,r'⟩) hok hg
theorem Inv.turned (I:Inv X pins σ H s) (k:∀ b o,b≠it->s.heap.get? b=some o->h'.get? b=some o) (hn:H it=none) (hL:it≠X.env.locals)
  (h1:it∈X.ex\/X.s₀.heap.objs.size<=it) (h2:∀ x c,X.env.cells.lookup x=some c->c≠it) (h3:∀ p∈X.pn++pins,p.1≠it):Inv X pins σ H { s with heap:=h',toks:=t' }:=by
 have nit:∀ b u,H b=some u->b≠it:=fun b u e z=>by rw [z,hn] at e;cases e
 refine I.step (g':=s.gens) (d':=s.drawn) (ch:=[it]) (fun b hb=>?_) (fun b o _ _ hc e _=>k b o (fun z=>hc (by simp [z])) e) (fun b o _ _ hc e _=>⟨o.slots,k b o (fun z=>hc (by simp [z])) e⟩) (fun _ _ _ _ n=>n)
  (fun b o hc e=>⟨o,k b o (fun z=>hc (by simp [z])) e⟩) (fun _ _ e=>e) (fun _ _ _ e=>e) (fun b ps e=>e) (fun m hm=>?_) (fun b u e=>?_) I.bare
 ·have e:b=it:=by simpa using hb
  subst e;exact ⟨h1,hL,h2,h3⟩
 ·obtain ⟨o,es,ep,ho,r⟩:=hm;exact ⟨o,es,ep,k _ o (Ne.symm hL) ho,r⟩
 ·refine (I.hok b u e).stay (fun c v hc q=>k c v ?_ q) (fun _ q=>q) fun _ _ q=>q
  rcases hc with z | z
  ·rw [z];exact nit b u e
  ·exact nit c _ z
theorem Inv.tok (I:Inv X pins σ H s) (t:Nat):Inv X pins σ H { s with toks:=t }:=I.un (h':=s.heap) (t':=t) Un.refl I.hok
theorem Inv.kept (I:Inv X pins σ H s) (k:∀ b u,s.heap.get? b=some u->h'.get? b=some u):Inv X pins σ H { s with heap:=h',toks:=t' }:=I.un (Un.kept k) (I.hok.kept k)
theorem Inv.laid (I:Inv X pins σ H s) (k:∀ b u,s.heap.get? b=some u->h'.get? b=some u) (hp:s.heap.objs.size<=a) (new:dg X.prog X.w (upd H a o) h' a o) :
 Inv X pins σ (upd H a o) { s with heap:=h',toks:=t' }:=I.un (Un.laid k hp (I.hok.fresh hp)) (I.hok.laid k hp new)
theorem Inv.write {x e:Addr} (I:Inv X pins σ H s) (mu:Mut (H x)) (he:e=x\/H e=some (.own x)) (k:∀ b u,b≠e->s.heap.get? b=some u->h'.get? b=some u) (heo:∃ u,h'.get? e=some u)
 (new:dg X.prog X.w (upd H x o) h' x o):Inv X pins σ (upd H x o) { s with heap:=h',toks:=t' }:=I.un (Un.write mu he k heo) (I.hok.write mu he k heo new)
theorem Inv.pins_of {pins':List (Addr×Obj)} (I:Inv X pins σ H s) (h:∀ p∈pins',s.heap.get? p.1=some p.2/\H p.1=none/\p.1≠X.env.locals/\p.1∉X.fs/\∀ v,p.2.data≠.cell v):Inv X pins' σ H s :=
 ⟨I.ok,I.os,I.bare,I.base,I.loc,I.cell,I.free,I.freeC,fun p hp=>(M4.mp hp).elim (fun z=>I.pin p (Me _ z)) (h p),I.hok,I.len,I.tab⟩
theorem vZ (hN:N.Nodup) (a:N[i]?=some x) (b:N[j]?=some x):i=j:=by obtain ⟨h1,e1⟩:=M8.mp a;obtain ⟨h2,e2⟩:=M8.mp b;exact (List.getElem_inj hN).mp (e1.trans e2.symm)
theorem rB {Q:Unit->Shared->Prop} (I:Inv X pins σ H s) (hN:X.N.Nodup) (hi:X.N[i]?=some x) (hx:Loc X.env.scope x) (r:RelV v u)
  (h:∀ s',Inv X pins (σ.set i (some v)) H s'->(∃ a,Heap.SameBut a s.heap s'.heap/\(a=X.env.locals\/X.env.cells.lookup x=some a))->Q () s') (hf:X.fn x=true\/X.env.scope.names.lookup x=some .local:=by first | exact .inl rfl | exact .inr rfl | assumption):wpAny M A (storeName X.env x u) Q E s:=by
 obtain ⟨m,hn,hl⟩:=id I.loc;have hcls:(X.env.scope.kind==.class || (X.env.scope.kind==.module&&X.env.locals != X.env.globals))=false:=by rw [I.ok.kind];rfl
 have hiσ:i<σ.length:=by rw [I.len];exact (M8.mp hi).1
 have cne:=I.cne;have tracked:∀ {a:Addr} {h':Heap},(∃ o,s.heap.get? a=some o/\H a=none)->Heap.SameBut a s.heap h'->HOk X.prog X.w H h':=fun {a h'} ha hs b ob e=>by
  obtain ⟨_,_,hfree⟩:=ha;refine (I.hok b ob e).stay (fun c w' hc q=>(hs.2 c ?_).trans q) (fun _ q=>q) fun _ _ q=>q
  rintro rfl
  rcases hc with rfl | hc
  ·rw [hfree] at e;cases e
  ·rw [hfree] at hc;cases hc
 rcases hx with hk | hk
 ·refine wpAny_storeName_local hk hn (fun h' hn' hs=>?_) hcls;obtain ⟨oL,_,_,hoL,_⟩:=id hn;refine h _ ⟨I.ok,I.os,I.bare,⟨fun b o e n hb hx=>?_,fun b o e n hb hx=>?_,I.base.free,fun b o e hx=>?_,I.base.tups,I.base.frzs,I.base.tbls⟩,⟨_,hn',fun j y v' e1 e2 e3=>?_⟩,fun y c e=>?_,I.free,I.freeC,fun p hp=>?_,tracked ⟨oL,hoL,I.free⟩ hs,by simpa using I.len,I.tab⟩ ⟨_,hs,.inl rfl⟩
  ·exact (hs.2 b (LR (LV (LN e) I.ok.above))).trans (I.base.keep b o e n hb hx)
  ·obtain ⟨sl,e1⟩:=I.base.slot b o e n hb hx;exact ⟨sl,(hs.2 b (LR (LV (LN e) I.ok.above))).trans e1⟩
  ·obtain ⟨o',e1⟩:=I.base.there b o e hx;exact ⟨o',(hs.2 b (LR (LV (LN e) I.ok.above))).trans e1⟩
  ·by_cases hj:j=i
   ·subst hj;rw [hi] at e1;cases e1;rw [Mj hiσ] at e2;cases e2;exact ⟨u,r,.inl ⟨hk,by simp⟩⟩
   ·rw [M7 (Ne.symm hj)] at e2;obtain ⟨u',r',q⟩:=hl j y v' e1 e2 e3;refine ⟨u',r',?_⟩;rcases q with ⟨k,e⟩ | ⟨k,c,e,z⟩
    ·refine .inl ⟨k,?_⟩;have:y≠x:=fun e=>hj (vZ hN e1 (e▸hi))
     simp [this,e]
    ·exact .inr ⟨k,c,e,z.sameBut hs (cne y c e)⟩
  ·obtain ⟨w',z⟩:=I.cell y c e;exact ⟨w',z.sameBut hs (cne y c e)⟩
  ·obtain ⟨e,n,ne,nf,d⟩:=I.pin p hp;exact ⟨(hs.2 p.1 ne).trans e,n,ne,nf,d⟩
 ·have hfn:X.fn x=true:=by
   rcases hf with z | z
   ·exact z
   ·rw [z] at hk;cases hk
  obtain ⟨c,hc⟩:=I.ok.has x (.inl hk);obtain ⟨w',z⟩:=I.cell x c hc;refine wpAny_storeName_cell I.ok.kind hk hc z (fun h' hc' hs=>?_);obtain ⟨oc,hoc,hocd⟩:=id z;refine h { s with heap:=h' } ⟨I.ok,I.os,I.bare,⟨fun b o e n hb hx=>?_,fun b o e n hb hx=>?_,I.base.free,fun b o e hx=>?_,I.base.tups,I.base.frzs,I.base.tbls⟩,⟨m,hn.sameBut hs (Ne.symm (cne x c hc)),fun j y v' e1 e2 e3=>?_⟩,fun y c' e=>?_,I.free,I.freeC,fun p hp=>?_,tracked ⟨oc,hoc,I.freeC x c hc⟩ hs,by simpa using I.len,I.tab⟩ ⟨c,hs,.inr hc⟩
  ·exact (hs.2 b (LR (LV (LN e) (I.ok.cab x c hfn hc)))).trans (I.base.keep b o e n hb hx)
  ·obtain ⟨sl,e1⟩:=I.base.slot b o e n hb hx;exact ⟨sl,(hs.2 b (LR (LV (LN e) (I.ok.cab x c hfn hc)))).trans e1⟩
  ·obtain ⟨o',e1⟩:=I.base.there b o e hx;exact ⟨o',(hs.2 b (LR (LV (LN e) (I.ok.cab x c hfn hc)))).trans e1⟩
  ·by_cases hj:j=i
   ·subst hj;rw [hi] at e1;cases e1;rw [Mj hiσ] at e2;cases e2;exact ⟨u,r,.inr ⟨.inl hk,c,hc,hc'⟩⟩
   ·rw [M7 (Ne.symm hj)] at e2;obtain ⟨u',r',q⟩:=hl j y v' e1 e2 e3;refine ⟨u',r',?_⟩;rcases q with q | ⟨k,c',e,z'⟩
    ·exact .inl q
    ·refine .inr ⟨k,c',e,z'.sameBut hs ?_⟩
     rintro rfl
     exact hj (vZ hN e1 (I.ok.inj _ _ _ e hc▸hi))
  ·by_cases hcc:c'=c
   ·subst hcc;exact ⟨_,hc'⟩
   ·obtain ⟨w2,z2⟩:=I.cell y c' e;exact ⟨w2,z2.sameBut hs hcc⟩
  ·obtain ⟨e,n,ne,nf,d⟩:=I.pin p hp;refine ⟨(hs.2 p.1 ?_).trans e,n,ne,nf,d⟩;intro q;rw [q,hoc] at e;have q':oc=p.2:=Option.some.inj e;exact d w' (by rw [<-q'];exact hocd)
theorem qc {Q:Unit->Shared->Prop} (I:Inv X pins σ H s) (hN:X.N.Nodup) (hi:X.N[i]?=some x) (hx:Loc X.env.scope x) (r:RelV v u)
  (h:∀ s',Inv X pins (σ.set i (some v)) H s'->Q () s') (hf:X.fn x=true\/X.env.scope.names.lookup x=some .local:=by first | exact .inl rfl | exact .inr rfl | assumption):wpAny M A (storeName X.env x u) Q E s :=
 rB I hN hi hx r (fun s' I' _=>h s' I') hf
theorem Inv.call' (I:Inv X pins σ H s) (ho:s'.os=s.os) (u:Un (frs X.stack) ch H H' s.heap s'.heap) (hok:HOk X.prog X.w H' s'.heap) (hg:AllBare s'.gens)
  (hch:∀ b∈ch,(b∈X.ex\/X.s₀.heap.objs.size<=b)/\b≠X.env.locals/\(∀ x c,X.env.cells.lookup x=some c->c≠b)/\∀ p∈X.pn++pins,p.1≠b):Inv X pins σ H' s':=by
 obtain ⟨h',g',d',t',o'⟩:=s';have e:o'=s.os:=ho;subst e;exact I.call (g':=g') (t':=t') (d':=d') u hok hg hch
end
abbrev XK:=Value->Option Addr->Hp->Prop
abbrev St:=List (Option V)
variable {σ:St}
abbrev VK:=V->Hp->Prop
abbrev TE:=St->Hp->VK->Prop
variable {t:TE}
abbrev TT:=St->Hp->(Bool->Hp->Prop)->Prop
abbrev TA:=St->Hp->(List V->Hp->Prop)->Prop
structure Ends where
 nx:St->Hp->Prop
 rt:VK
 bk:St->Hp->Prop:=fun _ _=>False
 ct:St->Hp->Prop:=fun _ _=>False
abbrev TS:=Ends->St->Hp->Prop
def EP (X:Cx) (pins:List (Addr×Obj)) (σ:St) (Q:VK) (u:Value) (s':Shared):Prop:=∃ v H',Inv X pins σ H' s'/\RelV v u/\Q v H'
def TP (X:Cx) (pins:List (Addr×Obj)) (σ:St) (Q:Bool->Hp->Prop) (b:Bool) (s':Shared):Prop:=∃ H',Inv X pins σ H' s'/\Q b H'
def AP (X:Cx) (pins:List (Addr×Obj)) (σ:St) (Q:List V->Hp->Prop) (us:List Value) (s':Shared):Prop:=∃ vs H',Inv X pins σ H' s'/\Vals vs us/\Q vs H'
def SP (X:Cx) (pins:List (Addr×Obj)) (D:Ends) (f:Flow) (s':Shared):Prop :=
 match f with
 | .next=>∃ σ' H',Inv X pins σ' H' s'/\D.nx σ' H'
 | .brk=>∃ σ' H',Inv X pins σ' H' s'/\D.bk σ' H'
 | .cont=>∃ σ' H',Inv X pins σ' H' s'/\D.ct σ' H'
 | .ret u=>∃ v σ' H',Inv X pins σ' H' s'/\RelV v u/\D.rt v H'
def PE (X:Cx) (e:Expr) (t:TE):Prop :=
 ∀ (pins:List (Addr×Obj)) (s:Shared) (σ:St) (H:Hp) (Q:VK),Inv X pins σ H s->t σ H Q->wpAny (model X.prog X.w) X.A (eval e X.env) (EP X pins σ Q) X.xe s
def PT (X:Cx) (e:Expr) (t:TT):Prop :=
 ∀ (pins:List (Addr×Obj)) (s:Shared) (σ:St) (H:Hp) (Q:Bool->Hp->Prop),Inv X pins σ H s->t σ H Q->wpAny (model X.prog X.w) X.A (isTrue e X.env (eval e X.env)) (TP X pins σ Q) X.xe s
def PW (X:Cx) (e:Expr) (t:TT):Prop :=
 ∀ (whole:Sem Value) (pins:List (Addr×Obj)) (s:Shared) (σ:St) (H:Hp) (Q:Bool->Hp->Prop),Inv X pins σ H s->t σ H Q->wpAny (model X.prog X.w) X.A (isTrue e X.env whole) (TP X pins σ Q) X.xe s
theorem PW.pt {t:TT} (h:PW X e t):PT X e t:=h _
def PA (X:Cx) (es:List Expr) (t:TA):Prop :=
 ∀ (pos:Pos) (pins:List (Addr×Obj)) (s:Shared) (σ:St) (H:Hp) (Q:List V->Hp->Prop),Inv X pins σ H s->t σ H Q->wpAny (model X.prog X.w) X.A (spliced (backTo pos (starEach es X.env))) (AP X pins σ Q) X.xe s
def PS (X:Cx) (st:Stmt) (t:TS):Prop :=
 ∀ (pins:List (Addr×Obj)) (s:Shared) (σ:St) (H:Hp) (D:Ends),Inv X pins σ H s->t D σ H->wpAny (model X.prog X.w) X.A (exec st X.env) (SP X pins D) X.xe s
def PSs (X:Cx) (st:List Stmt) (t:TS):Prop :=
 ∀ (pins:List (Addr×Obj)) (s:Shared) (σ:St) (H:Hp) (D:Ends),Inv X pins σ H s->t D σ H->wpAny (model X.prog X.w) X.A (execs st X.env) (SP X pins D) X.xe s
theorem thn {t:Sem α} {Q Q':α->Shared->Prop} (h:wpAny M A t Q E s) (hQ:∀ a s,Q a s->Q' a s):wpAny M A t Q' E s:=wpAny_mono h hQ fun _ _ x=>x
section
theorem bin {a b:Expr} {ta tb:TE} (ha:PE X a ta) (hb:PE X b tb) (I:Inv X pins σ H s) (h:ta σ H fun x H1=>tb σ H1 fun y H2=>R x y H2)
  {Q:α->Shared->Prop} {f:Value->Value->Sem α}
  (hf:∀ v u s2 x y H2,Inv X pins σ H2 s2->RelV x v->RelV y u->R x y H2->wpAny (model X.prog X.w) X.A (f v u) Q X.xe s2) :
  wpAny (model X.prog X.w) X.A (eval a X.env) (fun v s₁=>wpAny (model X.prog X.w) X.A (eval b X.env) (fun u s₂=>wpAny (model X.prog X.w) X.A (f v u) Q X.xe s₂) X.xe s₁) X.xe s:=by
 refine thn (ha pins s σ H _ I h) fun v s1 rz2=>?_
 obtain ⟨x,H1,I1,r1,q1⟩:=rz2;refine thn (hb pins s1 σ H1 _ I1 q1) fun u s2 rz2=>?_
 obtain ⟨y,H2,I2,r2,q2⟩:=rz2;exact hf v u s2 x y H2 I2 r1 r2 q2
def J7 (i:Nat):TE:=fun σ H Q=>∃ v,σ[i]?=some (some v)/\Q v H
def tC (v:V):TE:=fun _ H Q=>Q v H
theorem kG (hN:X.N[i]?=some x) (hv:Vis X.env.scope x) (hd:(x==("__debug__":Str))=false:=by decide) (hcd:(x==("__classdict__":Str))=false:=by decide):PE X (.Name x pos) (J7 i):=by
 intro pins s σ H Q I h;obtain ⟨v,e,h⟩:=h;obtain ⟨m,hn,hl⟩:=I.loc;obtain ⟨u,r,l⟩:=hl i x v hN e hv;have fin:EP X pins σ Q u s:=⟨v,H,I,r,h⟩
 rcases l with ⟨hk,hm⟩ | ⟨hk,c,hc,hcell⟩
 ·exact wpAny_Name (wpAny_loadName_local I.ok.kind hk hn hm fin) hd
 ·rcases hk with hk | hk
  ·exact wpAny_Name (wpAny_loadName_cell I.ok.kind hk hc hcell fin) hd
  ·exact wpAny_Name (wpAny_loadName_free I.ok.kind hk hc hcell fin hcd) hd
theorem gu {i j pos}:PE X (.Constant (.int i) j pos) (tC (.int i)):=fun _ _ _ H _ I h=>wpAny_Constant_int ⟨.int i,H,I.tok _,⟨_,rfl⟩,h⟩
theorem Kb {b j pos}:PE X (.Constant (.bool b) j pos) (tC (.bl b)):=fun _ _ _ H _ I h=>Constant_bool ⟨.bl b,H,I,rfl,h⟩
theorem GY {j pos}:PE X (.Constant .none j pos) (tC .non):=fun _ _ _ H _ I h=>Constant_none ⟨.non,H,I,rfl,h⟩
theorem Jj {x j pos}:PE X (.Constant (.str x) j pos) (tC (.str x)):=fun _ _ _ H _ I h=>Calls.Constant_str ⟨.str x,H,I.tok _,⟨_,rfl⟩,h⟩
def Gl (X:Cx) (x:Str):Prop:=X.env.kindOf x=some .globalImplicit
theorem n9 (I:Inv X pins σ H s) (hg:Gl X x) (hm:X.mg x=some u) (h:Q u s)
  (hd:(x==("__debug__":Str))=false:=by decide):wpAny (model X.prog X.w) X.A (eval (.Name x pos) X.env) Q E s :=
 Calls.Name_function_global I.ok.kind hg (Calls.loadGlobal_global (by rw [I.ok.glob];exact I.mod.glob.keeps I.bk) hm h) hd
theorem gr (I:Inv X pins σ H s) (hg:Gl X x) (hm:X.mg x=none) (hv:bootBuiltins x=some u) (h:Q u s)
  (hn:x≠"__name__":=by decide) (hd:(x==("__debug__":Str))=false:=by decide):wpAny (model X.prog X.w) X.A (eval (.Name x pos) X.env) Q E s:=by
 obtain ⟨mb,h1,h2⟩:=I.mod.blt;exact Calls.Name_function_global I.ok.kind hg (Calls.loadGlobal_builtin (by rw [I.ok.glob];exact I.mod.glob.keeps I.bk) hm (by rw [I.ok.blt];exact h1.keeps I.bk) ((h2 x hn).trans hv) h) hd
theorem Em (hg:Gl X x) (hm:X.mg x=some u) (r:RelV v u) (hd:(x==("__debug__":Str))=false:=by decide):PE X (.Name x pos) (tC v) :=
 fun _ _ _ H _ I h=>n9 I hg hm ⟨v,H,I,r,h⟩ hd
theorem E2 (hg:Gl X x) (hm:X.mg x=none) (hv:bootBuiltins x=some u) (r:RelV v u) (hn:x≠"__name__":=by decide) (hd:(x==("__debug__":Str))=false:=by decide):PE X (.Name x pos) (tC v) :=
 fun _ _ _ H _ I h=>gr I hg hm hv ⟨v,H,I,r,h⟩ hn hd
def t2I (ta tb:TE) (k:Int->Int->Hp->Prop):St->Hp->Prop:=fun σ H=>ta σ H fun x H1=>tb σ H1 fun y H2=>∃ i j,x=.int i/\y=.int j/\k i j H2
variable {a b:Expr} {ta tb:TE}
def PC (X:Cx) (op:CmpOp) (a b:Expr) (t:TE):Prop :=
 ∀ (pins:List (Addr×Obj)) (s:Shared) (σ:St) (H:Hp) (Q:VK),Inv X pins σ H s->t σ H Q ->
  wpAny (model X.prog X.w) X.A (eval a X.env) (fun v s₁=>wpAny (model X.prog X.w) X.A (eval b X.env) (fun u s₂=>wpAny (model X.prog X.w) X.A (compareOp op v u) (EP X pins σ Q) X.xe s₂) X.xe s₁) X.xe s
theorem vm (b:Expr) (h:op≠.In) (h2:op≠.NotIn):behindInMarks op b=false:=by
 have e1:(op==CmpOp.In)=false:=by cases op <;> first | rfl | exact absurd rfl h
 have e2:(op==CmpOp.NotIn)=false:=by cases op <;> first | rfl | exact absurd rfl h2
 cases b <;> simp [behindInMarks,e1,e2]
def KH (p:Int->Int->Bool) (ta tb:TE):TE:=fun σ H Q=>t2I ta tb (fun i j H2=>Q (.bl (p i j)) H2) σ H
abbrev tLt:TE->TE->TE:=KH fun i j=>decide (i<j)
theorem Hm {p:Int->Int->Bool} (ha:PE X a ta) (hb:PE X b tb)
  (rule:∀ (i j:Int) (t u:Tok) (Q:Value->Shared->Prop) (s:Shared),Q (.bool (p i j)) s->wpAny (model X.prog X.w) X.A (compareOp op (.int i t) (.int j u)) Q X.xe s):PC X op a b (KH p ta tb):=by
 intro pins s σ H Q I h;refine bin ha hb I h fun v u s2 x y H2 I2 rx ry q=>?_
 obtain ⟨i,j,rfl,rfl,q⟩:=q;obtain ⟨t,rfl⟩:=rx;obtain ⟨t',rfl⟩:=ry;exact rule i j t t' _ s2 ⟨.bl _,H2,I2,rfl,q⟩
theorem Kp (ha:PE X a ta) (hb:PE X b tb):PC X .Lt a b (tLt ta tb):=Hm ha hb fun _ _ _ _ _ _ h=>lt_int h
def K6 (ta:TE):TE:=fun σ H Q=>ta σ H fun x H1=>Q (.bl (decide (x=.non))) H1
def KW (ta:TE):TE:=fun σ H Q=>ta σ H fun x H1=>Q (.bl (!decide (x=.non))) H1
theorem RelV.none_iff {x:V} {v:Value} (r:RelV x v):(v==Value.none)=decide (x=.non):=by
 cases x with
 | non=>cases r;rfl
 | bl _=>cases r;rfl
 | int _=>obtain ⟨t,rfl⟩:=r;rfl
 | str _=>obtain ⟨t,rfl⟩:=r;rfl
 | byt _=>obtain ⟨t,rfl⟩:=r;rfl
 | flt _=>obtain ⟨t,rfl⟩:=r;rfl
 | ref _=>cases r;rfl
 | ty _=>cases r;rfl
theorem B3 {j pos'} (ha:PE X a ta):PC X .Is a (.Constant .none j pos') (K6 ta):=by
 intro pins s σ H Q I h;refine thn (ha pins s σ H _ I h) fun v s1 rz2=>?_
 obtain ⟨x,H1,I1,r1,q1⟩:=rz2;exact Constant_none (is_none_gen ⟨.bl _,H1,I1,by rw [r1.none_iff];rfl,q1⟩)
theorem F6 {j pos'} (ha:PE X a ta):PC X .IsNot a (.Constant .none j pos') (KW ta):=by
 intro pins s σ H Q I h;refine thn (ha pins s σ H _ I h) fun v s1 rz2=>?_
 obtain ⟨x,H1,I1,r1,q1⟩:=rz2;exact Constant_none (isnot_none_gen ⟨.bl _,H1,I1,by rw [r1.none_iff];rfl,q1⟩)
def tB (t:TE):TT:=fun σ H Q=>t σ H fun x H1=>∃ c,x=.bl c/\Q c H1
theorem Ha (h:PC X op a b t) (h1:behindInMarks op b=false:=by first | exact vm _ (by decide) (by decide) | rfl):PE X (.Compare a [op] [b] pos) t:=fun pins s σ H Q I hw=>wpAny_Compare1 (h pins s σ H Q I hw) h1
theorem xD (h:PC X op a b t) (h1:behindInMarks op b=false:=by first | exact vm _ (by decide) (by decide) | rfl):PT X (.Compare a [op] [b] pos) (tB t):=by intro pins s σ H Q I hw;refine wpAny_isTrue_Compare1 (thn (h pins s σ H _ I hw) fun v s1 h1=>thn h1 fun u s2 h2=>thn h2 fun c s3 rz2=>?_) h1;obtain ⟨x,H1,I1,r1,q1⟩:=rz2;obtain ⟨d,rfl,q⟩:=q1;cases r1;exact wpAny_truthy_bool ⟨H1,I1,q⟩
theorem Hv (h:PE X e t) (he:∀ whole,isTrue e X.env whole=(do let v <-whole;standAt e.pos;holding [v] (truthy v)):=by intro _;rfl):PT X e (tB t):=by intro pins s σ H Q I hw;refine isTrue_plain (thn (h pins s σ H _ I hw) fun v s1 rz2=>?_) (he _);obtain ⟨x,H1,I1,r1,q1⟩:=rz2;obtain ⟨d,rfl,q⟩:=q1;cases r1;exact wpAny_truthy_bool ⟨H1,I1,q⟩
variable {tA tB':TT} {rest:List Expr}
def Le (t u:TT):TT:=fun σ H Q=>t σ H fun c H1=>if c=true then u σ H1 Q else Q false H1
def tOr (t u:TT):TT:=fun σ H Q=>t σ H fun c H1=>if c=true then Q true H1 else u σ H1 Q
def Lo (t:TT):TT:=fun σ H Q=>t σ H fun c H1=>Q (!c) H1
theorem Gp (ha:PT X a tA):PW X (.BoolOp .And [a] pos) tA:=by
 intro wh pins s σ H Q I h;refine isTrue_and (thn (ha pins s σ H Q I h) fun c s1 e=>?_);cases c with
 | true=>exact isTrue_and_nil e
 | false=>exact e
theorem Hd (ha:PT X a tA):PW X (.BoolOp .Or [a] pos) tA:=by
 intro wh pins s σ H Q I h;refine isTrue_or (thn (ha pins s σ H Q I h) fun c s1 e=>?_);cases c with
 | false=>exact isTrue_or_nil e
 | true=>exact e
theorem IX (ha:PT X a tA) (hb:PW X (.BoolOp .And (b::rest) pos) tB'):PW X (.BoolOp .And (a::b::rest) pos) (Le tA tB'):=by
 intro wh pins s σ H Q I h;refine isTrue_and (thn (ha pins s σ H _ I h) fun c s1 rz2=>?_);obtain ⟨H1,I1,q1⟩:=rz2;cases c with
 | true=>exact hb wh pins s1 σ H1 Q I1 q1
 | false=>exact ⟨H1,I1,q1⟩
theorem Kv (ha:PT X a tA) (hb:PW X (.BoolOp .Or (b::rest) pos) tB'):PW X (.BoolOp .Or (a::b::rest) pos) (tOr tA tB'):=by
 intro wh pins s σ H Q I h;refine isTrue_or (thn (ha pins s σ H _ I h) fun c s1 rz2=>?_);obtain ⟨H1,I1,q1⟩:=rz2;cases c with
 | true=>exact ⟨H1,I1,q1⟩
 | false=>exact hb wh pins s1 σ H1 Q I1 q1
theorem Iv (ha:PT X a tA):PT X (.UnaryOp .Not a pos) (Lo tA):=by intro pins s σ H Q I h;exact isTrue_not (ha pins s σ H (fun c H1=>Q (!c) H1) I h)
def KR (ta tb:TE):TE:=fun σ H Q=>ta σ H fun x H1=>∃ c,x=.bl c/\if c=true then tb σ H1 Q else Q (.bl false) H1
def Ld (ta tb:TE):TE:=fun σ H Q=>ta σ H fun x H1=>∃ c,x=.bl c/\if c=true then Q (.bl true) H1 else tb σ H1 Q
theorem HV {op} (h:PE X a t):PE X (.BoolOp op [a] pos) t:=fun pins s σ H Q I hw=>BoolOp_one (h pins s σ H Q I hw)
theorem Jy (ha:PE X a ta) (hb:PE X (.BoolOp .And (b::rest) pos) tb):PE X (.BoolOp .And (a::b::rest) pos) (KR ta tb):=by
 intro pins s σ H Q I h;refine BoolOp_and (thn (ha pins s σ H _ I h) fun v s1 rz2=>?_);obtain ⟨x,H1,I1,r1,q1⟩:=rz2;obtain ⟨c,rfl,q1⟩:=q1;cases r1;refine wpAny_truthy_bool ?_;cases c with
 | true=>exact hb pins s1 σ H1 Q I1 q1
 | false=>exact ⟨.bl false,H1,I1,rfl,q1⟩
theorem Kl (ha:PE X a ta) (hb:PE X (.BoolOp .Or (b::rest) pos) tb):PE X (.BoolOp .Or (a::b::rest) pos) (Ld ta tb):=by
 intro pins s σ H Q I h;refine BoolOp_or (thn (ha pins s σ H _ I h) fun v s1 rz2=>?_);obtain ⟨x,H1,I1,r1,q1⟩:=rz2;obtain ⟨c,rfl,q1⟩:=q1;cases r1;refine wpAny_truthy_bool ?_;cases c with
 | false=>exact hb pins s1 σ H1 Q I1 q1
 | true=>exact ⟨.bl true,H1,I1,rfl,q1⟩
def tIf (t:TT) (ta tb:TE):TE:=fun σ H Q=>t σ H fun c H1=>if c=true then ta σ H1 Q else tb σ H1 Q
theorem C7 (hc:PT X c tA) (ha:PE X a ta) (hb:PE X b tb):PE X (.IfExp c a b pos) (tIf tA ta tb):=by
 intro pins s σ H Q I h;refine wpAny_IfExp (thn (hc pins s σ H _ I h) fun d s1 rz2=>?_);obtain ⟨H1,I1,q1⟩:=rz2;cases d with
 | true=>exact ha pins s1 σ H1 Q I1 q1
 | false=>exact hb pins s1 σ H1 Q I1 q1
end
def SqL (K:PySem.W.Frag) (H:Hp) (a:Addr) (xs:List V):Prop :=
 Rd H a (.lst xs) \/
  ∃ (o:Obj) (its:Array Value) (n:Nat),K.lookup a=some o/\o.cls=.type "list"/\o.dict=none/\o.data=.seq its n/\its.size<=sizeLine/\Vals xs its.toList
def SqT (K:PySem.W.Frag) (H:Hp) (a:Addr) (xs:List V):Prop :=
 Rd H a (.tup xs) \/
  ∃ (o:Obj) (its:Array Value) (n:Nat),K.lookup a=some o/\o.cls=.type "tuple"/\o.data=.seq its n/\its.size<=sizeLine/\Vals xs its.toList
def Lj:Value->Option V
 | .none=>some .non
 | .bool b=>some (.bl b)
 | .int i _=>some (.int i)
 | .str x _=>some (.str x)
 | .bytes b _=>some (.byt b)
 | .float b _=>some (.flt b)
 | .ref a=>some (.ref a)
 | .type n=>some (.ty n)
 | _=>none
theorem RelV.abs {x:V} (r:RelV x u):Lj u=some x:=by
 cases x with
 | non=>cases r;rfl
 | bl _=>cases r;rfl
 | int _=>obtain ⟨t,rfl⟩:=r;rfl
 | str _=>obtain ⟨t,rfl⟩:=r;rfl
 | byt _=>obtain ⟨t,rfl⟩:=r;rfl
 | flt _=>obtain ⟨t,rfl⟩:=r;rfl
 | ref _=>cases r;rfl
 | ty _=>cases r;rfl
theorem RelV.inj {x y:V} (r:RelV x u) (q:RelV y u):x=y:=Option.some.inj (r.abs.symm.trans q.abs)
theorem Vals.inj {ys:List V} (h:Vals xs us) (h':Vals ys us):xs=ys:=by
 induction h generalizing ys with
 | nil=>cases h';rfl
 | cons r t ih =>
  cases h' with
  | cons r' t'=>rw [r.inj r',ih t']
section
variable {ys:List V}
theorem SqL.of (h:H a=some (.lst xs)):SqL K H a xs:=.inl (.inl h)
theorem SqT.of (h:H a=some (.tup xs)):SqT K H a xs:=.inl (.inl h)
theorem Inv.list (I:Inv X pins σ H s) (h:SqL X.K H a xs):∃ its:List Value,Vals xs its/\PlainL s.heap a its.toArray/\xs.length<=sizeLine:=by
 rcases h with h | ⟨o,its,n,hk,hc,hd,hs,hz,r⟩
 ·obtain ⟨z,its,n,r,e⟩:=h.ok I.hok;exact ⟨its,r,⟨_,n,e,rfl,rfl,rfl⟩,z⟩
 ·refine ⟨its.toList,r,⟨o,n,I.kIn a o hk,hc,hd,by simpa using hs⟩,?_⟩;have e:=r.length;simp only [MH] at e;omega
theorem Inv.tuple (I:Inv X pins σ H s) (h:SqT X.K H a xs):∃ its:List Value,Vals xs its/\IsTup s.heap a its.toArray/\xs.length<=sizeLine:=by
 rcases h with h | ⟨o,its,n,hk,hc,hs,hz,r⟩
 ·obtain ⟨z,its,r,p⟩:=h.ok I.hok;exact ⟨its,r,p.tup,z⟩
 ·refine ⟨its.toList,r,⟨o,I.kIn a o hk,hc,n,by simpa using hs⟩,?_⟩;have e:=r.length;simp only [MH] at e;omega
theorem Inv.list_inj (I:Inv X pins σ H s) (h:SqL X.K H a xs) (h':SqL X.K H a ys):xs=ys:=by
 obtain ⟨its,r,⟨o,n,e,_,_,d⟩,_⟩:=I.list h;obtain ⟨its',r',⟨o',n',e',_,_,d'⟩,_⟩:=I.list h';rw [e] at e';cases e';rw [d] at d';injection d' with d1 _
 have:its=its':=by simpa using congrArg Array.toList d1
 subst this;exact r.inj r'
theorem Inv.tuple_inj (I:Inv X pins σ H s) (h:SqT X.K H a xs) (h':SqT X.K H a ys):xs=ys:=by
 obtain ⟨its,r,⟨o,e,_,n,d⟩,_⟩:=I.tuple h;obtain ⟨its',r',⟨o',e',_,n',d'⟩,_⟩:=I.tuple h';rw [e] at e';cases e';rw [d] at d';injection d' with d1 _
 have:its=its':=by simpa using congrArg Array.toList d1
 subst this;exact r.inj r'
end
abbrev Cx.wish (X:Cx) (E:Value->Shared->Prop):Cx:={ X with xe:=E }
abbrev Cx.nox (X:Cx):Cx:=X.wish fun _ _=>False
theorem Cx.Ok.wish (ok:X.Ok) (E:Value->Shared->Prop):(X.wish E).Ok :=
 ⟨ok.mod,ok.kind,ok.glob,ok.blt,ok.above,ok.inj,ok.has,ok.cab,ok.hd,ok.frames,ok.stk,ok.exf,ok.bs,ok.bsz,ok.noex,ok.exfs,ok.funs,ok.frf⟩
theorem Cx.Ok.unwish (ok:(X.wish E).Ok):X.Ok :=
 ⟨ok.mod,ok.kind,ok.glob,ok.blt,ok.above,ok.inj,ok.has,ok.cab,ok.hd,ok.frames,ok.stk,ok.exf,ok.bs,ok.bsz,ok.noex,ok.exfs,ok.funs,ok.frf⟩
section
theorem Inv.wish (I:Inv X pins σ H s) (E:Value->Shared->Prop):Inv (X.wish E) pins σ H s:=⟨I.ok.wish E,I.os,I.bare,I.base,I.loc,I.cell,I.free,I.freeC,I.pin,I.hok,I.len,I.tab⟩
theorem Inv.unwish (I:Inv (X.wish E) pins σ H s):Inv X pins σ H s:=⟨I.ok.unwish,I.os,I.bare,I.base,I.loc,I.cell,I.free,I.freeC,I.pin,I.hok,I.len,I.tab⟩
theorem SP.unwish {D:Ends} {f:Flow} (h:SP (X.wish E) pins D f s'):SP X pins D f s':=by
 cases f with
 | next=>obtain ⟨σ',H',I,q⟩:=h;exact ⟨σ',H',I.unwish,q⟩
 | brk=>obtain ⟨σ',H',I,q⟩:=h;exact ⟨σ',H',I.unwish,q⟩
 | cont=>obtain ⟨σ',H',I,q⟩:=h;exact ⟨σ',H',I.unwish,q⟩
 | ret u=>obtain ⟨v,σ',H',I,r,q⟩:=h;exact ⟨v,σ',H',I.unwish,r,q⟩
theorem PSs.nox {st:List Stmt} {t:TS} (h:PSs X.nox st t):PSs X st t:=fun pins s σ H D I hw =>
 wpAny_mono (h pins s σ H D (I.wish _) hw) (fun _ _ q=>q.unwish) fun _ _ z=>False.elim z
end
section
variable {rest:List Stmt} {t u:TS} {te:TE}
def KD:TS:=fun D σ H=>D.nx σ H
def La (t u:TS):TS:=fun D σ H=>t { D with nx:=u D } σ H
theorem uj:PSs X [] KD:=fun _ _ σ H _ I h=>wpAny_execs_nil ⟨σ,H,I,h⟩
theorem cH (h1:PS X st t) (h2:PSs X rest u):PSs X (st::rest) (La t u):=by
 intro pins s σ H D I h;refine wpAny_execs_cons (thn (h1 pins s σ H { D with nx:=u D } I h) fun f s1 q=>?_);cases f with
 | next =>obtain ⟨σ',H',I',q⟩:=q;exact h2 pins s1 σ' H' D I' q
 | ret v=>exact q
 | brk=>exact q
 | cont=>exact q
theorem ic (h1:PS X st t):PSs X [st] t:=by
 intro pins s σ H D I h;refine wpAny_execs_cons (thn (h1 pins s σ H D I h) fun f s1 q=>?_);cases f with
 | next=>exact wpAny_execs_nil q
 | ret v=>exact q
 | brk=>exact q
 | cont=>exact q
theorem Inv.quiet (I:Inv X pins σ H s):interactive X.env=false:=by simp [interactive,I.ok.kind]
def KG (te:TE):TS:=fun D σ H=>te σ H fun _ H1=>D.nx σ H1
theorem n6 (he:PE X e te) (hs:swapsWith e none pos.line X.env=pure false:=by rfl):PS X (.Expr e pos) (KG te):=by intro pins s σ H D I h;exact wpAny_Expr_any (thn (he pins s σ H _ I h) fun v s1 qz2=>(by obtain ⟨x,H1,I1,r1,q1⟩:=qz2;exact ⟨σ,H1,I1,q1⟩)) I.quiet hs
def LA (te:TE):TS:=fun D σ H=>te σ H D.rt
theorem qb (he:PE X e te):PS X (.Return (some e) pos) (LA te):=by intro pins s σ H D I h;exact wpAny_Return_some (thn (he pins s σ H _ I h) fun v s1 qz2=>(by obtain ⟨x,H1,I1,r1,q1⟩:=qz2;exact ⟨x,σ,H1,I1,r1,q1⟩))
def Lp (c:TT) (t u:TS):TS:=fun D σ H=>c σ H fun b H1=>if b=true then t D σ H1 else u D σ H1
theorem zA {a b:List Stmt} {tc:TT} (hc:PT X c tc) (ha:PSs X a t) (hb:PSs X b u):PS X (.If c a b pos) (Lp tc t u):=by
 intro pins s σ H D I h;refine wpAny_If (thn (hc pins s σ H _ I h) fun d s1 rz2=>?_);obtain ⟨H1,I1,q1⟩:=rz2;cases d with
 | true=>exact ha pins s1 σ H1 D I1 q1
 | false=>exact hb pins s1 σ H1 D I1 q1
end
abbrev TG:=V->St->Hp->(St->Hp->Prop)->Prop
abbrev TGs:=List V->St->Hp->(St->Hp->Prop)->Prop
def PG (X:Cx) (target:Expr) (t:TG):Prop :=
 ∀ (pins:List (Addr×Obj)) (s:Shared) (σ:St) (H:Hp) (v:V) (u:Value) (Q:St->Hp->Prop),Inv X pins σ H s->RelV v u->t v σ H Q ->
  wpAny (model X.prog X.w) X.A (assign target X.env u) (fun _ s'=>∃ σ' H',Inv X pins σ' H' s'/\Q σ' H') X.xe s
def PGs (X:Cx) (ts:List Expr) (t:TGs):Prop :=
 ∀ (pins:List (Addr×Obj)) (s:Shared) (σ:St) (H:Hp) (vs:List V) (us:List Value) (Q:St->Hp->Prop),Inv X pins σ H s->Vals vs us->t vs σ H Q ->
  wpAny (model X.prog X.w) X.A (assignInOrder ((assignEach ts X.env).map (·.2)) us) (fun _ s'=>∃ σ' H',Inv X pins σ' H' s'/\Q σ' H') X.xe s
abbrev II:=V->V->V->Hp->(Hp->Prop)->Prop
def Km (X:Cx) (t:II):Prop :=
 ∀ (pins:List (Addr×Obj)) (s:Shared) (σ:St) (H:Hp) (o i v:V) (ov iv u:Value) (Q:Hp->Prop),Inv X pins σ H s->RelV o ov->RelV i iv->RelV v u->t o i v H Q ->
  wpAny (model X.prog X.w) X.A (setItem ov iv u) (fun _ s'=>∃ H',Inv X pins σ H' s'/\Q H') X.xe s
abbrev TIp:=V->V->Hp->VK->Prop
def PIp (X:Cx) (op:Operator) (t:TIp):Prop :=
 ∀ (pins:List (Addr×Obj)) (s:Shared) (σ:St) (H:Hp) (x y:V) (v u:Value) (Q:VK),Inv X pins σ H s->RelV x v->RelV y u->t x y H Q ->
  wpAny (model X.prog X.w) X.A (inplaceOp op v u) (EP X pins σ Q) X.xe s
section
def jB (i:Nat):TG:=fun v σ H Q=>Q (σ.set i (some v)) H
theorem ug (hN:X.N.Nodup) (hi:X.N[i]?=some x) (hx:Loc X.env.scope x) (hf:X.fn x=true\/X.env.scope.names.lookup x=some .local:=by first | exact .inl rfl | exact .inr rfl | assumption):PG X (.Name x pos) (jB i):=by intro pins s σ H v u Q I r h;exact wpAny_assign_Name (qc I hN hi hx r (fun s' I'=>⟨_,H,I',h⟩) hf)
def IU:TGs:=fun vs σ H Q=>vs=[]/\Q σ H
def zF (t:TG) (u:TGs):TGs:=fun vs σ H Q=>∃ v r,vs=v::r/\t v σ H fun σ' H'=>u r σ' H' Q
theorem zD:PGs X [] IU:=by intro pins s σ H vs us Q I r h;obtain ⟨e,h⟩:=h;subst e;cases r;exact assignInOrder_nil ⟨σ,H,I,h⟩
theorem pD {t:TG} {u:TGs} (h1:PG X e t) (h2:PGs X es u)
  (hs:(assignEach (e::es) X.env).map (·.2)=assign e X.env::(assignEach es X.env).map (·.2):=by rfl):PGs X (e::es) (zF t u):=by
 intro pins s σ H vs us Q I r h;obtain ⟨v,vr,e1,h⟩:=h;subst e1;cases r with
 | cons r rr =>rw [hs];refine assignInOrder_cons (thn (h1 pins s σ H _ _ _ I r h) fun _ s1 rz2=>?_);obtain ⟨σ1,H1,I1,q1⟩:=rz2;exact h2 pins s1 σ1 H1 _ _ Q I1 rr q1
def JB (K:PySem.W.Frag) (n:Nat) (t:TGs):TG:=fun v σ H Q=>∃ a xs,v=.ref a/\SqT K H a xs/\xs.length=n/\t xs σ H Q
theorem B7 {k:Nat} {t:TGs} {n:Nat} (hc:X.calm=true) (h:PGs X es t)
  (hn:(assignEach es X.env).length=n:=by rfl) (hst:(assignEach es X.env).findIdx? (·.1)=none:=by rfl):PG X (.Tuple es k pos) (JB X.K n t):=by
 intro pins s σ H v u Q I r hw;obtain ⟨a,xs,e1,hq,hl,hw⟩:=hw;subst e1;cases r;obtain ⟨its,rv,ht,hz⟩:=I.tuple hq;refine assign_Tuple_tuple (I.ok.hd hc) ht (by simp [hn,<-hl,rv.length]) hst fun h' hx=>?_
 have I1:Inv X pins σ H { s with heap:=h' }:=I.kept (t':=s.toks) fun b o e=>hx b o (LR (LN e)) e
 exact h pins _ σ H xs _ Q I1 (by simpa using rv) hw
def K5 (to ti:TE) (t:II):TG:=fun v σ H Q=>to σ H fun o H1=>ti σ H1 fun i H2=>t o i v H2 fun H3=>Q σ H3
theorem Ig {o i:Expr} {to ti:TE} {t:II} (ho:PE X o to) (hi:PE X i ti) (hs:Km X t)
  (ha:∀ v,assign (.Subscript o i pos) X.env v=(do
   let ov <-holding [v] (eval o X.env);let iv <-holding [v,ov] (eval i X.env)
   standAt pos
   holding [v,ov,iv] (setItem ov iv v)
   release [v,ov,iv] []):=by intro _;rfl):PG X (.Subscript o i pos) (K5 to ti t):=by
 intro pins s σ H v u Q I r h;rw [ha];refine wpAny_bind (wpAny_holding (thn (ho pins s σ H _ I h) fun ov s1 rz2=>?_));obtain ⟨x,H1,I1,r1,q1⟩:=rz2;refine wpAny_bind (wpAny_holding (thn (hi pins s1 σ H1 _ I1 q1) fun iv s2 rz2=>?_));obtain ⟨y,H2,I2,r2,q2⟩:=rz2;refine wpAny_bind (wpAny_standAt (wpAny_bind (wpAny_holding (thn (hs pins s2 σ H2 x y v ov iv u _ I2 r1 r2 r q2) fun _ s3 rz2=>?_))));obtain ⟨H3,I3,q3⟩:=rz2;exact wpAny_release ⟨σ,H3,I3,q3⟩
def BX (te:TE) (g:TG):TS:=fun D σ H=>te σ H fun x H1=>g x σ H1 D.nx
theorem Hy {te:TE} {g:TG} (he:PE X e te) (hg:PG X tg g) (hs:swapsWithSole [tg] e pos.line X.env=pure false:=by rfl) (hw:swappedStores [tg] e X.env=pure none:=by rfl)
  (h1:(assignEach [tg] X.env).map (·.2)=[assign tg X.env]:=by rfl):PS X (.Assign [tg] e pos) (BX te g):=by
 intro pins s σ H D I h;refine wpAny_Assign_stores (thn (he pins s σ H _ I h) fun v s1 rz2=>?_) hs hw;obtain ⟨x,H1,I1,r1,q1⟩:=rz2;rw [h1];exact thn (hg pins s1 σ H1 x v _ I1 r1 q1) fun _ s2 q=>q
theorem qw {te:TE} (hN:X.N.Nodup) (hi:X.N[i]?=some x) (hx:Loc X.env.scope x) (he:PE X e te) (hs:swapsWith e (some (.Name x pos')) pos.line X.env=pure false:=by rfl) (hf:X.fn x=true\/X.env.scope.names.lookup x=some .local:=by first | exact .inl rfl | exact .inr rfl | assumption) :
  PS X (.Assign [.Name x pos'] e pos) (BX te (jB i)):=by
 intro pins s σ H D I h;refine wpAny_Assign_Name (thn (he pins s σ H _ I h) fun v s1 rz2=>?_) hs;obtain ⟨y,H1,I1,r1,q1⟩:=rz2;exact qc I1 hN hi hx r1 (fun s2 I2=>⟨_,H1,I2,q1⟩) hf
def K4 (i:Nat) (te:TE) (ti:TIp):TS:=fun D σ H=>∃ x,σ[i]?=some (some x)/\te σ H fun y H1=>ti x y H1 fun z H2=>D.nx (σ.set i (some z)) H2
theorem Ho {te:TE} {op:Operator} {ti:TIp} (hN:X.N.Nodup) (hi:X.N[i]?=some x) (hx:Loc X.env.scope x) (he:PE X e te) (ho:PIp X op ti) (hf:X.fn x=true\/X.env.scope.names.lookup x=some .local:=by first | exact .inl rfl | exact .inr rfl | assumption) :
  PS X (.AugAssign (.Name x pos') op e pos) (K4 i te ti):=by
 intro pins s σ H D I h;obtain ⟨v,e1,h⟩:=h;obtain ⟨m,hn,hl⟩:=I.loc;have vis:Vis X.env.scope x:=by rcases hx with k | k;exact .inl k;exact .inr (.inl k)
 obtain ⟨u,r,l⟩:=hl i x v hi e1 vis;refine wpAny_AugAssign_Name ?_;have go:wpAny (model X.prog X.w) X.A (eval e X.env) (fun w s₂=>wpAny (model X.prog X.w) X.A (inplaceOp op u w) (fun r s₃=>wpAny (model X.prog X.w) X.A (storeName X.env x r) (fun _=>SP X pins D .next) X.xe s₃) X.xe s₂) X.xe s:=by
  refine thn (he pins s σ H _ I h) fun w s1 rz2=>?_
  obtain ⟨y,H1,I1,r1,q1⟩:=rz2;refine thn (ho pins s1 σ H1 v y u w _ I1 r r1 q1) fun z s2 rz2=>?_
  obtain ⟨zv,H2,I2,r2,q2⟩:=rz2;exact qc I2 hN hi hx r2 (fun s3 I3=>⟨_,H2,I3,q2⟩) hf
 rcases l with ⟨hk,hm⟩ | ⟨hk,c,hc,hcell⟩
 ·exact wpAny_loadName_local I.ok.kind hk hn hm go
 ·rcases hk with hk | hk
  ·exact wpAny_loadName_cell I.ok.kind hk hc hcell go
  ·rcases hx with k | k
   ·have:X.env.scope.names.lookup x=some .free:=hk;rw [k] at this;cases this
   ·have:X.env.scope.names.lookup x=some .free:=hk;rw [k] at this;cases this
def ipI (f:Int->Int->Int):TIp:=fun x y H Q=>∃ i j,x=.int i/\y=.int j/\Q (.int (f i j)) H
theorem Jm:PIp X .Add (ipI fun i j=>i+j):=by intro pins s σ H x y v u Q I r1 r2 h;obtain ⟨i,j,e1,e2,q⟩:=h;subst e1;subst e2;obtain ⟨t,rfl⟩:=r1;obtain ⟨t',rfl⟩:=r2;exact iadd_int ⟨.int _,H,I.tok _,⟨_,rfl⟩,q⟩
end
section
def Hb (c:TT) (tb:TS):TS:=fun D σ H=>∃ W:Nat->St->Hp->Prop,(∃ m,W m σ H)/\∀ m σ H,W m σ H ->
 c σ H fun b H1=>if b=true then ∃ N:St->Hp->Prop,(∀ σ' H',N σ' H'->∃ m',m' < m/\W m' σ' H')/\tb { D with nx:=N,ct:=N,bk:=D.nx } σ H1 else D.nx σ H1
theorem vI {tc:TT} {tb:TS} (hp:PassesOwn (model X.prog X.w) X.A X.env X.xe) (hc:PT X c tc) (hb:PSs X body tb):PS X (.While c body [] pos) (Hb tc tb):=by
 intro pins s σ H D I h;obtain ⟨W,⟨m0,w0⟩,turn⟩:=h;refine wpAny_While (codeAny_whileLoop (fun n s'=>∃ σ' H',Inv X pins σ' H' s'/\W n σ' H') ?_ m0 ⟨σ,H,I,w0⟩)
 rintro n s1 ⟨σ1,H1,I1,w1⟩
 refine wpAny_passesOwn hp (thn (hc pins s1 σ1 H1 _ I1 (turn n σ1 H1 w1)) fun b s2 rz2=>?_);obtain ⟨H2,I2,q2⟩:=rz2;cases b with
 | true =>
  obtain ⟨N,hN,q2⟩:=q2;rw [if_pos rfl];refine wpAny_passesOwn hp (thn (hb pins s2 σ1 H2 _ I2 q2) fun f s3 q3=>?_);cases f with
  | next =>obtain ⟨σ3,H3,I3,n3⟩:=q3;obtain ⟨m',hm,w3⟩:=hN σ3 H3 n3;exact ⟨m',hm,σ3,H3,I3,w3⟩
  | cont =>obtain ⟨σ3,H3,I3,n3⟩:=q3;obtain ⟨m',hm,w3⟩:=hN σ3 H3 n3;exact ⟨m',hm,σ3,H3,I3,w3⟩
  | brk=>exact q3
  | ret v=>exact q3
 | false =>rw [if_neg LX];exact wpAny_execs_nil ⟨σ1,H2,I2,q2⟩
end
structure It where
 go:Nat->Hp->Prop
 yld:Nat->Hp->V->Hp->Prop
 stop:Nat->Hp->Prop
def qp (X:Cx) (pins:List (Addr×Obj)) (H:Hp) (b:Addr):Prop :=
 H b=none/\b≠X.env.locals/\b∉X.fs/\(b∈X.ex\/X.s₀.heap.objs.size<=b)/\(∀ x c,X.env.cells.lookup x=some c->c≠b)/\∀ p∈X.pn++pins,p.1≠b
theorem Inv.fpOk {H':Hp} (I:Inv X pins σ H s) (hb:s.heap.objs.size<=b) (hn:H' b=none):qp X pins H' b:=by
 refine ⟨hn,My (LV I.lt hb),I.nofs hb,.inr (Mv I.sz hb),fun x c e z=>?_,fun p hp z=>?_⟩
 ·obtain ⟨v,q⟩:=I.cell x c e;exact absurd (LV q.lt (by rw [z];exact hb)) (ML _)
 ·exact absurd (LV (LN (I.pin p hp).1) (by rw [z];exact hb)) (ML _)
structure Turn (P:Program) (w:World) (K:PySem.W.Frag) (tg:Expr) (J:It) (fp:List Addr) (it:Addr) (tn:Nat->Heap->Prop):Prop where
 mem:it∈fp
 obj:∀ i h,tn i h->∀ b∈fp,∃ o,h.get? b=some o/\∀ v,o.data≠.cell v
 keep:∀ i h h',tn i h->(∀ b∈fp,∀ o,h.get? b=some o->h'.get? b=some o)->tn i h'
 item:∀ (X:Cx),X.prog=P->X.w=w->X.K=K->X.calm=true->∀ (i:Nat) (pins:List (Addr×Obj)) (s:Shared) (σ:St) (H:Hp) (E:Value->Shared->Prop),Inv X pins σ H s->(∀ b∈fp,qp X pins H b)->tn i s.heap->J.go i H ->
  wpAny (model P w) X.A (pyNext (.ref it)) (fun r s1=>∃ u,r=some u /\
   wpAny (model P w) X.A (letOwnedTupleGo tg (.ref it) u) (fun _ s2=>∃ x H',Inv X pins σ H' s2/\RelV x u/\J.yld i H x H'/\tn (i+1) s2.heap/\∀ b∈fp,H' b=none) E s1) E s
 done:∀ (X:Cx),X.prog=P->X.w=w->X.K=K->X.calm=true->∀ (i:Nat) (pins:List (Addr×Obj)) (s:Shared) (σ:St) (H:Hp) (E:Value->Shared->Prop),Inv X pins σ H s->(∀ b∈fp,qp X pins H b)->tn i s.heap->J.stop i H ->
  wpAny (model P w) X.A (pyNext (.ref it)) (fun r s1=>r=none/\Inv X pins σ H s1) E s
 self:∀ (A:Around) (i:Nat) (s:Shared) (Q:Value->Shared->Prop) (E:Value->Shared->Prop),tn i s.heap->Q (.ref it) s->wpAny (model P w) A (pyIter (.ref it)) Q E s
abbrev TI:=St->Hp->(It->Hp->Prop)->Prop
def PIE (X:Cx) (pins:List (Addr×Obj)) (σ:St) (tg:Expr) (R:It->Hp->Prop) (itv:Value) (s2:Shared):Prop :=
 ∃ (it:Addr) (fp:List Addr) (tn:Nat->Heap->Prop) (J:It) (H':Hp),itv=.ref it/\Inv X pins σ H' s2/\Turn X.prog X.w X.K tg J fp it tn/\tn 0 s2.heap/\(∀ b∈fp,qp X pins H' b)/\R J H'
def PI (X:Cx) (tg iter:Expr) (wi:TI):Prop :=
 ∀ (pins:List (Addr×Obj)) (s:Shared) (σ:St) (H:Hp) (R:It->Hp->Prop),Inv X pins σ H s->wi σ H R ->
  wpAny (model X.prog X.w) X.A (eval iter X.env) (fun v s1=>wpAny (model X.prog X.w) X.A (pyIter v) (PIE X pins σ tg R) X.xe s1) X.xe s
theorem BV {o:Obj} {n:String} {vs:Array Value} {Q:Unit->Shared->Prop} (ho:s.heap.get? it=some o) (hc:o.cls=.type n) (hd:o.data=.fields vs)
    (hn:["enumerate", "zip", "dict_itemiterator", "dict_reverseitemiterator", "odict_iterator", "itertools.zip_longest", "itertools.pairwise"].contains n=false) (hQ:Q () s):wpAny M A (letOwnedTupleGo tg (.ref it) u) Q E s:=by
  unfold letOwnedTupleGo
  cases tg <;> first
    | exact wpAny_pure hQ
    | (cases u <;> first
        | exact wpAny_pure hQ
        | (refine wpAny_bind (wpAny_load ho ?_)
           rw [hc,hd]
           show wpAny M A (if (["enumerate", "zip", "dict_itemiterator", "dict_reverseitemiterator", "odict_iterator", "itertools.zip_longest", "itertools.pairwise"].contains n&&vs[0]?==some (rawInt _))=true then _ else _) Q E s
           rw [if_neg (by intro h;rw [hn,Bool.false_and] at h;cases h)]
           exact wpAny_pure hQ))
def Itl (K:PySem.W.Frag) (a:Addr):It :=
 ⟨fun i H=>∃ xs x,SqL K H a xs/\xs[i]?=some x,fun i H x H'=>H'=H/\∀ xs,SqL K H a xs->xs[i]?=some x,fun i H=>∃ xs,SqL K H a xs/\xs.length<=i⟩
def Itt (K:PySem.W.Frag) (a:Addr):It :=
 ⟨fun i H=>∃ xs x,SqT K H a xs/\xs[i]?=some x,fun i H x H'=>H'=H/\∀ xs,SqT K H a xs->xs[i]?=some x,fun i H=>∃ xs,SqT K H a xs/\xs.length<=i⟩
def Itr (lo:Int) (n:Nat):It:=⟨fun i _=>i<n,fun i H x H'=>H'=H/\x=.int (lo+i),fun i _=>n<=i⟩
theorem Be (a it:Addr):Turn P w K tg (Itl K a) [it] it (fun i h=>h.IsListIter it a i) where
 mem:=by simp
 obj:=fun i h st b hb=>by
  have e:b=it:=by simpa using hb
  subst e;obtain ⟨o,e,c,d⟩:=st;exact ⟨o,e,fun v z=>by rw [d] at z;cases z⟩
 keep:=fun i h h' st k=>st.at fun o e=>k it (by simp) o e
 item:=by
  intro X hP hw hK hc i pins s σ H E I hf st hg;subst hP hw hK;obtain ⟨xs,x,hq,hx⟩:=hg;obtain ⟨its,rv,p,hz⟩:=I.list hq;obtain ⟨u,hu,ru⟩:=rv.get hx;obtain ⟨f0,f1,f2,f3,f4,f5⟩:=hf it (by simp);refine wpAny_pyNext_list_item st p.isList (x:=u) (by simpa using hu) fun h' st' sb=>?_
  have I1:Inv X pins σ H { s with heap:=h' }:=I.turned (t':=s.toks) (fun b o hb e=>(sb.2 b hb).trans e) f0 f1 f3 f4 f5;obtain ⟨o,e,c,d⟩:=id st';exact ⟨u,rfl,BV (s:={ s with heap:=h' }) e c d (by decide) ⟨x,H,I1,ru,⟨rfl,fun ys hy=>by rw [I.list_inj hy hq];exact hx⟩,st',fun b hb=>(hf b hb).1⟩⟩
 done:=by intro X hP hw hK hc i pins s σ H E I hf st hg;subst hP hw hK;obtain ⟨xs,hq,hx⟩:=hg;obtain ⟨its,rv,p,hz⟩:=I.list hq;obtain ⟨f0,f1,f2,f3,f4,f5⟩:=hf it (by simp);have hl:=rv.length;exact wpAny_pyNext_list_end (I.ok.hd hc) st p.isList (by simp;omega) fun h' eb=>⟨rfl,I.turned (t':=s.toks) (fun b o hb e=>eb b o hb e) f0 f1 f3 f4 f5⟩
 self:=fun _ _ _ _ _ st h=>wpAny_pyIter_listiter st h
theorem xO (a it:Addr):Turn P w K tg (Itt K a) [it] it (fun i h=>h.IsTupleIter it a i) where
 mem:=by simp
 obj:=fun i h st b hb=>by
  have e:b=it:=by simpa using hb
  subst e;obtain ⟨o,e,c,d⟩:=st;exact ⟨o,e,fun v z=>by rw [d] at z;cases z⟩
 keep:=fun i h h' st k=>st.at fun o e=>k it (by simp) o e
 item:=by
  intro X hP hw hK hc i pins s σ H E I hf st hg;subst hP hw hK;obtain ⟨xs,x,hq,hx⟩:=hg;obtain ⟨its,rv,p,hz⟩:=I.tuple hq;obtain ⟨u,hu,ru⟩:=rv.get hx;obtain ⟨f0,f1,f2,f3,f4,f5⟩:=hf it (by simp);refine wpAny_pyNext_tuple_item st (show s.heap.IsTuple a its.toArray from p) (x:=u) (by simpa using hu) fun h' st' sb=>?_
  have I1:Inv X pins σ H { s with heap:=h' }:=I.turned (t':=s.toks) (fun b o hb e=>(sb.2 b hb).trans e) f0 f1 f3 f4 f5;obtain ⟨o,e,c,d⟩:=id st';exact ⟨u,rfl,BV (s:={ s with heap:=h' }) e c d (by decide) ⟨x,H,I1,ru,⟨rfl,fun ys hy=>by rw [I.tuple_inj hy hq];exact hx⟩,st',fun b hb=>(hf b hb).1⟩⟩
 done:=by intro X hP hw hK hc i pins s σ H E I hf st hg;subst hP hw hK;obtain ⟨xs,hq,hx⟩:=hg;obtain ⟨its,rv,p,hz⟩:=I.tuple hq;obtain ⟨f0,f1,f2,f3,f4,f5⟩:=hf it (by simp);have hl:=rv.length;exact wpAny_pyNext_tuple_end (I.ok.hd hc) st (show s.heap.IsTuple a its.toArray from p) (by simp;omega) fun h' eb=>⟨rfl,I.turned (t':=s.toks) (fun b o hb e=>eb b o hb e) f0 f1 f3 f4 f5⟩
 self:=fun _ _ _ _ _ st h=>wpAny_pyIter_tupleiter st h
theorem xl (it:Addr) (lo:Int) (n:Nat):Turn P w K tg (Itr lo n) [it] it (fun i h=>IsRangeIter h it (lo+(i:Nat)*1) ((n:Int)-(i:Nat)) 1) where
 mem:=by simp
 obj:=fun i h st b hb=>by
  have e:b=it:=by simpa using hb
  subst e;exact ⟨_,st,fun v z=>by have z':Data.fields _=Data.cell v:=z;cases z'⟩
 keep:=fun i h h' st k=>k it (by simp) _ st
 item:=by
  intro X hP hw hK hc i pins s σ H E I hf st hg;subst hP hw hK;obtain ⟨f0,f1,f2,f3,f4,f5⟩:=hf it (by simp);have W:=Walks.range (prog:=X.prog) (w:=X.w) (I.ok.hd hc) it lo 1 n;refine W.item i s _ _ hg st fun v h' tk hv st' kk=>?_
  obtain ⟨t,rfl⟩:=hv;have I1:Inv X pins σ H { s with heap:=h',toks:=tk }:=I.turned (fun b o hb e=>kk b o (by simpa using hb) e) f0 f1 f3 f4 f5;refine ⟨_,rfl,BV (s:={ s with heap:=h',toks:=tk }) (n:="range_iterator") st' rfl rfl (by decide) ⟨.int (lo+i),H,I1,⟨t,?_⟩,⟨rfl,rfl⟩,st',fun b hb=>(hf b hb).1⟩⟩;rw [Int.mul_one]
 done:=by intro X hP hw hK hc i pins s σ H E I hf st hg;subst hP hw hK;obtain ⟨f0,f1,f2,f3,f4,f5⟩:=hf it (by simp);exact wpAny_pyNext_range_end (I.ok.hd hc) st (by have:n<=i:=hg;omega) fun h' eb=>⟨rfl,I.turned (t':=s.toks) (fun b o hb e=>eb b o hb e) f0 f1 f3 f4 f5⟩
 self:=fun _ _ _ _ _ st h=>wpAny_pyIter_rangeiter st h
section
def JL (K:PySem.W.Frag) (tl:TE):TI:=fun σ H R=>tl σ H fun x H1=>∃ a,x=.ref a/\(∃ xs,SqL K H1 a xs)/\R (Itl K a) H1
def Lv (K:PySem.W.Frag) (tl:TE):TI:=fun σ H R=>tl σ H fun x H1=>∃ a,x=.ref a/\(∃ xs,SqT K H1 a xs)/\R (Itt K a) H1
theorem Gs {l:Expr} {tl:TE} (hl:PE X l tl):PI X tg l (JL X.K tl):=by
 intro pins s σ H R I h;refine thn (hl pins s σ H _ I h) fun v s1 rz2=>?_
 obtain ⟨x,H1,I1,r1,q1⟩:=rz2;obtain ⟨a,e,⟨xs,hq⟩,q⟩:=q1;subst e;cases r1;obtain ⟨its,rv,p,hz⟩:=I1.list hq;refine wpAny_pyIter_list p.isList ?_;refine ⟨s1.heap.objs.size,[s1.heap.objs.size],_,_,H1,rfl,I1.kept (t':=s1.toks) fun b o e=>L0 _ e,Be a _,⟨_,LP _ rfl,rfl,rfl⟩,fun b hb=>?_,q⟩;have e:b=s1.heap.objs.size:=by simpa using hb
 subst e;exact I1.fpOk (LK _) (I1.hok.fresh (LK _))
theorem Iu {l:Expr} {tl:TE} (hl:PE X l tl):PI X tg l (Lv X.K tl):=by
 intro pins s σ H R I h;refine thn (hl pins s σ H _ I h) fun v s1 rz2=>?_
 obtain ⟨x,H1,I1,r1,q1⟩:=rz2;obtain ⟨a,e,⟨xs,hq⟩,q⟩:=q1;subst e;cases r1;obtain ⟨its,rv,p,hz⟩:=I1.tuple hq;refine wpAny_pyIter_tuple (show s1.heap.IsTuple a its.toArray from p) ?_;refine ⟨s1.heap.objs.size,[s1.heap.objs.size],_,_,H1,rfl,I1.kept (t':=s1.toks) fun b o e=>L0 _ e,xO a _,⟨_,LP _ rfl,rfl,rfl⟩,fun b hb=>?_,q⟩;have e:b=s1.heap.objs.size:=by simpa using hb
 subst e;exact I1.fpOk (LK _) (I1.hok.fresh (LK _))
theorem B9 {R:It->Hp->Prop} {lo hi:Int} {t u v:Tok} {tk:Nat} (I:Inv X pins σ H s) (h1:-(2 ^ 62)<=lo) (h2:lo<2 ^ 62) (h3:-(2 ^ 62)<=hi) (h4:hi<2 ^ 62)
  (q:R (Itr lo (hi-lo).toNat) H):wpAny (model X.prog X.w) X.A (pyIter (.ref s.heap.objs.size)) (PIE X pins σ tg R) E { s with heap:=s.heap.push { cls:=.type "range",data:=.fields #[.int lo t,.int hi u,.int 1 v] },toks:=tk }:=by
 refine wpAny_pyIter_range (IsRange.new ..) (small_one h1 h2 h3 h4) ?_;have I1:Inv X pins σ H { s with heap:=s.heap.push { cls:=.type "range",data:=.fields #[.int lo t,.int hi u,.int 1 v] },toks:=tk }:=I.kept fun b o e=>L0 _ e
 refine ⟨(s.heap.push { cls:=.type "range",data:=.fields #[.int lo t,.int hi u,.int 1 v] }).objs.size,[(s.heap.push { cls:=.type "range",data:=.fields #[.int lo t,.int hi u,.int 1 v] }).objs.size],_,_,H,rfl,
  I1.kept (t':=tk) fun b o e=>L0 _ e,xl _ lo (hi-lo).toNat,?_,fun b hb=>?_,q⟩
 ·have e1:lo+((0:Nat):Int)*1=lo:=by simp
  have e2:(((hi-lo).toNat:Nat):Int)-((0:Nat):Int)=Builtin.Range.rangeSize lo hi 1:=by rw [rangeSize_one];split <;> omega
  show IsRangeIter _ _ (lo+((0:Nat):Int)*1) ((((hi-lo).toNat:Nat):Int)-((0:Nat):Int)) 1;rw [e1,e2];exact LP _ rfl
 ·have e:b=(s.heap.push { cls:=.type "range",data:=.fields #[.int lo t,.int hi u,.int 1 v] }).objs.size:=by simpa using hb
  subst e;exact I1.fpOk (LK _) (I1.hok.fresh (LK _))
def JG (ta:TA):TI:=fun σ H R=>ta σ H fun vs H1=>∃ j:Int,vs=[.int j]/\-(2 ^ 62)<=j/\j<2 ^ 62/\R (Itr 0 j.toNat) H1
theorem Bg {a:Expr} {ta:TA} (hg:Gl X "range") (hm:X.mg "range"=none) (ha:PA X [a] ta) (hs:starEach [a] X.env=[(false,eval a X.env)]:=by rfl):PI X tg (.Call (.Name "range" p) [a] [] pos) (JG ta):=by
 intro pins s σ H R I h;refine Call_ (gr I hg hm boot_range (PyProof.Rows.callWith_type1 (thn (ha pos pins s σ H _ I h) fun us s1 rz2=>?_) hs rfl));obtain ⟨vs,H1,I1,r1,q1⟩:=rz2;obtain ⟨j,e,q1,q2,q⟩:=q1;subst e;cases r1 with
 | cons r rr =>cases rr;obtain ⟨t,rfl⟩:=r;exact call_range_1 (B9 I1 (by omega) (by omega) q1 q2 (by simpa using q))
def K7 (wi:TI) (g:TG) (tb:TS):TS:=fun D σ H=>wi σ H fun J H1=>∃ W:Nat->Nat->St->Hp->Prop,(∃ m,W 0 m σ H1)/\∀ i m σ H,W i m σ H ->
 (J.stop i H/\D.nx σ H)\/(J.go i H/\∃ N:St->Hp->Prop,(∀ σ' H',N σ' H'->∃ m',m' < m/\W (i+1) m' σ' H')/\∀ x H',J.yld i H x H'->g x σ H' fun σ2 H2=>tb { D with nx:=N,ct:=N,bk:=D.nx } σ2 H2)
def pY (fp:List Addr) (h:Heap):List (Addr×Obj):=fp.filterMap fun b=>(h.get? b).map fun o=>(b,o)
theorem jc {o:Obj} (hb:b∈fp) (e:h.get? b=some o):(b,o)∈pY fp h:=Ny.mpr ⟨b,hb,by rw [e];rfl⟩
theorem Ba {p:Addr×Obj} (hp:p∈pY fp h):p.1∈fp/\h.get? p.1=some p.2:=by
 obtain ⟨b,hb,e⟩:=Ny.mp hp;cases q:h.get? b with
 | none=>rw [q] at e;cases e
 | some o =>rw [q] at e;have e':(b,o)=p:=Option.some.inj e;subst e';exact ⟨hb,q⟩
theorem Inv.pinned (I:Inv X pins σ H s) (hf:∀ b∈fp,qp X pins H b) (ho:∀ b∈fp,∃ o,s.heap.get? b=some o/\∀ v,o.data≠.cell v):Inv X (pins++pY fp s.heap) σ H s :=
 I.pins_of fun p hp=>(M4.mp hp).elim (fun z=>I.pin p (LJ _ z)) fun z=>by obtain ⟨hb,e⟩:=Ba z;obtain ⟨f0,f1,f2,_⟩:=hf p.1 hb;obtain ⟨o,e',d⟩:=ho p.1 hb;rw [e] at e';cases e';exact ⟨e,f0,f1,f2,d⟩
theorem Inv.unpinned {pl:List (Addr×Obj)} (I:Inv X (pins++pl) σ H s):Inv X pins σ H s:=I.pins_of fun p hp=>I.pin p (LJ _ (Me _ hp))
theorem GZ {wi:TI} {g:TG} {tb:TS} (hp:PassesOwn (model X.prog X.w) X.A X.env X.xe) (hc:X.calm=true) (hi:PI X tg iter wi) (hg:PG X tg g) (hb:PSs X body tb)
  (hs:∀ x,foldedSetIterable iter X.env x=pure x:=by intro _;rfl):PS X (.For tg iter body [] pos) (K7 wi g tb):=by
 intro pins s σ H D I h;refine wpAny_For (thn (hi pins s σ H _ I h) fun v s1 h1=>thn h1 fun itv s2 h2=>?_) hs;obtain ⟨it,fp,tn,J,H2,e,I2,T,st2,f2,W,⟨m0,w0⟩,turn⟩:=h2;subst e
 -- what stays true of the iterator's objects through the loop
 have stat:∀ {H':Hp},(∀ b∈fp,H' b=none)->∀ b∈fp,qp X pins H' b:=fun hn b hb=>⟨hn b hb,(f2 b hb).2⟩
 refine codeAny_forLoop_any (fun n s'=>∃ i σ' H',Inv X pins σ' H' s'/\tn i s'.heap/\(∀ b∈fp,H' b=none)/\W i n σ' H') ?_ m0 ⟨0,σ,H2,I2,st2,fun b hb=>(f2 b hb).1,w0⟩
 rintro n s3 ⟨i,σ3,H3,I3,st3,fr3,w3⟩
 rcases turn i n σ3 H3 w3 with ⟨stop,qn⟩ | ⟨go,N,hN,step⟩
 ·refine wpAny_passesOwn hp (thn (T.done X rfl rfl rfl hc i pins s3 σ3 H3 X.xe I3 (stat fr3) st3 stop) fun r s4 rz2=>?_);obtain ⟨hr,I4⟩:=rz2;subst hr;exact wpAny_execs_nil ⟨σ3,H3,I4,qn⟩
 ·refine wpAny_passesOwn hp (thn (T.item X rfl rfl rfl hc i pins s3 σ3 H3 X.xe I3 (stat fr3) st3 go) fun r s4 rz2=>?_);obtain ⟨u,hr,h4⟩:=rz2;subst hr;refine wpAny_passesOwn hp (thn h4 fun _ s5 rz2=>?_);obtain ⟨x,H5,I5,r5,y5,st5,fr5⟩:=rz2;have I5':=I5.pinned (stat fr5) (T.obj _ _ st5);refine wpAny_passesOwn hp (thn (hg _ s5 σ3 H5 x u _ I5' r5 (step x H5 y5)) fun _ s6 rz2=>?_);obtain ⟨σ6,H6,I6,q6⟩:=rz2;refine wpAny_passesOwn hp (thn (hb _ s6 σ6 H6 _ I6 q6) fun f s7 q7=>?_);have again:∀ {σ7:St} {H7:Hp},Inv X (pins++pY fp s5.heap) σ7 H7 s7->N σ7 H7->∃ m,m<n/\∃ i σ' H',Inv X pins σ' H' s7/\tn i s7.heap/\(∀ b∈fp,H' b=none)/\W i m σ' H':=fun {σ7 H7} I7 n7=>by obtain ⟨m',hm,w7⟩:=hN σ7 H7 n7;refine ⟨m',hm,i+1,σ7,H7,I7.unpinned,T.keep _ _ _ st5 fun b hb o e=>(I7.pin (b,o) (LJ _ (LJ _ (jc hb e)))).1,fun b hb=>?_,w7⟩;obtain ⟨o,e,d⟩:=T.obj _ _ st5 b hb;exact (I7.pin (b,o) (LJ _ (LJ _ (jc hb e)))).2.1
  cases f with
  | next=>obtain ⟨σ7,H7,I7,n7⟩:=q7;exact again I7 n7
  | cont=>obtain ⟨σ7,H7,I7,n7⟩:=q7;exact again I7 n7
  | brk=>obtain ⟨σ7,H7,I7,q7⟩:=q7;exact ⟨σ7,H7,I7.unpinned,q7⟩
  | ret v=>obtain ⟨x7,σ7,H7,I7,r7,q7⟩:=q7;exact ⟨x7,σ7,H7,I7.unpinned,r7,q7⟩
end
abbrev R2:=V->V->Hp->VK->Prop
variable {r:R2}
def OpR (X:Cx) (f:Value->Value->Sem Value) (r:R2):Prop :=
 ∀ (pins:List (Addr×Obj)) (s:Shared) (σ:St) (H:Hp) (x y:V) (v u:Value) (Q:VK),Inv X pins σ H s->RelV x v->RelV y u->r x y H Q ->
  wpAny (model X.prog X.w) X.A (f v u) (EP X pins σ Q) X.xe s
def UnR (X:Cx) (f:Value->Sem Value) (r:V->Hp->VK->Prop):Prop :=
 ∀ (pins:List (Addr×Obj)) (s:Shared) (σ:St) (H:Hp) (x:V) (v:Value) (Q:VK),Inv X pins σ H s->RelV x v->r x H Q ->
  wpAny (model X.prog X.w) X.A (f v) (EP X pins σ Q) X.xe s
def jL (X:Cx) (f:Value) (r:List V->Hp->VK->Prop):Prop :=
 ∀ (pins:List (Addr×Obj)) (s:Shared) (σ:St) (H:Hp) (xs:List V) (us:List Value) (Q:VK),Inv X pins σ H s->Vals xs us->r xs H Q ->
  wpAny (model X.prog X.w) X.A (call f us) (EP X pins σ Q) X.xe s
def tOp (r:R2) (ta tb:TE):TE:=fun σ H Q=>ta σ H fun x H1=>tb σ H1 fun y H2=>r x y H2 Q
def tUn (r:V->Hp->VK->Prop) (ta:TE):TE:=fun σ H Q=>ta σ H fun x H1=>r x H1 Q
def rI (C:Int->Int->Prop) (g:Int->Int->V):R2:=fun x y H Q=>∃ i j,x=.int i/\y=.int j/\C i j/\Q (g i j) H
def rI0 (g:Int->Int->V):R2:=fun x y H Q=>∃ i j,x=.int i/\y=.int j/\Q (g i j) H
def rU (g:Int->V):V->Hp->VK->Prop:=fun x H Q=>∃ i,x=.int i/\Q (g i) H
section
variable {a b:Expr} {ta tb tc:TE}
theorem G3 (ha:PE X a ta) (hb:PE X b tb) (I:Inv X pins σ H s)
  (h:ta σ H fun x H1=>tb σ H1 fun y H2=>R x y H2) {f:Value->Value->Sem Value}
  (hf:∀ v u s2 x y H2,Inv X pins σ H2 s2->RelV x v->RelV y u->R x y H2->wpAny (model X.prog X.w) X.A (f v u) Q X.xe s2) :
  wpAny (model X.prog X.w) X.A (eval a X.env) (fun v s₁=>wpAny (model X.prog X.w) X.A (eval b X.env) (fun u s₂=>wpAny (model X.prog X.w) X.A (f v u) Q X.xe s₂) X.xe s₁) X.xe s:=by
 refine thn (ha pins s σ H _ I h) fun v s1 rz2=>?_
 obtain ⟨x,H1,I1,r1,q1⟩:=rz2;refine thn (hb pins s1 σ H1 _ I1 q1) fun u s2 rz2=>?_
 obtain ⟨y,H2,I2,r2,q2⟩:=rz2;exact hf v u s2 x y H2 I2 r1 r2 q2
theorem eY {op:Operator} (ho:OpR X (binaryOp op) r) (ha:PE X a ta) (hb:PE X b tb):PE X (.BinOp a op b pos) (tOp r ta tb):=by intro pins s σ H Q I h;exact wpAny_BinOp (G3 ha hb I h fun v u s2 x y H2 I2 rx ry q=>ho pins s2 σ H2 x y v u Q I2 rx ry q)
theorem JU {op:UnaryOp} {r:V->Hp->VK->Prop} (ho:UnR X (unaryOp op) r) (ha:PE X a ta):PE X (.UnaryOp op a pos) (tUn r ta):=by intro pins s σ H Q I h;exact UnaryOp_ (thn (ha pins s σ H _ I h) fun v s1 qz2=>(by obtain ⟨x,H1,I1,r1,q1⟩:=qz2;exact ho pins s1 σ H1 x v Q I1 r1 q1))
theorem opI {f:Value->Value->Sem Value} {C:Int->Int->Prop}
  (rule:∀ (i j:Int) (t u:Tok) (s:Shared) (Q:Value->Shared->Prop) (E:Value->Shared->Prop),C i j->Q (.int (g i j) s.toks) { s with toks:=s.toks+1 }->wpAny (model X.prog X.w) X.A (f (.int i t) (.int j u)) Q E s) :
  OpR X f (rI C fun i j=>.int (g i j)):=by
 intro pins s σ H x y v u Q I rx ry h;obtain ⟨i,j,rfl,rfl,hc,q⟩:=h;obtain ⟨t,rfl⟩:=rx;obtain ⟨t',rfl⟩:=ry;exact rule i j t t' s _ _ hc ⟨.int (g i j),H,I.tok _,⟨_,rfl⟩,q⟩
theorem J6 {f:Value->Value->Sem Value}
  (rule:∀ (i j:Int) (t u:Tok) (s:Shared) (Q:Value->Shared->Prop) (E:Value->Shared->Prop),Q (.int (g i j) s.toks) { s with toks:=s.toks+1 }->wpAny (model X.prog X.w) X.A (f (.int i t) (.int j u)) Q E s) :
  OpR X f (rI0 fun i j=>.int (g i j)):=by
 intro pins s σ H x y v u Q I rx ry h;obtain ⟨i,j,rfl,rfl,q⟩:=h;obtain ⟨t,rfl⟩:=rx;obtain ⟨t',rfl⟩:=ry;exact rule i j t t' s _ _ ⟨.int (g i j),H,I.tok _,⟨_,rfl⟩,q⟩
theorem Jx {f:Value->Value->Sem Value} {g:Int->Int->Bool}
  (rule:∀ (i j:Int) (t u:Tok) (s:Shared) (Q:Value->Shared->Prop) (E:Value->Shared->Prop),Q (.bool (g i j)) s->wpAny (model X.prog X.w) X.A (f (.int i t) (.int j u)) Q E s) :
  OpR X f (rI0 fun i j=>.bl (g i j)):=by
 intro pins s σ H x y v u Q I rx ry h;obtain ⟨i,j,rfl,rfl,q⟩:=h;obtain ⟨t,rfl⟩:=rx;obtain ⟨t',rfl⟩:=ry;exact rule i j t t' s _ _ ⟨.bl (g i j),H,I,rfl,q⟩
def KZ (i j:Int):Prop:=0<j/\j<1073741824
def KC (i j:Int):Prop:=0<=j/\j<=1000000/\i.natAbs<2 ^ 64
def F2 (i j:Int):Prop:=(-(2 ^ 64)<i/\i<2 ^ 64)\/(-(2 ^ 64)<j/\j<2 ^ 64)
theorem F2.ok {i j:Int} (h:F2 i j):IntMulOk i j:=by
 rcases h with ⟨h1,h2⟩ | ⟨h1,h2⟩
 ·exact .of_left (intBits_le_64 h1 h2)
 ·exact .of_right (intBits_le_64 h1 h2)
theorem mM:OpR X (binaryOp .Add) (rI0 fun i j=>.int (i+j)):=J6 fun _ _ _ _ _ _ _ q=>add_int q
theorem HY:OpR X (binaryOp .Sub) (rI0 fun i j=>.int (i-j)):=J6 fun _ _ _ _ _ _ _ q=>sub_int q
theorem mO:OpR X (binaryOp .Mult) (rI F2 fun i j=>.int (i*j)):=opI fun _ _ _ _ _ _ _ hc q=>mul_int q hc.ok
theorem Ft:OpR X (binaryOp .FloorDiv) (rI KZ fun i j=>.int (i / j)):=opI fun i j _ _ _ _ _ hc q=>by have h1:(0:Int)<j:=hc.1;have h2:j<1073741824:=hc.2;exact floordiv_int (by omega) (by rw [Int.fdiv_eq_ediv_of_nonneg i (by omega)];exact q) (.inl (PyProof.noPylong_small (by omega)))
theorem oz:OpR X (binaryOp .Mod) (rI (fun _ j=>0<j) fun i j=>.int (i % j)):=opI fun i j _ _ _ _ _ hc q=>by have h1:(0:Int)<j:=hc;exact mod_int' (by omega) (by rw [Int.fmod_eq_emod_of_nonneg i (by omega)];exact q)
theorem HK:OpR X (binaryOp .Pow) (rI KC fun i j=>.int (i ^ j.toNat)):=opI fun _ _ _ _ _ _ _ hc q=>pow_int_small hc.1 hc.2.1 hc.2.2 q
theorem unI {f:Value->Sem Value} {g:Int->Int}
  (rule:∀ (i:Int) (t:Tok) (s:Shared) (Q:Value->Shared->Prop) (E:Value->Shared->Prop),Q (.int (g i) s.toks) { s with toks:=s.toks+1 }->wpAny (model X.prog X.w) X.A (f (.int i t)) Q E s) :
  UnR X f (rU fun i=>.int (g i)):=by
 intro pins s σ H x v Q I rx h;obtain ⟨i,rfl,q⟩:=h;obtain ⟨t,rfl⟩:=rx;exact rule i t s _ _ ⟨.int (g i),H,I.tok _,⟨_,rfl⟩,q⟩
theorem Io:UnR X (unaryOp .USub) (rU fun i=>.int (-i)):=unI fun _ _ _ _ _ q=>neg_int q
end
section
variable {a b:Expr} {ta tb tc:TE}
theorem DA:OpR X (compareOp .Lt) (rI0 fun i j=>.bl (decide (i<j))):=Jx fun _ _ _ _ _ _ _ q=>lt_int q
theorem yz:OpR X (compareOp .LtE) (rI0 fun i j=>.bl (decide (i<=j))):=Jx fun _ _ _ _ _ _ _ q=>le_int q
theorem JO:OpR X (compareOp .Gt) (rI0 fun i j=>.bl (decide (j<i))):=Jx fun _ _ _ _ _ _ _ q=>gt_int q
theorem OpR.or {f:Value->Value->Sem Value} {r':R2} (h:OpR X f r) (h':OpR X f r'):OpR X f (fun x y H Q=>r x y H Q\/r' x y H Q):=by
 intro pins s σ H x y v u Q I rx ry q;rcases q with q | q
 ·exact h pins s σ H x y v u Q I rx ry q
 ·exact h' pins s σ H x y v u Q I rx ry q
theorem i4 (b:Expr) (h:op≠.In:=by decide) (h2:op≠.NotIn:=by decide):behindInMarks op b=false:=by
 have e1:(op==CmpOp.In)=false:=by cases op <;> first | rfl | exact absurd rfl h
 have e2:(op==CmpOp.NotIn)=false:=by cases op <;> first | rfl | exact absurd rfl h2
 cases b <;> simp [behindInMarks,e1,e2]
theorem n5 (ho:OpR X (compareOp op) r) (ha:PE X a ta) (hb:PE X b tb) (hm:behindInMarks op b=false):PE X (.Compare a [op] [b] pos) (tOp r ta tb):=by intro pins s σ H Q I h;exact wpAny_Compare1 (G3 ha hb I h fun v u s2 x y H2 I2 rx ry q=>ho pins s2 σ H2 x y v u Q I2 rx ry q) hm
def GU (t:TE):TT:=fun σ H Q=>t σ H fun x H'=>∃ k,x=.bl k/\Q k H'
theorem j7 (ho:OpR X (compareOp op) r) (ha:PE X a ta) (hb:PE X b tb) (hm:behindInMarks op b=false):PT X (.Compare a [op] [b] pos) (GU (tOp r ta tb)):=by
 intro pins s σ H Q I h;refine wpAny_isTrue_Compare1 (thn (ha pins s σ H _ I h) fun v s1 rz2=>?_) hm;obtain ⟨x,H1,I1,r1,q1⟩:=rz2;refine thn (hb pins s1 σ H1 _ I1 q1) fun u s2 rz2=>?_
 obtain ⟨y,H2,I2,r2,q2⟩:=rz2;refine thn (ho pins s2 σ H2 x y v u _ I2 r1 r2 q2) fun c s3 rz2=>?_
 obtain ⟨z,H3,I3,r3,k,e,q3⟩:=rz2;subst e;cases r3;exact wpAny_truthy_bool ⟨H3,I3,q3⟩
def IB (r r':R2) (ta tb tc:TE):TE:=fun σ H Q=>ta σ H fun x H1=>tb σ H1 fun y H2=>r x y H2 fun z H3=>∃ k,z=.bl k /\
 (if k=true then tc σ H3 fun w' H4=>r' y w' H4 Q else Q (.bl false) H3)
theorem BJ {op':CmpOp} {r':R2} (ho:OpR X (compareOp op) r) (ho':OpR X (compareOp op') r') (ha:PE X a ta) (hb:PE X b tb) (hc:PE X c tc)
  (hm:lastMarks [op,op'] [b,c]=false:=by with_unfolding_all rfl):PE X (.Compare a [op,op'] [b,c] pos) (IB r r' ta tb tc):=by
 intro pins s σ H Q I h;refine Compare_chain (thn (ha pins s σ H _ I h) fun v s1 rz2=>?_) hm;obtain ⟨x,H1,I1,r1,q1⟩:=rz2;refine chain_link (thn (hb pins s1 σ H1 _ I1 q1) fun u s2 rz2=>?_);obtain ⟨y,H2,I2,r2,q2⟩:=rz2;refine thn (ho pins s2 σ H2 x y v u _ I2 r1 r2 q2) fun d s3 rz2=>?_
 obtain ⟨z,H3,I3,r3,k,e,q3⟩:=rz2;subst e;cases r3;refine wpAny_truthy_bool ?_;cases k with
 | false=>exact ite_ff ⟨.bl false,H3,I3,rfl,q3⟩
 | true=>exact ite_tt (chain_last (thn (hc pins s3 σ H3 _ I3 q3) fun w' s4 qz2=>(by obtain ⟨z',H4,I4,r4,q4⟩:=qz2;exact ho' pins s4 σ H4 y z' u w' Q I4 r2 r4 q4)))
theorem sO:(sizeLine:Nat)<2 ^ 63:=by rw [sizeLine_eq];decide
theorem vals1 {x:V} (r:Vals [x] us):∃ u,us=[u]/\RelV x u:=by
 cases r with
 | cons r1 r2=>cases r2;exact ⟨_,rfl,r1⟩
theorem vals2 {x y:V} (r:Vals [x,y] us):∃ u w',us=[u,w']/\RelV x u/\RelV y w':=by
 cases r with
 | cons r1 r2 =>
  cases r2 with
  | cons r3 r4=>cases r4;exact ⟨_,_,rfl,r1,r3⟩
theorem AO (hc:X.calm=true):jL X (.builtin "max") (fun xs H Q=>∃ i j,xs=[.int i,.int j]/\Q (.int (if j>i then j else i)) H):=by
 intro pins s σ H xs us Q I r h;obtain ⟨i,j,rfl,q⟩:=h;obtain ⟨u,w',rfl,⟨t,rfl⟩,⟨t',rfl⟩⟩:=vals2 r;refine max_two_ints (I.ok.hd hc) fun h' tk k=>⟨_,H,I.kept k,?_,q⟩
 by_cases hj:j>i
 ·rw [if_pos hj,if_pos hj];exact ⟨_,rfl⟩
 ·rw [if_neg hj,if_neg hj];exact ⟨_,rfl⟩
theorem Bo (hc:X.calm=true):jL X (.builtin "min") (fun xs H Q=>∃ i j,xs=[.int i,.int j]/\Q (.int (if j<i then j else i)) H):=by
 intro pins s σ H xs us Q I r h;obtain ⟨i,j,rfl,q⟩:=h;obtain ⟨u,w',rfl,⟨t,rfl⟩,⟨t',rfl⟩⟩:=vals2 r;refine min_two_ints (I.ok.hd hc) fun h' tk k=>⟨_,H,I.kept k,?_,q⟩
 by_cases hj:j<i
 ·rw [if_pos hj,if_pos hj];exact ⟨_,rfl⟩
 ·rw [if_neg hj,if_neg hj];exact ⟨_,rfl⟩
theorem AU:jL X (.type "int") (fun xs H Q=>(∃ i,xs=[.int i]/\Q (.int i) H)\/∃ k,xs=[.bl k]/\Q (.int (if k then 1 else 0)) H):=by
 intro pins s σ H xs us Q I r h;rcases h with ⟨i,rfl,q⟩ | ⟨k,rfl,q⟩
 ·obtain ⟨u,rfl,t,rfl⟩:=vals1 r;exact call_int_int ⟨.int i,H,I,⟨_,rfl⟩,q⟩
 ·obtain ⟨u,rfl,r1⟩:=vals1 r;cases r1;exact call_int_bool ⟨.int (if k then 1 else 0),H,I.tok _,⟨_,rfl⟩,q⟩
end
structure xp (h:Heap) (x dx C:Addr) (mA:Str->Option Value):Prop where
 obj:h.get? x=some (PySem.W.instObj C dx)
 ns:h.Ns1 dx mA
 ne:dx≠x
theorem Bk (n:h.Ns1 dx mA):∃ od,h.get? dx=some od/\∀ name,PySem.W.lookIn name od=some (mA name):=by
 obtain ⟨o,es,ep,ho,hd,hk,_,hm⟩:=n;refine ⟨o,ho,fun name=>?_⟩;have e:=hm name;unfold nsFind findBy at e;rw [<-Array.find?_toList] at e;unfold PySem.W.lookIn;rw [hd];dsimp only;split
 ·rename_i y q;rw [q] at e;exact congrArg some e
 ·rename_i q;rw [q] at e;have a:es.toList.any (·.refKey)=false:=by rw [List.any_eq_false];intro y hy;obtain ⟨z,t,hkey⟩:=hk y (Array.mem_toList_iff.mp hy);simp [DictEntry.refKey,hkey]
  have a':¬ es.toList.any (·.refKey)=true:=by rw [a];exact LX
  rw [if_neg a'];exact congrArg some e
theorem xp.look {x:Addr} (I:xp h x dx C mA):∃ od,PySem.W.InstAt h x (PySem.W.instObj C dx) C (some od)/\∀ name,PySem.W.lookIn name od=some (mA name) :=
 let ⟨od,ho,hl⟩:=Bk I.ns
 ⟨od,⟨I.obj,rfl,rfl,ho⟩,hl⟩
section
variable {x:Addr} {name:Str} {v:Value}
theorem get_map {expr:Bool} (X:K.In s.heap) (I:xp s.heap x dx C mA) (hg:PySem.W.plainGet K C name=true) (hh:PySem.W.hasDictIn K C=true)
  (ha:PySem.W.findIn K (.ref C) name=some none) (hv:mA name=some v) (hv':PySem.W.handedIn v=true) (h:Q v { s with toks:=s.toks+1 }) :
  wpAny (model prog w) A (getAttr (.ref x) name expr) Q E s:=by
 obtain ⟨od,J,hl⟩:=I.look;exact PySem.W.get_value X J (PySem.W.plainGet_of hg).1 (PySem.W.findObj_own hh ha rfl (by rw [hl,hv])) hv' h
theorem BR {pl:Sem Bool} {Q:Value×List Value->Shared->Prop} (X:K.In s.heap) (I:xp s.heap x dx C mA) (hg:PySem.W.plainGet K C name=true)
  (hf:PySem.W.findIn K (.ref C) name=some (some (.ref f))) (ht:PySem.W.isFn K (.ref f)=true) (hv:mA name=none) (h:Q (.ref f,[.ref x]) s) :
  wpAny (model prog w) A (getMethod (.ref x) name pl) Q E s:=by
 obtain ⟨od,J,hl⟩:=I.look;exact PySem.W.method_fn X J (PySem.W.plainGet_of hg).1 (PySem.W.plainGet_of hg).2 hf (beq_iff_eq.mp ht) (by show (PySem.W.lookIn name od).map (·.isSome)=some false;rw [hl,hv];rfl) h
theorem EY {ns:List Str} {Q:Unit->Shared->Prop} (X:K.In s.heap) (I:xp s.heap x dx C mA)
  (hs:PySem.W.findIn K (.ref C) "__setattr__"=some (some (.builtin "object.__setattr__"))) (hp:PySem.W.plainOver K C=true) (ht:PySem.W.takerIn K C name=some none) (hh:PySem.W.hasDictIn K C=true)
  (hw:PySem.Within mA ns) (hsz:ns.length<=sizeLine)
  (h:∀ h',xp h' x dx C (fun y=>if y=name then some v else mA y)->Heap.SameBut dx s.heap h'->Q () { s with heap:=h',toks:=s.toks+2 }) :
  wpAny (model prog w) A (setAttr (.ref x) name v) Q E s:=by
 obtain ⟨od,J,hl⟩:=I.look;refine PySem.W.set_plain X J hs (PySem.W.osa_open (s:={ s with toks:=s.toks+1 }) (r:=none) X J hp ht fun b=>?_);obtain ⟨cd,hc,hd'⟩:=PySem.W.any_some hh;have hx:s.heap.get? x=some ⟨.ref C,some dx,.plain,#[]⟩:=I.obj;refine wpAny_bind (wpAny_pure (wpAny_bind (wpAny_bind (wpAny_loadPart hx (wpAny_bind (PySem.W.Looks.here (s:={ s with toks:=s.toks+1 }) (PySem.W.looks_clsIn X hc) ?_))))));rw [hd'];refine wpAny_pure (a:=some dx) (wpAny_bind (wpAny_pure (wpAny_bind ?_)));refine wpAny_nsSet1 (s:={ s with toks:=s.toks+1 }) I.ns fun h' hn2 hs2=>?_
 obtain ⟨oD,esD,epD,hoD,hdD,hcD⟩:=hn2.count (PySem.Within.cons name v hw);refine wpAny_bind (wpAny_lookBehind hoD (by rw [hdD];exact pastItsLine_dict (Mv hcD (by rw [LS];omega))) ?_);exact wpAny_pure (h _ ⟨(hs2.2 _ (Ne.symm I.ne)).trans I.obj,hn2,I.ne⟩ hs2)
theorem C5 {R:Result->Shared->Prop} {vs:List Value} (X:K.In s.heap) (hm:PySem.W.makesIn K C=true)
  (hi:PySem.W.findIn K (.ref C) "__init__"=some (some (.ref f))) (hf:PySem.W.typeIn K (.ref f)=some (.type "function"))
  (h:codeAny (model prog w) (A.under (.builtin "type.__call__" ⟨.ref C::vs,kw⟩)) (.call (.ref f) ⟨.ref (s.heap.objs.size+1)::vs,kw⟩) (PySem.W.InitBack (s.heap.objs.size+1) R)
   { s with heap:=(s.heap.push PySem.W.emptyDict).push (PySem.W.instObj C s.heap.objs.size) }) :
  codeAny (model prog w) A (.call (.ref C) ⟨vs,kw⟩) R s:=by
 obtain ⟨hh,g,d,t,os⟩:=s;exact PySem.W.make_core (PySem.W.makes_of X hm) (PySem.W.looks_findIn X hi) (fun self=>PySem.W.bind_fn X self hf) (.inl rfl) h
end
def ix (f:Str) (v:V):List (Str×V)->List (Str×V)
 | []=>[(f,v)]
 | (g,x)::r=>if g=f then (g,v)::r else (g,x)::ix f v r
theorem jC (f g:Str) (v:V):∀ fs:List (Str×V),(ix f v fs).lookup g=if g=f then some v else fs.lookup g
 | []=>by
  show List.lookup g [(f,v)]=_;by_cases h:g=f
  ·have hb:(g==f)=true:=beq_iff_eq.mpr h;simp only [List.lookup,hb,if_pos h]
  ·have hb:(g==f)=false:=beq_eq_false_iff_ne.mpr h;simp only [List.lookup,hb,if_neg h]
 | (k,x)::r=>by
  have ih:=jC f g v r;rw [show ix f v ((k,x)::r)=(if k=f then (k,v)::r else (k,x)::ix f v r) from rfl];by_cases hk:k=f
  ·rw [if_pos hk];by_cases h:g=k
   ·have hb:(g==k)=true:=beq_iff_eq.mpr h;simp only [List.lookup,hb,if_pos (h.trans hk)]
   ·have hb:(g==k)=false:=beq_eq_false_iff_ne.mpr h;simp only [List.lookup,hb,if_neg (fun e:g=f=>h (e.trans hk.symm))]
  ·rw [if_neg hk];by_cases h:g=k
   ·have hb:(g==k)=true:=beq_iff_eq.mpr h;simp only [List.lookup,hb,if_neg (fun e:g=f=>hk (h.symm.trans e))]
   ·have hb:(g==k)=false:=beq_eq_false_iff_ne.mpr h;simp only [List.lookup,hb];exact ih
theorem mV (f:Str) (v:V):∀ fs:List (Str×V),f∈(ix f v fs).map (·.1)/\∀ g,g∈fs.map (·.1)->g∈(ix f v fs).map (·.1)
 | []=>⟨by simp [ix],fun g h=>by simp at h⟩
 | (k,x)::r=>by
  obtain ⟨i1,i2⟩:=mV f v r;rw [show ix f v ((k,x)::r)=(if k=f then (k,v)::r else (k,x)::ix f v r) from rfl];by_cases hk:k=f
  ·rw [if_pos hk];subst hk;exact ⟨by simp,fun g h=>by simpa using h⟩
  ·rw [if_neg hk];refine ⟨?_,fun g h=>?_⟩
   ·rw [L5];exact L4 _ i1
   ·rw [L5] at h ⊢;rcases L7.mp h with e | e
    ·exact L7.mpr (.inl e)
    ·exact L4 _ (i2 g e)
theorem nr (f:Str) (v:V):∀ fs:List (Str×V),(ix f v fs).length<=fs.length+1
 | []=>by simp [ix]
 | (k,x)::r=>by
  have ih:=nr f v r;rw [show ix f v ((k,x)::r)=(if k=f then (k,v)::r else (k,x)::ix f v r) from rfl];by_cases hk:k=f
  ·rw [if_pos hk,LS,LS];omega
  ·rw [if_neg hk,LS,LS];omega
theorem kr.some_of {o:Option Value} (r:kr (some v) o):∃ u,o=some u/\RelV v u:=by
 cases o with
 | none=>exact (show False from r).elim
 | some u=>exact ⟨u,rfl,r⟩
theorem kr.none_of {o:Option Value} (r:kr none o):o=none:=by
 cases o with
 | none=>rfl
 | some u=>exact (show False from r).elim
theorem Bm (r:RelV v u):PySem.W.handedIn u=true:=by
 cases v with
 | non=>cases (show u=Value.none from r);rfl
 | bl b=>cases (show u=Value.bool b from r);rfl
 | int i=>obtain ⟨t,e⟩:=(show ∃ t,u=Value.int i t from r);cases e;rfl
 | str x=>obtain ⟨t,e⟩:=(show ∃ t,u=Value.str x t from r);cases e;rfl
 | byt b=>obtain ⟨t,e⟩:=(show ∃ t,u=Value.bytes b t from r);cases e;rfl
 | flt b=>obtain ⟨t,e⟩:=(show ∃ t,u=Value.float b t from r);cases e;rfl
 | ref a=>cases (show u=Value.ref a from r);rfl
 | ty n=>cases (show u=Value.type n from r);rfl
section
variable {H':Hp} {fs fs':List (Str×V)}
theorem uG (hok:HOk P w H h) (e:H a=some (.ins C dx fs)):∃ mA,xp h a dx C mA/\(∀ f,kr (fs.lookup f) (mA f))/\PySem.Within mA (fs.map (·.1))/\fs.length<=1000/\H dx=some (.own a):=by
 obtain ⟨d,z,ne,ob,mA,n,r,q⟩:=(show dg P w H h a (.ins C dx fs) from hok a _ e)
 exact ⟨mA,⟨ob,n,ne⟩,r,q,z,d⟩
end
structure Cls (K:PySem.W.Frag) (C:Addr):Prop where
 pg:PySem.W.plainGet K C Str.empty=true
 hd:PySem.W.hasDictIn K C=true
 po:PySem.W.plainOver K C=true
 sa:PySem.W.findIn K (.ref C) "__setattr__"=some (some (.builtin "object.__setattr__"))
theorem Cls.get (c:Cls K C) (f:Str):PySem.W.plainGet K C f=true:=c.pg
def fw (K:PySem.W.Frag) (C:Addr) (f:Str):Prop:=PySem.W.findIn K (.ref C) f=some none
theorem fw.taker {f:Str} (n:fw K C f):PySem.W.takerIn K C f=some none:=by unfold PySem.W.takerIn;rw [show PySem.W.findIn K (.ref C) f=some none from n];rfl
structure Meth (K:PySem.W.Frag) (C:Addr) (m:Str) (f:Addr):Prop where
 at_:PySem.W.findIn K (.ref C) m=some (some (.ref f))
 fn:PySem.W.isFn K (.ref f)=true
 kp:PySem.W.keepIn K (.ref f)=true
section
variable {fs:List (Str×V)} {f:Str}
theorem qi {b:Bool} (I:Inv X pins σ H s) (e:H a=some (.ins C dx fs)) (c:Cls X.K C) (n:fw X.K C f) (l:fs.lookup f=some v)
  (h:∀ u s',Inv X pins σ H s'->RelV v u->Q u s'):wpAny (model X.prog X.w) A (getAttr (.ref a) f b) Q E s:=by
 obtain ⟨mA,O,r,_,_,_⟩:=uG I.hok e;obtain ⟨u,hu,ru⟩:=kr.some_of (v:=v) (o:=mA f) (by rw [<-l];exact r f);exact get_map I.kIn O (c.get f) c.hd n hu (Bm ru) (h u _ (I.tok _) ru)
theorem pV {g:Addr} {pl:Sem Bool} {Q:Value×List Value->Shared->Prop} (I:Inv X pins σ H s) (e:H a=some (.ins C dx fs)) (c:Cls X.K C) (k:Meth X.K C m g) (l:fs.lookup m=none)
  (h:Q (.ref g,[.ref a]) s):wpAny (model X.prog X.w) A (getMethod (.ref a) m pl) Q E s:=by
 obtain ⟨mA,O,r,_,_,_⟩:=uG I.hok e;have hn:mA m=none:=kr.none_of (by rw [<-l];exact r m);exact BR I.kIn O (c.get m) k.at_ k.fn hn h
theorem p9 {y:V} {Q:Unit->Shared->Prop} (I:Inv X pins σ H s) (e:H a=some (.ins C dx fs)) (c:Cls X.K C) (n:fw X.K C f) (hl:fs.length<1000) (ry:RelV y u)
  (h:∀ s',Inv X pins σ (upd H a (.ins C dx (ix f y fs))) s'->Q () s'):wpAny (model X.prog X.w) A (setAttr (.ref a) f u) Q E s:=by
 obtain ⟨mA,O,r,wi,_,ho⟩:=uG I.hok e;have hz:(fs.map (·.1)).length<=sizeLine:=by rw [L3,sizeLine_eq];omega
 refine EY I.kIn O c.sa c.po n.taker c.hd wi hz fun h' O' sb=>h _ ?_
 have hd:∃ o,h'.get? dx=some o:=let ⟨o,_,_,e',_⟩:=O'.ns;⟨o,e'⟩;refine I.write (x:=a) (e:=dx) (by rw [e];exact True.intro) (.inr ho) (fun b q hb z=>(sb.2 b hb).trans z) hd ?_;refine ⟨by rw [aA O.ne];exact ho,?_,O.ne,O'.obj,_,O'.ns,fun g=>?_,fun g hg=>?_⟩
 ·have:=nr f y fs;omega
 ·show kr ((ix f y fs).lookup g) (if g=f then some u else mA g);rw [jC];by_cases q:g=f
  ·rw [if_pos q,if_pos q];exact ry
  ·rw [if_neg q,if_neg q];exact r g
 ·by_cases q:g=f
  ·rw [q];exact (mV f y fs).1
  ·refine (mV f y fs).2 g (wi g fun z=>hg ?_);show (if g=f then some u else mA g)=none;rw [if_neg q];exact z
theorem Inv.made (I:Inv X pins σ H s):Inv X pins σ (upd (upd H s.heap.objs.size (.own (s.heap.objs.size+1))) (s.heap.objs.size+1) (.ins C s.heap.objs.size []))
  { s with heap:=(s.heap.push PySem.W.emptyDict).push (PySem.W.instObj C s.heap.objs.size) }:=by
 have e1:(s.heap.push PySem.W.emptyDict).get? s.heap.objs.size=some PySem.W.emptyDict:=LP s.heap rfl;have e2:((s.heap.push PySem.W.emptyDict).push (PySem.W.instObj C s.heap.objs.size)).get? (s.heap.objs.size+1)=some (PySem.W.instObj C s.heap.objs.size):=by
  have:=LP (s.heap.push PySem.W.emptyDict) (o:=PySem.W.instObj C s.heap.objs.size) rfl
  rwa [Heap.size_push] at this
 have e3:(s.heap.push PySem.W.emptyDict).Ns s.heap.objs.size (fun _=>none):=⟨PySem.W.emptyDict,#[],_,e1,rfl,(fun e he=>absurd he (by simp)),fun _=>rfl⟩
 have I1:=I.laid (a:=s.heap.objs.size) (o:=.own (s.heap.objs.size+1)) (h':=s.heap.push PySem.W.emptyDict) (t':=s.toks) (fun b u q=>L0 _ q) (LK _) ⟨_,e1⟩;refine I1.laid (a:=s.heap.objs.size+1) (o:=.ins C s.heap.objs.size []) (t':=s.toks) (fun b u q=>L0 _ q) (Nat.le_of_eq (Heap.size_push _ _)) ?_;have ne:s.heap.objs.size≠s.heap.objs.size+1:=LR (MO _);refine ⟨by rw [aA ne,aG],Mw _,ne,e2,fun _=>none,(Heap.Ns1.of_empty e3).at fun o q=>L0 _ q,fun _=>True.intro,fun y hy=>absurd rfl hy⟩
theorem F0 {f:Str} (hb:attributeBase e f env (eval e env)=eval e env)
  (h:wpAny (model prog w) A (eval e env) (fun o s₁=>wpAny (model prog w) A (getAttr o f true) Q E s₁) E s):wpAny (model prog w) A (eval (.Attribute e f pos) env) Q E s :=
 Attribute_any_ h (by rw [arm_eval_Attribute,hb])
end
def Li (K:PySem.W.Frag) (ta:TE) (f:Str):TE:=fun σ H Q=>ta σ H fun x H1=>∃ a C dx fs v,x=.ref a/\H1 a=some (.ins C dx fs)/\Cls K C/\fw K C f/\fs.lookup f=some v/\Q v H1
def K8 (K:PySem.W.Frag) (ta tv:TE) (f:Str):TS:=fun D σ H=>tv σ H fun y H1=>ta σ H1 fun x H2=>∃ a C dx fs,x=.ref a/\H2 a=some (.ins C dx fs)/\Cls K C/\fw K C f/\fs.length<1000 /\
 D.nx σ (upd H2 a (.ins C dx (ix f y fs)))
def KI (X:Cx) (op:Operator) (rd:V->V->Hp->VK->Prop):Prop :=
 ∀ (pins:List (Addr×Obj)) (s:Shared) (σ:St) (H:Hp) (x y:V) (u v:Value) (Q:VK),Inv X pins σ H s->RelV x u->RelV y v->rd x y H Q->wpAny (model X.prog X.w) X.A (inplaceOp op u v) (EP X pins σ Q) X.xe s
def Ee (K:PySem.W.Frag) (ta tv:TE) (rd:V->V->Hp->VK->Prop) (f:Str):TS:=fun D σ H=>ta σ H fun x H1=>∃ a C dx fs v,x=.ref a/\H1 a=some (.ins C dx fs)/\Cls K C/\fw K C f/\fs.lookup f=some v /\
 tv σ H1 fun y H2=>rd v y H2 fun z H3=>∃ dx' fs',H3 a=some (.ins C dx' fs')/\fs'.length<1000/\D.nx σ (upd H3 a (.ins C dx' (ix f z fs')))
section
variable {o value:Expr} {f:Str} {tpos:Pos} {ta tv:TE}
theorem Jd (he:PE X e ta) (hb:attributeBase e f X.env (eval e X.env)=eval e X.env):PE X (.Attribute e f pos) (Li X.K ta f):=by intro pins s σ H Q I h;refine F0 hb (thn (he pins s σ H _ I h) fun u s1 rz2=>?_);obtain ⟨x,H1,I1,rx,a,C,dx,fs,v,ex,ea,c,n,l,q⟩:=rz2;subst ex;obtain rfl:u=Value.ref a:=rx;exact qi I1 ea c n l fun u' s2 I2 ru=>⟨v,H1,I2,ru,q⟩
theorem gm (ha:PE X o ta) (hv:PE X value tv) (hs:swapsWith value (some (.Attribute o f pos')) pos.line X.env=pure false):PS X (.Assign [.Attribute o f pos'] value pos) (K8 X.K ta tv f):=by
 intro pins s σ H D I h;refine plainObj_wpAny_Assign_Attribute (thn (hv pins s σ H _ I h) fun u s1 rz2=>?_) hs;obtain ⟨y,H1,I1,ry,q⟩:=rz2;refine thn (ha pins s1 σ H1 _ I1 q) fun ov s2 rz2=>?_
 obtain ⟨x,H2,I2,rx,a,C,dx,fs,ex,ea,c,n,l,q2⟩:=rz2;subst ex;obtain rfl:ov=Value.ref a:=rx;exact p9 I2 ea c n l ry fun s3 I3=>⟨σ,_,I3,q2⟩
theorem Au {op:Operator} {rd:V->V->Hp->VK->Prop} (ha:PE X o ta) (hv:PE X value tv) (hop:KI X op rd):PS X (.AugAssign (.Attribute o f tpos) op value pos) (Ee X.K ta tv rd f):=by
 intro pins s σ H D I h;refine wpAny_AugAssign_AttributeAny (thn (ha pins s σ H _ I h) fun ov s1 rz2=>?_);obtain ⟨x,H1,I1,rx,a,C,dx,fs,v,ex,ea,c,n,l,q⟩:=rz2;subst ex;obtain rfl:ov=Value.ref a:=rx;refine qi I1 ea c n l fun u s2 I2 ru=>thn (hv pins s2 σ H1 _ I2 q) fun w3 s3 rz2=>?_
 obtain ⟨y,H2,I3,ry,q3⟩:=rz2;refine thn (hop pins s3 σ H2 v y u w3 _ I3 ru ry q3) fun w4 s4 rz2=>?_
 obtain ⟨z,H3,I4,rz,dx',fs',ea',l',q4⟩:=rz2;exact p9 I4 ea' c n l' rz fun s5 I5=>⟨σ,_,I5,q4⟩
def Lx:V->V->Hp->VK->Prop:=fun x y H Q=>∃ i j,x=.int i/\y=.int j/\Q (.int (i+j)) H
theorem Ic:KI X .Add Lx:=by
 rintro pins s σ H x y u v Q I rx ry ⟨i,j,rfl,rfl,q⟩
 obtain ⟨t,rfl⟩:=(show ∃ t,u=Value.int i t from rx)
 obtain ⟨t',rfl⟩:=(show ∃ t',v=Value.int j t' from ry)
 exact PyProof.Rows.iadd_int ⟨.int (i+j),H,I.tok _,⟨_,rfl⟩,q⟩
end
section
variable {c:Value} {b:Bool}
inductive pf (K:PySem.W.Frag) (H:Hp):V->Value->Prop where
 | non:pf K H .non (.type "NoneType")
 | bl (x:Bool):pf K H (.bl x) (.type "bool")
 | int (i:Int):pf K H (.int i) (.type "int")
 | str (x:Str):pf K H (.str x) (.type "str")
 | flt (x:UInt64):pf K H (.flt x) (.type "float")
 | lst {a:Addr} {xs:List V} (e:H a=some (.lst xs)):pf K H (.ref a) (.type "list")
 | frz {a:Addr} {o:Obj} {xs:List V} (e:H a=some (.frz o (.lst xs))):pf K H (.ref a) (.type "list")
 | tup {a:Addr} {xs:List V} (e:H a=some (.tup xs)):pf K H (.ref a) (.type "tuple")
 | dK {a:Addr} {kvs:List (Key×V)} (e:H a=some (.dK kvs)):pf K H (.ref a) (.type "dict")
 | dT {a:Addr} {kvs:List (List Key×V)} (e:H a=some (.dT kvs)):pf K H (.ref a) (.type "dict")
 | ins {a C dx:Addr} {fs:List (Str×V)} (e:H a=some (.ins C dx fs)) (cl:Cls K C) (ha:PySem.W.findIn K (.ref C) "__class__"=some (some (.builtin "object.__class__")))
  (hn:PySem.W.specialIn K (.builtin "object.__class__") "__get__"=some (some (.builtin "getset_descriptor.__get__"))) (htk:PySem.W.takesIn K (.builtin "object.__class__")=some true)
  (hm:PySem.W.mroIn K C (.type "object")=some true):pf K H (.ref a) (.ref C)
end
structure cx (k:Nat) (A:Around):Prop where
 hd:A.handled=none
 dp:A.depth+3*k+5<recursionLimit
 un:A.units+16*k+200<cLine
theorem cx.mono {k:Nat} (r:cx k A) (h:j<=k):cx j A:=⟨r.hd,by have:=r.dp;omega,by have:=r.un;omega⟩
theorem cx.deeper {k:Nat} (r:cx (k+1) A) (env:Env):cx k (A.deeper env) :=
 ⟨r.hd,by have:=r.dp;show A.depth+1+3*k+5<_;omega,by have:=r.un;show A.units+3+16*k+200<_;omega⟩
theorem cx.in1 {k:Nat} (r:cx (k+1) A):cx k A.in1 :=
 ⟨r.hd,by have:=r.dp;show A.depth+3*k+5<_;omega,by have:=r.un;show A.units+1+16*k+200<_;omega⟩
theorem yr:(A.under (.builtin "type.__call__" ⟨.ref C::us,kw⟩)).depth=A.depth+1:=by first | rfl | simp [Around.under,Code.weight,Code.isCreation,Code.isGuard,Code.isCaller,Code.frames,Code.isFrame,guardIds]
theorem xG:(A.under (.builtin "type.__call__" ⟨.ref C::us,kw⟩)).units=A.units+1:=by first | rfl | simp [Around.under,Code.cUnits,Code.frames,Code.isFrame]
theorem cx.make {k:Nat} (r:cx (k+1) A) (C:Addr) (us:List Value) (kw:List (Str×Value)):cx k (A.under (.builtin "type.__call__" ⟨.ref C::us,kw⟩)) :=
 ⟨r.hd,by have:=r.dp;rw [yr];omega,by have:=r.un;rw [xG];omega⟩
theorem cx.depth {k:Nat} (r:cx k A):A.depth<recursionLimit:=by have:=r.dp;omega
theorem cx.units {k:Nat} (r:cx k A):A.units+64<cLine:=by have:=r.un;omega
def Jp:TA:=fun _ H Q=>Q [] H
def GP (ta:TE) (tr:TA):TA:=fun σ H Q=>ta σ H fun x H1=>tr σ H1 fun xs H2=>Q (x::xs) H2
section
variable {te:TE} {t:TA}
theorem f7:PA X [] Jp:=fun _ _ _ _ H Q I h=>Calls.spliced_nil ⟨[],H,I,.nil,h⟩
theorem eo (ha:PE X e te) (hr:PA X es t) (hs:starEach (e::es) X.env=(false,eval e X.env)::starEach es X.env:=by rfl):PA X (e::es) (GP te t):=by intro pos pins s σ H Q I h;rw [hs];show wpAny _ _ (spliced ((false,eval e X.env)::backTo pos (starEach es X.env))) _ _ s;refine Calls.spliced_cons (thn (ha pins s σ H _ I h) fun u s1 rz2=>?_);obtain ⟨x,H1,I1,r1,q1⟩:=rz2;exact thn (hr pos pins s1 σ H1 _ I1 q1) fun us s2 qz2=>(by obtain ⟨xs,H2,I2,r2,q2⟩:=qz2;exact ⟨x::xs,H2,I2,.cons r1 r2,q2⟩)
def Lr (t:TA):TE:=fun σ H Q=>t σ H fun xs H1=>xs.length<=sizeLine/\∀ p,H1 p=none->Q (.ref p) (upd H1 p (.tup xs))
def K3 (t:TA):TE:=fun σ H Q=>t σ H fun xs H1=>xs.length<=sizeLine/\∀ p,H1 p=none->Q (.ref p) (upd H1 p (.lst xs))
theorem G9 {x1} (h:PA X es t):PE X (.Tuple es x1 pos) (Lr t):=by intro pins s σ H Q I hq;refine wpAny_Tuple_spliced (thn (h pos pins s σ H _ I hq) fun us s1 rz2=>?_);obtain ⟨xs,H1,I1,r,z,q⟩:=rz2;refine ⟨by rw [<-r.length];exact z,?_⟩;have hf:H1 s1.heap.objs.size=none:=I1.hok.fresh (LK _);refine ⟨.ref s1.heap.objs.size,upd H1 s1.heap.objs.size (.tup xs),I1.laid (t':=s1.toks) (fun b u e=>L0 _ e) (LK _) ?_,rfl,q _ hf⟩;exact ⟨z,us,r,⟨_,LP _ rfl,rfl,rfl,_,rfl⟩⟩
theorem yf (h:PA X es t):PE X (.List es pos) (K3 t):=by intro pins s σ H Q I hq;refine wpAny_List_spliced (thn (h pos pins s σ H _ I hq) fun us s1 rz2=>?_);obtain ⟨xs,H1,I1,r,z,q⟩:=rz2;refine ⟨by rw [<-r.length];exact z,?_⟩;have hf:H1 s1.heap.objs.size=none:=I1.hok.fresh (LK _);refine ⟨.ref s1.heap.objs.size,upd H1 s1.heap.objs.size (.lst xs),I1.laid (t':=s1.toks) (fun b u e=>L0 _ e) (LK _) ?_,rfl,q _ hf⟩;exact ⟨z,us,0,r,LP _ rfl⟩
end
abbrev Sp:=List V->Hp->VK->XK->Prop
abbrev CXT:=List Env->Hp->Shared->XK->Value->Shared->Prop
structure uu (P:Program) (w:World) (K:PySem.W.Frag) (mg:Str->Option Value) (base:Heap) (A:Around) (outer:List Env) (s:Shared) (H:Hp):Prop where
 frames:A.frames=some outer
 mod:Mod K mg base
 bs:∀ b o,base.get? b=some o->s.heap.get? b=some o/\H b=none
 bsz:base.objs.size<=s.heap.objs.size
 funs:s.heap.FunFrames base outer
 frf:∀ b∈frs outer,H b=none
 hok:HOk P w H s.heap
 bare:AllBare s.gens
 tab:∀ P q,TabOf K P q->H P=some (.tbl q)
def CE (outer:List Env) (P:Program) (w:World) (H:Hp) (s:Shared) (Q:VK) (u:Value) (s':Shared):Prop :=
 ∃ v H',s'.os=s.os/\AllBare s'.gens/\Un (frs outer) [] H H' s.heap s'.heap/\HOk P w H' s'.heap/\RelV v u/\Q v H'
def CR (CX:CXT) (outer:List Env) (P:Program) (w:World) (H:Hp) (s:Shared) (Q:VK) (E:XK) (r:Result) (s':Shared):Prop :=
 match r with
 | .ok (.ret u)=>CE outer P w H s Q u s'
 | .ok _=>False
 | .error e=>CX outer H s E e s'
structure gM (P:Program) (w:World) (K:PySem.W.Frag) (mg:Str->Option Value) (base:Heap) (CX:CXT) (k:Nat) (f:Addr) (fd:FuncData) (ps:List Str) (sp:Sp):Prop where
 len:∀ vs H Q E,sp vs H Q E->vs.length=ps.length
 run:∀ (A:Around) (outer:List Env) (s:Shared) (H:Hp) (args:Args) (us:List Value) (vs:List V) (Q:VK) (E:XK),cx k A->uu P w K mg base A outer s H->BindsTo s fd args (ps.zip us)->Vals vs us->sp vs H Q E ->
  codeAny (model P w) A (.call (.ref f) args) (CR CX outer P w H s Q E) s
theorem uu.make (e:uu P w K mg base A outer s H) (C:Addr) (us:List Value) (kw:List (Str×Value)) :
 uu P w K mg base (A.under (.builtin "type.__call__" ⟨.ref C::us,kw⟩)) outer s H:=⟨by first | exact e.frames | (simpa [Around.under,Code.envs,Code.isFrame,pushEnvs] using e.frames),e.mod,e.bs,e.bsz,e.funs,e.frf,e.hok,e.bare,e.tab⟩
section
theorem Inv.env0 (I:Inv X pins σ H s):uu X.prog X.w X.K X.mg X.base X.A X.stack s H :=
 ⟨I.ok.frames,I.ok.mod,I.bs,Mv I.ok.bsz I.sz,I.stack,I.stkFree,I.hok,I.bare,I.tab⟩
theorem Inv.after {Q:VK} (I:Inv X pins σ H s) (h:CE X.stack X.prog X.w H s Q u s'):EP X pins σ Q u s':=by obtain ⟨v,H',os,bare,un,hok,r,q⟩:=h;obtain ⟨hh,g,d,t,os'⟩:=s';obtain rfl:os'=s.os:=os;exact ⟨v,H',I.call (h':=hh) (g':=g) (d':=d) (t':=t) (ch:=[]) un hok bare (fun b z=>absurd z (by simp)),r,q⟩
end
def Kw (sp:Sp) (dvs:List V) (E:XK) (t:TA):TE:=fun σ H Q=>t σ H fun vs H1=>sp (vs++dvs) H1 Q E
def zK (C:Addr) (m:Str) (sp:Sp) (dvs:List V) (E:XK) (ta:TE) (t:TA):TE:=fun σ H Q=>ta σ H fun x H1=>∃ a dx fs,x=.ref a/\H1 a=some (.ins C dx fs)/\fs.lookup m=none /\
 t σ H1 fun vs H2=>sp (x::(vs++dvs)) H2 Q E
def Ka (C:Addr) (sp:Sp) (dvs:List V) (E:XK) (t:TA):TE:=fun σ H Q=>t σ H fun vs H1=>∀ x dx,H1 x=none->H1 dx=none->dx≠x ->
 sp (.ref x::(vs++dvs)) (upd (upd H1 dx (.own x)) x (.ins C dx [])) (fun v H2=>v=.non/\Q (.ref x) H2) E
def Binds (K:PySem.W.Frag) (fd:FuncData) (ps:List Str) (ds:List Value):Prop :=
 ∀ (s:Shared) (us:List Value),K.In s.heap->(us++ds).length=ps.length->BindsTo s fd ⟨us,[]⟩ (ps.zip (us++ds))
theorem Binds.all (h:∀ us:List Value,us.length=ps.length->bindArgs fd ⟨us,[]⟩=pure (ps.zip us)):Binds K fd ps []:=fun s us _ hl=>by rw [Mn] at hl ⊢;exact .of_eq (h us hl)
def Passes (CX:CXT) (X:Cx) (E:XK):Prop:=∀ (pins:List (Addr×Obj)) (σ:St) (H:Hp) (s:Shared) (e:Value) (s':Shared),Inv X pins σ H s->CX X.stack H s E e s'->X.xe e s'
section
variable {CX:CXT} {k:Nat} {sp:Sp} {dvs:List V} {ds:List Value} {E:XK} {apos:Pos} {o:Expr} {ta:TE} {t:TA}
theorem xN {Q:VK} (F:gM X.prog X.w X.K X.mg X.base CX k f fd ps sp) (hr:cx k X.A) (hb:Binds X.K fd ps ds) (hd:Vals dvs ds) (hx:Passes CX X E)
  (I:Inv X pins σ H s) (r:Vals vs us) (h:sp (vs++dvs) H Q E):wpAny (model X.prog X.w) X.A (call (.ref f) us) (EP X pins σ Q) X.xe s:=by
 have r2:Vals (vs++dvs) (us++ds):=r.append hd;have hl:(us++ds).length=ps.length:=by rw [<-r2.length];exact F.len _ _ _ _ h
 refine wpAny_call (codeAny_mono (F.run X.A X.stack s H ⟨us,[]⟩ (us++ds) (vs++dvs) Q E hr I.env0 (hb s us I.kIn hl) r2 h) fun r s' hq=>?_);cases r with
 | error e=>exact hx pins σ H s e s' I hq
 | ok fl =>
  cases fl with
  | ret u=>exact I.after hq
  | next=>exact False.elim hq
  | brk=>exact False.elim hq
  | cont=>exact False.elim hq
theorem yV (F:gM X.prog X.w X.K X.mg X.base CX k f fd ps sp) (hr:cx k X.A) (hg:Gl X x) (hm:X.mg x=some (.ref f)) (hk:PySem.W.keepIn X.K (.ref f)=true) (hb:Binds X.K fd ps ds) (hd:Vals dvs ds) (hx:Passes CX X E)
  (ha:PA X (e::es) t) (hdb:(x==("__debug__":Str))=false:=by decide) (he:starEach (e::es) X.env=(false,eval e X.env)::starEach es X.env:=by rfl) (hpl:(backTo pos (starEach es X.env)).any (·.1)=false:=by rfl) :
  PE X (.Call (.Name x p) (e::es) [] pos) (Kw sp dvs E t):=by
 intro pins s σ H Q I h;refine wpAny_Call_Name_kw (n9 I hg hm ?_ hdb);refine PySem.W.callWith_K (h₀:=X.base) I.ok.mod.kin hk (thn (ha pos pins s σ H _ I h) fun us s1 rz2=>?_) he hpl;obtain ⟨vs,H1,I1,r,q⟩:=rz2;refine ⟨I1.kIn,?_⟩;exact xN F hr hb hd hx I1 r q
theorem F7 {pl:Sem Bool} (he:PE X o ta) (c:Cls X.K C) (hm:Meth X.K C m f) (F:gM X.prog X.w X.K X.mg X.base CX k f fd ps sp) (hr:cx k X.A) (hb:Binds X.K fd ps ds) (hd:Vals dvs ds) (hx:Passes CX X E) (ha:PA X (e::es) t)
  (hst:starEach (e::es) X.env=(false,eval e X.env)::starEach es X.env:=by rfl) (hpl:(backTo pos (starEach es X.env)).any (·.1)=false:=by rfl)
  (ht:eval (.Call (.Attribute o m apos) (e::es) [] pos) X.env=(do
   let ov <-eval o X.env
   standAt apos.atName
   let (f,first) <-holding [ov] (getMethod ov m pl)
   callWith pos f first (backTo pos (starEach (e::es) X.env)) (backToKw pos (keywordEach [] X.env))):=by rfl) :
  PE X (.Call (.Attribute o m apos) (e::es) [] pos) (zK C m sp dvs E ta t):=by
 intro pins s σ H Q I h;refine PySem.W.methodCall_KW (pl:=pl) (thn (he pins s σ H _ I h) fun u s1 rz2=>?_) ht;obtain ⟨x,H1,I1,rx,a,dx,fs,ex,ea,l,q⟩:=rz2;subst ex;obtain rfl:u=Value.ref a:=rx;refine pV I1 ea c hm l ?_;refine PySem.W.callWith_K (first:=[.ref a]) (h₀:=X.base) I.ok.mod.kin hm.kp (thn (ha pos pins s1 σ H1 _ I1 q) fun us s2 rz2=>?_) hst hpl;obtain ⟨vs,H2,I2,r,q2⟩:=rz2;refine ⟨I2.kIn,?_⟩;exact xN (us:=.ref a::us) (vs:=.ref a::vs) F hr hb hd hx I2 (.cons rfl r) q2
theorem v8 {pl:Sem Bool} (he:PE X o ta) (c:Cls X.K C) (hm:Meth X.K C m f) (F:gM X.prog X.w X.K X.mg X.base CX k f fd ps sp) (hr:cx k X.A) (hb:Binds X.K fd ps ds) (hd:Vals dvs ds) (hx:Passes CX X E)
  (ht:eval (.Call (.Attribute o m apos) [] [] pos) X.env=(do
   let ov <-eval o X.env
   standAt apos.atName
   let (f,first) <-holding [ov] (getMethod ov m pl)
   callWith pos f first (backTo pos (starEach [] X.env)) (backToKw pos (keywordEach [] X.env))):=by rfl) :
  PE X (.Call (.Attribute o m apos) [] [] pos) (zK C m sp dvs E ta Jp):=by
 intro pins s σ H Q I h;refine PySem.W.methodCall_KW (pl:=pl) (thn (he pins s σ H _ I h) fun u s1 rz2=>?_) ht;obtain ⟨x,H1,I1,rx,a,dx,fs,ex,ea,l,q⟩:=rz2;subst ex;obtain rfl:u=Value.ref a:=rx;refine pV I1 ea c hm l ?_;exact PySem.W.callWith_K0 (first:=[.ref a]) I1.kIn hm.kp (xN (us:=[.ref a]) (vs:=[.ref a]) F hr hb hd hx I1 (.cons rfl .nil) q)
structure Mk (K:PySem.W.Frag) (C f:Addr):Prop where
 makes:PySem.W.makesIn K C=true
 init:PySem.W.findIn K (.ref C) "__init__"=some (some (.ref f))
 fn:PySem.W.isFn K (.ref f)=true
 kp:PySem.W.keepIn K (.ref C)=true
theorem De {Q:VK} (M:Mk X.K C f) (F:gM X.prog X.w X.K X.mg X.base CX k f fd ps sp) (hr:cx (k+1) X.A) (hb:Binds X.K fd ps ds) (hd:Vals dvs ds)
  (hx:Passes CX X E) (I:Inv X pins σ H s) (r:Vals vs us)
  (h:∀ x dx,H x=none->H dx=none->dx≠x->sp (.ref x::(vs++dvs)) (upd (upd H dx (.own x)) x (.ins C dx [])) (fun v H2=>v=.non/\Q (.ref x) H2) E) :
  wpAny (model X.prog X.w) X.A (call (.ref C) us) (EP X pins σ Q) X.xe s:=by
 have hq:=h (s.heap.objs.size+1) s.heap.objs.size (I.hok.fresh (N8 _)) (I.hok.fresh (LK _)) (LR (MO _));have I2:=Inv.made (C:=C) I;have r2:Vals (V.ref (s.heap.objs.size+1)::(vs++dvs)) (Value.ref (s.heap.objs.size+1)::(us++ds)):=.cons rfl (r.append hd);have hl:(Value.ref (s.heap.objs.size+1)::us++ds).length=ps.length:=by have e:=r2.length;rw [F.len _ _ _ _ hq] at e;exact e.symm
 refine wpAny_call (C5 (f:=f) I.kIn M.makes M.init (beq_iff_eq.mp M.fn) (codeAny_mono (F.run _ X.stack _ _ ⟨Value.ref (s.heap.objs.size+1)::us,[]⟩ (Value.ref (s.heap.objs.size+1)::(us++ds)) _ _ E (hr.make C us [])
  (I2.env0.make C us []) (hb _ (Value.ref (s.heap.objs.size+1)::us) I2.kIn hl) r2 hq) fun r s' hq'=>?_))
 cases r with
 | error e=>exact hx pins σ _ _ e s' I2 hq'
 | ok fl =>
  cases fl with
  | ret u =>obtain ⟨v,H',I3,rv,ev,q3⟩:=I2.after hq';subst ev;exact ⟨rv,⟨V.ref (s.heap.objs.size+1),H',I3,rfl,q3⟩⟩
  | next=>exact False.elim hq'
  | brk=>exact False.elim hq'
  | cont=>exact False.elim hq'
theorem zQ (M:Mk X.K C f) (F:gM X.prog X.w X.K X.mg X.base CX k f fd ps sp) (hr:cx (k+1) X.A) (hg:Gl X x) (hm:X.mg x=some (.ref C)) (hb:Binds X.K fd ps ds) (hd:Vals dvs ds) (hx:Passes CX X E)
  (ha:PA X (e::es) t) (hdb:(x==("__debug__":Str))=false:=by decide) (he:starEach (e::es) X.env=(false,eval e X.env)::starEach es X.env:=by rfl) (hpl:(backTo pos (starEach es X.env)).any (·.1)=false:=by rfl) :
  PE X (.Call (.Name x p) (e::es) [] pos) (Ka C sp dvs E t):=by
 intro pins s σ H Q I h;refine wpAny_Call_Name_kw (n9 I hg hm ?_ hdb);refine PySem.W.callWith_K (h₀:=X.base) I.ok.mod.kin M.kp (thn (ha pos pins s σ H _ I h) fun us s1 rz2=>?_) he hpl;obtain ⟨vs,H1,I1,r,q⟩:=rz2;refine ⟨I1.kIn,?_⟩;exact De M F hr hb hd hx I1 r q
end
def PK (X:Cx) (kws:List Keyword) (t:TA):Prop :=
 ∀ (pos:Pos) (pins:List (Addr×Obj)) (s:Shared) (σ:St) (H:Hp) (Q:List V->Hp->Prop),Inv X pins σ H s->t σ H Q->wpAny (model X.prog X.w) X.A (evalAll ((backToKw pos (keywordEach kws X.env)).map (·.2))) (AP X pins σ Q) X.xe s
section
variable {CX:CXT} {k:Nat} {ks:List Str} {sp:Sp} {E:XK} {apos kpos:Pos} {o:Expr} {kws:List Keyword} {te ta:TE} {t tk:TA} {nm:Option Str}
theorem DI:PK X [] Jp:=fun _ _ _ _ H Q I h=>wpAny_evalAll_nil ⟨[],H,I,.nil,h⟩
theorem yU (ha:PE X e te) (hr:PK X kws t):PK X (⟨nm,e,kpos⟩::kws) (GP te t):=by intro pos pins s σ H Q I h;show wpAny _ _ (evalAll ((do let v <-eval e X.env;standAt pos;pure v)::(backToKw pos (keywordEach kws X.env)).map (·.2))) _ _ s;refine wpAny_evalAll_cons (wpAny_bind (thn (ha pins s σ H _ I h) fun u s1 rz2=>?_));obtain ⟨x,H1,I1,r1,q1⟩:=rz2;refine wpAny_bind (wpAny_standAt (wpAny_pure ?_));exact thn (hr pos pins s1 σ H1 _ I1 q1) fun us s2 qz2=>(by obtain ⟨xs,H2,I2,r2,q2⟩:=qz2;exact ⟨x::xs,H2,I2,.cons r1 r2,q2⟩)
variable {g:List Value->List Value->List Value} {gV:List V->List V->List V}
end
structure cX (N P:List Str) (sc:Scope):Prop where
 kind:sc.kind=.function
 co:sc.isCoroutine=false
 gen:sc.isGenerator=false
 nd:N.Nodup
 pre:N.take P.length=P
 par:∀ x∈P,sc.names.lookup x=some .local\/sc.names.lookup x=some .cell
 nofree:∀ y∈sc.names,y.2≠.free
theorem sq {kindOf:Str->Option NameKind} {x:Str}:∀ {binds:List (Str×Value)} {m:Str->Option Value},(∀ v,(x,v)∉binds)->bindL kindOf binds m x=m x
 | [],_,_=>rfl
 | (n,v)::r,m,h=>by
  unfold bindL;rw [sq fun w hw=>h w (L4 _ hw)];split
  ·have:x≠n:=by rintro rfl;exact h v L6
   simp [this]
  ·rfl
theorem rG {kindOf:Str->Option NameKind} {x:Str}:∀ {binds:List (Str×Value)} {m:Str->Option Value},(∀ v,(x,v)∉binds)->bindC kindOf binds m x=m x
 | [],_,_=>rfl
 | (n,v)::r,m,h=>by
  unfold bindC;rw [rG fun w hw=>h w (L4 _ hw)];split
  ·rfl
  ·have:x≠n:=by rintro rfl;exact h v L6
   simp [this]
theorem rX {kindOf:Str->Option NameKind} {x:Str} {v:Value}:∀ {P:List Str} {vs:List Value} {i:Nat} {m:Str->Option Value},P.Nodup->P[i]?=some x->vs[i]?=some v->kindOf x=some .local ->
  bindL kindOf (P.zip vs) m x=some v
 | [],_,_,_,_,h,_,_=>by simp at h
 | _::_,[],_,_,_,_,h,_=>by simp at h
 | p::P,w::vs,0,m,nd,h1,h2,hk=>by simp at h1 h2;subst h1;subst h2;show bindL kindOf ((p,w)::P.zip vs) m p=_;unfold bindL;rw [sq fun v hv=>(Mf.mp nd).1 (Nc hv).1,if_pos hk];simp
 | p::P,w::vs,i+1,m,nd,h1,h2,hk=>by show bindL kindOf ((p,w)::P.zip vs) m x=_;unfold bindL;exact rX (i:=i) (Mf.mp nd).2 (by simpa using h1) (by simpa using h2) hk
theorem rE {kindOf:Str->Option NameKind} {x:Str} {v:Value}:∀ {P:List Str} {vs:List Value} {i:Nat} {m:Str->Option Value},P.Nodup->P[i]?=some x->vs[i]?=some v->kindOf x≠some .local ->
  bindC kindOf (P.zip vs) m x=some v
 | [],_,_,_,_,h,_,_=>by simp at h
 | _::_,[],_,_,_,_,h,_=>by simp at h
 | p::P,w::vs,0,m,nd,h1,h2,hk=>by simp at h1 h2;subst h1;subst h2;show bindC kindOf ((p,w)::P.zip vs) m p=_;unfold bindC;rw [rG fun v hv=>(Mf.mp nd).1 (Nc hv).1,if_neg hk];simp
 | p::P,w::vs,i+1,m,nd,h1,h2,hk=>by show bindC kindOf ((p,w)::P.zip vs) m x=_;unfold bindC;exact rE (i:=i) (Mf.mp nd).2 (by simpa using h1) (by simpa using h2) hk
def start (N:List Str) (vs:List V):St:=vs.map some++List.replicate (N.length-vs.length) none
def cZ (CX:CXT) (P:Program) (w:World) (K:PySem.W.Frag) (mg:Str->Option Value) (base:Heap) (N:List Str) (qual:Str) (scope:Scope) (f:Addr) (cd:Value) (A:Around) (outer:List Env) (s:Shared) (H:Hp) (E:XK):Cx where
 prog:=P
 w:=w
 K:=K
 mg:=mg
 base:=base
 A:=A.deeper (envOfC qual scope s.heap.objs.size f cd)
 N:=N
 s₀:=s
 H₀:=H
 env:=envOfC qual scope s.heap.objs.size f cd
 outer:=outer
 stack:=envOfC qual scope s.heap.objs.size f cd::outer
 ex:=[]
 calm:=true
 fn:=fun _=>true
 pn:=[]
 xe:=fun e s'=>wpAny (model P w) (A.deeper (envOfC qual scope s.heap.objs.size f cd)) (leaving (envOfC qual scope s.heap.objs.size f cd) e) (fun _ s''=>CX outer H s E e s'') (fun e' s''=>CX outer H s E e' s'') s'
theorem pE {sc:Scope} {n:Nat} (h:sc.names.lookup x=some .cell):∃ c,(cellsFrom n sc.names []).lookup x=some c:=by have q:=PySem.W.cellsFrom_some sc.names n [] (.inl h);exact Option.isSome_iff_exists.mp q
theorem AD {CX:CXT} {s1:Shared} {E:XK}
  (S:cX N ps scope) (hd:A.handled=none) (e0:uu P w K mg base A outer s H) (hl:vs.length=ps.length) (r:Vals vs us)
  (x:InCallC s s.heap.objs.size (bindL (envOfC qual scope s.heap.objs.size f cd).kindOf (ps.zip us) fun _=>none) (cellsFrom (s.heap.objs.size+1) scope.names []) (bindC (envOfC qual scope s.heap.objs.size f cd).kindOf (ps.zip us) fun _=>none) s1) :
  Inv (cZ CX P w K mg base N qual scope f cd A outer s H E) [] (start N vs) H s1:=by
 have hpl:ps.length<=N.length:=by have:=congrArg List.length S.pre;rw [N3] at this;omega
 obtain ⟨h1,tk,rfl,hk⟩:=x.done;have noA:∀ b:Addr,b∉(cZ CX P w K mg base N qual scope f cd A outer s H E).ex:=fun b z=>absurd (show b∈([]:List Addr) from z) (by simp)
 refine ⟨⟨e0.mod,S.kind,rfl,rfl,LK _,fun y z c h1 h2=>?_,fun y hy=>?_,fun y c _ h=>?_,fun _=>hd,Around.frames_deeper e0.frames,.inr ⟨rfl,rfl⟩,fun b z=>absurd z (noA b),e0.bs,e0.bsz,fun b _ _=>noA b,fun b z=>absurd z (noA b),e0.funs,e0.frf⟩,
  rfl,e0.bare,Un.kept hk,⟨_,x.toInCall.ns,fun i y v h1 h2 h3=>?_⟩,fun y c h=>⟨_,x.cell y c h⟩,e0.hok.fresh (LK _),fun y c h=>?_,fun p hp=>absurd (show p∈([]:List (Addr×Obj)) from hp) (by simp),e0.hok.kept hk,?_,e0.tab⟩
 ·exact name_of_addr x.apart (PySem.mem_of_lookup h1) (PySem.mem_of_lookup h2)
 ·have hy:scope.names.lookup y=some .cell\/scope.names.lookup y=some .free:=hy;rcases hy with hy | hy
  ·exact pE hy
  ·exact absurd rfl (S.nofree _ (PySem.mem_of_lookup hy))
 ·exact NH (x.above y c (PySem.mem_of_lookup h))
 ·have hi:i<vs.length:=by
   unfold start at h2;by_cases hi:i<vs.length
   ·exact hi
   ·rw [M6 (by simpa using hi)] at h2;rw [Nj] at h2;split at h2 <;> cases h2
  have ha:vs[i]?=some v:=by
   unfold start at h2;rw [M3 (by simpa using hi),LQ] at h2;cases e:vs[i]? with
   | none=>rw [e] at h2;cases h2
   | some a=>rw [e] at h2;cases h2;rfl
  obtain ⟨u,hu,rv⟩:=r.get ha;have hp:ps[i]?=some y:=by rw [<-S.pre,List.getElem?_take_of_lt (by omega)];exact h1
  have ndP:ps.Nodup:=by rw [<-S.pre];exact S.nd.sublist (List.take_sublist _ _)
  refine ⟨u,rv,?_⟩;rcases S.par y (Mi hp) with k | k
  ·exact .inl ⟨k,rX ndP hp hu k⟩
  ·obtain ⟨c,e⟩:=pE (n:=s.heap.objs.size+1) k;refine .inr ⟨.inl k,c,e,?_⟩;have q:=x.cell y c e;rw [rE ndP hp hu (by show scope.names.lookup y≠_;rw [k];decide)] at q;exact q
 ·exact e0.hok.fresh (NH (x.above y c (PySem.mem_of_lookup h)))
 ·unfold start;show _=N.length;rw [LL,L3,List.length_replicate];omega
theorem Bz {CX:CXT} {k:Nat} {name:Str} {dV kV doc cdv:Value}
  {sp:Sp} (lk:K.lookup f=some ⟨oc,od,.func (PySem.W.fnOf name qual params body scope dV kV doc pm an cdv ct),osl⟩) (hcd:PySem.W.codeIn K cdv qual=true) (S:cX N ps scope)
  (len:∀ vs H Q E,sp vs H Q E->vs.length=ps.length)
  (hbody:∀ (A:Around) (outer:List Env) (s:Shared) (H:Hp) (vs:List V) (Q:VK) (E:XK),cx k (A.deeper (envOfC qual scope s.heap.objs.size f cdv))->sp vs H Q E ->
   ∃ t,PSs (cZ CX P w K mg base N qual scope f cdv A outer s H E) body t/\t { nx:=fun _ H'=>Q .non H',rt:=Q } (start N vs) H) :
  gM P w K mg base CX (k+1) f (PySem.W.fnOf name qual params body scope dV kV doc pm an cdv ct) ps sp:=by
 refine ⟨len,fun A outer s H args us vs Q E hr e0 hb r hsp=>?_⟩;have hl:=len _ _ _ _ hsp;have KX:K.In s.heap:=e0.mod.kin.keeps fun b o e=>(e0.bs b o e).1
 have lim:s.heap.NoLimit:=e0.mod.nolimit.keeps fun b o e=>(e0.bs b o e).1
 have hkind:∀ y∈ps.zip us,scope.names.lookup y.1=some .local\/(scope.names.lookup y.1=some .cell/\((cellsFrom (s.heap.objs.size+1) scope.names []).lookup y.1).isSome=true):=fun pz0 hy=>by
  obtain ⟨n,v⟩:=pz0;rcases S.par n (Nc hy).1 with q | q
  ·exact .inl q
  ·exact .inr ⟨q,PySem.W.cellsFrom_some _ _ _ (.inl q)⟩
 refine codeAny_call_function hr.depth (KX _ _ lk) rfl S.co S.gen rfl (PySem.W.codeRec_of KX hcd) (hb _ _ _ _ ?_);refine wpAny_newFunctionEnv_cells S.kind hkind fun env he s1 x=>?_
 subst he;refine ⟨lim.keeps x.toInCall.keep,codeAny_func ?_⟩;obtain ⟨t,ht,hq⟩:=hbody A outer s H vs Q E (hr.deeper _) hsp;have I:Inv (cZ CX P w K mg base N qual scope f cdv A outer s H E) [] (start N vs) H s1:=AD S hr.hd e0 hl r x;refine wpAny_mono (ht [] s1 (start N vs) H _ I hq) (fun fl s' hs=>?_) fun e s' hs=>hs
 have fin:∀ {σ':St} {H':Hp} {v:V} {u:Value},Inv (cZ CX P w K mg base N qual scope f cdv A outer s H E) [] σ' H' s'->RelV v u->Q v H'->CE outer P w H s Q u s' :=
  fun {σ' H' v u} J rv q=>⟨v,H',J.os,J.bare,J.base,J.hok,rv,q⟩
 cases fl with
 | ret u =>obtain ⟨v,σ',H',J,rv,q⟩:=hs;exact fin J rv q
 | next =>obtain ⟨σ',H',J,q⟩:=hs;exact fin (v:=V.non) (u:=Value.none) J rfl q
 | brk =>obtain ⟨_,_,_,q⟩:=hs;exact False.elim q
 | cont =>obtain ⟨_,_,_,q⟩:=hs;exact False.elim q
section
variable {t:TA} {id T:String} {r:List V->Hp->VK->Prop}
def tCB (r:List V->Hp->VK->Prop) (t:TA):TE:=fun σ H Q=>t σ H fun vs H1=>r vs H1 Q
theorem fW (hc:jL X (.builtin id) r) (hg:Gl X x) (hm:X.mg x=none) (hv:bootBuiltins x=some (.builtin id)) (ha:PA X (e::es) t) (hn:x≠"__name__":=by decide) (hdb:(x==("__debug__":Str))=false:=by decide)
  (he:starEach (e::es) X.env=(false,eval e X.env)::starEach es X.env:=by rfl) (hpl:(backTo pos (starEach es X.env)).any (·.1)=false:=by rfl):PE X (.Call (.Name x p) (e::es) [] pos) (tCB r t):=by
 intro pins s σ H Q I h;refine wpAny_Call_Name_kw (gr I hg hm hv ?_ hn hdb);exact PyProof.Rows.callWith_builtin1 (thn (ha pos pins s σ H _ I h) fun us s1 qz2=>(by obtain ⟨vs,H1,I1,r1,q1⟩:=qz2;exact hc pins s1 σ H1 vs us Q I1 r1 q1)) he hpl
theorem mI (hc:jL X (.type T) r) (hg:Gl X x) (hm:X.mg x=none) (hv:bootBuiltins x=some (.type T)) (ha:PA X (e::es) t) (hn:x≠"__name__":=by decide) (hdb:(x==("__debug__":Str))=false:=by decide)
  (he:starEach (e::es) X.env=(false,eval e X.env)::starEach es X.env:=by rfl) (hpl:(backTo pos (starEach es X.env)).any (·.1)=false:=by rfl):PE X (.Call (.Name x p) (e::es) [] pos) (tCB r t):=by
 intro pins s σ H Q I h;refine wpAny_Call_Name_kw (gr I hg hm hv ?_ hn hdb);exact PyProof.Rows.callWith_type1 (thn (ha pos pins s σ H _ I h) fun us s1 qz2=>(by obtain ⟨vs,H1,I1,r1,q1⟩:=qz2;exact hc pins s1 σ H1 vs us Q I1 r1 q1)) he hpl
end
end L2
variable {xs ys vs:List L2.V} {ws:List (Option L2.V)} {H H' H1 G H0:L2.Hp} {o:L2.HO} {v y:L2.V} {X:L2.Cx} {σ:L2.St} {ta:L2.TA} {CX:L2.CXT} {sp:L2.Sp} {r:L2.V->Option Int->Option Int->L2.Hp->L2.VK->Prop} {Pv:L2.Hp->List L2.V->Prop} {κ:Nat->L2.V->L2.Hp->Prop} {kvs:List (List L2.Key×L2.V)}
namespace HT
open PySem PyProof.Rows
def lexLt:List Int->List Int->Bool
 | [],[]=>false
 | [],_::_=>true
 | _::_,[]=>false
 | x::xs,y::ys=>if x=y then lexLt xs ys else decide (x<y)
theorem pT (x y:Int) (xs ys:List Int):lexLt (x::xs) (y::ys)=if x=y then lexLt xs ys else decide (x<y):=rfl
theorem kx:lexLt [] []=false:=rfl
theorem pH (y:Int) (ys:List Int):lexLt [] (y::ys)=true:=rfl
theorem oy (x:Int) (xs:List Int):lexLt (x::xs) []=false:=rfl
theorem Cm (A:Around) (s:Shared) (a:Int) (t:Tok) (c:Int) (u:Tok):∃ e,SeqAt.EqAt A s (.int a t) (.int c u) e/\(e=true↔a=c) :=
 ⟨(a==c),SeqAt.EqAt.int_int a t c u,by simp⟩
theorem Dy (A:Around) (s:Shared) (a:Int) (t:Tok) (c:Int) (u:Tok) (prog:Program) (w:World) (E:Value->Shared->Prop) (Q:Value->Shared->Prop) (h:Q (.bool (decide (a<c))) s) :
  wpAny (model prog w) A (richCompare .Lt (.int a t) (.int c u)) Q E s :=
 (PyProof.Rows.lt_int h:wpAny (model prog w) A (compareOp .Lt (.int a t) (.int c u)) Q E s)
section
open PySem.SeqAt
open PySem.AutoSeq1 (wpAny_loadPart')
open PySem.MeetsSeq PySem.MeetsSeq2 PySem.MeetsSeq3
theorem qH (l b:Addr) (items items2:Array Value) (n n2:Nat) (dd dd2:Option Addr) (sl sl2:Array (Option Value)) (ns ms:List Int) (hi:IntsAre items.toList ns) (hj:IntsAre items2.toList ms) :
  Meets (Builtin.«tuple.__lt__» ⟨[.ref l,.ref b],[]⟩)
   (fun _ R s=>s.heap.get? l=some { cls:=.type "tuple",dict:=dd,data:=.seq items n,slots:=sl }/\s.heap.get? b=some { cls:=.type "tuple",dict:=dd2,data:=.seq items2 n2,slots:=sl2 } /\
    R (.ok (.ret (.bool (lexLt ns ms)))) s) :=
 .of_wp fun prog w A R s h=>by
  obtain ⟨hp,g,d,tk,os⟩:=s;obtain ⟨hl,hb,h⟩:=h;have f2:=AutoSeq1.sub_tuple_tuple;have z1:items.size=ns.length:=by rw [<-hi.length];simp
  have z2:items2.size=ms.length:=by rw [<-hj.length];simp
  wp_walk using wpAny_loadPart' hl,wpAny_loadPart' hb,wpAny_forIn_list _ (fun rest b s'=>b.1=none/\s'=⟨hp,g,d,tk,os⟩/\∃ (vs ws:List Value) (ns' ms':List Int),rest=vs.zip ws /\
   IntsAre vs ns'/\IntsAre ws ms'/\ns'.length+items2.size=ms'.length+items.size/\R (.ok (.ret (.bool (lexLt ns' ms')))) ⟨hp,g,d,tk,os⟩) _
  case turn =>
   rintro ⟨y,x⟩ rest b s' ⟨hb',rfl,vs,ws,ns',ms',hz,hvi,hwi,hlen,hR⟩
   cases hvi with
   | nil=>rw [List.zip_nil_left] at hz;cases hz
   | cons a t hvi' =>
    cases hwi with
    | nil=>rw [List.zip_nil_right] at hz;cases hz
    | cons c u hwi' =>
     rw [Ng] at hz;injection hz with hyx hrest
     injection hyx with hy hx
     subst hy hx;rw [pT] at hR;simp only [LS] at hlen;obtain ⟨e,he,hiff⟩:=Cm A.in1 ⟨hp,g,d,tk,os⟩ a t c u;refine wpAny_bind (he prog w _ _ ?_);cases e with
     | true =>
      rw [if_pos (hiff.mp rfl)] at hR
      wp_walk
      exact ⟨rfl,rfl,_,_,_,_,hrest,hvi',hwi',by omega,hR⟩
     | false =>
      rw [if_neg (fun q=>absurd (hiff.mpr q) LX)] at hR;have hri:=Dy A.in1 ⟨hp,g,d,tk,os⟩ a t c u prog w
      wp_walk using hri
      exact ⟨_,rfl,by simpa using hR⟩
  case fin =>
   rintro ⟨b1,b2⟩ s' ⟨hb',rfl,vs,ws,ns',ms',hz,hvi,hwi,hlen,hR⟩
   simp only at hb';subst hb';have hv:lexLt ns' ms'=decide (items.size<items2.size):=by
    cases hvi with
    | nil =>
     cases hwi with
     | nil =>simp only [ME] at hlen;rw [kx];exact (decide_eq_false (by omega)).symm
     | cons c u hw =>simp only [ME,LS] at hlen;rw [pH];exact (decide_eq_true (by omega)).symm
    | cons a t hv =>
     cases hwi with
     | nil =>simp only [ME,LS] at hlen;rw [oy];exact (decide_eq_false (by omega)).symm
     | cons c u hw =>rw [Ng] at hz;cases hz
   rw [hv] at hR
   wp_walk
   exact ⟨_,rfl,by simpa [Builtin.Tuple.tupleCompareSizes] using hR⟩
  case h =>exact ⟨rfl,rfl,items.toList,items2.toList,ns,ms,rfl,hi,hj,by omega,h⟩
end
section
variable {A:Around}
theorem wW {l:Addr} {items2:Array Value} {ms:List Int} (hl:IsTup s.heap l items) (hb:IsTup s.heap b items2) (hi:IntsAre items.toList ns) (hj:IntsAre items2.toList ms)
  (hu:A.units<cLine) (h:Q (.bool (lexLt ns ms)) s):wpAny (model prog w) A (compareOp .Lt (.ref l) (.ref b)) Q E s:=by
 obtain ⟨⟨cls,dd,data,sl⟩,ho,hc,n,hd⟩:=id hl;obtain ⟨⟨cls2,dd2,data2,sl2⟩,ho2,hc2,n2,hd2⟩:=id hb;simp only at hc hd hc2 hd2;subst hc hd hc2 hd2;exact richCompare_meets_room (op:=.Lt) ⟨_,ho,rfl⟩ ⟨_,ho2,rfl⟩ PySem.F.slot_tuple_lt PySem.F.entry_tuple_lt (PySem.F.args_tuple_lt_2 _ _) (qH l b items items2 n n2 dd dd2 sl sl2 ns ms hi hj)
  ⟨ho,ho2,show Value.bool (lexLt ns ms)≠Value.notImplemented/\Q (.bool (lexLt ns ms)) s from ⟨(fun x=>nomatch x),h⟩⟩ hu
theorem Ea {t:Addr} {vs ws:List Value} (ht:IsTup s.heap t vs.toArray) (hb:IsTup s.heap b ws.toArray) (hv:vs≠[])
  (h1:ws=[]->Q (.ref t) s) (h2:ws≠[]->Q (.ref s.heap.objs.size) { s with heap:=s.heap.push { cls:=.type "tuple",data:=.seq (vs++ws).toArray } })
  (hsz:vs.length+ws.length<=sizeLine):wpAny (model prog w) A (binaryOp .Add (.ref t) (.ref b)) Q E s:=by
 obtain ⟨⟨cls,dd,data,sl⟩,ho,hc,n,hd⟩:=id ht;obtain ⟨⟨cls2,dd2,data2,sl2⟩,ho2,hc2,n2,hd2⟩:=id hb;simp only at hc hd hc2 hd2;subst hc hd hc2 hd2;have e:vs.toArray++ws.toArray=(vs++ws).toArray:=by simp
 by_cases hw:ws=[]
 ·exact concat_meets ⟨_,ho,rfl⟩ ⟨_,ho2,rfl⟩ noFill_tuple_add seq_tuple_add PySem.F.slot_tuple_add PySem.F.entry_tuple_add (PySem.F.args_tuple_add_2 _ _)
   (tuple_addW1 t b vs.toArray ws.toArray n n2 dd dd2 sl sl2 (by simpa using hv) (by simp [hw])) ⟨ho,ho2,h1 hw⟩
 ·refine concat_meets ⟨_,ho,rfl⟩ ⟨_,ho2,rfl⟩ noFill_tuple_add seq_tuple_add PySem.F.slot_tuple_add PySem.F.entry_tuple_add (PySem.F.args_tuple_add_2 _ _)
   (tuple_addW2 t b vs.toArray ws.toArray n n2 dd dd2 sl sl2 (by simpa using hv) (by simpa using hw) (by rw [LO,LO];exact hsz)) ⟨ho,ho2,?_⟩
  rw [e];exact h2 hw
def sIx (n d:Nat):Option Int->Nat
 | none=>d
 | some v=>if v<0 then (v+(n:Int)).toNat else min v.toNat n
theorem zW (n d k:Nat):sIx n d (some (k:Int))=min k n:=by show (if (k:Int)<0 then ((k:Int)+(n:Int)).toNat else min (k:Int).toNat n)=min k n;rw [if_neg (by omega),Mb]
theorem HD (n d:Nat) (hd:d<=n) (o:Option Int):sIx n d o<=n:=by
 cases o with
 | none=>exact hd
 | some v =>
  show (if v<0 then (v+(n:Int)).toNat else min v.toNat n)<=n;by_cases hv:v<0
  ·rw [if_pos hv];omega
  ·rw [if_neg hv];exact Nat.min_le_right _ _
theorem zP (v:Int) (n d:Nat):(if v<0 then max (v+(n:Int)) 0 else min v (n:Int))=((sIx n d (some v):Nat):Int):=by
 show (if v<0 then max (v+(n:Int)) 0 else min v (n:Int))=(((if v<0 then (v+(n:Int)).toNat else min v.toNat n):Nat):Int)
 by_cases hv:v<0
 ·simp only [if_pos hv];omega
 ·simp only [if_neg hv];omega
theorem yb (lo hi:Option Int) (n:Nat):Builtin.Slice.sliceAdjust lo hi 1 (n:Int)=(((sIx n 0 lo:Nat):Int),((sIx n n hi:Nat):Int)):=by
 have h1:¬ ((1:Int)<0):=by omega
 unfold Builtin.Slice.sliceAdjust;simp only [h1,if_false];refine Prod.ext ?_ ?_
 ·cases lo with
  | none=>rfl
  | some v=>exact zP v n 0
 ·cases hi with
  | none=>rfl
  | some v=>exact zP v n n
theorem wR (i j:Nat):Builtin.Slice.slicePlaces (i:Int) (j:Int) 1=j-i:=by
 unfold Builtin.Slice.slicePlaces;have h1:(1:Int)>0:=by omega
 simp only [h1,if_true,Int.ediv_one];split <;> omega
theorem oQ {v:Value} {o:Option Int} {Q:Option Int->Shared->Prop} (p:IsPart v o) (h:Q o s):wpAny (model prog w) A (Builtin.Slice.slicePartIndex v) Q E s:=by
 cases p with
 | none=>exact slicePart_none h
 | int i t=>exact slicePart_int h
theorem iN {sl:Addr} {n:Nat} {Q:Int×Int×Nat->Shared->Prop} (hs:s.heap.IsSliceOf sl vl vu .none) (pl:IsPart vl lo) (pu:IsPart vu hi)
  (h:Q (((sIx n 0 lo:Nat):Int),1,sIx n n hi-sIx n 0 lo) s):wpAny (model prog w) A (Builtin.Slice.sliceApplied (.ref sl) (pure (n:Int))) Q E s:=by
 obtain ⟨os,hos,hcs,hds⟩:=id hs;unfold Builtin.Slice.sliceApplied Builtin.Slice.sliceFields;refine wpAny_bind (wpAny_bind (wpAny_field hos hds (x:=vl) rfl (wpAny_bind (wpAny_field hos hds (x:=vu) rfl (wpAny_bind (wpAny_field hos hds (x:=.none) rfl (wpAny_pure ?_)))))));refine wpAny_bind (slicePart_none ?_);show wpAny _ _ (if ((1:Int)==0)=true then _ else _) _ _ s;rw [if_neg (by decide)];refine wpAny_bind (oQ pl (wpAny_bind (oQ pu (wpAny_bind (wpAny_pure ?_)))));show wpAny _ _ (match Builtin.Slice.sliceAdjust lo hi 1 (n:Int) with | (lo,hi)=>pure (lo,(1:Int),Builtin.Slice.slicePlaces lo hi 1)) _ _ s;rw [yb lo hi n];show wpAny _ _ (pure (((sIx n 0 lo:Nat):Int),(1:Int),Builtin.Slice.slicePlaces ((sIx n 0 lo:Nat):Int) ((sIx n n hi:Nat):Int) 1)) _ _ s;rw [wR];exact wpAny_pure h
theorem Dj (xs:Array Value) (i k:Nat):((List.range k).filterMap fun (m:Nat)=>xs[((i:Int)+(m:Int)*1).toNat]?).toArray=((xs.toList.drop i).take k).toArray:=by
 have e:(fun (m:Nat)=>xs[((i:Int)+(m:Int)*1).toNat]?)=fun m=>xs[i+m]?:=by
  funext m;have:((i:Int)+(m:Int)*1).toNat=i+m:=by omega
  rw [this]
 rw [e];have:=pick_run xs i k;rw [List.filterMap_map] at this;have e2:((fun x=>xs[x]?)∘fun x=>i+x)=fun m=>xs[i+m]?:=rfl
 rw [e2] at this;rw [this]
theorem lX {t sl:Addr} (ht:IsTup s.heap t items) (hs:s.heap.IsSliceOf sl vl vu .none) (pl:IsPart vl lo) (pu:IsPart vu hi)
  (hw:¬ (sIx items.size 0 lo=0/\sIx items.size items.size hi=items.size))
  (h:Q (.ref s.heap.objs.size) { s with heap:=s.heap.push { cls:=.type "tuple",data:=.seq ((items.toList.drop (sIx items.size 0 lo)).take (sIx items.size items.size hi-sIx items.size 0 lo)).toArray } })
  (hsz:items.size<=sizeLine):wpAny (model prog w) A (getItem (.ref t) (.ref sl)) Q E s:=by
 have htake:sizeOk (.seq ((items.toList.drop (sIx items.size 0 lo)).take (sIx items.size items.size hi-sIx items.size 0 lo)).toArray):=by show ((items.toList.drop (sIx items.size 0 lo)).take (sIx items.size items.size hi-sIx items.size 0 lo)).toArray.size<=sizeLine;rw [LO,N3,Np,MH];omega
 have hj:sIx items.size items.size hi<=items.size:=HD _ _ (LK _) hi;obtain ⟨os,hos,hcs,hds⟩:=id hs;have hTs:s.TypeIs (.ref sl) "slice":=⟨os,hos,hcs⟩
 unfold getItem
 try with_reducible refine wpAny_holding ?_
 first | refine wpAny_bind (wpAny_pure ?_) | skip
 refine wpAny_bind (wpAny_sequenceKey ht.typeIs (by decide) ?_);refine wpAny_bind (wpAny_callSpecial?_slot (name:=Str.ofString "__getitem__") ht.typeIs PyProof.Rows.slot_tuple_getitem
  (wpAny_call_entry PyProof.Rows.slot_tuple_getitem ht.typeIs entry_tuple_getitem ?_ (args_tuple_getitem _ _)))
 show wpAny _ _ (Builtin.Tuple.tupleItemsOf (.ref t) >>= _) _ _ s;refine wpAny_bind (tupleItemsOf_ ht ?_);refine wpAny_bind (wpAny_typeOf hTs ?_);rw [if_pos (by decide)];refine wpAny_bind (iN hs pl pu ?_);have hno:¬ ((((sIx items.size 0 lo:Nat):Int)==0&&(1:Int)==1&&(sIx items.size items.size hi-sIx items.size 0 lo)==items.size)=true):=by intro q;rw [L8,L8] at q;have q1:((sIx items.size 0 lo:Nat):Int)=0:=eq_of_beq q.1.1;have q2:sIx items.size items.size hi-sIx items.size 0 lo=items.size:=eq_of_beq q.2;exact hw ⟨by omega,by omega⟩
 show wpAny _ _ (if (((sIx items.size 0 lo:Nat):Int)==0&&(1:Int)==1&&(sIx items.size items.size hi-sIx items.size 0 lo)==items.size)=true then _ else _) _ _ s;rw [if_neg hno,Dj]
 first
  | exact wpAny_bind (m:=Builtin.Tuple.tupleExact _) (wpAny_newObj_type (wpAny_pure ⟨_,rfl,wpAny_pure h⟩) htake)
  | exact wpAny_bind (m:=Builtin.Tuple.tupleExact _) (wpAny_newObj_type (wpAny_bind (wpAny_pure (wpAny_pure ⟨_,rfl,wpAny_pure h⟩))) htake)
  | exact wpAny_bind (wpAny_bind (m:=Builtin.Tuple.tupleExact _) (wpAny_newObj_type (wpAny_pure (wpAny_pure ⟨_,rfl,wpAny_pure h⟩)) htake))
  | exact wpAny_bind (wpAny_bind (m:=Builtin.Tuple.tupleExact _) (wpAny_newObj_type (wpAny_pure ⟨_,rfl,wpAny_pure h⟩) htake))
end
end HT
namespace L2
open PySem PySem.Spec PyProof.Rows
variable {n:Nat} {its:List Value}
abbrev TO:=St->Hp->(Option Int->Hp->Prop)->Prop
def PO (X:Cx) (e:Option Expr) (t:TO):Prop :=
 ∀ (pins:List (Addr×Obj)) (s:Shared) (σ:St) (H:Hp) (Q:Option Int->Hp->Prop),Inv X pins σ H s->t σ H Q ->
  wpAny (model X.prog X.w) X.A (evalPart e X.env) (fun u s'=>∃ o H',Inv X pins σ H' s'/\IsPart u o/\Q o H') X.xe s
def Fz:TO:=fun _ H Q=>Q none H
def Kt (t:TE):TO:=fun σ H Q=>t σ H fun x H1=>∃ i,x=.int i/\Q (some i) H1
theorem intsAre_of:∀ {us:List Value},Vals (ns.map V.int) us->IntsAre us ns:=by
 induction ns with
 | nil=>intro us r;rw [Mr] at r;cases r;exact .nil
 | cons n ns ih =>
  intro us r;rw [L5] at r;cases r with
  | cons r1 r2 =>obtain ⟨t,e⟩:=r1;subst e;exact .cons n t (ih r2)
section
variable {e:Expr} {te:TE} {lo hi:Option Expr} {tl th:TO}
theorem FL:PO X none Fz:=by intro pins s σ H Q I h;rw [evalPart_none];exact wpAny_pure ⟨none,H,I,.none,h⟩
theorem Fy (h:PE X e te):PO X (some e) (Kt te):=by
 intro pins s σ H Q I hw;rw [evalPart_some];refine thn (h pins s σ H _ I hw) fun u s1 rz2=>?_
 obtain ⟨x,H1,I1,r1,q1⟩:=rz2;obtain ⟨i,rfl,q⟩:=q1;obtain ⟨t,rfl⟩:=r1;exact ⟨some i,H1,I1,.int i t,q⟩
def SlR (X:Cx) (r:V->Option Int->Option Int->Hp->VK->Prop):Prop :=
 ∀ (pins:List (Addr×Obj)) (s:Shared) (σ:St) (H:Hp) (x:V) (v vl vu:Value) (lo hi:Option Int) (sl:Addr) (Q:VK),Inv X pins σ H s->RelV x v->s.heap.IsSliceOf sl vl vu .none->IsPart vl lo->IsPart vu hi->r x lo hi H Q ->
  ∃ T id,typeLookup (.type T) "__getitem__"=pure (some (.builtin id))/\s.TypeIs v T/\wpAny (model X.prog X.w) X.A (getItem v (.ref sl)) (EP X pins σ Q) X.xe s
theorem SlR.or {r':V->Option Int->Option Int->Hp->VK->Prop} (h:SlR X r) (h':SlR X r'):SlR X (fun x lo hi H Q=>r x lo hi H Q\/r' x lo hi H Q):=by
 intro pins s σ H x v vl vu lo hi sl Q I rx hs pl pu q;rcases q with q | q
 ·exact h pins s σ H x v vl vu lo hi sl Q I rx hs pl pu q
 ·exact h' pins s σ H x v vl vu lo hi sl Q I rx hs pl pu q
def tSl (r:V->Option Int->Option Int->Hp->VK->Prop) (te:TE) (tl th:TO):TE:=fun σ H Q=>te σ H fun x H1=>tl σ H1 fun l H2=>th σ H2 fun u H3=>r x l u H3 Q
theorem CK (hr:SlR X r) (he:PE X e te) (hl:PO X lo tl) (hu:PO X hi th):PE X (.Subscript e (.Slice lo hi none p2) pos) (tSl r te tl th):=by
 intro pins s σ H Q I h;refine Subscript_ (thn (he pins s σ H _ I h) fun v s1 rz2=>?_);obtain ⟨x,H1,I1,r1,q1⟩:=rz2;refine wpAny_Slice (thn (hl pins s1 σ H1 _ I1 q1) fun vl s2 rz2=>?_);obtain ⟨l,H2,I2,pl,q2⟩:=rz2;refine thn (hu pins s2 σ H2 _ I2 q2) fun vu s3 rz2=>?_
 obtain ⟨u,H3,I3,pu,q3⟩:=rz2;rw [evalPart_none];refine wpAny_pure ?_;have I4:Inv X pins σ H3 { s3 with heap:=s3.heap.push { cls:=.type "slice",data:=.fields #[vl,vu,.none] } }:=I3.kept (t':=s3.toks) fun b ob q=>L0 _ q
 obtain ⟨T,id,hT,ht,hg⟩:=hr pins { s3 with heap:=s3.heap.push { cls:=.type "slice",data:=.fields #[vl,vu,.none] } } σ H3 x v vl vu l u s3.heap.objs.size Q I4 r1 (Heap.IsSliceOf.new ..) pl pu q3;show wpAny (model X.prog X.w) X.A (subscriptTail e (.Slice lo hi none p2) v (.ref s3.heap.objs.size)) (EP X pins σ Q) X.xe { s3 with heap:=s3.heap.push { cls:=.type "slice",data:=.fields #[vl,vu,.none] } };exact tail_any (ops:=[.ref s3.heap.objs.size,v]) ht hT hg (by with_unfolding_all rfl)
def wG (xs:List V) (lo hi:Option Int):List V:=(xs.drop (HT.sIx xs.length 0 lo)).take (HT.sIx xs.length xs.length hi-HT.sIx xs.length 0 lo)
theorem nH (xs:List V) (lo hi:Option Int):(wG xs lo hi).length<=xs.length:=by unfold wG;rw [N3,Np];omega
def Lq (K:PySem.W.Frag):V->Option Int->Option Int->Hp->VK->Prop:=fun x lo hi H Q=>∃ a xs,x=.ref a/\SqT K H a xs /\
 ¬ (HT.sIx xs.length 0 lo=0/\HT.sIx xs.length xs.length hi=xs.length)/\∀ p,H p=none->Q (.ref p) (upd H p (.tup (wG xs lo hi)))
theorem G5:SlR X (Lq X.K):=by
 intro pins s σ H x v vl vu lo hi sl Q I rx hs pl pu h;obtain ⟨a,xs,rfl,hx,hw,q⟩:=h;cases rx;obtain ⟨its,r,ht,hz⟩:=I.tuple hx;have hlen:its.toArray.size=xs.length:=by rw [LO];exact r.length.symm
 refine ⟨"tuple",_,PyProof.Rows.slot_tuple_getitem.lookup,ht.typeIs,?_⟩;refine HT.lX ht hs pl pu (by rw [hlen];exact hw) ?_ (by rw [hlen];exact hz);rw [hlen];refine ⟨.ref s.heap.objs.size,_,I.laid (t':=s.toks) (o:=.tup (wG xs lo hi)) (fun b ob q=>L0 _ q) (LK _) ?_,rfl,q _ (I.hok.fresh (LK _))⟩;exact ⟨Mv (nH xs lo hi) hz,_,(r.drop (HT.sIx xs.length 0 lo)).take (HT.sIx xs.length xs.length hi-HT.sIx xs.length 0 lo),tH.new _ _⟩
def Lk (K:PySem.W.Frag):R2:=fun x y H Q=>∃ a b ns ms,x=.ref a/\y=.ref b/\SqT K H a (ns.map V.int)/\SqT K H b (ms.map V.int)/\Q (.bl (HT.lexLt ns ms)) H
theorem Jz (hu:X.A.units<cLine):OpR X (compareOp .Lt) (Lk X.K):=by intro pins s σ H x y v u Q I rx ry h;obtain ⟨a,b,ns,ms,rfl,rfl,ha,hb,q⟩:=h;cases rx;cases ry;obtain ⟨its,r1,p1,_⟩:=I.tuple ha;obtain ⟨its2,r2,p2,_⟩:=I.tuple hb;have i1:IntsAre its.toArray.toList ns:=intsAre_of r1;have i2:IntsAre its2.toArray.toList ms:=intsAre_of r2;exact HT.wW p1 p2 i1 i2 hu ⟨.bl (HT.lexLt ns ms),H,I,rfl,q⟩
def Kr (K:PySem.W.Frag):R2:=fun x y H Q=>∃ a b xs ys,x=.ref a/\y=.ref b/\SqT K H a xs/\SqT K H b ys/\xs≠[]/\xs.length+ys.length<=sizeLine /\
 (ys=[]->Q (.ref a) H)/\(ys≠[]->∀ p,H p=none->Q (.ref p) (upd H p (.tup (xs++ys))))
theorem Vals.nil_iff (r:Vals xs us):us=[]↔xs=[]:=by
 cases r with
 | nil=>simp
 | cons _ _=>simp
theorem Ef:OpR X (binaryOp .Add) (Kr X.K):=by intro pins s σ H x y v u Q I rx ry h;obtain ⟨a,b,xs,ys,rfl,rfl,ha,hb,hx,hz,q1,q2⟩:=h;cases rx;cases ry;obtain ⟨its,r1,p1,_⟩:=I.tuple ha;obtain ⟨its2,r2,p2,_⟩:=I.tuple hb;refine HT.Ea p1 p2 (fun z=>hx (r1.nil_iff.mp z)) (fun z=>⟨.ref a,H,I,rfl,q1 (r2.nil_iff.mp z)⟩) (fun z=>?_) (by rw [<-r1.length,<-r2.length];exact hz);refine ⟨.ref s.heap.objs.size,_,I.laid (t':=s.toks) (o:=.tup (xs++ys)) (fun b ob q=>L0 _ q) (LK _) ?_,rfl,q2 (fun w=>z (r2.nil_iff.mpr w)) _ (I.hok.fresh (LK _))⟩;exact ⟨by rw [LL];exact hz,_,r1.append r2,tH.new _ _⟩
end
def ixN (n:Nat) (i:Int):Option Nat:=if 0<=i then (if i<n then some i.toNat else none) else if -(n:Int)<=i then some (i+n).toNat else none
def atI {α:Type} (xs:List α) (i:Int):Option α:=(ixN xs.length i).bind fun j=>xs[j]?
theorem uC {i:Int} (h:ixN n i=some j):seqIndex? i n=some j/\j<n/\-(n:Int)<=i/\i<n:=by
 unfold ixN at h;by_cases h0:0<=i
 ·rw [if_pos h0] at h;by_cases h1:i<n
  ·rw [if_pos h1] at h;have e:i.toNat=j:=Option.some.inj h;exact ⟨by rw [seqIndex_of h0 h1,e],by omega,by omega,h1⟩
  ·rw [if_neg h1] at h;cases h
 ·rw [if_neg h0] at h;by_cases h1:-(n:Int)<=i
  ·rw [if_pos h1] at h;have e:(i+n).toNat=j:=Option.some.inj h;exact ⟨by rw [seqIndex_neg (by omega) h1,e],by omega,h1,by omega⟩
  ·rw [if_neg h1] at h;cases h
theorem yH {xs:List α} {i:Int} {v:α} (h:atI xs i=some v):∃ j,seqIndex? i xs.length=some j/\xs[j]?=some v/\j<xs.length/\-(xs.length:Int)<=i/\i<xs.length:=by
 unfold atI at h;cases e:ixN xs.length i with
 | none=>rw [e] at h;cases h
 | some j =>rw [e] at h;obtain ⟨h1,h2,h3,h4⟩:=uC e;exact ⟨j,h1,h,h2,h3,h4⟩
theorem oh {xs:List α} {v:α} (h:xs[j]?=some v):atI xs (j:Int)=some v:=by
 have hj:j<xs.length:=(M8.mp h).1;have e:ixN xs.length (j:Int)=some j:=by unfold ixN;rw [if_pos (by omega),if_pos (by omega)];simp
 unfold atI;rw [e];exact h
def yC (b:Expr):Prop:=∀ o i,subscripted b false o i=operate [o,i] (getItem o i)
def IxR (X:Cx) (r:R2):Prop :=
 ∀ (value slice:Expr) (pins:List (Addr×Obj)) (s:Shared) (σ:St) (H:Hp) (x y:V) (v u:Value) (Q:VK),Inv X pins σ H s->RelV x v->RelV y u->r x y H Q ->
  subscripted slice false v u=operate [v,u] (getItem v u)->wpAny (model X.prog X.w) X.A (subscriptTail value slice v u) (EP X pins σ Q) X.xe s
def MtR (X:Cx) (id:String) (r:V->List V->Hp->VK->Prop):Prop :=
 ∀ (pins:List (Addr×Obj)) (s:Shared) (σ:St) (H:Hp) (x:V) (xs:List V) (v:Value) (us:List Value) (Q:VK),Inv X pins σ H s->RelV x v->Vals xs us->r x xs H Q ->
  wpAny (model X.prog X.w) X.A (call (.builtin id) (v::us)) (EP X pins σ Q) X.xe s
section
variable {a b:Expr} {ta tb:TE}
theorem IxR.or {r r':R2} (h:IxR X r) (h':IxR X r'):IxR X (fun x y H Q=>r x y H Q\/r' x y H Q):=by
 intro value slice pins s σ H x y v u Q I rx ry q hs;rcases q with q | q
 ·exact h value slice pins s σ H x y v u Q I rx ry q hs
 ·exact h' value slice pins s σ H x y v u Q I rx ry q hs
theorem DU {r:R2} (hr:IxR X r) (ha:PE X a ta) (hb:PE X b tb) (hs:yC b):PE X (.Subscript a b pos) (tOp r ta tb):=by intro pins s σ H Q I h;exact Subscript_ (G3 ha hb I h fun v u s2 x y H2 I2 rx ry q=>hr a b pins s2 σ H2 x y v u Q I2 rx ry q (hs _ _))
def Kq (K:PySem.W.Frag):R2:=fun x y H Q=>∃ p xs i v,x=.ref p/\y=.int i/\SqL K H p xs/\atI xs i=some v/\Q v H
def JP (K:PySem.W.Frag):R2:=fun x y H Q=>∃ p xs i v,x=.ref p/\y=.int i/\SqT K H p xs/\atI xs i=some v/\Q v H
theorem sW:IxR X (Kq X.K):=by
 intro value slice pins s σ H x y v u Q I rx ry h hs;obtain ⟨p,xs,i,z,rfl,rfl,hq,he,q⟩:=h;cases rx;obtain ⟨t,rfl⟩:=ry;obtain ⟨its,r,pl,hz⟩:=I.list hq;obtain ⟨j,h1,h2,h3,h4,h5⟩:=yH he;obtain ⟨w,ew,rw'⟩:=r.get h2;have hl:=r.length;have hn:=sO;have fin:EP X pins σ Q w s:=⟨z,H,I,rw',q⟩
 by_cases h0:0<=i
 ·have hj:i.toNat=j:=by rw [seqIndex_of h0 h5] at h1;exact Option.some.inj h1
  exact item_listR pl.isList h0 (by omega) (by rw [hj];simpa using ew) fin hs
 ·have hj:(i+(its.toArray.size:Int)).toNat=j:=by rw [seqIndex_neg (by omega) h4] at h1;rw [LO,<-hl];exact Option.some.inj h1
  exact subscriptTail_builtinR (x:=w) pl.isList.typeIs slot_list_getitem.lookup
   (wpAny_getItem_list_neg (Q:=fun r s'=>r=w/\EP X pins σ Q r s') pl.isList (by omega) (by rw [LO] <;> omega) (by omega) (by rw [hj];simpa using ew) ⟨rfl,fin⟩) hs
theorem Ht:IxR X (JP X.K):=by
 intro value slice pins s σ H x y v u Q I rx ry h hs;obtain ⟨p,xs,i,z,rfl,rfl,hq,he,q⟩:=h;cases rx;obtain ⟨t,rfl⟩:=ry;obtain ⟨its,r,pl,hz⟩:=I.tuple hq;obtain ⟨j,h1,h2,h3,h4,h5⟩:=yH he;obtain ⟨w,ew,rw'⟩:=r.get h2;have hl:=r.length;have hn:=sO;have fin:EP X pins σ Q w s:=⟨z,H,I,rw',q⟩
 exact subscriptTail_builtinR (x:=w) pl.typeIs slot_tuple_getitem.lookup
  (getItem_tuple (j:=j) (Q:=fun r s'=>r=w/\EP X pins σ Q r s') pl (by omega) (by omega) (by rw [LO,<-hl];exact h1) (by simpa using ew) ⟨rfl,fin⟩) hs
theorem xX (its:List Value) (n j:Nat) (u:Value):Obj.mapSeq (·.setIfInBounds j u) { cls:=.type "list",data:=.seq its.toArray n }={ cls:=.type "list",data:=.seq (its.set j u).toArray n }:=by simp [Obj.mapSeq]
theorem Inv.lst {p:Addr} (I:Inv X pins σ H s) (h:H p=some (.lst xs)) :
  ∃ (its:List Value) (n:Nat),Vals xs its/\s.heap.get? p=some { cls:=.type "list",data:=.seq its.toArray n }/\xs.length<=sizeLine:=by
 obtain ⟨z,its,n,r,e⟩:=I.hok p _ h;exact ⟨its,n,r,e,z⟩
theorem Inv.lstUpd {p:Addr} {n':Nat} {f:Obj->Obj} (I:Inv X pins σ H s) (h:H p=some (.lst xs))
  (ho:s.heap.get? p=some { cls:=.type "list",data:=.seq its.toArray n }) (hf:f { cls:=.type "list",data:=.seq its.toArray n }={ cls:=.type "list",data:=.seq its'.toArray n' }) (r:Vals ys its') (hz:ys.length<=sizeLine) (t:Nat) :
  Inv X pins σ (upd H p (.lst ys)) { s with heap:=s.heap.update p f,toks:=t }:=by
 have e:(s.heap.update p f).get? p=some { cls:=.type "list",data:=.seq its'.toArray n' }:=by rw [N1 f ho (by rw [hf] <;> rfl),hf]
 refine I.write (x:=p) (e:=p) (by rw [h];trivial) (.inl rfl) (fun b u hb q=>(Mo _ _ (Ne.symm hb)).trans q) ⟨_,e⟩ ?_;exact ⟨hz,its',n',r,e⟩
def Kk:V->V->V->Hp->(Hp->Prop)->Prop:=fun o i v H Q=>∃ p xs k j,o=.ref p/\i=.int k/\H p=some (.lst xs)/\ixN xs.length k=some j/\Q (upd H p (.lst (xs.set j v)))
theorem set_list:Km X Kk:=by
 intro pins s σ H o i v ov iv u Q I ro ri rv h;obtain ⟨p,xs,k,j,rfl,rfl,hp,hj,q⟩:=h;cases ro;obtain ⟨t,rfl⟩:=ri;obtain ⟨its,n,r,ho,hz⟩:=I.lst hp;obtain ⟨h1,h2,h3,h4⟩:=uC hj;have hl:=r.length;have hn:=sO;have I':Inv X pins σ (upd H p (.lst (xs.set j v))) { s with heap:=s.heap.update p (Obj.mapSeq (·.setIfInBounds j u)) } :=
  I.lstUpd hp ho (xX its n j u) (r.set rv j) (by rw [List.length_set];exact hz) s.toks
 by_cases h0:0<=k
 ·have hk:k.toNat=j:=by rw [seqIndex_of h0 h4] at h1;exact Option.some.inj h1
  exact PySem.W.ki_setAt ho h0 (by omega) (by rw [LO,<-hl];exact h4) (by rw [hk];exact ⟨_,I',q⟩)
 ·have hk:(k+(its.toArray.size:Int)).toNat=j:=by rw [seqIndex_neg (by omega) h3] at h1;rw [LO,<-hl];exact Option.some.inj h1
  exact PySem.W.ki_setBack ho (by omega) (by rw [LO,<-hl];exact h3) (by omega) (by rw [hk];exact ⟨_,I',q⟩)
theorem uq (lo hi:Option Int) (n:Nat):(sliceBounds lo hi none n).1=((HT.sIx n 0 lo:Nat):Int)/\(sliceBounds lo hi none n).2.1=((HT.sIx n n hi:Nat):Int)/\(sliceBounds lo hi none n).2.2=1:=by
 refine ⟨?_,?_,rfl⟩
 ·cases lo with
  | none=>simp [sliceBounds,HT.sIx]
  | some i =>
   simp only [sliceBounds,HT.sIx,Option.getD_none,show (1:Int)>0 by decide,if_true];by_cases h:i<0
   ·simp only [h,if_true] <;> omega
   ·simp only [h,if_false] <;> omega
 ·cases hi with
  | none=>simp [sliceBounds,HT.sIx]
  | some i =>
   simp only [sliceBounds,HT.sIx,Option.getD_none,show (1:Int)>0 by decide,if_true];by_cases h:i<0
   ·simp only [h,if_true] <;> omega
   ·simp only [h,if_false] <;> omega
theorem qE (its:List Value) (lo hi:Option Int):slicePick its.toArray lo hi none=((its.drop (HT.sIx its.length 0 lo)).take (HT.sIx its.length its.length hi-HT.sIx its.length 0 lo)).toArray:=by obtain ⟨h1,h2,h3⟩:=uq lo hi its.toArray.size;unfold slicePick;rw [h1,h2,h3];simp only [sliceRange_one,pick_run,LO] <;> rfl
def Lh (K:PySem.W.Frag):V->Option Int->Option Int->Hp->VK->Prop:=fun x lo hi H Q=>∃ a xs,x=.ref a/\SqL K H a xs/\∀ p,H p=none->Q (.ref p) (upd H p (.lst (wG xs lo hi)))
theorem Ez:SlR X (Lh X.K):=by intro pins s σ H x v vl vu lo hi sl Q I rx hs pl pu h;obtain ⟨a,xs,rfl,hx,q⟩:=h;cases rx;obtain ⟨its,r,ht,hz⟩:=I.list hx;have hlen:=r.length;refine ⟨"list",_,slot_list_getitem.lookup,ht.isList.typeIs,?_⟩;refine wpAny_getItem_list_slice ht.isList hs pl pu .none (by simp) ?_ (by rw [LO] <;> omega);rw [qE,<-hlen];refine ⟨.ref s.heap.objs.size,_,I.laid (t':=s.toks) (o:=.lst (wG xs lo hi)) (fun b ob q=>L0 _ q) (LK _) ?_,rfl,q _ (I.hok.fresh (LK _))⟩;exact ⟨Mv (nH xs lo hi) hz,_,0,(r.drop (HT.sIx xs.length 0 lo)).take (HT.sIx xs.length xs.length hi-HT.sIx xs.length 0 lo),LP _ rfl⟩
def jm:V->Bool
 | .non=>true
 | .bl _=>true
 | .int _=>true
 | .str _=>true
 | _=>false
def eqV:V->V->Bool
 | .non,.non=>true
 | .bl a,.bl b=>a==b
 | .bl a,.int b=>(if a then 1 else 0)==b
 | .int a,.bl b=>a==(if b then 1 else 0)
 | .int a,.int b=>a==b
 | .str a,.str b=>a==b
 | _,_=>false
theorem HE {A:Around} {x:V} {v:Value} (ry:RelV y u) (rx:RelV x v) (fy:jm y=true) (fx:jm x=true):SeqAt.EqAt A s u v (eqV y x):=by
 cases y with
 | non =>
  cases ry;cases x with
  | non=>cases rx;exact SeqAt.EqAt.same _
  | bl b=>cases rx;exact SeqAt.EqAt.none_bool b
  | int b=>obtain ⟨t,rfl⟩:=rx;exact SeqAt.EqAt.none_int b t
  | str b=>obtain ⟨t,rfl⟩:=rx;exact SeqAt.EqAt.none_str b t
  | _=>exact absurd (show false=true from fx) LX
 | bl a =>
  cases ry;cases x with
  | non=>cases rx;exact SeqAt.EqAt.bool_none a
  | bl b=>cases rx;exact SeqAt.EqAt.bool_bool a b
  | int b=>obtain ⟨t,rfl⟩:=rx;exact SeqAt.EqAt.bool_int a b t
  | str b=>obtain ⟨t,rfl⟩:=rx;exact SeqAt.EqAt.bool_str a b t
  | _=>exact absurd (show false=true from fx) LX
 | int a =>
  obtain ⟨t',rfl⟩:=ry;cases x with
  | non=>cases rx;exact SeqAt.EqAt.int_none a t'
  | bl b=>cases rx;exact SeqAt.EqAt.int_bool a t' b
  | int b=>obtain ⟨t,rfl⟩:=rx;exact SeqAt.EqAt.int_int a t' b t
  | str b=>obtain ⟨t,rfl⟩:=rx;exact SeqAt.EqAt.int_str a t' b t
  | _=>exact absurd (show false=true from fx) LX
 | str a =>
  obtain ⟨t',rfl⟩:=ry;cases x with
  | non=>cases rx;exact SeqAt.EqAt.str_none a t'
  | bl b=>cases rx;exact SeqAt.EqAt.str_bool a t' b
  | int b=>obtain ⟨t,rfl⟩:=rx;exact SeqAt.EqAt.str_int a t' b t
  | str b=>obtain ⟨t,rfl⟩:=rx;exact SeqAt.EqAt.str_str a t' b t
  | _=>exact absurd (show false=true from fx) LX
 | _=>exact absurd (show false=true from fy) LX
def eqU (x:V) (u:Value):Bool:=match u with
 | .none=>eqV .non x
 | .bool b=>eqV (.bl b) x
 | .int i _=>eqV (.int i) x
 | .str z _=>eqV (.str z) x
 | _=>false
theorem yc {x:V} (r:RelV y u) (f:jm y=true):eqU x u=eqV y x:=by
 cases y with
 | non=>cases r;rfl
 | bl b=>cases r;rfl
 | int i=>obtain ⟨t,rfl⟩:=r;rfl
 | str z=>obtain ⟨t,rfl⟩:=r;rfl
 | _=>exact absurd (show false=true from f) LX
theorem ux {x:V}:∀ {xs:List V} {us:List Value},Vals xs us->xs.all jm=true->us.any (eqU x)=xs.any fun y=>eqV y x
 | _,_,.nil,_=>rfl
 | y::xs,u::us,.cons r t,f=>by rw [N6,L8] at f;rw [MW,MW,yc r f.1,ux t f.2]
theorem lF {A:Around} {s:Shared} {x:V} {v:Value} (rx:RelV x v) (fx:jm x=true):∀ {xs:List V} {us:List Value},Vals xs us->xs.all jm=true->∀ u∈us,SeqAt.EqAt A s u v (eqU x u)
 | _,_,.nil,_=>fun u hu=>by cases hu
 | y::xs,u::us,.cons r t,f=>fun u' hu=>by
  rw [N6,L8] at f;rcases L7.mp hu with rfl | hu
  ·rw [yc r f.1];exact HE r rx f.1 fx
  ·exact lF rx fx t f.2 u' hu
def inV (x:V) (xs:List V):Bool:=xs.any fun y=>eqV y x
def rIn (K:PySem.W.Frag) (neg:Bool):R2:=fun x y H Q=>∃ p xs,y=.ref p/\(SqL K H p xs\/SqT K H p xs)/\jm x=true/\xs.all jm=true/\Q (.bl (if neg then !inV x xs else inV x xs)) H
theorem Am:OpR X (compareOp .In) (rIn X.K false):=by
 intro pins s σ H x y v u Q I rx ry h;obtain ⟨p,xs,rfl,hq,fx,fs,q⟩:=h;cases ry;rcases hq with hq | hq
 ·obtain ⟨its,r,pl,hz⟩:=I.list hq;refine SeqAt.in_listAt (eqU x) pl.isList (fun w hw=>lF rx fx r fs w (by simpa using hw)) ⟨.bl _,H,I,rfl,?_⟩;rw [show its.toArray.any (eqU x)=its.any (eqU x) by simp,ux r fs];exact q
 ·obtain ⟨its,r,pl,hz⟩:=I.tuple hq;refine SeqAt.in_tupleAt (eqU x) pl (fun w hw=>lF rx fx r fs w (by simpa using hw)) ⟨.bl _,H,I,rfl,?_⟩;rw [show its.toArray.any (eqU x)=its.any (eqU x) by simp,ux r fs];exact q
theorem ji:jL X (.builtin "len") (fun xs H Q=>∃ p ys,xs=[.ref p]/\(SqL X.K H p ys\/SqT X.K H p ys)/\Q (.int ys.length) H):=by
 intro pins s σ H xs us Q I r h;obtain ⟨p,ys,rfl,hq,q⟩:=h;obtain ⟨u,rfl,rx⟩:=vals1 r;cases rx;have hn:=sO;rcases hq with hq | hq
 ·obtain ⟨its,r',pl,hz⟩:=I.list hq;have hlen:=r'.length;exact Calls.call_len_list pl.isList (by simp only [LO] <;> omega) ⟨.int ys.length,H,I.tok _,⟨s.toks+1,by rw [LO,hlen]⟩,q⟩
 ·obtain ⟨its,r',pl,hz⟩:=I.tuple hq;have hlen:=r'.length;exact len_tuple pl (by simp only [LO] <;> omega) ⟨.int ys.length,H,I.tok _,⟨s.toks+1,by rw [LO,hlen]⟩,q⟩
theorem tK:jL X (.type "list") (fun xs H Q=>∃ p ys,xs=[.ref p]/\(SqL X.K H p ys\/SqT X.K H p ys)/\∀ l,H l=none->Q (.ref l) (upd H l (.lst ys))):=by
 intro pins s σ H xs us Q I r h;obtain ⟨p,ys,rfl,hq,q⟩:=h;obtain ⟨u,rfl,rx⟩:=vals1 r;cases rx;have fin:∀ (its:List Value),Vals ys its->ys.length<=sizeLine->∀ (h':Heap) (c':Nat),(∀ b o',s.heap.get? b=some o'->h'.get? b=some o') ->
   h'.get? s.heap.objs.size=some { cls:=.type "list",dict:=none,data:=.seq its.toArray c',slots:=#[] }->EP X pins σ Q (.ref s.heap.objs.size) { s with heap:=h' }:=fun its r' hz h' c' kp e =>
  ⟨.ref s.heap.objs.size,_,I.laid (t':=s.toks) kp (LK _) (show dg X.prog X.w _ h' _ (.lst ys) from ⟨hz,its,c',r',e⟩),rfl,q _ (I.hok.fresh (LK _))⟩
 rcases hq with hq | hq
 ·obtain ⟨its,r',pl,hz⟩:=I.list hq;have hlen:=r'.length;obtain ⟨o,ho,hc,n,hd⟩:=pl.isList;exact call_list_seq p (.inl rfl) ho hc hd (fun h' c' kp e=>fin its r' hz h' c' kp e) (by simp only [LO] <;> omega)
 ·obtain ⟨its,r',pl,hz⟩:=I.tuple hq;have hlen:=r'.length;obtain ⟨o,ho,hc,n,hd⟩:=pl;exact call_list_seq p (.inr rfl) ho hc hd (fun h' c' kp e=>fin its r' hz h' c' kp e) (by simp only [LO] <;> omega)
theorem qG:jL X (.type "tuple") (fun xs H Q=>∃ p ys,xs=[.ref p]/\((SqL X.K H p ys/\∀ l,H l=none->Q (.ref l) (upd H l (.tup ys)))\/(SqT X.K H p ys/\Q (.ref p) H))):=by
 intro pins s σ H xs us Q I r h;obtain ⟨p,ys,rfl,h⟩:=h;obtain ⟨u,rfl,rx⟩:=vals1 r;cases rx;rcases h with ⟨hq,q⟩ | ⟨hq,q⟩
 ·obtain ⟨its,r',pl,hz⟩:=I.list hq;have hlen:=r'.length;refine call_tuple_list pl.isList (fun h' kp=>?_) (by simp only [LO] <;> omega);have I1:Inv X pins σ H { s with heap:=h' }:=I.kept (t':=s.toks) kp;have I2:Inv X pins σ (upd H h'.objs.size (.tup ys)) { s with heap:=h'.push { cls:=.type "tuple",data:=.seq its.toArray } } :=
   I1.laid (t':=s.toks) (fun b o e=>L0 _ e) (LK _) (show dg X.prog X.w _ _ _ (.tup ys) from ⟨hz,its,r',tH.new _ _⟩)
  exact ⟨.ref h'.objs.size,_,I2,rfl,q _ (I1.hok.fresh (LK _))⟩
 ·obtain ⟨its,r',pl,hz⟩:=I.tuple hq;exact call_tuple_same pl ⟨.ref p,H,I,rfl,q⟩
def tyV (K:PySem.W.Frag) (T:String) (x:V) (H:Hp):Prop:=match x with
 | .str _=>T="str"
 | .int _=>T="int"
 | .ref p=>(T="list"/\∃ xs,SqL K H p xs)\/(T="tuple"/\∃ o,K.lookup p=some o/\o.cls=.type "tuple"/\o.dict=none) \/
  (T="dict"/\((∃ kvs,H p=some (.dK kvs))\/∃ kvs,H p=some (.dT kvs)))\/(T="set"/\∃ S n,H p=some (.set S n))
 | _=>False
theorem IH {T:String} {x:V} {v:Value} (I:Inv X pins σ H s) (r:RelV x v) (ty:tyV X.K T x H) :
  s.TypeIs v T/\∀ a,v=.ref a->∃ ob,s.heap.get? a=some ob/\ob.dict=none:=by
 cases x with
 | str z =>obtain ⟨t,rfl⟩:=r;cases (show T="str" from ty);exact ⟨typeIs_str s z t,fun _ e=>nomatch e⟩
 | int i =>obtain ⟨t,rfl⟩:=r;cases (show T="int" from ty);exact ⟨typeIs_int s i t,fun _ e=>nomatch e⟩
 | ref p =>
  cases r;rcases ty with ⟨rfl,xs,hq⟩ | ⟨rfl,o,hk,hc,hd⟩ | ⟨rfl,hk⟩ | ⟨rfl,S,n,hk⟩
  ·obtain ⟨its,_,pl,_⟩:=I.list hq;refine ⟨pl.isList.typeIs,fun a e=>?_⟩;cases e;obtain ⟨o,n,e,c,hd,_⟩:=pl;exact ⟨o,e,hd⟩
  ·refine ⟨⟨o,I.kIn p o hk,hc⟩,fun a e=>?_⟩;cases e;exact ⟨o,I.kIn _ o hk,hd⟩
  ·have z:∃ o,s.heap.get? p=some o/\o.ExactDict:=by
    rcases hk with ⟨kvs,hk⟩ | ⟨kvs,hk⟩
    ·obtain ⟨_,_,_,_,o,_,_,e,ex,_⟩:=I.hok p _ hk;exact ⟨o,e,ex⟩
    ·obtain ⟨_,_,_,_,o,_,_,e,ex,_⟩:=I.hok p _ hk;exact ⟨o,e,ex⟩
   obtain ⟨o,e,ex⟩:=z;refine ⟨⟨o,e,ex.1⟩,fun a e2=>?_⟩;cases e2;exact ⟨o,e,ex.2.1⟩
  ·obtain ⟨o,_,_,_,e,ex,_⟩:=I.hok p _ hk;refine ⟨⟨o,e,ex.1⟩,fun a e2=>?_⟩;cases e2;exact ⟨o,e,ex.2.1⟩
 | _=>exact False.elim ty
def tBM (K:PySem.W.Frag) (T:String) (r:V->List V->Hp->VK->Prop) (to:TE) (t:TA):TE:=fun σ H Q=>to σ H fun x H1=>tyV K T x H1/\t σ H1 fun xs H2=>r x xs H2 Q
variable {o e:Expr} {es:List Expr} {to:TE} {t:TA} {name:Str} {apos:Pos} {T id:String} {r:V->List V->Hp->VK->Prop}
theorem Cp (pa:PlainAttrs T) (slot:Slot T name id) (hty:typeOf (.builtin id)=pure (.type "method_descriptor")) (hm:MtR X id r) (ho:PE X o to) (ha:PA X (e::es) t)
  (hbase:attributeBase o name X.env (eval o X.env)=eval o X.env:=by rfl)
  (hfew:((backTo cpos (starEach (e::es) X.env)).all (fun x=>!x.1)&&(backToKw cpos (keywordEach [] X.env)).all (fun x=>x.1.isSome)
  &&decide ((e::es).length+([]:List Keyword).length+(if ([]:List Keyword).isEmpty then 0 else 1)<30))=true:=by rfl)
  (hline:(apos.endLine==cpos.line)=true:=by rfl) (hs:starEach (e::es) X.env=(false,eval e X.env)::starEach es X.env:=by rfl) (hplain:(backTo cpos (starEach es X.env)).any (·.1)=false:=by rfl) :
  PE X (.Call (.Attribute o name apos) (e::es) [] cpos) (tBM X.K T r to t):=by
 intro pins s σ H Q I h;refine wpAny_Call_method_late hbase hfew hline rfl (thn (ho pins s σ H _ I h) fun v s1 rz2=>?_);obtain ⟨x,H1,I1,r1,ty,q1⟩:=rz2;obtain ⟨h1,h2⟩:=IH I1 r1 ty;refine ⟨T,id,pa,slot,hty,h1,h2,?_⟩;have hA:=ha cpos pins s1 σ H1 _ I1 q1;rw [hs] at hA ⊢;refine Calls.callWith_builtin (by show (false || (backTo cpos (starEach es X.env)).any (·.1))=false;rw [hplain] <;> rfl) (Calls.evalArgs_plain ?_);exact thn hA fun us s2 qz2=>(by obtain ⟨vs,H2,I2,r2,q2⟩:=qz2;exact hm pins s2 σ H2 x vs v us Q I2 r1 r2 q2)
end
def MtM (X:Cx) (id:String) (r:V->List V->Hp->VK->Prop):Prop :=
 ∀ (pins:List (Addr×Obj)) (s:Shared) (σ:St) (H:Hp) (x:V) (xs:List V) (v:Value) (us:List Value) (Q:VK),Inv X pins σ H s->RelV x v->Vals xs us->r x xs H Q ->
  wpAny (model X.prog X.w) X.A (call (.builtin id) (v::us)) (EP X pins σ Q) X.xe s
theorem Vals.one {x:V} (h:Vals [x] us):∃ u,us=[u]/\RelV x u:=by
 cases h with
 | cons r t=>cases t;exact ⟨_,rfl,r⟩
theorem Vals.eraseIdx:∀ {xs:List V} {us:List Value} (i:Nat),Vals xs us->Vals (xs.eraseIdx i) (us.eraseIdx i)
 | _,_,_,.nil=>.nil
 | _,_,0,.cons _ t=>t
 | _,_,i+1,.cons r t=>.cons r (Vals.eraseIdx i t)
theorem Vals.rep {xs:List V} {us:List Value} (h:Vals xs us):∀ k:Nat,Vals (List.replicate k xs).flatten (List.replicate k us).flatten
 | 0=>.nil
 | k+1=>by rw [MI,MI,MN,MN];exact Vals.append h (Vals.rep h k)
theorem rZ {α:Type}:∀ (l:List α) (i:Nat),(l.eraseIdx i).length<=l.length
 | [],_=>LK _
 | _::_,0=>N8 _
 | _::r,i+1=>Nat.succ_le_succ (rZ r i)
theorem foldl_rep (its:List Value):∀ (k:Nat) (acc:List Value),
  List.foldl (fun x1 x2=>x1++x2) acc.toArray (List.replicate k its.toArray)=(acc++(List.replicate k its).flatten).toArray
 | 0,acc=>by simp
 | k+1,acc=>by
  have e:acc.toArray++its.toArray=(acc++its).toArray:=by simp
  have e2:(acc++its)++(List.replicate k its).flatten=acc++(List.replicate (k+1) its).flatten:=by rw [MI,MN,Mp]
  rw [<-e2,<-foldl_rep its k (acc++its),<-e,MI,MX]
section
variable {l:Addr} {zs:List V}
theorem Inv.lset {f:Array Value->Array Value} (I:Inv X pins σ H s) (hH:H l=some (.lst xs))
  (e:s.heap.get? l=some { cls:=.type "list",data:=.seq its.toArray n }) (hf:f its.toArray=its'.toArray) (hv:Vals ys its') (hz:ys.length<=sizeLine) :
  Inv X pins σ (upd H l (.lst ys)) { s with heap:=s.heap.update l (Obj.mapSeq f),toks:=t' }:=by
 have q:=PySem.IsL.update e f;rw [hf] at q;refine I.write (x:=l) (e:=l) (by rw [hH];exact trivial) (.inl rfl) (fun b' u hb hu=>(Mo s.heap (Obj.mapSeq f) (Ne.symm hb)).trans hu) ⟨_,q⟩ ?_;exact ⟨hz,its',_,hv,q⟩
theorem Inv.lnew (I:Inv X pins σ H s) (hv:Vals ys its) (hz:ys.length<=sizeLine) :
  Inv X pins σ (upd H s.heap.objs.size (.lst ys)) { s with heap:=s.heap.push { cls:=.type "list",data:=.seq its.toArray },toks:=t' } :=
 I.laid (fun _ _ q=>L0 _ q) (LK _) ⟨hz,its,0,hv,LP _ rfl⟩
theorem Inv.fresh (I:Inv X pins σ H s):H s.heap.objs.size=none:=I.hok.fresh (LK _)
theorem Inv.lstM (I:Inv X pins σ H s) (hH:H l=some (.lst xs)):xs.length<=sizeLine/\∃ (its:List Value) (n:Nat),Vals xs its/\xs.length=its.length/\s.heap.get? l=some { cls:=.type "list",data:=.seq its.toArray n }:=by obtain ⟨z,its,n,r,e⟩:=I.hok l _ hH;exact ⟨z,its,n,r,r.length,e⟩
theorem C0 (h:n<=sizeLine):Builtin.List.listTooLong n=false:=by unfold Builtin.List.listTooLong;exact decide_eq_false (by omega)
end
section
def Fx:V->List V->Hp->VK->Prop:=fun x vs H Q=>∃ l xs y,x=.ref l/\vs=[y]/\H l=some (.lst xs)/\xs.length<sizeLine/\Q .non (upd H l (.lst (xs++[y])))
theorem mS:MtM X "list.append" Fx:=by intro pins s σ H x vs v us Q I rx rv h;obtain ⟨l,xs,y,rfl,rfl,hH,hz,q⟩:=h;cases rx;obtain ⟨u,rfl,ru⟩:=rv.one;obtain ⟨z,its,n,r,hl,e⟩:=I.lstM hH;refine call_meets F.slot_list_append ⟨_,e,rfl⟩ F.entry_list_append (F.args_list_append_2 _ _) (PySem.list_append l its.toArray n u (by rw [LO];omega)) ⟨e,?_⟩;refine ⟨.non,_,I.lset (its':=its++[u]) hH e (by simp) (r.append (.cons ru .nil)) ?_,rfl,q⟩;rw [LL,M9];omega
def HB:V->List V->Hp->VK->Prop:=fun x vs H Q=>∃ l xs i k y,x=.ref l/\vs=[.int i]/\H l=some (.lst xs)/\-(2 ^ 63)<=i/\i<2 ^ 63/\seqIndex? i xs.length=some k/\xs[k]?=some y/\Q y (upd H l (.lst (xs.eraseIdx k)))
theorem BP:MtM X "list.pop" HB:=by
 intro pins s σ H x vs v us Q I rx rv h;obtain ⟨l,xs,i,k,y,rfl,rfl,hH,h1,h2,hk,hy,q⟩:=h;cases rx;obtain ⟨u,rfl,ru⟩:=rv.one;obtain ⟨t,rfl⟩:=ru;obtain ⟨z,its,n,r,hl,e⟩:=I.lstM hH;obtain ⟨w,hw,rw'⟩:=r.get hy;refine call_meets F.slot_list_pop ⟨_,e,rfl⟩ F.entry_list_pop (F.args_list_pop_2 _ _)
  (MeetsSeq.list_pop_at l its.toArray n i t k w (fitsIndex_both h1 h2) (by rw [LO,<-hl];exact hk) (by rw [<-Nt];exact hw) (by rw [LO];omega)) ⟨e,?_⟩
 refine ⟨y,_,I.lset (its':=its.eraseIdx k) hH e ?_ (r.eraseIdx k) ?_,rw',q⟩
 ·show its.toArray.eraseIdxIfInBounds k=(its.eraseIdx k).toArray;rw [List.eraseIdxIfInBounds_toArray]
 ·have:=rZ xs k;omega
def JM:R2:=fun x y H Q=>∃ l b xs zs,x=.ref l/\y=.ref b/\H l=some (.lst xs)/\H b=some (.lst zs)/\xs.length+zs.length<=sizeLine/\∀ p,H p=none->Q (.ref p) (upd H p (.lst (xs++zs)))
theorem Hc:OpR X (binaryOp .Add) JM:=by
 intro pins s σ H x y v u Q I rx ry h;obtain ⟨l,b,xs,zs,rfl,rfl,hH,hB,hz,q⟩:=h;cases rx;cases ry;obtain ⟨z,its,n,r,hl,e⟩:=I.lstM hH;obtain ⟨z2,its2,n2,r2,hl2,e2⟩:=I.lstM hB;refine PySem.P.add_list e e2 ?_ (by rw [LO,LO];omega);have ea:its.toArray++its2.toArray=(its++its2).toArray:=by simp
 rw [ea];exact ⟨.ref _,_,I.lnew (t':=s.toks) (r.append r2) (by rw [LL];omega),rfl,q _ I.fresh⟩
def JK:R2:=fun x y H Q=>∃ l k xs,x=.ref l/\y=.int k/\H l=some (.lst xs)/\-(2 ^ 63)<=k/\k<2 ^ 63/\xs.length*k.toNat<=sizeLine /\
 ∀ p,H p=none->Q (.ref p) (upd H p (.lst (List.replicate k.toNat xs).flatten))
theorem len_rep (xs:List α) (k:Nat):(List.replicate k xs).flatten.length=k*xs.length:=by
 induction k with
 | zero=>simp
 | succ k ih=>rw [MI,MN,LL,ih,Nat.succ_mul,Nat.add_comm]
theorem IF:OpR X (binaryOp .Mult) JK:=by
 intro pins s σ H x y v u Q I rx ry h;obtain ⟨l,k,xs,rfl,rfl,hH,h1,h2,hz,q⟩:=h;cases rx;obtain ⟨t,rfl⟩:=ry;obtain ⟨z,its,n,r,hl,e⟩:=I.lstM hH;have hlen:its.toArray.size*k.toNat<=sizeLine:=by rw [LO,<-hl];exact hz
 have hcap:¬ its.toArray.size*k.toNat>(2 ^ 63-1) / 8:=by
  have:(sizeLine:Nat)<=(2 ^ 63-1) / 8:=by decide
  omega
 have hfit:¬ (!Builtin.List.listFitsIndex k)=true:=by rw [fitsIndex_both h1 h2];exact LX
 have hlong:¬ Builtin.List.listTooLong (its.toArray.size*k.toNat)=true:=by rw [C0 hlen];exact LX
 have hnew:List.foldl (fun x1 x2=>x1++x2) #[] (List.replicate (if its.toArray.isEmpty=true then 0 else k.toNat) its.toArray)=(List.replicate k.toNat its).flatten.toArray:=by
  have f0:∀ m:Nat,List.foldl (fun x1 x2=>x1++x2) #[] (List.replicate m its.toArray)=(List.replicate m its).flatten.toArray:=fun m=>by have:=foldl_rep its m [];rw [Ma] at this;exact this
  rw [f0];cases its with
  | nil=>simp
  | cons a r'=>rw [if_neg (by simp)]
 refine wpAny_binaryOp_repeat_ref (T:="list") (U:="int") (by decide) ⟨_,e,rfl⟩ (fun s'=>typeIs_int s' k t) noFill_list_mul F.fills_int_mul F.slot_int_rmul repeat_list F.slot_int_index.lookup
  (call_meets F.slot_int_rmul (typeIs_int s k t) F.entry_int_rmul (F.args_int_rmul_2 _ _) (int___rmul___int_list k t l its.toArray n)
   ⟨e,rfl,⟨_,e,rfl⟩,call_meets F.slot_list_mul ⟨_,e,rfl⟩ F.entry_list_mul (F.args_list_mul_2 _ _) (AutoListH.list___mul___list_int_3 l its.toArray n k t hfit hcap hlong) ⟨e,?_⟩⟩)
 rw [hnew];exact ⟨.ref _,_,I.lnew (t':=s.toks) (r.rep k.toNat) (by rw [len_rep,Nat.mul_comm];exact hz),rfl,q _ I.fresh⟩
end
section
variable {A:Around}
end
section
end
end L2
namespace Att
open PySem PySem.W PySem.Calls PyProof.Rows
theorem nU {P:Params}:∀ (ns:List Int) (vs:List Value),WellAll P h vs (ns.map WData.int)->IntsAre vs ns:=by
 intro ns
 induction ns with
 | nil =>intro vs w;rw [Mr] at w;cases w;exact .nil
 | cons n ns ih =>
  intro vs w;rw [L5] at w;cases w with
  | cons a b =>cases a;exact .cons _ _ (ih _ b)
theorem zZ {l:OpenLaw} {n:Nat} (hn:l.most=some n) {P:Params} {args:List WData} {vals:List Value}
  (hpre:l.row.toRowW.claim.pre args=true) (hwl:WellAll P h vals args) :
  ∃ a vs ns,vals=[Value.ref a]/\args=[WData.list (ns.map WData.int)]/\h.get? a=some { cls:=.type "list",data:=.seq vs.toArray }/\IntsAre vs ns/\ns.length<=n:=by
 have hsh:WShape.hasAll [] args [.list .int]=true:=(pre_splitW hpre).1;have hc:l.pre.holds [] { args:=args }=true:=(pre_splitW hpre).2;obtain ⟨d,r,rfl,h1,h2⟩:=hasAllW_cons hsh;obtain rfl:=hasAllW_nil h2;obtain ⟨xs,rfl,h3⟩:=hasW_list h1;obtain ⟨ns,rfl⟩:=items_int h3;have hlen:ns.length<=n:=by
  unfold OpenLaw.pre at hc;have h4:(WTm.not (.lt (.lit (.int (n:Int))) (.len (.arg 0)))).holds [] { args:=[.list (ns.map .int)] }=true:=by have h4:=(holds_andW hc).1;rw [hn] at h4;exact h4
  have h5:=condW_of h4 (w_not (w_lt w_lit (w_len_list (w_arg rfl))));rw [L3] at h5;refine Nat.le_of_not_lt fun q=>?_
  have q':(n:Int)<((ns.length:Nat):Int):=by omega
  first
   | (rw [decide_eq_true q'] at h5;exact absurd h5 (by decide))
   | (simp at h5;omega)
 cases hwl with
 | cons w1 w2 =>
  cases w2;cases w1 with
  | list ho hall=>exact ⟨_,_,ns,rfl,rfl,ho,nU ns _ hall,hlen⟩
theorem A7 (l:OpenLaw) (args:List WData):l.row.toRowW.claim.post args (.bool true) args=true :=
 postW_of (r:=l.row.toRowW) (X:=(true==true))
  (show WShape.has [] (.bool true) .bool=true by first | rfl | decide | simp [WShape.has,WShape.arms,WShape.armsAll])
  (show (WTm.eq .res (.lit (.bool true))).value [] { args:=args,res:=some (.bool true),after:=args }=some (.bool (true==true)) from w_eq_bool (w_res rfl) w_lit) rfl
theorem wy {l:OpenLaw} {n:Nat} {d:DefRec}
  (hn:l.most=some n) (hdf:d.params.defaults=[])
  (call:∀ (w:World) (s₀ s₁:Shared) (mg mb:Str->Option Value) (fa:Addr) (o:Obj) (pm cd doc:Value) (a:Addr) (vs:List Value) (ns:List Int),
   Ground q loose [] XP w s₀ mg mb s₁.heap->YP w s₁.heap ->
   s₁.heap.get? fa=some o->o.data=.func (docDef d.name d.params d.body d.scope pm cd doc)->s₁.heap.CodeRec cd d.name->mg d.name=some (.ref fa) ->
   s₁.heap.get? a=some { cls:=.type "list",data:=.seq vs.toArray }->IntsAre vs ns->ns.length<=n->s₁.gens=#[] ->
   codeAny (model l.prog w) callerA (.call (.ref fa) ⟨[.ref a],[]⟩) (fun r s'=>r=.ok (.ret (.bool true))/\OldK s₁.heap s'.heap/\s'.os=s₁.os/\AllBare s'.gens) s₁) :
  WalkO q loose XP YP l.row.toRowW d [] (fun f vs=>PySem.call f vs):=by
 intro w s₀ s₁ mg mb G Y fa o pm cd doc dV kV ho hd hcd hD hmg hg args vals as hpre hlay hrd hwl hlo;obtain rfl:dV=.none:=Dflts.none hD hdf;obtain rfl:kV=.none:=Dflts.noKw hD;obtain ⟨a,vs,ns,rfl,rfl,hobj,hints,hlen⟩:=zZ hn hpre hwl;refine enter_call (codeAny_mono (call w s₀ s₁ mg mb fa o pm cd doc a vs ns G Y ho (fd_plain hd) hcd hmg hobj hints hlen hg) fun r s' hq=>?_);obtain ⟨rfl,h2,h3,h4⟩:=hq;exact ⟨.inl ⟨.bool true,.bool true,[],rfl,fun _=>rfl,.bool true,A7 l _,fun _=>⟨List.Pairwise.nil,fun _ hm=>(nomatch hm)⟩⟩,h2,h3,h4⟩
section
variable {A:Around} {K:Frag}
end
end Att
namespace L2
open PySem PySem.Spec PyProof.Rows
theorem rW:∀ {vs:List Value} {ns:List Int},IntsAre vs ns->Vals (ns.map V.int) vs
 | _,_,.nil=>.nil
 | _,_,.cons n t h=>.cons ⟨t,rfl⟩ (rW h)
def Hr (H:Hp):Prop:=∀ b,H b=none\/(∃ o xs,H b=some (.frz o (.lst xs)))\/∃ q,H b=some (.tbl q)
def mJ (K:PySem.W.Frag) (h:Heap):Prop:=(∀ P q,TabOf K P q->h.get? P=some { cls:=.none,data:=.fields #[] }/\K.lookup P=none/\isCodeTable h P)/\∀ P q q',TabOf K P q->TabOf K P q'->q=q'
section
open Classical
def ky (K:PySem.W.Frag):Hp:=fun b=>if h:∃ q,TabOf K b q then some (.tbl h.choose) else none
theorem dj (K:PySem.W.Frag) (b:Addr):ky K b=none\/∃ q,TabOf K b q/\ky K b=some (.tbl q):=by
 unfold ky;split
 ·rename_i h;exact .inr ⟨_,h.choose_spec,rfl⟩
 ·exact .inl rfl
theorem rJ (hT:mJ K h) {P:Addr} {q:Str} (t:TabOf K P q):ky K P=some (.tbl q):=by
 rcases dj K P with e | ⟨q',t',e⟩
 ·unfold ky at e;rw [dif_pos ⟨q,t⟩] at e;cases e
 ·rw [e,hT.2 P q q' t t']
end
def nM (mg:Str->Option Value) (base:Heap):Prop:=∃ bm o,mg "__builtins__"=some (.ref bm)/\bm≠builtinsNs/\bm≠mainGlobals/\base.get? bm=some o/\o.cls=.type "module"/\o.dict=some builtinsNs/\o.data=.plain
theorem law_call {k:Nat} {fa:Addr} {s₁:Shared} {vs:List Value}
  (KX:K.In s₁.heap) (hns:s₁.heap.Ns mainGlobals mg) (hb:s₁.heap.Ns builtinsNs mb) (hbb:∀ x:Str,x≠"__name__"->mb x=bootBuiltins x) (hlim:s₁.heap.NoLimit) (hg:s₁.gens=#[])
  (ha:s₁.heap.get? a=some { cls:=.type "list",data:=.seq vs.toArray }) (hi:IntsAre vs ns) (hl:ns.length<=sizeLine) (hr:cx k callerA)
  (hBl:nM mg s₁.heap) (F:∀ base:Heap,K.In base->base.Ns mainGlobals mg->nM mg base->gM P w K mg base CX k fa fd [x] sp) (hbind:∀ (s:Shared) (u:Value),BindsTo s fd ⟨[u],[]⟩ [(x,u)])
  (hsp:∀ H:Hp,Hr H->SqL K H a (ns.map V.int)->sp [.ref a] H (fun v _=>v=.bl true) fun _ _ _=>False)
  (hCX:∀ H e s',CX [] H s₁ (fun _ _ _=>False) e s'->False) (hT:mJ K s₁.heap) :
  codeAny (model P w) callerA (.call (.ref fa) ⟨[.ref a],[]⟩) (fun r s'=>r=.ok (.ret (.bool true))/\OldK s₁.heap s'.heap/\s'.os=s₁.os/\AllBare s'.gens) s₁:=by
 have rv:=rW hi;have lenV:=hi.length
 -- from an abstract heap in which nothing but the script may be tracked
 have core:∀ H:Hp,Hr H->SqL K H a (ns.map V.int)->HOk P w H s₁.heap->(∀ b,H b≠none->b=a\/∃ q,TabOf K b q)->(H a≠none->K.lookup a=none)->(∀ P q,TabOf K P q->H P=some (.tbl q)) ->
   codeAny (model P w) callerA (.call (.ref fa) ⟨[.ref a],[]⟩) (fun r s'=>r=.ok (.ret (.bool true))/\OldK s₁.heap s'.heap/\s'.os=s₁.os/\AllBare s'.gens) s₁:=by
  intro H hO hS hok hA hK hTb;have base_of:∀ {b:Addr} {o:Obj},s₁.heap.get? b=some o->H b=none->(qR s₁.heap H).get? b=some o:=fun e n=>Cy e n
  have noA:∀ {b:Addr} {o:Obj} {es:Array DictEntry} {ep:Nat},s₁.heap.get? b=some o->o.data=.dict es ep->H b=none:=fun {b o es ep} e d=>by
   cases q:H b with
   | none=>rfl
   | some u =>
    rcases hA b (by rw [q];simp) with e' | ⟨qq,e'⟩
    case inr=>rw [(hT.1 b qq e').1] at e;cases e;cases d
    subst e';rw [ha] at e;cases e;have d':Data.seq vs.toArray _=Data.dict es ep:=d;cases d'
  have nsK:∀ {b:Addr} {m:Str->Option Value},s₁.heap.Ns b m->(qR s₁.heap H).Ns b m:=fun {b m} qz2=>(by obtain ⟨o,es,ep,e,d,r⟩:=qz2;exact ⟨o,es,ep,base_of e (noA e d),d,r⟩)
  have hKb:K.In (qR s₁.heap H):=fun b o e=>base_of (KX b o e) (by
   cases q:H b with
   | none=>rfl
   | some u =>
    rcases hA b (by rw [q];simp) with e' | ⟨qq,e'⟩
    case inr=>rw [(hT.1 b qq e').2.1] at e;cases e
    subst e';rw [hK (by rw [q];simp)] at e;cases e)
  have hM:Mod K mg (qR s₁.heap H):=⟨hKb,nsK hns,⟨mb,nsK hb,hbb⟩,let ⟨mc,h1,h2⟩:=hlim;⟨mc,nsK h1,h2⟩⟩
  have e0:uu P w K mg (qR s₁.heap H) callerA [] s₁ H:=⟨rfl,hM,fun b o e=>Fb e,Nat.le_of_eq (AR _ _),trivial,fun b hb=>absurd (show b∈([]:List Addr) from hb) (by simp),hok,.of_eq hg,hTb⟩
  have hBb:nM mg (qR s₁.heap H):=by
   obtain ⟨bm,ob,b1,b2,b3,b4,b5,b6,b7⟩:=hBl;refine ⟨bm,ob,b1,b2,b3,base_of b4 ?_,b5,b6,b7⟩;cases q:H bm with
   | none=>rfl
   | some u =>
    rcases hA bm (by rw [q];simp) with e' | ⟨qq,e'⟩
    case inr=>rw [(hT.1 bm qq e').1] at b4;cases b4;cases b5
    subst e';rw [ha] at b4;cases b4;simp at b5
  refine codeAny_mono ((F _ hKb (nsK hns) hBb).run callerA [] s₁ H ⟨[.ref a],[]⟩ [.ref a] [.ref a] _ _ hr e0 (hbind s₁ (.ref a)) (.cons rfl .nil) (hsp H hO hS)) fun r s' h=>?_
  cases r with
  | error e=>exact (hCX H e s' h).elim
  | ok fl =>
   cases fl with
   | next=>exact False.elim h
   | brk=>exact False.elim h
   | cont=>exact False.elim h
   | ret u =>
    obtain ⟨v,H',os,bare,un,hok',r',q⟩:=h;have q':v=.bl true:=q;subst q';obtain rfl:u=Value.bool true:=r';have old:∀ b o,s₁.heap.get? b=some o->s'.heap.get? b=some o\/(isCodeTable s₁.heap b/\o.cls=.none/\∃ vs more,o.data=.fields vs/\s'.heap.get? b=some { o with data:=.fields (vs++more) }):=fun b o e=>?old
    case old =>
     cases q:H b with
     | none=>exact .inl <| un.keep b o e q (by intro z;exact absurd (show b∈([]:List Addr) from z) (by simp)) (by simp)
     | some u =>
      rcases hO b with z | ⟨ob,xs,z⟩ | ⟨qq,z⟩
      ·rw [q] at z;cases z
      ·have z2:=un.frzs b ob _ z;obtain ⟨e1,_⟩:=hok b _ z;obtain ⟨e2,_⟩:=hok' b _ z2;rw [e] at e1;cases e1;exact .inl e2
      ·have z2:=un.tbls b qq z;obtain ⟨ps,e2,_⟩:=hok' b _ z2;rcases hA b (by rw [z];simp) with e' | ⟨q2,e'⟩
       ·obtain ⟨ps0,e3,_⟩:=hok b _ z;rw [e'] at e3;rw [ha] at e3;cases e3
       ·obtain ⟨e3,_,e4⟩:=hT.1 b q2 e';rw [e] at e3;cases e3;exact .inr ⟨e4,rfl,#[],ps,rfl,by simpa using e2⟩
    exact ⟨rfl,⟨fun b o e=>(old b o e).imp id fun z=>.inl z,fun b o e=>by rcases old b o e with z | ⟨_,_,_,_,_,z⟩ <;> exact ⟨_,z⟩⟩,os,bare⟩
 have tok:∀ b q,TabOf K b q->dg P w (fun _=>none) s₁.heap b (.tbl q):=fun b q t=>⟨#[],(hT.1 b q t).1,trivial,fun pos cv z=>nomatch z⟩
 have tokH:∀ (H:Hp) b q,TabOf K b q->dg P w H s₁.heap b (.tbl q):=fun H b q t=>⟨#[],(hT.1 b q t).1,trivial,fun pos cv z=>nomatch z⟩
 have na:∀ q,¬ TabOf K a q:=fun q t=>by have:=(hT.1 a q t).1;rw [ha] at this;cases this
 cases hk:K.lookup a with
 | some o =>
  have e:=KX a o hk;rw [ha] at e;cases e;refine core (ky K) (fun b=>(dj K b).imp id fun qz0=>(by obtain ⟨q,_,e⟩:=qz0;exact .inr ⟨q,e⟩)) (.inr ⟨_,vs.toArray,_,hk,rfl,rfl,rfl,by rw [LO,lenV];exact hl,by simpa using rv⟩) (fun b u z=>?_) (fun b z=>?_) (fun z=>?_) fun P q t=>rJ hT t
  ·rcases dj K b with e | ⟨q,t,e⟩
   ·rw [z] at e;cases e
   ·rw [z] at e;cases e;exact tokH _ b q t
  ·rcases dj K b with e | ⟨q,t,e⟩
   ·exact absurd e z
   ·exact .inr ⟨q,t⟩
  ·rcases dj K a with e | ⟨q,t,e⟩
   ·exact absurd e z
   ·exact absurd t (na q)
 | none =>
  have eT:∀ b,b≠a->(fun b=>if b=a then some (HO.frz { cls:=.type "list",data:=.seq vs.toArray } (.lst (ns.map V.int))) else ky K b) b=ky K b:=fun b h=>if_neg h
  have eA:(fun b=>if b=a then some (HO.frz { cls:=.type "list",data:=.seq vs.toArray } (.lst (ns.map V.int))) else ky K b) a=some (HO.frz { cls:=.type "list",data:=.seq vs.toArray } (.lst (ns.map V.int))):=if_pos rfl;refine core (fun b=>if b=a then some (.frz { cls:=.type "list",data:=.seq vs.toArray } (.lst (ns.map V.int))) else ky K b) (fun b=>?_) (.inl (.inr ⟨{ cls:=.type "list",data:=.seq vs.toArray },if_pos rfl⟩)) (fun b u z=>?_) (fun b z=>?_) (fun _=>hk) fun P q t=>?_
  ·by_cases hb:b=a
   ·exact .inr (.inl ⟨_,_,if_pos hb⟩)
   ·rw [eT b hb];exact (dj K b).imp id fun qz0=>(by obtain ⟨q,_,e⟩:=qz0;exact .inr ⟨q,e⟩)
  ·by_cases hb:b=a
   ·subst hb;rw [eA] at z;cases z;exact ⟨ha,by rw [L3];exact hl,vs,_,rv,ha⟩
   ·rw [eT b hb] at z;rcases dj K b with e | ⟨q,t,e⟩
    · rw [z] at e;cases e
    · rw [z] at e;cases e;exact tokH _ b q t
  ·by_cases hb:b=a
   ·exact .inl hb
   ·rcases dj K b with e | ⟨q,t,e⟩
    · exact absurd ((if_neg hb).trans e) z
    · exact .inr ⟨q,t⟩
  ·exact (if_neg (fun z=>na q (by rw [<-z];exact t))).trans (rJ hT t)
abbrev KOf {K:PySem.W.Frag} {h:Heap} (_:K.In h):PySem.W.Frag:=K
theorem zM {l:PySem.W.OpenLaw} {n k:Nat} {d:DefRec} {K:Params->PySem.W.Frag} {CX:World->CXT} {sp:World->Sp}
  (hn:l.most=some n) (hn2:n<=sizeLine) (hdf:d.params.defaults=[]) (hr:cx k callerA)
  (hY:∀ (w:World) (h:Heap),YP w h->(K w.params).In h)
  (F:∀ (w:World) (mg:Str->Option Value) (fa:Addr) (h:Heap),(K w.params).In h->h.Ns mainGlobals mg->mg d.name=some (.ref fa) ->
   ∃ fd:FuncData,(∀ (s:Shared) (u:Value),BindsTo s fd ⟨[u],[]⟩ [(x,u)]) /\
    ∀ base:Heap,(K w.params).In base->base.Ns mainGlobals mg->nM mg base->gM l.prog w (K w.params) mg base (CX w) k fa fd [x] (sp w))
  (hsp:∀ (w:World) (H:Hp) (a:Addr) (ns:List Int),ns.length<=n->Hr H->SqL (K w.params) H a (ns.map V.int)->sp w [.ref a] H (fun v _=>v=.bl true) fun _ _ _=>False)
  (hCX:∀ (w:World) (H:Hp) (s:Shared) (e:Value) (s':Shared),CX w [] H s (fun _ _ _=>False) e s'->False) (hTb:∀ (w:World) (h:Heap) (loose':List Str) (mean:ExcName->Option Value) (mg mb:Str->Option Value),PyProof.Rows.Top q loose' mean mg mb h->(K w.params).In h->mJ (K w.params) h) :
  PySem.W.WalkO q loose XP YP l.row.toRowW d [] (fun f vs=>PySem.call f vs):=by
 refine Att.wy hn hdf fun w s₀ s₁ mg mb fa o pm cd doc a vs ns G Y ho hd hcd hmg hobj hints hlen hg=>?_
 have KX:=hY w _ Y;obtain ⟨fd,hb,hF⟩:=F w mg fa _ KX G.T.g hmg;exact law_call KX G.T.g G.T.b G.T.builtins G.T.nolimit hg hobj hints (Mv hlen hn2) hr (by obtain ⟨bm,ob,M⟩:=PySem.W.bmod_of_top G.T;exact ⟨bm,ob,M.name,M.ne,(fun z=>by obtain ⟨o,es,ep,e1,e2,_⟩:=M.ns;rw [<-z,M.obj] at e1;cases e1;rw [M.data] at e2;cases e2),M.obj,M.cls,M.dict,M.data⟩) hF hb (fun H hO hS=>hsp w H a ns hlen hO hS) (fun H e s'=>hCX w H s₁ e s') (hTb w _ _ _ _ _ G.T KX)
def inClass (s:Stmt) (j:Nat):Stmt:=match s with
 | .ClassDef _ _ _ body _ _ _ _ _ _ _=>body.getD j (.Pass ⟨0,0,0,0⟩)
 | _=>.Pass ⟨0,0,0,0⟩
def fk (s:Stmt):Arguments:=match s with
 | .FunctionDef _ a _ _ _ _ _ _ _ _=>a
 | _=>{ posonlyargs:=[],args:=[],vararg:=none,kwonlyargs:=[],kw_defaults:=[],kwarg:=none,defaults:=[] }
def cm (s:Stmt):List Stmt:=match s with
 | .FunctionDef _ _ b _ _ _ _ _ _ _=>b
 | _=>[]
def aE (s:Stmt):Scope:=match s with
 | .FunctionDef _ _ _ _ _ _ sc _ _ _=>sc
 | _=>{ kind:=.function,names:=[],isGenerator:=false,isCoroutine:=false }
abbrev CX0:CXT:=fun _ _ _ _ _ _=>False
abbrev E0:XK:=fun _ _ _=>False
theorem Kn:Passes CX0 X E0:=fun _ _ _ _ _ _ _ h=>h.elim
structure Fun (K:PySem.W.Frag) (x qual:Str) (st:Stmt) (f:Addr) (fd:FuncData):Prop where
 ex:∃ (oc:Value) (od:Option Addr) (kV doc pm:Value) (an:Option Addr) (cdv ct:Value) (osl:Array (Option Value)),
  fd=PySem.W.fnOf x qual (fk st) (cm st) (aE st) .none kV doc pm an cdv ct/\K.lookup f=some ⟨oc,od,.func fd,osl⟩/\PySem.W.codeIn K cdv qual=true
 kp:PySem.W.keepIn K (.ref f)=true
section
theorem Fun.ok {k:Nat} (F:Fun K x qual st f fd) (S:cX N ps (aE st)) (len:∀ vs H Q E,sp vs H Q E->vs.length=ps.length)
  (hbody:∀ (cdv:Value) (A:Around) (outer:List Env) (s:Shared) (H:Hp) (vs:List V) (Q:VK) (E:XK),cx k (A.deeper (envOfC qual (aE st) s.heap.objs.size f cdv))->sp vs H Q E ->
   ∃ t,PSs (cZ CX0 P w K mg base N qual (aE st) f cdv A outer s H E).nox (cm st) t/\t { nx:=fun _ H'=>Q .non H',rt:=Q } (start N vs) H):gM P w K mg base CX0 (k+1) f fd ps sp:=by
 obtain ⟨oc,od,kV,doc,pm,an,cdv,ct,osl,rfl,lk,hcd⟩:=F.ex;refine Bz lk hcd S len fun A outer s H vs Q E hr hsp=>?_
 obtain ⟨t,h,q⟩:=hbody cdv A outer s H vs Q E hr hsp;exact ⟨t,h.nox,q⟩
theorem Fun.binds (F:Fun K x qual st f fd)
  (h:∀ (kV doc pm:Value) (an:Option Addr) (cdv ct:Value) (us:List Value),us.length=ps.length->bindArgs (PySem.W.fnOf x qual (fk st) (cm st) (aE st) .none kV doc pm an cdv ct) ⟨us,[]⟩=pure (ps.zip us)):Binds K fd ps []:=by
 obtain ⟨oc,od,kV,doc,pm,an,cdv,ct,osl,rfl,lk,hcd⟩:=F.ex;exact .all (h kV doc pm an cdv ct)
theorem xW {kV doc cdv:Value} (l:K.lookup f=some ⟨oc,od,.func (PySem.W.fnOf x qual (fk st) (cm st) (aE st) .none kV doc pm an cdv ct),osl⟩)
 (c:PySem.W.codeIn K cdv qual=true) (k:PySem.W.keepIn K (.ref f)=true):Fun K x qual st f (PySem.W.fnOf x qual (fk st) (cm st) (aE st) .none kV doc pm an cdv ct):=⟨⟨oc,od,kV,doc,pm,an,cdv,ct,osl,rfl,l,c⟩,k⟩
end
section
theorem pv (i:Nat) (hN:X.N[i]?=some x:=by rfl) (hv:Vis X.env.scope x:=by first | exact Or.inl rfl | exact Or.inr (Or.inl rfl) | exact Or.inr (Or.inr rfl)) (hd:(x==("__debug__":Str))=false:=by decide)
 (hcd:(x==("__classdict__":Str))=false:=by decide):PE X (.Name x pos) (J7 i):=kG hN hv hd hcd
end
theorem Ko {c A B:Prop} [Decidable c] (h1:c->A) (h2:¬ c->B):if c then A else B:=by
 by_cases h:c
 ·rw [if_pos h];exact h1 h
 ·rw [if_neg h];exact h2 h
def ax (H H':Hp):Prop:=∀ b o,H b=some o->H' b=some o
theorem ax.refl (H:Hp):ax H H:=fun _ _ h=>h
theorem ax.trans {H2:Hp} (a:ax H H1) (b:ax H1 H2):ax H H2:=fun c o h=>b c o (a c o h)
theorem ax.free (e:ax H H') {l:Addr} (h:H' l=Option.none):H l=Option.none:=by
 cases q:H l with
 | none=>rfl
 | some o =>rw [e l o q] at h;cases h
theorem ax.seq (e:ax H H') (h:SqL K H a xs):SqL K H' a xs:=by
 rcases h with (h | ⟨o,h⟩) | h
 ·exact .inl (.inl (e _ _ h))
 ·exact .inl (.inr ⟨o,e _ _ h⟩)
 ·exact .inr h
end L2
set_option maxHeartbeats 4000000
namespace L2
open PySem PySem.Spec PyProof.Rows
variable {t:Addr} {g:TG} {f:PyData->PyData->Option PyData} {es:List Expr} {e:Expr} {E:XK}
def m9:List (Str×NameKind)->List (Str×Addr)->List (Str×Addr)->List (Str×Addr)
 | [],_,acc=>acc
 | (n,k)::r,cells,acc=>m9 r cells (if k==.free then (match cells.lookup n with | some c=>(n,c)::acc | none=>acc) else acc)
theorem i7 (env:Env):∀ (names:List (Str×NameKind)) (acc:List (Str×Addr)),(∀ y∈names,y.2=.free->∃ c,env.cells.lookup y.1=some c) ->
  (forIn names acc (fun (x:Str×NameKind) (cs:List (Str×Addr))=>match x with
   | (name,kind)=>if (kind==NameKind.free)=true then do let c <-cellOf env name;pure (ForInStep.yield ((name,c)::cs)) else pure (ForInStep.yield cs)):Sem (List (Str×Addr)))=pure (m9 names env.cells acc)
 | [],acc,_=>rfl
 | (n,k)::r,acc,h=>by
  rw [Nd];have hr:∀ y∈r,y.2=.free->∃ c,env.cells.lookup y.1=some c:=fun y hy=>h y (L4 _ hy)
  dsimp only [m9];by_cases hk:k=.free
  ·subst hk;obtain ⟨c,hc⟩:=h (n,.free) L6 rfl;have hc':env.cells.lookup n=some c:=hc;have e:cellOf env n=pure c:=by unfold cellOf;rw [hc']
   rw [if_pos (show (NameKind.free==NameKind.free)=true by decide),if_pos (show (NameKind.free==NameKind.free)=true by decide),e,hc'];exact i7 env r ((n,c)::acc) hr
  ·have hb:¬ (k==NameKind.free)=true:=by simpa using hk
   rw [if_neg hb,if_neg hb];exact i7 env r acc hr
theorem jt (h:∀ y∈scope.names,y.2=.free->∃ c,env.cells.lookup y.1=some c):closureFor scope env=pure (m9 scope.names env.cells []):=by have e:=i7 env scope.names [] h;unfold closureFor;rw [<-bind_pure (forIn scope.names [] _)] at e;exact e
theorem pC:∀ (names:List (Str×NameKind)) (cells acc:List (Str×Addr)) (x:Str) (c:Addr),(∀ x c,acc.lookup x=some c->cells.lookup x=some c)->(m9 names cells acc).lookup x=some c->cells.lookup x=some c
 | [],_,_,x,c,h,e=>h x c e
 | (n,k)::r,cells,acc,x,c,h,e=>by
  refine pC r cells _ x c (fun y d hy=>?_) e;split at hy
  ·split at hy
   ·rename_i c' hc';rw [M5] at hy;by_cases hyn:(y==n)=true
    ·rw [hyn] at hy;have hy':y=n:=eq_of_beq hyn;subst hy';cases hy;exact hc'
    ·have:(y==n)=false:=by simpa using hyn
     rw [this] at hy;exact h y d hy
   ·exact h y d hy
  ·exact h y d hy
theorem rh:∀ (names:List (Str×NameKind)) (cells acc:List (Str×Addr)) (x:Str),(∃ c,acc.lookup x=some c)->∃ c,(m9 names cells acc).lookup x=some c
 | [],_,_,_,h=>h
 | (n,k)::r,cells,acc,x,h=>by
  refine rh r cells _ x ?_;split
  ·split
   ·rw [M5];cases (x==n)
    ·exact h
    ·exact ⟨_,rfl⟩
   ·exact h
  ·exact h
theorem lq:∀ (names:List (Str×NameKind)) (cells acc:List (Str×Addr)) (x:Str) (c:Addr),(x,NameKind.free)∈names->cells.lookup x=some c->∃ c,(m9 names cells acc).lookup x=some c
 | [],_,_,_,_,h,_=>by simp at h
 | (n,k)::r,cells,acc,x,c,h,e=>by
  rcases L7.mp h with h | h
  ·injection h with h1 h2
   subst h1;subst h2;refine rh r cells _ x ?_;rw [if_pos (by decide),e];exact ⟨c,by simp [M5]⟩
  ·exact lq r cells _ x c h e
def blk (X:Cx) (M:List Str) (scope:Scope) (own:List Str) (C:Addr) (s2:Shared) (H2:Hp) (fp:List Addr):Cx where
 prog:=X.prog
 w:=X.w
 K:=X.K
 mg:=X.mg
 base:=X.base
 A:=X.A
 N:=M++own
 s₀:=s2
 H₀:=H2
 env:=compEnvC scope (m9 scope.names X.env.cells []) C X.env
 outer:=X.stack
 stack:=X.stack
 ex:=fp
 fn:=fun _=>false
 calm:=X.calm
 pn:=[]
 xe:=fun _ _=>False
structure jM (X:Cx) (M:List Str) (scope:Scope) (own:List Str):Prop where
 kind:scope.kind=.function
 nocell:∀ y∈scope.names,y.2≠.cell
 names:∀ y∈scope.names,y.2=.local->scope.names.lookup y.1=some .local
 free:∀ y∈scope.names,y.2=.free->Vis X.env.scope y.1/\X.env.scope.names.lookup y.1≠some .local
 own:∀ x∈own,scope.names.lookup x=some .local
 outer:∀ p∈X.N.zip M,(p.1=p.2/\scope.names.lookup p.2≠some .local)\/scope.names.lookup p.2=none
 len:M.length=X.N.length
def sy (N M:List Str) (osc scope:Scope) (own:List Str):Bool :=
 (scope.kind==.function)&&scope.names.all (fun y=>y.2 != .cell)&&scope.names.all (fun y=>y.2 != .local || scope.names.lookup y.1==some .local) &&
 scope.names.all (fun y=>y.2 != .free || (osc.names.lookup y.1==some .cell || osc.names.lookup y.1==some .free)) &&
 own.all (fun x=>scope.names.lookup x==some .local)&&(N.zip M).all (fun p=>(p.1==p.2&&scope.names.lookup p.2 != some .local) || scope.names.lookup p.2==none)&&(M.length==N.length)
theorem jM.of (h:sy X.N M X.env.scope scope own=true):jM X M scope own:=by
 unfold sy at h;simp only [L8,LU,Bool.or_eq_true,bne_iff_ne,beq_iff_eq,ne_eq] at h;obtain ⟨⟨⟨⟨⟨⟨h1,h2⟩,h3⟩,h4⟩,h5⟩,h6⟩,h7⟩:=h;refine ⟨h1,h2,fun y hy e=>(h3 y hy).resolve_left fun z=>z e,fun y hy e=>?_,h5,h6,h7⟩;rcases (h4 y hy).resolve_left fun z=>z e with q | q
 ·exact ⟨.inr (.inl q),by rw [q];intro z;cases z⟩
 ·exact ⟨.inr (.inr q),by rw [q];intro z;cases z⟩
theorem eB {env:Env}:∀ {names:List (Str×NameKind)} {x:Str} {k:NameKind},
  (names.map fun (n,k)=>if (k==NameKind.free&&env.scope.kind==.function&&env.kindOf n==some .cell) then (n,NameKind.cell) else (n,k)).lookup x=some k->(k=.cell\/k=.free)->(∀ y∈names,y.2≠.cell)->(x,NameKind.free)∈names
 | [],_,_,h,_,_=>by simp at h
 | (n,k')::r,x,k,h,hk,hn=>by
  have hr:∀ y∈r,y.2≠NameKind.cell:=fun y hy=>hn y (L4 _ hy)
  rw [L5,M5] at h;by_cases hc:(k'==NameKind.free&&env.scope.kind==.function&&env.kindOf n==some .cell)=true
  ·have hf:k'=.free:=by have:=hc;simp only [L8] at this;exact eq_of_beq this.1.1
   simp only [if_pos hc] at h;cases hx:x==n with
   | true =>have:x=n:=eq_of_beq hx;subst this;subst hf;exact L6
   | false =>rw [hx] at h;exact L4 _ (eB h hk hr)
  ·simp only [if_neg hc] at h;cases hx:x==n with
   | true =>
    rw [hx] at h;have e:k'=k:=Option.some.inj h;have:x=n:=eq_of_beq hx;subst this;subst e;rcases hk with hk | hk
    ·exact absurd hk (hn _ L6)
    ·subst hk;exact L6
   | false =>rw [hx] at h;exact L4 _ (eB h hk hr)
theorem ee {env:Env}:∀ {names:List (Str×NameKind)} {x:Str} {k:NameKind},
  (names.map fun (n,k)=>if (k==NameKind.free&&env.scope.kind==.function&&env.kindOf n==some .cell) then (n,NameKind.cell) else (n,k)).lookup x=some k->(∃ k0,names.lookup x=some k0/\(k=k0\/(k=.cell/\k0=.free)))
 | [],_,_,h=>by simp at h
 | (n,k')::r,x,k,h=>by
  rw [L5,M5] at h;rw [M5];by_cases hc:(k'==NameKind.free&&env.scope.kind==.function&&env.kindOf n==some .cell)=true
  ·have hf:k'=.free:=by have:=hc;simp only [L8] at this;exact eq_of_beq this.1.1
   simp only [if_pos hc] at h;cases hx:x==n with
   | true =>rw [hx] at h;exact ⟨k',rfl,.inr ⟨(Option.some.inj h).symm,hf⟩⟩
   | false =>rw [hx] at h;exact ee h
  ·simp only [if_neg hc] at h;cases hx:x==n with
   | true =>rw [hx] at h;exact ⟨k',rfl,.inl (Option.some.inj h).symm⟩
   | false =>rw [hx] at h;exact ee h
section
variable {H2:Hp} {s2:Shared}
theorem Inv.blk {h1:Heap} (I:Inv X pins σ H2 s2) (B:jM X M scope own) (hf:∀ b∈fp,qp X pins H2 b) (hfs:∀ b∈fp,b<s2.heap.objs.size)
  (hD:D=s2.heap.objs.size) (hC:C=s2.heap.objs.size+1) (hl:h1.get? D=some { cls:=.type "list",data:=.seq ([]:List Value).toArray 0 })
  (hn:h1.Ns C (fun _=>none)) (hk:∀ b o,s2.heap.get? b=some o->h1.get? b=some o) :
  Inv (L2.blk X M scope own C s2 H2 fp) [] (σ++List.replicate own.length none) (upd H2 D (.lst [])) { s2 with heap:=h1,toks:=t' }:=by
 have hcl:∀ x c,(m9 scope.names X.env.cells []).lookup x=some c->X.env.cells.lookup x=some c:=fun x c e=>pC _ _ _ _ _ (fun _ _ z=>by simp at z) e
 have hlt:∀ x c,(m9 scope.names X.env.cells []).lookup x=some c->c<s2.heap.objs.size:=fun x c e=>by obtain ⟨v,q⟩:=I.cell x c (hcl x c e);exact q.lt
 have freeD:H2 D=none:=I.hok.fresh (by rw [hD];exact LK _);have freeC:H2 C=none:=I.hok.fresh (by rw [hC];exact N8 _);have hCD:C≠D:=by rw [hC,hD];exact Nat.succ_ne_self _
 have hu:Un (frs X.stack) fp H2 (upd H2 D (.lst [])) s2.heap h1:=Un.laid hk (by rw [hD];exact LK _) freeD;refine ⟨⟨I.ok.mod,?_,I.ok.glob,I.ok.blt,?_,?_,?_,?_,I.ok.hd,I.ok.frames,.inl rfl,?_,I.bs,Mv I.ok.bsz I.sz,?_,?_,I.stack,I.stkFree⟩,rfl,I.bare,hu,?_,?_,?_,?_,?_,?_,?_,fun P q t=>hu.tbls P q (I.tab P q t)⟩
 ·exact B.kind
 ·show s2.heap.objs.size<=C;rw [hC];exact N8 _
 ·intro x y c e1 e2;exact I.ok.inj x y c (hcl x c e1) (hcl y c e2)
 ·intro x hx;have hm:(x,NameKind.free)∈scope.names:=by
   rcases hx with hx | hx
   ·exact eB hx (.inl rfl) B.nocell
   ·exact eB hx (.inr rfl) B.nocell
  obtain ⟨hv,hnl⟩:=B.free _ hm rfl;have hh:X.env.kindOf x=some .cell\/X.env.kindOf x=some .free:=by
   rcases hv with z | z | z
   ·exact absurd z hnl
   ·exact .inl z
   ·exact .inr z
  obtain ⟨c,e⟩:=I.ok.has x hh;exact lq _ _ _ x c hm e
 ·intro x c hfn _;exact absurd (show false=true from hfn) (by decide)
 ·intro b hb;refine ⟨?_,fun x c e z=>?_⟩
  ·show b≠C;rw [hC];exact LR (Mx (hfs b hb))
  ·exact (hf b hb).2.2.2.2.1 x c (hcl x c e) z
 ·intro b o e hb;obtain ⟨_,_,_,f3,_⟩:=hf b hb;rcases f3 with z | z
  ·exact I.ok.noex b o e z
  ·exact absurd (LV (LN (I.ok.bs b o e).1) z) (ML _)
 ·intro b hb hs;obtain ⟨_,f1,f2,_⟩:=hf b hb;rcases L7.mp (I.stkSub b hs) with z | z
  ·exact f1 z
  ·exact f2 z
 ·refine ⟨_,hn,fun i x v e1 e2 e3=>?_⟩;have hi:i<σ.length:=by
   by_cases hi:i<σ.length
   ·exact hi
   ·rw [M6 (by omega),Nj] at e2;split at e2 <;> cases e2
  rw [M3 hi] at e2;have hiN:i<X.N.length:=by rw [<-I.len];exact hi
  have hiM:i<M.length:=by rw [B.len];exact hiN
  have e1M:M[i]?=some x:=by
   have:(M++own)[i]?=some x:=e1
   rwa [M3 hiM] at this
  obtain ⟨y,ey⟩:∃ y,X.N[i]?=some y:=⟨_,L1 hiN⟩
  have hz:(y,x)∈X.N.zip M:=Mi (i:=i) (by rw [List.getElem?_zip_eq_some];exact ⟨ey,e1M⟩);have hin:∃ k,scope.names.lookup x=some k:=by
   rcases e3 with z | z | z
   ·obtain ⟨k0,hk0,_⟩:=ee (show _=some NameKind.local from z);exact ⟨k0,hk0⟩
   ·obtain ⟨k0,hk0,_⟩:=ee (show _=some NameKind.cell from z);exact ⟨k0,hk0⟩
   ·obtain ⟨k0,hk0,_⟩:=ee (show _=some NameKind.free from z);exact ⟨k0,hk0⟩
  have hout:y=x/\scope.names.lookup x≠some .local:=by
   rcases B.outer _ hz with q | q
   ·exact q
   ·obtain ⟨k,hk⟩:=hin;rw [q] at hk;cases hk
  have e1':X.N[i]?=some x:=by rw [<-hout.1];exact ey
  have hx:(relabel scope X.env).names.lookup x=some .cell\/(relabel scope X.env).names.lookup x=some .free:=by
   rcases e3 with z | z
   ·obtain ⟨k0,hk0,hk⟩:=ee (show _=some NameKind.local from z);rcases hk with hk | ⟨hk,_⟩
    ·subst hk;exact absurd hk0 hout.2
    ·cases hk
   ·exact z
  have hm:(x,NameKind.free)∈scope.names:=by
   rcases hx with hx | hx
   ·exact eB hx (.inl rfl) B.nocell
   ·exact eB hx (.inr rfl) B.nocell
  obtain ⟨hv,hnl⟩:=B.free _ hm rfl;obtain ⟨m,_,hl'⟩:=I.loc;obtain ⟨u,r,l⟩:=hl' i x v e1' e2 hv;refine ⟨u,r,.inr ⟨hx,?_⟩⟩;rcases l with ⟨z,_⟩ | ⟨_,c,hc,z⟩
  ·exact absurd z hnl
  ·obtain ⟨c',hc'⟩:=lq scope.names X.env.cells [] x c hm hc;have:=hcl x c' hc';rw [hc] at this;cases this;exact ⟨c,hc',z.keeps hk⟩
 ·intro x c e;obtain ⟨v,q⟩:=I.cell x c (hcl x c e);exact ⟨v,q.keeps hk⟩
 ·show upd H2 D (.lst []) C=none;rw [aA hCD];exact freeC
 ·intro x c e;have h1:=hlt x c e;rw [aA (by rw [hD];exact LR h1)];exact I.freeC x c (hcl x c e)
 ·intro p hp;exact absurd (show p∈([]:List (Addr×Obj))++[] from hp) (by simp)
 ·exact I.hok.laid hk (by rw [hD];exact LK _) ⟨Mw _,[],0,.nil,hl⟩
 ·show (σ++List.replicate own.length none).length=(M++own).length;rw [LL,LL,List.length_replicate,I.len,B.len]
theorem Inv.unblk {σ':St} (I:Inv X pins σ H2 s2) (hf:∀ b∈fp,qp X pins H2 b) (hCs:s2.heap.objs.size<=C)
  (J:Inv (L2.blk X M scope own C s2 H2 fp) [] σ' H' s') (hs:Heap.SameBut C s'.heap h'):Inv X pins σ H' { s' with heap:=h' }:=by
 have hC:H' C=none:=J.free;have k:∀ b o,b≠C->s'.heap.get? b=some o->h'.get? b=some o:=fun b o hb e=>(hs.2 b hb).trans e
 have old:∀ b o,s2.heap.get? b=some o->b≠C:=fun b o e=>LR (LV (LN e) hCs)
 have u:Un (frs X.stack) fp H2 H' s2.heap s'.heap:=J.base;refine I.call' (s':={ s' with heap:=h' }) (ch:=fp) J.os ?_ ?_ J.bare fun b hb=>?_
 ·refine ⟨fun b o e n h1 h2=>k b o (old b o e) (u.keep b o e n h1 h2),fun b o e n h1 h2=>?_,u.free,fun b o e h1=>?_,u.tups,u.frzs,u.tbls⟩
  ·obtain ⟨sl,q⟩:=u.slot b o e n h1 h2;exact ⟨sl,k b _ (old b o e) q⟩
  ·obtain ⟨o',q⟩:=u.there b o e h1;exact ⟨o',k b o' (old b o e) q⟩
 ·intro b o e;refine (J.hok b o e).stay (fun c v hc q=>k c v ?_ q) (fun _ q=>q) fun _ _ q=>q
  rintro rfl
  rcases hc with z | z
  ·subst z;rw [hC] at e;cases e
  ·rw [hC] at z;cases z
 ·obtain ⟨f0,f1,f2,f3,f4,f5⟩:=hf b hb;exact ⟨f3,f1,f4,f5⟩
end
section
variable {A:Around} {R:Result->Shared->Prop}
theorem tq {target:Expr} {it acc:Value} (I:Nat->Shared->Prop)
  (turn:∀ n s,I n s->wpAny (model prog w) A (pyNext it) (fun r s₁=>match r with
   | none=>R (.ok .next) s₁
   | some v=>wpAny (model prog w) A (letOwnedTupleGo target it v) (fun _ s1'=>wpAny (model prog w) A (assign target env v) (fun _ s₂ =>
    wpAny (model prog w) A (forIn ifs true fun c r=>if r=true then do let ok <-isTrue c env (eval c env);pure (ForInStep.yield ok) else pure (ForInStep.yield r)) (fun ok s₃ =>
     if ok=true then wpAny (model prog w) A (eval elt env) (fun x s₄ =>
      wpAny (model prog w) A (call (.builtin "list.append") [acc,x]) (fun _ s₅=>∃ m,m<n/\I m s₅) (fun _ _=>False) s₄) (fun _ _=>False) s₃
     else ∃ m,m<n/\I m s₃) (fun _ _=>False) s₂) (fun _ _=>False) s1') (fun _ _=>False) s₁) (fun _ _=>False) s)
  (n:Nat) (h:I n s) :
  codeAny (model prog w) A (.compLoop (.ListComp elt [⟨target,iter,ifs,0⟩] scope pos) 0 it acc env) R s:=by
 refine codeAny_loop rfl I (fun n s hI=>?_) n h;show wpAny _ A ((compTurn (.ListComp elt [⟨target,iter,ifs,0⟩] scope pos) 0 it acc env).onRaise (fun x=>do noteFrame x env;theTreesLotGoes x)) _ _ s;refine wpAny_noted ?_;rw [compTurn_list];refine wpAny_bind (wpAny_standAt (wpAny_bind (wpAny_mono (turn n s hI) (fun r s₁ h₁=>?_) fun _ _ h'=>h'.elim)));cases r with
 | none=>exact wpAny_pure h₁
 | some v =>
  refine wpAny_bind (wpAny_mono h₁ (fun _ s1' h1'=>?_) fun _ _ h'=>h'.elim);refine wpAny_bind (wpAny_mono h1' (fun _ s₂ h₂=>wpAny_bind (wpAny_mono h₂ (fun ok s₃ h₃=>?_) fun _ _ h'=>h'.elim)) fun _ _ h'=>h'.elim);cases ok with
  | false=>exact wpAny_pure ⟨rfl,h₃⟩
  | true =>exact wpAny_bind (wpAny_bind (wpAny_mono h₃ (fun x s₄ h₄=>wpAny_bind (wpAny_mono h₄ (fun _ s₅ h₅=>wpAny_pure (wpAny_pure ⟨rfl,h₅⟩)) fun _ _ h'=>h'.elim)) fun _ _ h'=>h'.elim))
end
def vn:TT:=fun _ H Q=>Q true H
inductive PTs (X:Cx):List Expr->TT->Prop
 | nil:PTs X [] vn
 | one {c:Expr} {t:TT} (h:PT X c t):PTs X [c] t
theorem PTs.run {t:TT} (h:PTs X ifs t) {Q:Bool->Hp->Prop} (I:Inv X pins σ H s) (q:t σ H Q) :
  wpAny (model X.prog X.w) X.A (forIn ifs true fun c r=>if r=true then do let ok <-isTrue c X.env (eval c X.env);pure (ForInStep.yield ok) else pure (ForInStep.yield r)) (TP X pins σ Q) X.xe s:=by
 cases h with
 | nil=>exact wpAny_tests_nil ⟨H,I,q⟩
 | one h=>exact wpAny_tests_one (h pins s σ H Q I q)
def LCR (J:It) (n:Nat) (g:TG) (tt:TT) (te:TE) (σ:St) (H1:Hp) (Q:VK):Prop:=∀ D,H1 D=none->∃ W:Nat->Nat->List V->Hp->Prop,(∃ m,W 0 m [] (upd H1 D (.lst []))) /\
 ∀ i m ys H,W i m ys H->H D=some (.lst ys)/\((J.stop i H/\Q (.ref D) H)\/(J.go i H/\∀ x H' σ',σ'.length=n->J.yld i H x H'->g x (σ++σ') H' fun σ2 H2=>tt σ2 H2 fun b H3 =>
  if b=true then te σ2 H3 fun v H4=>H4 D=some (.lst ys)/\ys.length<sizeLine/\(∃ σ'',σ2=σ++σ''/\σ''.length=n)/\∃ m',m' < m/\W (i+1) m' (ys++[v]) (upd H4 D (.lst (ys++[v])))
  else (∃ σ'',σ2=σ++σ''/\σ''.length=n)/\∃ m',m' < m/\W (i+1) m' ys H3))
def tLC (n:Nat) (wi:TI) (g:TG) (tt:TT) (te:TE):TE:=fun σ H Q=>wi σ H fun J H1=>LCR J n g tt te σ H1 Q
theorem oS {wi:TI} {tt:TT} {te:TE} {use:Option (Value->Sem Unit)} {Qf:Value->Shared->Prop} (hc:X.calm=true) (hi:PI X tg iter wi)
  (hg:∀ C s2 H2 fp,PG (blk X M scope own C s2 H2 fp) tg g) (ht:∀ C s2 H2 fp,PTs (blk X M scope own C s2 H2 fp) ifs tt) (he:∀ C s2 H2 fp,PE (blk X M scope own C s2 H2 fp) elt te)
  (hB:sy X.N M X.env.scope scope own=true) (hs:∀ x,foldedSetIterable iter X.env x=pure x) {Q:VK} (I:Inv X pins σ H s) (h:tLC own.length wi g tt te σ H Q)
  (fin:∀ (C D:Addr) (s5:Shared) (H4:Hp),(∀ h',Heap.SameBut C s5.heap h'->Inv X pins σ H4 { s5 with heap:=h' })->(∃ m,s5.heap.Ns C m)->H4 C=none->C≠X.env.locals->(∀ x c,X.env.cells.lookup x=some c->c≠C)->(∀ p∈X.pn++pins,p.1≠C)->X.s₀.heap.objs.size<=C->Q (.ref D) H4 ->
   compPost (model X.prog X.w) X.A X.xe use Qf (.ref D) C (.ok .next) s5) :
  wpAny (model X.prog X.w) X.A (comprehension (.ListComp elt [⟨tg,iter,ifs,0⟩] scope pos) scope X.env cpos (newList []) false (eval iter X.env) use) Qf X.xe s:=by
 have B:jM X M scope own:=jM.of hB;have hclos:closureFor scope X.env=pure (m9 scope.names X.env.cells []):=jt fun y hy hf=>by
  obtain ⟨hv,hnl⟩:=B.free y hy hf;have hh:X.env.kindOf y.1=some .cell\/X.env.kindOf y.1=some .free:=by
   rcases hv with z | z | z
   ·exact absurd z hnl
   ·exact .inl z
   ·exact .inr z
  exact I.ok.has y.1 hh
 refine wpAny_comprehension_free (use:=use) rfl hs hclos B.kind B.names (thn (hi pins s σ H _ I h) fun v s1 h1=>thn h1 fun itv s2 h2=>?_);obtain ⟨it,fp,tn,J,H2,e,I2,T,st2,f2,hD⟩:=h2;subst e;have ffs:∀ b∈fp,b<s2.heap.objs.size:=fun b hb=>by obtain ⟨o,q,_⟩:=T.obj _ _ st2 b hb;exact LN q
 obtain ⟨W,⟨m0,w0⟩,turn⟩:=hD s2.heap.objs.size (I2.hok.fresh (LK _));refine wpAny_newObj_type (wpAny_newFunctionEnv B.nocell (by intro y hy;simp at hy) (fun h₁ hns₁ hsb₁=>?_) B.kind);dsimp only at hns₁ hsb₁ ⊢;generalize hG:s2.heap.push { cls:=.type "list",dict:=none,data:=.seq ([]:List Value).toArray }=G at hns₁ hsb₁ ⊢;have hC:G.objs.size=s2.heap.objs.size+1:=by rw [<-hG,Heap.size_push]
 have hk:∀ b o,s2.heap.get? b=some o->h₁.get? b=some o:=fun b o e=>hsb₁.extBut b o (by rw [hC];exact LR (Mx (LN e))) (L0 _ (hG▸L0 _ e))
 have hDC:s2.heap.objs.size≠G.objs.size:=by rw [hC];exact LR (MO _)
 have hl:h₁.get? s2.heap.objs.size=some { cls:=.type "list",data:=.seq ([]:List Value).toArray 0 }:=hsb₁.extBut _ _ hDC (L0 _ (hG▸LP _ rfl));have hns:h₁.Ns G.objs.size (fun _=>none):=by
  have e:(fun x=>([]:List (Str×Value)).reverse.lookup x)=fun _=>none:=by funext x;rfl
  rw [<-e];exact hns₁
 have I3:=fun t'=>I2.blk (t':=t') (C:=G.objs.size) (D:=s2.heap.objs.size) B f2 ffs rfl hC hl hns hk
 have stat:∀ {H':Hp},(∀ b∈fp,H' b=none)->∀ b∈fp,qp (blk X M scope own G.objs.size s2 H2 fp) [] H' b:=fun hn b hb=>by
  refine ⟨hn b hb,?_,?_,.inl hb,fun x c e z=>?_,fun p hp=>absurd (show p∈([]:List (Addr×Obj))++[] from hp) (by simp)⟩
  ·show b≠G.objs.size;rw [hC];exact LR (Mx (ffs b hb))
  ·exact (I3 0).ok.exfs b hb
  ·exact ((I3 0).ok.exf b hb).2 x c e z
 have loop:∀ s3:Shared,(∃ t',s3={ s2 with heap:=h₁,toks:=t' })->codeAny (model X.prog X.w) X.A (.compLoop (.ListComp elt [⟨tg,iter,ifs,0⟩] scope pos) 0 (.ref it) (.ref s2.heap.objs.size) (compEnvC scope (m9 scope.names X.env.cells []) G.objs.size X.env))
   (compPost (model X.prog X.w) X.A X.xe use Qf (.ref s2.heap.objs.size) G.objs.size) s3:=by
  rintro s3 ⟨t',rfl⟩
  refine tq (fun n s'=>∃ i ys σ' H',σ'.length=own.length/\Inv (blk X M scope own G.objs.size s2 H2 fp) [] (σ++σ') H' s'/\tn i s'.heap/\(∀ b∈fp,H' b=none)/\W i n ys H') ?_ m0
   ⟨0,[],_,_,by simp,I3 t',T.keep _ _ _ st2 fun b hb o e=>hk b o e,fun b hb=>by rw [aA (LR (ffs b hb))];exact (f2 b hb).1,w0⟩
  rintro n s4 ⟨i,ys,σ',H4,hl',I4,st4,fr4,w4⟩
  obtain ⟨hDl,alt⟩:=turn i n ys H4 w4;rcases alt with ⟨stop,qn⟩ | ⟨go,step⟩
  ·refine thn (T.done (blk X M scope own G.objs.size s2 H2 fp) rfl rfl rfl hc i [] s4 _ H4 _ I4 (stat fr4) st4 stop) fun r s5 rz2=>?_
   obtain ⟨hr,I5⟩:=rz2;subst hr;obtain ⟨m,hn,_⟩:=I5.loc;have cS:s2.heap.objs.size<=G.objs.size:=by rw [hC];exact N8 _
   refine fin G.objs.size s2.heap.objs.size s5 H4 (fun h' hs'=>I2.unblk (C:=G.objs.size) f2 cS I5 hs') ⟨m,hn⟩ I5.free ?_ (fun x c e=>?_) (fun p hp=>?_) (Mv I2.sz cS) qn
   ·obtain ⟨_,hl0,_⟩:=I2.loc;exact My (LV hl0.lt cS)
   ·obtain ⟨_,q⟩:=I2.cell x c e;exact LR (LV q.lt cS)
   ·exact LR (LV (LN (I2.pin p hp).1) cS)
  ·refine thn (T.item (blk X M scope own G.objs.size s2 H2 fp) rfl rfl rfl hc i [] s4 _ H4 _ I4 (stat fr4) st4 go) fun r s5 rz2=>?_
   obtain ⟨u,hr,h5⟩:=rz2;subst hr;refine thn h5 fun _ s6 rz2=>?_
   obtain ⟨x,H6,I6,r6,y6,st6,fr6⟩:=rz2;have I6':=I6.pinned (stat fr6) (T.obj _ _ st6);have kp:∀ {σ7:St} {H7:Hp} {s7:Shared},Inv (blk X M scope own G.objs.size s2 H2 fp) ([]++pY fp s6.heap) σ7 H7 s7->tn (i+1) s7.heap/\∀ b∈fp,H7 b=none:=fun {σ7 H7 s7} I7=>by refine ⟨T.keep _ _ _ st6 fun b hb o e=>(I7.pin (b,o) (LJ _ (LJ _ (jc hb e)))).1,fun b hb=>?_⟩;obtain ⟨o,e,d⟩:=T.obj _ _ st6 b hb;exact (I7.pin (b,o) (LJ _ (LJ _ (jc hb e)))).2.1
   refine thn (hg _ _ _ _ _ s6 _ H6 x u _ I6' r6 (step x H6 σ' hl' y6)) fun _ s7 rz2=>?_
   obtain ⟨σ7,H7,I7,q7⟩:=rz2;refine thn ((ht _ _ _ _).run I7 q7) fun ok s8 rz2=>?_
   obtain ⟨H8,I8,q8⟩:=rz2;cases ok with
   | false =>
    obtain ⟨⟨σ'',e,l''⟩,m',hm,w8⟩:=(show if false=true then _ else _ from q8)
    subst e;obtain ⟨k1,k2⟩:=kp I8;exact ⟨m',hm,i+1,ys,σ'',H8,l'',I8.unpinned,k1,k2,w8⟩
   | true =>
    have q8:te σ7 H8 _:=q8;refine thn (he _ _ _ _ _ s8 σ7 H8 _ I8 q8) fun y s9 rz2=>?_
    obtain ⟨v,H9,I9,r9,d9,z9,⟨σ'',e,l''⟩,m',hm,w9⟩:=rz2;subst e;refine thn (mS (X:=blk X M scope own G.objs.size s2 H2 fp) _ s9 _ H9 (.ref s2.heap.objs.size) [v] (.ref s2.heap.objs.size) [y] (fun _ H'=>H'=upd H9 s2.heap.objs.size (.lst (ys++[v]))) I9 rfl (.cons r9 .nil) ⟨_,ys,v,rfl,rfl,d9,z9,rfl⟩) fun _ s10 rz2=>?_
    obtain ⟨_,H10,I10,_,e10⟩:=rz2;subst e10;obtain ⟨k1,k2⟩:=kp I10;exact ⟨m',hm,i+1,ys++[v],σ'',_,l'',I10.unpinned,k1,k2,w9⟩
 exact codeAny_compStart_list (loop _ ⟨_,rfl⟩) (T.self _ 0 _ _ _ (T.keep _ _ _ st2 fun b hb o e=>hk b o e) (loop _ ⟨_,rfl⟩))
theorem B5 {wi:TI} {tt:TT} {te:TE} (hc:X.calm=true) (hi:PI X tg iter wi)
  (hg:∀ C s2 H2 fp,PG (blk X M scope own C s2 H2 fp) tg g) (ht:∀ C s2 H2 fp,PTs (blk X M scope own C s2 H2 fp) ifs tt) (he:∀ C s2 H2 fp,PE (blk X M scope own C s2 H2 fp) elt te)
  (hB:sy X.N M X.env.scope scope own=true:=by rfl) (hs:∀ x,foldedSetIterable iter X.env x=pure x:=by intro _;rfl):PE X (.ListComp elt [⟨tg,iter,ifs,0⟩] scope pos) (tLC own.length wi g tt te):=by
 intro pins s σ H Q I h;rw [eval_ListComp];refine oS hc hi hg ht he hB hs I h fun C D s5 H4 k rz5 _ _ _ _ _ q=>?_
 obtain ⟨m,hn⟩:=rz5;exact ⟨m,hn,fun h' hs'=>⟨.ref D,H4,k h' hs',rfl,q⟩⟩
theorem oZ {wi:TI} {tt:TT} {te:TE} (hc:X.calm=true) (hN:X.N.Nodup) (hxi:X.N[i]?=some x) (hx:Loc X.env.scope x)
  (hsw:swapsWith (.ListComp elt [⟨tg,iter,ifs,0⟩] scope pos) (some (.Name x pos')) spos.line X.env=pure true) (hi:PI X tg iter wi)
  (hg:∀ C s2 H2 fp,PG (blk X M scope own C s2 H2 fp) tg g) (ht:∀ C s2 H2 fp,PTs (blk X M scope own C s2 H2 fp) ifs tt) (he:∀ C s2 H2 fp,PE (blk X M scope own C s2 H2 fp) elt te)
  (hB:sy X.N M X.env.scope scope own=true:=by rfl) (hs:∀ x,foldedSetIterable iter X.env x=pure x:=by intro _;rfl) (hf:X.fn x=true\/X.env.scope.names.lookup x=some .local:=by first | exact .inl rfl | exact .inr rfl | assumption) :
  PS X (.Assign [.Name x pos'] (.ListComp elt [⟨tg,iter,ifs,0⟩] scope pos) spos) (BX (tLC own.length wi g tt te) (jB i)):=by
 intro pins s σ H D I h;show wpAny _ _ (exec _ X.env) _ _ s;rw [exec_Assign_Name_used _ _ _ _ hsw];refine wpAny_bind (wpAny_standAt (wpAny_bind ?_));rw [arm_evalThenUse_ListComp];refine wpAny_bind (thn (oS (use:=some (assign (.Name x pos') X.env)) (Qf:=fun _ s'=>SP X pins D .next s') hc hi hg ht he hB hs I h fun C Dd s5 H4 k rz5 hC nl nc np ns q=>?_) fun _ s' hq=>wpAny_pure (wpAny_pure hq));obtain ⟨m,hn⟩:=rz5;have I5:=k s5.heap (Heap.SameBut.refl _ _);show wpAny _ _ (assign (.Name x pos') X.env (.ref Dd)) _ _ s5;refine wpAny_assign_Name (rB (v:=.ref Dd) I5 hN hxi hx rfl (fun s3 I3 rz2=>?_) hf);obtain ⟨a,sb,ha⟩:=rz2;have nCa:C≠a:=by
  rcases ha with rfl | ha
  ·exact nl
  ·exact fun z=>nc x a ha z.symm
 refine ⟨m,hn.sameBut sb nCa,fun h' hs'=>⟨_,H4,?_,q⟩⟩;have kk:∀ b o,b≠C->s3.heap.get? b=some o->h'.get? b=some o:=fun b o hb e=>(hs'.2 b hb).trans e
 refine I3.call' (s':={ s3 with heap:=h' }) (ch:=[C]) rfl ?_ ?_ I3.bare fun b hb=>?_
 ·refine ⟨fun b o e _ _ z=>kk b o (fun q=>z (by rw [q];exact LM.mpr rfl)) e,fun b o e _ _ z=>⟨o.slots,kk b o (fun q=>z (by rw [q];exact LM.mpr rfl)) e⟩,fun _ _ _ n _=>n,fun b o e z=>⟨o,kk b o (fun q=>z (by rw [q];exact LM.mpr rfl)) e⟩,fun _ _ q=>q,fun _ _ _ q=>q,fun _ _ q=>q⟩
 ·intro b o e;refine (I3.hok b o e).stay (fun c v hc q=>kk c v ?_ q) (fun _ q=>q) fun _ _ q=>q
  rintro rfl
  rcases hc with z | z
  ·subst z;rw [hC] at e;cases e
  ·rw [hC] at z;cases z
 ·rw [LM.mp hb];exact ⟨.inr ns,fun z=>nl z,nc,np⟩
mutual
def IsD (K:PySem.W.Frag) (H:Hp):PyData->V->Prop
 | .none,v=>v=.non
 | .bool b,v=>v=.bl b
 | .int i,v=>v=.int i
 | .str x,v=>v=.str x
 | .list ds,v=>∃ a xs,v=.ref a/\SqL K H a xs/\ff K H ds xs
 | .tuple ds,v=>∃ a xs,v=.ref a/\SqT K H a xs/\ff K H ds xs
 | .dict _,_=>False
def ff (K:PySem.W.Frag) (H:Hp):List PyData->List V->Prop
 | [],vs=>vs=[]
 | d::ds,vs=>∃ v r,vs=v::r/\IsD K H d v/\ff K H ds r
end
theorem ax.tupS (e:ax H H') (h:SqT K H a xs):SqT K H' a xs:=by
 rcases h with (h | ⟨o,h⟩) | h
 ·exact .inl (.inl (e _ _ h))
 ·exact .inl (.inr ⟨o,e _ _ h⟩)
 ·exact .inr h
mutual
theorem IsD.same {K:PySem.W.Frag} {H H':Hp} (e:ax H H'):∀ {d:PyData} {v:V},IsD K H d v->IsD K H' d v
 | .none,_,h=>by unfold IsD at h ⊢;exact h
 | .bool _,_,h=>by unfold IsD at h ⊢;exact h
 | .int _,_,h=>by unfold IsD at h ⊢;exact h
 | .str _,_,h=>by unfold IsD at h ⊢;exact h
 | .list ds,_,h=>by unfold IsD at h ⊢;obtain ⟨a,xs,e1,h1,h2⟩:=h;exact ⟨a,xs,e1,e.seq h1,ff.same e h2⟩
 | .tuple ds,_,h=>by unfold IsD at h ⊢;obtain ⟨a,xs,e1,h1,h2⟩:=h;exact ⟨a,xs,e1,e.tupS h1,ff.same e h2⟩
 | .dict _,_,h=>by unfold IsD at h;exact h.elim
theorem ff.same {K:PySem.W.Frag} {H H':Hp} (e:ax H H'):∀ {ds:List PyData} {vs:List V},ff K H ds vs->ff K H' ds vs
 | [],_,h=>by unfold ff at h ⊢;exact h
 | d::ds,_,h=>by unfold ff at h ⊢;obtain ⟨v,r,e1,h1,h2⟩:=h;exact ⟨v,r,e1,IsD.same e h1,ff.same e h2⟩
end
section
theorem tN {i:Int}:IsD K H (.int i) (.int i):=by unfold IsD;rfl
theorem Cf {b:Bool}:IsD K H (.bool b) (.bl b):=by unfold IsD;rfl
theorem B6:IsD K H .none .non:=by unfold IsD;rfl
theorem FN:IsD K H (.str x) (.str x):=by unfold IsD;rfl
theorem EF (h:SqT K H a xs) (h2:ff K H ds xs):IsD K H (.tuple ds) (.ref a):=by unfold IsD;exact ⟨a,xs,rfl,h,h2⟩
theorem sX (h:SqL K H a xs) (h2:ff K H ds xs):IsD K H (.list ds) (.ref a):=by unfold IsD;exact ⟨a,xs,rfl,h,h2⟩
theorem p7:ff K H [] []:=by unfold ff;rfl
theorem sH {d:PyData} (h:IsD K H d v) (h2:ff K H ds vs):ff K H (d::ds) (v::vs):=by unfold ff;exact ⟨v,vs,rfl,h,h2⟩
theorem IsD.ofInt {i:Int} (h:IsD K H (.int i) v):v=.int i:=by unfold IsD at h;exact h
theorem IsD.ofBool {i:Bool} (h:IsD K H (.bool i) v):v=.bl i:=by unfold IsD at h;exact h
theorem IsD.ofNone (h:IsD K H .none v):v=.non:=by unfold IsD at h;exact h
theorem IsD.ofStr (h:IsD K H (.str x) v):v=.str x:=by unfold IsD at h;exact h
theorem IsD.ofTup (h:IsD K H (.tuple ds) v):∃ a xs,v=.ref a/\SqT K H a xs/\ff K H ds xs:=by unfold IsD at h;exact h
theorem IsD.ofLst (h:IsD K H (.list ds) v):∃ a xs,v=.ref a/\SqL K H a xs/\ff K H ds xs:=by unfold IsD at h;exact h
theorem ff.nil_of (h:ff K H [] vs):vs=[]:=by unfold ff at h;exact h
theorem ff.cons_of {d:PyData} (h:ff K H (d::ds) vs):∃ v r,vs=v::r/\IsD K H d v/\ff K H ds r:=by unfold ff at h;exact h
theorem rA:∀ (ns:List Int),ff K H (ns.map PyData.int) (ns.map V.int)
 | []=>p7
 | _::r=>sH tN (rA r)
end
section
mutual
theorem Inv.reads (I:Inv X pins σ H s):∀ {d:PyData} {v:V} {u:Value},IsD X.K H d v->RelV v u->∃ as,Reads s.heap u d as
 | .none,_,_,h,r=>by rw [h.ofNone] at r;cases r;exact ⟨_,.none⟩
 | .bool _,_,_,h,r=>by rw [h.ofBool] at r;cases r;exact ⟨_,.bool _⟩
 | .int _,_,_,h,r=>by rw [h.ofInt] at r;obtain ⟨t,rfl⟩:=r;exact ⟨_,.int _ _⟩
 | .str _,_,_,h,r=>by rw [h.ofStr] at r;obtain ⟨t,rfl⟩:=r;exact ⟨_,.str _ _⟩
 | .list ds,_,_,h,r=>by obtain ⟨a,xs,e,h1,h2⟩:=h.ofLst;subst e;cases r;obtain ⟨its,rv,⟨o,n,g,c,_,d⟩,_⟩:=I.list h1;obtain ⟨as,ra⟩:=Inv.readsAll I h2 rv;exact ⟨_,.list g c d (by simpa using ra)⟩
 | .tuple ds,_,_,h,r=>by obtain ⟨a,xs,e,h1,h2⟩:=h.ofTup;subst e;cases r;obtain ⟨its,rv,⟨o,g,c,n,d⟩,_⟩:=I.tuple h1;obtain ⟨as,ra⟩:=Inv.readsAll I h2 rv;exact ⟨_,.tuple g c d (by simpa using ra)⟩
 | .dict _,_,_,h,_=>by unfold IsD at h;exact h.elim
theorem Inv.readsAll (I:Inv X pins σ H s):∀ {ds:List PyData} {vs:List V} {us:List Value},ff X.K H ds vs->Vals vs us->∃ as,ReadsAll s.heap us ds as
 | [],_,_,h,r=>by rw [h.nil_of] at r;cases r;exact ⟨_,.nil⟩
 | d::ds,_,_,h,r=>by
  obtain ⟨v,t,e,h1,h2⟩:=h.cons_of;subst e;cases r with
  | cons r1 r2 =>obtain ⟨as,q1⟩:=Inv.reads I h1 r1;obtain ⟨bs,q2⟩:=Inv.readsAll I h2 r2;exact ⟨_,.cons q1 q2⟩
end
open PySem.SeqAt in
theorem wV (hu:X.A.units+64<cLine):OpR X (compareOp .Eq) (fun x y H Q=>∃ d e,IsD X.K H d x/\IsD X.K H e y/\shaped d=true/\shaped e=true/\Q (.bl (PyData.eqv d e)) H):=by intro pins s σ H x y v u Q I rx ry h;obtain ⟨d,e,hd,he,sd,se,q⟩:=h;obtain ⟨as,ra⟩:=I.reads hd rx;obtain ⟨bs,rb⟩:=I.reads he ry;exact eq_dataH ra rb sd se hu ⟨.bl _,H,I,rfl,q⟩
open PySem.SeqAt in
theorem GW (hu:X.A.units+64<cLine):OpR X (compareOp .NotEq) (fun x y H Q=>∃ d e,IsD X.K H d x/\IsD X.K H e y/\shaped d=true/\shaped e=true/\Q (.bl (!PyData.eqv d e)) H):=by intro pins s σ H x y v u Q I rx ry h;obtain ⟨d,e,hd,he,sd,se,q⟩:=h;obtain ⟨as,ra⟩:=I.reads hd rx;obtain ⟨bs,rb⟩:=I.reads he ry;exact ne_dataH ra rb sd se hu ⟨.bl _,H,I,rfl,q⟩
def tyD:PyData->String
 | .none=>"NoneType"
 | .bool _=>"bool"
 | .int _=>"int"
 | .str _=>"str"
 | .list _=>"list"
 | .tuple _=>"tuple"
 | .dict _=>"dict"
def tT (d:PyData) (T:String):Bool:=tyD d==T || (T=="int"&&tyD d=="bool")
theorem Ek (K:PySem.W.Frag) {a T:String} (ha:a∈["NoneType", "bool", "int", "str", "list", "tuple"]) (hT:T∈["bool", "int", "list", "tuple"]) :
  PySem.W.kitOne K (.type a) (.type T)=some (a==T || (T=="int"&&a=="bool")):=by
 simp only [L7,LZ,or_false] at ha hT;rcases ha with rfl | rfl | rfl | rfl | rfl | rfl <;> rcases hT with rfl | rfl | rfl | rfl <;> rfl
theorem D9 {d:PyData} (h:IsD K H d v):tyD d∈["NoneType", "bool", "int", "str", "list", "tuple"]:=by
 cases d with
 | dict _=>unfold IsD at h;exact h.elim
 | _=>simp [tyD]
theorem uM:jL X (.builtin "isinstance") (fun xs H Q=>∃ d v T,xs=[v,.ty T]/\IsD X.K H d v/\T∈["bool", "int", "list", "tuple"]/\Q (.bl (tT d T)) H):=by
 intro pins s σ H xs us Q I r h;obtain ⟨d,v,T,rfl,hd,hT,q⟩:=h;obtain ⟨u,c,rfl,r1,r2⟩:=vals2 r;cases r2;have e:PySem.W.kitOne X.K (.type (tyD d)) (.type T)=some (tT d T):=Ek X.K (D9 hd) hT;have fin:∀ tk,EP X pins σ Q (.bool (tT d T)) { s with toks:=tk }:=fun tk=>⟨.bl _,H,I.tok tk,rfl,q⟩
 cases d with
 | none=>rw [hd.ofNone] at r1;cases r1;exact PySem.W.kia_one PySem.W.kitx_none I.kIn True.intro e (fun z=>nomatch z) fin
 | bool b=>rw [hd.ofBool] at r1;cases r1;exact PySem.W.kia_one PySem.W.kitx_bool I.kIn True.intro e (fun z=>nomatch z) fin
 | int i=>rw [hd.ofInt] at r1;obtain ⟨t,rfl⟩:=r1;exact PySem.W.kia_one PySem.W.kitx_int I.kIn True.intro e (fun z=>nomatch z) fin
 | str x=>rw [hd.ofStr] at r1;obtain ⟨t,rfl⟩:=r1;exact PySem.W.kia_one PySem.W.kitx_str I.kIn True.intro e (fun z=>nomatch z) fin
 | list ds =>obtain ⟨a,xs,e1,h1,h2⟩:=hd.ofLst;subst e1;cases r1;obtain ⟨its,rv,⟨o,n,g,c,_,_⟩,_⟩:=I.list h1;exact PySem.W.kia_one PySem.W.kitx_list I.kIn ⟨o,g,c⟩ e (fun z=>nomatch z) fin
 | tuple ds =>obtain ⟨a,xs,e1,h1,h2⟩:=hd.ofTup;subst e1;cases r1;obtain ⟨its,rv,⟨o,g,c,n,_⟩,_⟩:=I.tuple h1;exact PySem.W.kia_one PySem.W.kitx_tuple I.kIn ⟨o,g,c⟩ e (fun z=>nomatch z) fin
 | dict _=>unfold IsD at hd;exact hd.elim
theorem pK:∀ {bs:List Bool} {us:List Value},Vals (bs.map V.bl) us->LSm.BoolsAre us bs
 | [],_,.nil=>.nil
 | b::r,_,.cons h t=>by cases (show _=Value.bool b from h);exact .cons b (pK t)
theorem CF (hc:X.calm=true):jL X (.builtin "all") (fun xs H Q=>∃ (a:Addr) (bs:List Bool),xs=[.ref a]/\SqL X.K H a (bs.map V.bl)/\Q (.bl (bs.all id)) H):=by
 intro pins s σ H xs us Q I r h;obtain ⟨a,bs,rfl,hS,q⟩:=h;obtain ⟨u,rfl,r1⟩:=vals1 r;cases r1;obtain ⟨its,rv,p,_⟩:=I.list hS;have hl:=p.isList;have hb:=pK rv;have hlt:a<s.heap.objs.size:=by obtain ⟨_,e,_⟩:=hl;exact LN e
 refine call_all_walk (wpAny_pyIter_list hl ?_);refine ⟨s.heap.objs.size,[s.heap.objs.size,a],[s.heap.objs.size],its.toArray.size,_,_,fun i=>(bs[i]?).getD true,rfl,Walks.list (A:=X.A.in1) (I.ok.hd hc) _ a (LR hlt) its.toArray,
  ⟨⟨_,LP _ rfl,rfl,rfl⟩,hl.push _⟩,fun i v s' Q' E' hP hQ=>?_,fun h' tk hk=>?_⟩
 ·obtain ⟨b,e,rfl⟩:=hb.get i v (by simpa using hP);simp only [e,Option.getD_some] at hQ;exact wpAny_truthy_bool hQ
 ·have e:((List.range its.toArray.size).all fun i=>(bs[i]?).getD true)=bs.all id:=by rw [LO,hb.length];exact LSm.range_all bs
  rw [e];exact ⟨.bl _,H,I.kept (LSm.kept_iter hk),rfl,q⟩
theorem CN (hc:X.calm=true):jL X (.builtin "sum") (fun xs H Q=>∃ (a:Addr) (ns:List Int),xs=[.ref a]/\SqL X.K H a (ns.map V.int)/\Q (.int ns.sum) H):=by
 intro pins s σ H xs us Q I r h;obtain ⟨a,ns,rfl,hS,q⟩:=h;obtain ⟨u,rfl,r1⟩:=vals1 r;cases r1;obtain ⟨its,rv,p,_⟩:=I.list hS;have hi:IntsAre its ns:=intsAre_of rv;obtain ⟨xs,hx⟩:=hi.allInts.items;have hl':s.heap.IsList a (intItems xs):=hx▸p.isList;refine sum_intListG (I.ok.hd hc) hl' fun h' tk t' hk=>?_
 have e1:ns=xs.toList.map (·.1):=by rw [<-nums_intItems,<-hx];exact (show numsOf its.toArray.toList=ns from hi.numsOf).symm
 have e2:preSum (numAt xs) xs.size=ns.sum:=by rw [preSum_eq,List.take_of_length_le (by simp),e1]
 rw [e2];exact ⟨.int _,H,I.kept hk,⟨_,rfl⟩,q⟩
end
structure Lm (P:Program) (w:World) (outer:List Env) (H:Hp) (s:Shared) (H':Hp) (B:Heap) (ea:Addr) (cls a0:Value) (s':Shared):Prop where
 os:s'.os=s.os
 bare:AllBare s'.gens
 hok:HOk P w H' B
 keep:∀ b o,s.heap.get? b=some o->H b=none->b∉frs outer->B.get? b=some o
 there:∀ b o,s.heap.get? b=some o->b∉frs outer->∃ o',B.get? b=some o'
 slot:∀ b o,s.heap.get? b=some o->b∈frs outer->∃ sl,s'.heap.get? b=some { o with slots:=sl }
 free:∀ b o,s.heap.get? b=some o->H b=none->H' b=none
 tups:∀ b xs,H b=some (.tup xs)->H' b=some (.tup xs)
 frzs:∀ b o u,H b=some (.frz o u)->H' b=some (.frz o u)
 tbls:∀ b q,H b=some (.tbl q)->H' b=some (.tbl q)
 fly:Heap.FlyingW B outer ea cls a0 s'.heap
def CXW (P:Program) (w:World):CXT:=fun outer H s E e s'=>∃ ea cls a0 H' B,e=.ref ea/\E cls none H'/\Lm P w outer H s H' B ea cls a0 s'
section
variable {f:Addr} {A:Around}
theorem vg {L:Addr} (hf:env.frame=some L):frs (env::outer)=L::frs outer:=by unfold frs;rw [N9,hf]
theorem vB {s1:Shared} {ea:Addr} {cls:Value} {vs:List Value}
  (I:Inv (cZ (CXW P w) P w K mg base N qual scope f cd A outer s H E) pins σ H1 s1) (hx:Heap.MadeExcOf s1.heap h' ea cls vs) (hE:E cls none H1) :
  (cZ (CXW P w) P w K mg base N qual scope f cd A outer s H E).xe (.ref ea) { s1 with heap:=h' }:=by
 have hst:=I.stack;have hfs:frs (cZ (CXW P w) P w K mg base N qual scope f cd A outer s H E).stack=s.heap.objs.size::frs outer:=vg rfl;have hin:∀ env∈(cZ (CXW P w) P w K mg base N qual scope f cd A outer s H E).stack,∀ b,env.frame=some b->b∈frs (cZ (CXW P w) P w K mg base N qual scope f cd A outer s H E).stack:=fun env he b hb=>Ny.mpr ⟨env,he,hb⟩
 have out:∀ b o,s.heap.get? b=some o->b∉frs outer->b∉frs (cZ (CXW P w) P w K mg base N qual scope f cd A outer s H E).stack:=fun b o e n z=>by
  rw [hfs] at z;rcases L7.mp z with z | z
  ·rw [z] at e;exact absurd (LN e) (ML _)
  ·exact n z
 refine wpAny_leaves_madeW (base:=PySem.W.hideAll s1.heap (frs (cZ (CXW P w) P w K mg base N qual scope f cd A outer s H E).stack)) I.ok.frames rfl (fun b o q=>PySem.W.of_hideAll _ q) (PySem.W.funFrames_hide hst hin) hx fun h2 t x1 x2 x3 x4=>?_
 refine ⟨ea,cls,.ref t,H1,_,rfl,hE,⟨I.os,I.bare,?_,?_,?_,?_,?_,I.base.tups,I.base.frzs,I.base.tbls,x1⟩⟩
 ·intro a o e;refine (I.hok a o e).stay (fun b u hb q=>PySem.W.hideAll_get _ q fun z=>?_) (fun _ q=>q) fun _ _ q=>q
  have:=I.stkFree b z;rcases hb with hb | hb
  ·rw [hb,e] at this;cases this
  ·rw [hb] at this;cases this
 ·intro b o e n hb;exact PySem.W.hideAll_get _ (I.base.keep b o e n hb (LZ)) (out b o e hb)
 ·intro b o e hb;obtain ⟨o',q⟩:=I.base.there b o e (LZ);exact ⟨o',PySem.W.hideAll_get _ q (out b o e hb)⟩
 ·intro b o e hb;obtain ⟨sl,q⟩:=I.base.slot b o e (I.ok.frf b hb) hb (LZ);obtain ⟨_,o2,q2,d2⟩:=I.ok.funs.mem hb;have q2:s.heap.get? b=some o2:=q2;rw [e] at q2;cases q2;obtain ⟨sl2,q3⟩:=x4 b _ (hx.keeps b _ q) d2;exact ⟨sl2,q3⟩
 ·intro b o e n;exact I.base.free b o e n (LZ)
theorem Gy:Passes (CXW P w) (cZ (CXW P w) P w K mg base N qual scope f cd A outer s H E) E:=by
 intro pins σ H1 s1 e s2 I hc;obtain ⟨ea,cls,a0,H2,B,rfl,hE,F⟩:=hc;have hfs:frs (cZ (CXW P w) P w K mg base N qual scope f cd A outer s H E).stack=s.heap.objs.size::frs outer:=vg rfl;have out:∀ b o,s.heap.get? b=some o->b∉frs outer->b∉frs (cZ (CXW P w) P w K mg base N qual scope f cd A outer s H E).stack:=fun b o e n z=>by
  rw [hfs] at z;rcases L7.mp z with z | z
  ·rw [z] at e;exact absurd (LN e) (ML _)
  ·exact n z
 refine wpAny_leaves_onW I.ok.frames rfl F.fly fun h2 x1 x2=>⟨ea,cls,a0,H2,B,rfl,hE,⟨F.os.trans I.os,F.bare,F.hok,?_,?_,?_,?_,?_,?_,?_,x1⟩⟩
 ·intro b o e n hb;exact F.keep b o (I.base.keep b o e n hb (LZ)) (I.base.free b o e n (LZ)) (out b o e hb)
 ·intro b o e hb;obtain ⟨o',q⟩:=I.base.there b o e (LZ);exact F.there b o' q (out b o e hb)
 ·intro b o e hb;obtain ⟨sl,q⟩:=I.base.slot b o e (I.ok.frf b hb) hb (LZ);obtain ⟨_,o2,q2,d2⟩:=I.ok.funs.mem hb;have q2:s.heap.get? b=some o2:=q2;rw [e] at q2;cases q2;obtain ⟨sl1,q1⟩:=F.slot b _ q (by rw [hfs];exact L4 _ hb);obtain ⟨sl2,q3⟩:=x2 b _ q1 d2;exact ⟨sl2,q3⟩
 ·intro b o e n;obtain ⟨o',q⟩:=I.base.there b o e (LZ);exact F.free b o' q (I.base.free b o e n (LZ))
 ·intro b xs e;exact F.tups b xs (I.base.tups b xs e)
 ·intro b o u e;exact F.frzs b o u (I.base.frzs b o u e)
 ·intro b ps e;exact F.tbls b ps (I.base.tbls b ps e)
end
theorem Fg {bmB:List Value} (X:K.In h) (q:PySem.W.excIn K C bmB newId=true) :
  ∃ bm N nm qn bs hdct sn sub ab col dd k0 k1 k2 k3 k5 mN,h.get? C=some (excClassObj nm qn C N bs bm hdct sn sub ab col dd k0 k1 k2 k3 k5 newId)/\h.Ns N mN/\mN "__init__"=none/\OwnTail h bmB bm:=by
 unfold PySem.W.excIn at q;split at q
 ·rename_i d1 c1 l1 g1;split at q
  ·rename_i C2 bm2 j0 j1 j2 j3 n2 j5 hm hs;simp only [L8,beq_iff_eq,NC] at q;obtain ⟨⟨⟨⟨⟨q1,q2⟩,q3⟩,q4⟩,q5⟩,q6⟩:=q;subst q1;subst q2;obtain ⟨z1,z2,z3,z4,z5,z6,z7,z8,z9,z10,z11⟩:=c1;dsimp only at hm q3 q5 q6;subst hm;subst q3;have hl:l1=#[j0,j1,j2,j3,some (.builtin n2),j5]:=by obtain ⟨l⟩:=l1;have hs':l=_:=hs;rw [hs']
   subst hl;exact ⟨bm2,z4,z1,z5,z2,z6,z7,z8,z9,z10,d1,j0,j1,j2,j3,j5,_,X _ _ g1,.of_isNs (PySem.W.isNs_of_in X q5),PySem.W.nsMap_none_of_in X q5 q6,PySem.W.tail_of_in X q4⟩
  ·cases q
 ·cases q
def xc (X:Cx) (E:XK):Prop:=∀ (pins:List (Addr×Obj)) (σ:St) (H:Hp) (s:Shared) (h':Heap) (ea:Addr) (cls:Value) (vs:List Value),Inv X pins σ H s->Heap.MadeExcOf s.heap h' ea cls vs->E cls none H->X.xe (.ref ea) { s with heap:=h' }
def HN (C:Addr) (E:XK) (t:TA):TS:=fun _ σ H=>t σ H fun vs H1=>vs.length<=sizeLine/\E (.ref C) none H1
theorem Bs {B initId:String} {bm:List Value} {np:Pos} {t:TA} (hc:X.calm=true) (M:xc X E) (FB:ExcBaseFacts B newId initId bm) (hg:Gl X x) (hm:X.mg x=some (.ref C)) (hC:PySem.W.excIn X.K C bm newId=true)
  (ha:PA X (e::es) t) (hdb:(x==("__debug__":Str))=false:=by decide) (he:starEach (e::es) X.env=(false,eval e X.env)::starEach es X.env:=by rfl) (hpl:(backTo cpos (starEach es X.env)).any (·.1)=false:=by rfl) :
  PS X (.Raise (some (.Call (.Name x np) (e::es) [] cpos)) none pos) (HN C E t):=by
 intro pins s σ H D I h;obtain ⟨tl,N,nm,q,bs,hdct,sn,sub,ab,col,dd,k0,k1,k2,k3,k5,mN,hC0,hN,hni,T⟩:=Fg I.mod.kin hC;refine wpAny_Raise_call_subT (C:=C) (nm:=nm) (q:=q) (N:=N) (bs:=bs) (bm:=tl) (hdct:=hdct) (sn:=sn) (sub:=sub) (ab:=ab) (col:=col) (dd:=dd) (k0:=k0) (k1:=k1) (k2:=k2) (k3:=k3) (k5:=k5)
  FB (mN:=mN) (T.hasType FB.hasBase) (I.ok.hd hc) (by rw [he];show (false || (backTo cpos (starEach es X.env)).any (·.1))=false;rw [hpl];rfl) hni (n9 I hg hm ⟨rfl,?_⟩ hdb)
 have q0:=ha cpos pins s σ H _ I h;rw [he] at q0 ⊢;refine Calls.evalArgs_plain (wpAny_mono q0 (fun us s2 h2=>?_) fun _ _ y=>y);obtain ⟨vs,H2,I2,rv,z,hE⟩:=h2;exact ⟨rfl,by rw [<-rv.length];exact z,I2.bk _ _ hC0,hN.keeps I2.bk,T.keeps I2.bk,fun h' ea hx=>M pins σ H2 s2 h' ea _ _ I2 hx hE⟩
theorem gU (h:H D=none):ax H (upd H D o):=fun b u e=>by rw [aA (aK e h)];exact e
theorem ax.put (s:ax H H') (h:H D=none):ax H (upd H' D o):=fun b u e=>by rw [aA (aK e h)];exact s b u e
mutual
def fg:PyData->Bool
 | .list _=>false
 | .tuple ds=>kD ds
 | .dict _=>false
 | _=>true
def kD:List PyData->Bool
 | []=>true
 | d::ds=>fg d&&kD ds
end
theorem set_own (σ:St) (x:Option V) (v:V) (σ':St) (h:σ'.length=1):(σ++σ').set σ.length (some v)=σ++[some v]:=by obtain ⟨y,rfl⟩:=List.length_eq_one_iff.mp h;simp
structure Rows (H H':Hp) (D:Addr) (qs:List Addr) (rs:List (List Int)):Prop where
 d:H' D=some (.lst (qs.map V.ref))
 len:qs.length=rs.length
 at':∀ (i:Nat) q r,qs[i]?=some q->rs[i]?=some r->H' q=some (.lst (r.map V.int))
 new:∀ q∈qs,H q=none
 nd:qs.Nodup
 nD:D∉qs
section
variable {A:Around} {E:Value->Shared->Prop}
theorem xZ {x:Value} (hi:s.heap.IsTupleIter it t i) (ht:s.heap.IsTuple t its) (hx:its[i]?=some x)
  (hQ:∀ h',h'.IsTupleIter it t (i+1)->Heap.SameBut it s.heap h'->Q x { s with heap:=h' }):wpAny (model prog w) A (Builtin.SmallTypes.nextOf (.ref it)) Q E s:=by
 obtain ⟨oi,gi,ci,di⟩:=id hi;obtain ⟨ot,gt,_,nt,dt⟩:=ht;unfold Builtin.SmallTypes.nextOf;refine wpAny_bind (wpAny_callSpecial?_slot (name:=Str.ofString "__next__") hi.typeIs F.slot_tuple_iterator_next (wpAny_call_entry F.slot_tuple_iterator_next hi.typeIs F.entry_tuple_iterator_next ?_ (F.args_tuple_iterator_next_1 _)));refine wpAny_bind (m:=field (.ref it) 0) (wpAny_field gi di (x:=.ref t) rfl ?_);show wpAny (model prog w) _ (if (Value.ref t==Value.none)=true then _ else _) _ _ s;have nn:¬ (Value.ref t==Value.none)=true:=fun q=>LX q
 rw [if_neg nn];refine wpAny_bind (m:=field (.ref it) 1) (wpAny_field gi di (x:=.int i 0) rfl ?_);refine wpAny_bind (m:=seqItems? (.ref t)) (wpAny_seqItems gt dt ?_);simp only [Mb,hx];refine wpAny_bind (wpAny_setField gi di (by simp) (wpAny_pure ⟨x,rfl,wpAny_pure (hQ _ ⟨_,N1 _ gi (Obj.isFreed_of_fields (Obj.data_mapFields di _)),(Obj.cls_mapFields ..).trans ci,?_⟩ (Heap.SameBut.update ..))⟩));rw [Obj.data_mapFields di];simp [rawInt]
theorem pk (hh:A.handled=none) (hi:s.heap.IsTupleIter it t i) (ht:s.heap.IsTuple t its) (hx:its[i]?=none)
  (hE:∀ h' e,Heap.ExtBut it s.heap h'->(∃ o,h'.get? e=some o/\o.cls=.type "StopIteration")->E (.ref e) { s with heap:=h' }):wpAny (model prog w) A (Builtin.SmallTypes.nextOf (.ref it)) Q E s:=by
 obtain ⟨oi,gi,ci,di⟩:=id hi;obtain ⟨ot,gt,_,nt,dt⟩:=ht;unfold Builtin.SmallTypes.nextOf;refine wpAny_bind (wpAny_callSpecial?_slot (name:=Str.ofString "__next__") hi.typeIs F.slot_tuple_iterator_next (wpAny_call_entry F.slot_tuple_iterator_next hi.typeIs F.entry_tuple_iterator_next ?_ (F.args_tuple_iterator_next_1 _)));refine wpAny_bind (m:=field (.ref it) 0) (wpAny_field gi di (x:=.ref t) rfl ?_);show wpAny (model prog w) _ (if (Value.ref t==Value.none)=true then _ else _) _ _ s;have nn:¬ (Value.ref t==Value.none)=true:=fun q=>LX q
 rw [if_neg nn];refine wpAny_bind (m:=field (.ref it) 1) (wpAny_field gi di (x:=.int i 0) rfl ?_);refine wpAny_bind (m:=seqItems? (.ref t)) (wpAny_seqItems gt dt ?_);simp only [Mb,hx];refine wpAny_bind (wpAny_rule (wpAny_bind (wpAny_setField gi di (by simp) ?_)));refine wpAny_bind (m:=newExc (.type "StopIteration") []) ?_;unfold newExc newTuple;refine wpAny_bind (wpAny_newObj_type ?_ (by size_fits ));refine wpAny_bind (m:=firstArgMember _ _) (wpAny_of_eq (a:=Value.none) (by first | rfl | (unfold firstArgMember;rfl)) ?_);refine wpAny_newObj_type ?_ (by size_fits );unfold raiseNew;refine wpAny_bind (wpAny_handled ?_)
 first | rw [show A.in1.handled=none from hh] | rw [hh]
 refine wpAny_bind (wpAny_pure (wpAny_throw ?_));refine hE _ _ (fun b o hb e=>?_) ⟨_,LP _ rfl,rfl⟩;exact L0 _ (L0 _ ((Mo _ _ (Ne.symm hb)).trans e))
theorem mr (hh:A.handled=none) (it t:Addr) (hne:t≠it) (its:Array Value):Draws prog w A it [it,t] its.size (fun i v=>its[i]?=some v) (fun i h=>h.IsTupleIter it t i/\h.IsTuple t its) where
 live:=fun _ _ st=>by obtain ⟨⟨o,g,_⟩,_⟩:=st;exact ⟨o,g⟩
 frame:=fun _ _ _ st k=>by obtain ⟨⟨o,g,r⟩,⟨o2,g2,r2⟩⟩:=st;exact ⟨⟨o,k it (by simp) o g,r⟩,⟨o2,k t (by simp) o2 g2,r2⟩⟩
 item:=fun i s Q E hi st hQ=>xZ st.1 st.2 (x:=its[i]) (by simp [hi]) fun h' i' sb=>by refine hQ _ h' s.toks (by simp [hi]) ⟨i',?_⟩ sb;obtain ⟨o2,g2,r2⟩:=st.2;exact ⟨o2,(sb.2 t hne).trans g2,r2⟩
 done:=fun s Q E st hE=>pk hh st.1 st.2 (by simp) hE
end
structure mG (z TI TO i1 i2:Addr) (f1 f2:List Addr):Prop where
 TIz:TI≠z
 TOz:TO≠z
 z1:i1≠z
 z2:i2≠z
 TIO:TI≠TO
 TI1:TI≠i1
 TI2:TI≠i2
 TO1:TO≠i1
 TO2:TO≠i2
 i12:i1≠i2
 a1:∀ b∈f1,b≠z/\b≠TO/\b≠i2
 a2:∀ b∈f2,b≠z/\b≠TO/\b≠i1
section
variable {A:Around} {E:Value->Shared->Prop} {z TI TO i1 i2:Addr} {f1 f2:List Addr} {n1 n2 k:Nat} {P1 P2:Nat->Value->Prop} {S1 S2:Nat->Heap->Prop} {a b:Value}
theorem CZ (D1:Draws prog w A i1 f1 n1 P1 S1) (D2:Draws prog w A i2 f2 n2 P2 S2) (Z:mG z TI TO i1 i2 f1 f2) (hz:IsZip s.heap z TI TO .none) (hI:IsPair s.heap TI (.ref i1) (.ref i2)) (hO:IsPair s.heap TO a b)
  (st1:S1 k s.heap) (st2:S2 k s.heap) (k1:k<n1) (k2:k<n2)
  (hQ:∀ h' x y tk,P1 k x->P2 k y->IsZip h' z TI TO (rawInt s.heap.objs.size)->IsPair h' TO x y->S1 (k+1) h'->S2 (k+1) h'->IsPair h' s.heap.objs.size x y ->
   (∀ c o,c≠z->c≠TO->c≠i1->c≠i2->s.heap.get? c=some o->h'.get? c=some o)->Q (.ref s.heap.objs.size) { s with heap:=h',toks:=tk }) :
  wpAny (model prog w) A (Builtin.«zip.__next__» ⟨[.ref z],[]⟩) (fun fin s'=>∃ v,fin=.done (.ret v)/\Q v s') E s:=by
 refine wpAny_bind (m:=field (.ref z) 2) (wpAny_field hz rfl (x:=.bool false) rfl ?_);refine wpAny_bind (m:=field (.ref z) 3) (wpAny_field hz rfl (x:=.ref TI) rfl ?_);refine wpAny_bind (wpAny_seqItems hI rfl ?_);refine wpAny_bind (m:=Builtin.SmallTypes.ownedTupleIsFree (.ref z)) ?_;unfold Builtin.SmallTypes.ownedTupleIsFree;refine wpAny_bind (wpAny_field hz rfl (x:=.none) rfl (wpAny_pure ?_));rw [if_pos (by rfl)];refine wpAny_bind (wpAny_rule (wpAny_bind (wpAny_field hz rfl (x:=.ref TO) rfl (wpAny_bind (wpAny_setField_rec hz (by simp) fun g1 y1 e1=>?_)))));have y1:IsZip g1 z TI TO .ellipsis:=y1;refine wpAny_bind ?_;simp only [List.zipIdx_cons,List.zipIdx_nil,Nd,List.forIn_nil];refine wpAny_bind (wpAny_bind (wpAny_onRaise (wpAny_bind (m:=Builtin.SmallTypes.nextOf (.ref i1)) ?_)));have u1:S1 k g1:=D1.frame _ _ _ st1 fun b hb o e=>(e1.2 b (Z.a1 b hb).1).trans e
 refine D1.item k { s with heap:=g1 } _ _ k1 u1 fun x g2 t2 px v1 e2=>wpAny_pure ?_
 have o2:IsPair g2 TO a b:=(e2.2 TO Z.TO1).trans ((e1.2 TO Z.TOz).trans hO);refine wpAny_bind (wpAny_seqItems (s:={ s with heap:=g2,toks:=t2 }) o2 rfl (wpAny_bind (wpAny_updateSeq_pair o2 fun g3 o3 e3=>?_)));have o3:IsPair g3 TO x b:=o3;refine wpAny_bind (wpAny_letGo (wpAny_pure (wpAny_bind (wpAny_bind (wpAny_onRaise (wpAny_bind (m:=Builtin.SmallTypes.nextOf (.ref i2)) ?_))))));have u2:S2 k g3:=D2.frame _ _ _ st2 fun b hb o e=>(e3.2 b (Z.a2 b hb).2.1).trans ((e2.2 b (Z.a2 b hb).2.2).trans ((e1.2 b (Z.a2 b hb).1).trans e))
 refine D2.item k { s with heap:=g3,toks:=t2 } _ _ k2 u2 fun y g4 t4 py v2 e4=>wpAny_pure ?_
 have o4:IsPair g4 TO x b:=(e4.2 TO Z.TO2).trans o3;refine wpAny_bind (wpAny_seqItems (s:={ s with heap:=g4,toks:=t4 }) o4 rfl (wpAny_bind (wpAny_updateSeq_pair o4 fun g5 o5 e5=>?_)));have o5:IsPair g5 TO x y:=o5;refine wpAny_bind (wpAny_letGo (wpAny_pure (wpAny_pure (wpAny_bind (wpAny_seqItems (s:={ s with heap:=g5,toks:=t4 }) o5 rfl (wpAny_bind (wpAny_newTuple ?_)))))));have sz:g5.objs.size=s.heap.objs.size:=by rw [e5.1,e4.1,e3.1,e2.1,e1.1]
 have y5:IsZip g5 z TI TO .ellipsis:=(e5.2 z Z.TOz.symm).trans ((e4.2 z Z.z2.symm).trans ((e3.2 z Z.TOz.symm).trans ((e2.2 z Z.z1.symm).trans y1)));have kp5:∀ c o,c≠z->c≠TO->c≠i1->c≠i2->s.heap.get? c=some o->g5.get? c=some o:=fun c o c1 c2 c3 c4 e =>
  (e5.2 c c2).trans ((e4.2 c c4).trans ((e3.2 c c2).trans ((e2.2 c c3).trans ((e1.2 c c1).trans e))))
 have w1:S1 (k+1) g5:=D1.frame _ _ _ v1 fun b hb o e=>(e5.2 b (Z.a1 b hb).2.1).trans ((e4.2 b (Z.a1 b hb).2.2).trans ((e3.2 b (Z.a1 b hb).2.1).trans e))
 have w2:S2 (k+1) g5:=D2.frame _ _ _ v2 fun b hb o e=>(e5.2 b (Z.a2 b hb).2.1).trans e
 have zl:z<g5.objs.size:=LN y5;refine wpAny_bind (m:=Builtin.SmallTypes.ownedTupleHandOut (.ref z) (.ref g5.objs.size)) ?_;unfold Builtin.SmallTypes.ownedTupleHandOut;have y6:IsZip (g5.push { cls:=.type "tuple",data:=.seq #[x,y] }) z TI TO .ellipsis:=L0 _ y5;refine wpAny_bind (wpAny_setField_rec y6 (by simp) fun g7 y7 e7=>?_);have y7:IsZip g7 z TI TO (rawInt g5.objs.size):=y7;refine wpAny_setField_rec y7 (by simp) fun g8 y8 e8=>?_
 have y8:IsZip g8 z TI TO (rawInt g5.objs.size):=y8;have up:∀ c o,c≠z->g5.get? c=some o->g8.get? c=some o:=fun c o c1 e=>(e8.2 c c1).trans ((e7.2 c c1).trans (L0 _ e))
 have pr:IsPair g8 g5.objs.size x y:=(e8.2 _ (My zl)).trans ((e7.2 _ (My zl)).trans (LP _ rfl));refine wpAny_pure ⟨_,rfl,?_⟩;rw [sz] at y8 pr;show Q (.ref g5.objs.size) _;rw [sz];exact hQ g8 x y t4 px py y8 (up _ _ Z.TOz o5) (D1.frame _ _ _ w1 fun b hb o e=>up b o (Z.a1 b hb).1 e) (D2.frame _ _ _ w2 fun b hb o e=>up b o (Z.a2 b hb).1 e) pr fun c o c1 c2 c3 c4 e=>up c o c1 (kp5 c o c1 c2 c3 c4 e)
theorem CW (D1:Draws prog w A i1 f1 n1 P1 S1) (Z:mG z TI TO i1 i2 f1 f2) {Q:Fin->Shared->Prop} (hz:IsZip s.heap z TI TO .none) (hI:IsPair s.heap TI (.ref i1) (.ref i2)) (hO:IsPair s.heap TO a b) (st1:S1 n1 s.heap)
  (hE:∀ h' e,(∀ c o,c≠z->c≠TO->c≠i1->c≠i2->s.heap.get? c=some o->h'.get? c=some o)->(∃ o,h'.get? e=some o/\o.cls=.type "StopIteration")->E (.ref e) { s with heap:=h' }) :
  wpAny (model prog w) A (Builtin.«zip.__next__» ⟨[.ref z],[]⟩) Q E s:=by
 refine wpAny_bind (m:=field (.ref z) 2) (wpAny_field hz rfl (x:=.bool false) rfl ?_);refine wpAny_bind (m:=field (.ref z) 3) (wpAny_field hz rfl (x:=.ref TI) rfl ?_);refine wpAny_bind (wpAny_seqItems hI rfl ?_);refine wpAny_bind (m:=Builtin.SmallTypes.ownedTupleIsFree (.ref z)) ?_;unfold Builtin.SmallTypes.ownedTupleIsFree;refine wpAny_bind (wpAny_field hz rfl (x:=.none) rfl (wpAny_pure ?_));rw [if_pos (by rfl)];refine wpAny_bind (wpAny_rule (wpAny_bind (wpAny_field hz rfl (x:=.ref TO) rfl (wpAny_bind (wpAny_setField_rec hz (by simp) fun g1 y1 e1=>?_)))));have y1:IsZip g1 z TI TO .ellipsis:=y1;refine wpAny_bind ?_;simp only [List.zipIdx_cons,List.zipIdx_nil,Nd,List.forIn_nil];refine wpAny_bind (wpAny_bind (wpAny_onRaise (wpAny_bind (m:=Builtin.SmallTypes.nextOf (.ref i1)) ?_)));have u1:S1 n1 g1:=D1.frame _ _ _ st1 fun b hb o e=>(e1.2 b (Z.a1 b hb).1).trans e
 refine D1.done { s with heap:=g1 } _ _ u1 fun g2 e x2 he=>?_
 obtain ⟨oe,ge,ce⟩:=he;have y2:IsZip g2 z TI TO .ellipsis:=x2 _ _ Z.z1.symm y1;have hez:e≠z:=fun q=>by subst q;rw [y2] at ge;cases ge;simp at ce
 refine wpAny_setField_rec y2 (by simp) fun g3 _ e3=>hE g3 e (fun c o c1 _ c3 _ q=>(e3.2 c c1).trans (x2 _ _ c3 ((e1.2 c c1).trans q))) ⟨oe,(e3.2 e hez).trans ge,ce⟩
theorem wO (D1:Draws prog w A.in1 i1 f1 n1 P1 S1) (D2:Draws prog w A.in1 i2 f2 n2 P2 S2) (Z:mG z TI TO i1 i2 f1 f2) {Q:Option Value->Shared->Prop} (hz:IsZip s.heap z TI TO .none) (hI:IsPair s.heap TI (.ref i1) (.ref i2)) (hO:IsPair s.heap TO a b)
  (st1:S1 k s.heap) (st2:S2 k s.heap) (k1:k<n1) (k2:k<n2)
  (hQ:∀ h' x y tk,P1 k x->P2 k y->IsZip h' z TI TO (rawInt s.heap.objs.size)->IsPair h' TO x y->S1 (k+1) h'->S2 (k+1) h'->IsPair h' s.heap.objs.size x y ->
   (∀ c o,c≠z->c≠TO->c≠i1->c≠i2->s.heap.get? c=some o->h'.get? c=some o)->Q (some (.ref s.heap.objs.size)) { s with heap:=h',toks:=tk }):wpAny (model prog w) A (pyNext (.ref z)) Q E s:=by
 have hT:s.TypeIs (.ref z) "zip":=⟨_,hz,rfl⟩
 unfold pyNext;refine wpAny_bind (wpAny_attempt (wpAny_callSpecial?_slot (name:=Str.ofString "__next__") hT F.slot_zip_next (wpAny_call_entry F.slot_zip_next hT F.entry_zip_next (CZ D1 D2 Z hz hI hO st1 st2 k1 k2 fun h' x y tk p1 p2 c1 c2 c3 c4 c5 c6=>?_) (F.args_zip_next_1 _))));exact wpAny_pure (hQ h' x y tk p1 p2 c1 c2 c3 c4 c5 c6)
theorem oU (D1:Draws prog w A.in1 i1 f1 n1 P1 S1) (Z:mG z TI TO i1 i2 f1 f2) {Q:Option Value->Shared->Prop} (hz:IsZip s.heap z TI TO .none) (hI:IsPair s.heap TI (.ref i1) (.ref i2)) (hO:IsPair s.heap TO a b) (st1:S1 n1 s.heap)
  (hQ:∀ h',(∀ c o,c≠z->c≠TO->c≠i1->c≠i2->s.heap.get? c=some o->h'.get? c=some o)->Q none { s with heap:=h' }):wpAny (model prog w) A (pyNext (.ref z)) Q E s:=by
 have hT:s.TypeIs (.ref z) "zip":=⟨_,hz,rfl⟩
 unfold pyNext;refine wpAny_bind (wpAny_attempt (wpAny_callSpecial?_slot (name:=Str.ofString "__next__") hT F.slot_zip_next (wpAny_call_entry F.slot_zip_next hT F.entry_zip_next (CW D1 Z hz hI hO st1 fun h' e k0 he=>?_) (F.args_zip_next_1 _))));obtain ⟨o,ho,hc⟩:=he;exact wpAny_bind (wpAny_isInstance (T:="StopIteration") (b:=true) ⟨o,ho,hc⟩ isSubtype_stop (wpAny_pure (hQ _ k0)))
abbrev zH1 (h:Heap) (t:Addr):Heap:=h.push { cls:=.type "tuple_iterator",data:=.fields #[.ref t,.int 0 0] }
abbrev zH2 (h:Heap) (t l:Addr):Heap:=(zH1 h t).push { cls:=.type "list_iterator",data:=.fields #[.ref l,.int 0 0] }
abbrev zH3 (h:Heap) (t l:Addr):Heap:=(zH2 h t l).push { cls:=.type "tuple",data:=.seq #[.ref h.objs.size,.ref (zH1 h t).objs.size] }
abbrev zH4 (h:Heap) (t l:Addr):Heap:=(zH3 h t l).push { cls:=.type "tuple",data:=.seq #[.none,.none] }
abbrev zH5 (h:Heap) (t l:Addr):Heap:=(zH4 h t l).push { cls:=.type "zip",data:=.fields #[.none,.bool false,.bool false,.ref (zH2 h t l).objs.size,.ref (zH3 h t l).objs.size] }
theorem vE (t l:Addr) (xs ys:Array Value):Meets (Builtin.«zip.__new__» ⟨[.type "zip",.ref t,.ref l],[]⟩) (fun _ R s=>s.heap.IsTuple t xs/\s.heap.IsList l ys/\R (.ok (.ret (.ref (zH4 s.heap t l).objs.size))) { s with heap:=zH5 s.heap t l }) :=
 .of_wp fun prog w A R s h=>by
  obtain ⟨hp,g,d,tk,os⟩:=s;obtain ⟨ht,hl,h⟩:=h;have sb:isSubtype (.type "zip") (.type "zip")=pure true:=by rw [isSubtype_type];kernel_rfl
  have hT1:Heap.IsTuple (Shared.heap ⟨hp,g,d,tk,os⟩) t xs:=ht;have hL2:Heap.IsList (Shared.heap ⟨hp.push { cls:=.type "tuple_iterator",data:=.fields #[.ref t,.int 0 0] },g,d,tk,os⟩) l ys:=Heap.IsList.push hl _
  wp_walk using wpAny_pyIter_tuple hT1,wpAny_pyIter_list hL2
  exact ⟨_,rfl,h⟩
theorem xM {l:Addr} {xs ys:Array Value} (ht:s.heap.IsTuple t xs) (hl:s.heap.IsList l ys) (h:Q (.ref (zH4 s.heap t l).objs.size) { s with heap:=zH5 s.heap t l }) :
  wpAny (model prog w) A (call (.type "zip") [.ref t,.ref l]) Q E s:=by
 refine callType_new F.called_zip (by decide) (F.typeCall_zip_2 _ _) (F.newCall_zip_2 _ _) (fun obj=>F.args_object_init_3 obj _ _) F.entry_zip_new (vE t l xs ys) ⟨ht,hl,?_⟩;exact ⟨⟨_,LP _ rfl,rfl⟩,h⟩
end
section
variable {σ:L2.St}
theorem Inv.turnLay {T:Addr} (I:Inv X pins σ H s) (hf:∀ b∈ch,qp X pins H b) (hT:s.heap.objs.size<=T) (k:∀ b u,b∉ch->s.heap.get? b=some u->h'.get? b=some u)
  (new:dg X.prog X.w (upd H T o) h' T o):Inv X pins σ (upd H T o) { s with heap:=h',toks:=t' }:=by
 have hn:H T=none:=I.hok.fresh hT;have nch:∀ b u,H b=some u->b∉ch:=fun b u e z=>by rw [(hf b z).1] at e;cases e
 have neT:∀ b u,s.heap.get? b=some u->b≠T:=fun b u e=>LR (LV (LN e) hT)
 refine I.step (g':=s.gens) (d':=s.drawn) (ch:=ch) (fun b hb=>?_) (fun b u _ _ hc e _=>k b u hc e) (fun b u _ _ hc e _=>⟨u.slots,k b u hc e⟩) (fun b u _ e n=>by rw [aA (neT b u e)];exact n)
  (fun b u hc e=>⟨u,k b u hc e⟩) (fun b xs e=>by rw [aA (aK e hn)];exact e) (fun b u v e=>by rw [aA (aK e hn)];exact e) (fun b ps e=>by rw [aA (aK e hn)];exact e) (fun m hm=>?_) (fun b u e=>?_) I.bare
 ·obtain ⟨f0,f1,f2,f3,f4,f5⟩:=hf b hb;exact ⟨f3,f1,f4,f5⟩
 ·obtain ⟨o2,es,ep,ho,r⟩:=hm;exact ⟨o2,es,ep,k _ o2 (fun z=>(hf _ z).2.1 rfl) ho,r⟩
 ·by_cases hb:b=T
  ·subst hb;rw [aG] at e;cases e;exact new
  ·rw [aA hb] at e;refine (I.hok b u e).stay (fun c v hc q=>k c v ?_ q) (fun c q=>by rw [aA (aK q hn)];exact q) (fun c xs q=>by rw [aA (aK q hn)];exact q) fun c o' w' q=>by rw [aA (aK q hn)];exact q
   rcases hc with z | z
   ·rw [z];exact nch b u e
   ·exact nch c _ z
theorem Inv.turneds (I:Inv X pins σ H s) (hf:∀ b∈ch,qp X pins H b) (k:∀ b u,b∉ch->s.heap.get? b=some u->h'.get? b=some u):Inv X pins σ H { s with heap:=h',toks:=t' }:=by
 have nch:∀ b u,H b=some u->b∉ch:=fun b u e z=>by rw [(hf b z).1] at e;cases e
 refine I.step (g':=s.gens) (d':=s.drawn) (ch:=ch) (fun b hb=>?_) (fun b u _ _ hc e _=>k b u hc e) (fun b u _ _ hc e _=>⟨u.slots,k b u hc e⟩) (fun b u _ e n=>n)
  (fun b u hc e=>⟨u,k b u hc e⟩) (fun b xs e=>e) (fun b u v e=>e) (fun b ps e=>e) (fun m hm=>?_) (fun b u e=>?_) I.bare
 ·obtain ⟨f0,f1,f2,f3,f4,f5⟩:=hf b hb;exact ⟨f3,f1,f4,f5⟩
 ·obtain ⟨o2,es,ep,ho,r⟩:=hm;exact ⟨o2,es,ep,k _ o2 (fun z=>(hf _ z).2.1 rfl) ho,r⟩
 ·refine (I.hok b u e).stay (fun c v hc q=>k c v ?_ q) (fun _ q=>q) fun _ _ q=>q
  rcases hc with z | z
  ·rw [z];exact nch b u e
  ·exact nch c _ z
end
def Itz (K:PySem.W.Frag) (a b:Addr) (n:Nat):It :=
 ⟨fun i H=>i<n/\∃ xs ys,SqT K H a xs/\SqL K H b ys/\xs.length=n/\ys.length=n,
  fun i H v H'=>∃ t x y,v=.ref t/\H t=none/\H'=upd H t (.tup [x,y])/\(∀ xs,SqT K H a xs->xs[i]?=some x)/\∀ ys,SqL K H b ys->ys[i]?=some y,
  fun i H=>i=n/\∃ xs ys,SqT K H a xs/\SqL K H b ys/\xs.length=n/\ys.length=n⟩
theorem DP {z TI TO i1 i2:Addr} {n:Nat} (Z:mG z TI TO i1 i2 [i1,a] [i2,b]) :
  Turn P w K (.Tuple elts x1 tp) (Itz K a b n) [z,TI,TO,i1,i2] z (fun i h=>IsZip h z TI TO .none/\IsPair h TI (.ref i1) (.ref i2)/\(∃ u v,IsPair h TO u v)/\h.IsTupleIter i1 a i/\h.IsListIter i2 b i) where
 mem:=by simp
 obj:=fun i h st c hc=>by
  obtain ⟨h1,h2,⟨u,v,h3⟩,⟨o4,g4,_,d4⟩,⟨o5,g5,_,d5⟩⟩:=st;simp only [L7,LZ,or_false] at hc;rcases hc with rfl | rfl | rfl | rfl | rfl
  ·exact ⟨_,h1,fun v q=>by cases q⟩
  ·exact ⟨_,h2,fun v q=>by cases q⟩
  ·exact ⟨_,h3,fun v q=>by cases q⟩
  ·exact ⟨_,g4,fun v q=>by rw [d4] at q;cases q⟩
  ·exact ⟨_,g5,fun v q=>by rw [d5] at q;cases q⟩
 keep:=fun i h h' st k=>by obtain ⟨h1,h2,⟨u,v,h3⟩,⟨o4,g4,r4⟩,⟨o5,g5,r5⟩⟩:=st;exact ⟨k z (by simp) _ h1,k TI (by simp) _ h2,⟨u,v,k TO (by simp) _ h3⟩,⟨o4,k i1 (by simp) _ g4,r4⟩,⟨o5,k i2 (by simp) _ g5,r5⟩⟩
 item:=by
  intro X hP hw hK hc i pins s σ H E I hf st hg;subst hP hw hK;obtain ⟨hi,xs,ys,hx,hy,lx,ly⟩:=hg;obtain ⟨h1,h2,⟨u,v,h3⟩,h4,h5⟩:=st;obtain ⟨its,rv,p,_⟩:=I.tuple hx;obtain ⟨jts,rw',p',_⟩:=I.list hy;have la:=rv.length;have lb:=rw'.length;have hh:X.A.in1.handled=none:=I.ok.hd hc;have na:a≠i1:=fun q=>by obtain ⟨o,g,c,_⟩:=p;obtain ⟨o4,g4,c4,_⟩:=h4;rw [q,g4] at g;cases g;rw [c4] at c;exact absurd (Value.type.inj c) (by decide)
  have nb:b≠i2:=fun q=>by obtain ⟨o,n,g,c,_⟩:=p';obtain ⟨o5,g5,c5,_⟩:=h5;rw [q,g5] at g;cases g;rw [c5] at c;exact absurd (Value.type.inj c) (by decide)
  have pt:s.heap.IsTuple a its.toArray:=p;refine wO (mr hh i1 a na its.toArray) (Draws.list hh i2 b nb jts.toArray) Z h1 h2 h3 ⟨h4,pt⟩ ⟨h5,p'.isList⟩ (by simp;omega) (by simp;omega) fun h' x y tk px py c1 c2 c3 c4 c5 c6=>⟨_,rfl,?_⟩
  refine wpAny_letOwnedTupleGo_zip (s:={ s with heap:=h',toks:=tk }) c1 fun h2' d1 d2=>?_
  have zl:z<s.heap.objs.size:=LN h1;have up:∀ c o,c≠z->h'.get? c=some o->h2'.get? c=some o:=fun c o hc e=>(d2.2 c hc).trans e
  have nT:s.heap.objs.size≠z:=My zl;obtain ⟨x0,ex,rx⟩:∃ x0,xs[i]?=some x0/\RelV x0 x:=by
   have hil:i<xs.length:=by omega
   obtain ⟨u',e1,e2⟩:=rv.get (L1 hil);refine ⟨xs[i],L1 hil,?_⟩;have px':its[i]?=some x:=by simpa using px
   rw [e1] at px';cases px';exact e2
  obtain ⟨y0,ey,ry⟩:∃ y0,ys[i]?=some y0/\RelV y0 y:=by
   have hil:i<ys.length:=by omega
   obtain ⟨u',e1,e2⟩:=rw'.get (L1 hil);refine ⟨ys[i],L1 hil,?_⟩;have py':jts[i]?=some y:=by simpa using py
   rw [e1] at py';cases py';exact e2
  have fr:H s.heap.objs.size=none:=I.hok.fresh (LK _);refine ⟨.ref s.heap.objs.size,upd H s.heap.objs.size (.tup [x0,y0]),?_,rfl,⟨_,x0,y0,rfl,fr,rfl,fun xs' h=>by rw [I.tuple_inj h hx];exact ex,fun ys' h=>by rw [I.list_inj h hy];exact ey⟩,?_,fun c hc'=>?_⟩
  ·refine I.turnLay (t':=tk) (ch:=[z,TI,TO,i1,i2]) hf (LK _) (fun c o hn e=>?_) ⟨by show 2<=sizeLine;decide,[x,y],.cons rx (.cons ry .nil),⟨_,up _ _ nT c5,rfl,rfl,_,rfl⟩⟩;simp only [L7,LZ,or_false,not_or] at hn;exact up c o hn.1 (c6 c o hn.1 hn.2.2.1 hn.2.2.2.1 hn.2.2.2.2 e)
  ·obtain ⟨⟨o4,g4,r4⟩,_⟩:=c3;obtain ⟨⟨o5,g5,r5⟩,_⟩:=c4;exact ⟨d1,up _ _ Z.TIz (c6 _ _ Z.TIz Z.TIO Z.TI1 Z.TI2 h2),⟨x,y,up _ _ Z.TOz c2⟩,⟨o4,up _ _ Z.z1 g4,r4⟩,⟨o5,up _ _ Z.z2 g5,r5⟩⟩
  ·have h0:=(hf c hc').1;obtain ⟨oc,gc⟩:∃ oc,s.heap.get? c=some oc:=by
    simp only [L7,LZ,or_false] at hc';rcases hc' with rfl | rfl | rfl | rfl | rfl
    ·exact ⟨_,h1⟩
    ·exact ⟨_,h2⟩
    ·exact ⟨_,h3⟩
    ·obtain ⟨o4,g4,_⟩:=h4;exact ⟨_,g4⟩
    ·obtain ⟨o5,g5,_⟩:=h5;exact ⟨_,g5⟩
   rw [aA (LR (LN gc))];exact h0
 done:=by
  intro X hP hw hK hc i pins s σ H E I hf st hg;subst hP hw hK;obtain ⟨hi,xs,ys,hx,hy,lx,ly⟩:=hg;obtain ⟨h1,h2,⟨u,v,h3⟩,h4,h5⟩:=st;obtain ⟨its,rv,p,_⟩:=I.tuple hx;have la:=rv.length;have hh:X.A.in1.handled=none:=I.ok.hd hc;have na:a≠i1:=fun q=>by obtain ⟨o,g,c,_⟩:=p;obtain ⟨o4,g4,c4,_⟩:=h4;rw [q,g4] at g;cases g;rw [c4] at c;exact absurd (Value.type.inj c) (by decide)
  have pt:s.heap.IsTuple a its.toArray:=p;have e:its.toArray.size=i:=by simp;omega
  refine oU (mr hh i1 a na its.toArray) Z h1 h2 h3 ⟨by rw [e];exact h4,pt⟩ fun h' k=>⟨rfl,?_⟩
  refine I.turneds (t':=s.toks) (ch:=[z,TI,TO,i1,i2]) hf fun c o hn q=>?_
  simp only [L7,LZ,or_false,not_or] at hn;exact k c o hn.1 hn.2.2.1 hn.2.2.2.1 hn.2.2.2.2 q
 self:=fun _ _ _ _ _ st h=>wpAny_pyIter_zip st.1 h
theorem boot_zip:bootBuiltins "zip"=some (.type "zip"):=by decide +kernel
def LB (K:PySem.W.Frag) (ta:TA):TI:=fun σ H R=>ta σ H fun vs H1=>∃ a b xs ys,vs=[.ref a,.ref b]/\SqT K H1 a xs/\SqL K H1 b ys/\ys.length=xs.length/\R (Itz K a b xs.length) H1
theorem Ih {a b:Expr} (hg:Gl X "zip") (hm:X.mg "zip"=none) (ha:PA X [a,b] ta) (hs:starEach [a,b] X.env=[(false,eval a X.env),(false,eval b X.env)]:=by rfl) (hs2:starEach [b] X.env=[(false,eval b X.env)]:=by rfl) :
  PI X (.Tuple elts x1 tp) (.Call (.Name "zip" p) [a,b] [] pos) (LB X.K ta):=by
 intro pins s σ H R I h;refine Call_ (gr I hg hm boot_zip (PyProof.Rows.callWith_type1 (thn (ha pos pins s σ H _ I h) fun us s1 rz2=>?_) (by rw [hs,hs2]) (by rw [hs2];rfl)));obtain ⟨vs,H1,I1,r1,q1⟩:=rz2;obtain ⟨aa,bb,xs,ys,e,hx,hy,hl,q⟩:=q1;subst e;obtain ⟨u1,u2,e1,r2,r3⟩:=vals2 r1;subst e1;cases r2;cases r3;obtain ⟨its,rv,pt,_⟩:=I1.tuple hx;obtain ⟨jts,rw',pl,_⟩:=I1.list hy;have pt':s1.heap.IsTuple aa its.toArray:=pt;have al:aa<s1.heap.objs.size:=by obtain ⟨_,g,_⟩:=pt';exact LN g
 have bl:bb<s1.heap.objs.size:=by obtain ⟨_,_,g,_⟩:=pl;exact LN g
 refine xM pt' pl.isList ?_;have z1:(zH1 s1.heap aa).objs.size=s1.heap.objs.size+1:=Heap.size_push ..;have z2:(zH2 s1.heap aa bb).objs.size=s1.heap.objs.size+2:=by rw [Heap.size_push,z1]
 have z3:(zH3 s1.heap aa bb).objs.size=s1.heap.objs.size+3:=by rw [Heap.size_push,z2]
 have z4:(zH4 s1.heap aa bb).objs.size=s1.heap.objs.size+4:=by rw [Heap.size_push,z3]
 have g5:IsZip (zH5 s1.heap aa bb) (zH4 s1.heap aa bb).objs.size (zH2 s1.heap aa bb).objs.size (zH3 s1.heap aa bb).objs.size .none:=LP _ rfl;have g4:IsPair (zH5 s1.heap aa bb) (zH3 s1.heap aa bb).objs.size .none .none:=L0 _ (LP _ rfl);have g3:IsPair (zH5 s1.heap aa bb) (zH2 s1.heap aa bb).objs.size (.ref s1.heap.objs.size) (.ref (zH1 s1.heap aa).objs.size):=L0 _ (L0 _ (LP _ rfl));have g2:(zH5 s1.heap aa bb).IsListIter (zH1 s1.heap aa).objs.size bb 0:=⟨_,L0 _ (L0 _ (L0 _ (LP _ rfl))),rfl,rfl⟩
 have g1:(zH5 s1.heap aa bb).IsTupleIter s1.heap.objs.size aa 0:=⟨_,L0 _ (L0 _ (L0 _ (L0 _ (LP _ rfl)))),rfl,rfl⟩
 have kk:∀ c o,s1.heap.get? c=some o->(zH5 s1.heap aa bb).get? c=some o:=fun c o e=>L0 _ (L0 _ (L0 _ (L0 _ (L0 _ e))))
 have I2:Inv X pins σ H1 { s1 with heap:=zH5 s1.heap aa bb }:=I1.kept (t':=s1.toks) kk;have Z:mG (zH4 s1.heap aa bb).objs.size (zH2 s1.heap aa bb).objs.size (zH3 s1.heap aa bb).objs.size s1.heap.objs.size (zH1 s1.heap aa).objs.size [s1.heap.objs.size,aa] [(zH1 s1.heap aa).objs.size,bb]:=by
  rw [z1,z2,z3,z4];have nq:∀ i j:Nat,i≠j->s1.heap.objs.size+i≠s1.heap.objs.size+j:=fun i j h q=>h (Nat.add_left_cancel q)
  refine ⟨nq 2 4 (by decide),nq 3 4 (by decide),nq 0 4 (by decide),nq 1 4 (by decide),nq 2 3 (by decide),nq 2 0 (by decide),nq 2 1 (by decide),nq 3 0 (by decide),nq 3 1 (by decide),nq 0 1 (by decide),fun c hc=>?_,fun c hc=>?_⟩
  ·simp only [L7,LZ,or_false] at hc;rcases hc with rfl | rfl
   ·exact ⟨nq 0 4 (by decide),nq 0 3 (by decide),nq 0 1 (by decide)⟩
   ·exact ⟨LR (LV al (Mz _ _)),LR (LV al (Mz _ _)),LR (LV al (Mz _ _))⟩
  ·simp only [L7,LZ,or_false] at hc;rcases hc with rfl | rfl
   ·exact ⟨nq 1 4 (by decide),nq 1 3 (by decide),nq 1 0 (by decide)⟩
   ·exact ⟨LR (LV bl (Mz _ _)),LR (LV bl (Mz _ _)),LR bl⟩
 have big:∀ c∈[(zH4 s1.heap aa bb).objs.size,(zH2 s1.heap aa bb).objs.size,(zH3 s1.heap aa bb).objs.size,s1.heap.objs.size,(zH1 s1.heap aa).objs.size],s1.heap.objs.size<=c:=fun c hc=>by
  simp only [L7,LZ,or_false] at hc;rcases hc with rfl | rfl | rfl | rfl | rfl
  ·rw [z4];exact Mz _ _
  ·rw [z2];exact Mz _ _
  ·rw [z3];exact Mz _ _
  ·exact LK _
  ·rw [z1];exact Mz _ _
 refine wpAny_pyIter_zip g5 ⟨_,_,_,_,H1,rfl,I2,DP Z,⟨g5,g3,⟨_,_,g4⟩,g1,g2⟩,fun c hc=>?_,q⟩;exact I1.fpOk (big c hc) (I1.hok.fresh (big c hc))
inductive Rs (α:Type) where
 | ok (a:α)
 | rz (C:Addr)
 | no
namespace Rs
def bind {α β:Type}:Rs α->(α->Rs β)->Rs β
 | ok a,f=>f a
 | rz C,_=>rz C
 | no,_=>no
def fc {α:Type}:Option α->Rs α
 | some a=>ok a
 | none=>no
def calm {α:Type}:Rs α->Rs α
 | ok a=>ok a
 | _=>no
@[simp] theorem ag (a:α) (f:α->Rs β):(ok a).bind f=f a:=rfl
@[simp] theorem eO (C:Addr) (f:α->Rs β):(rz C).bind f=rz C:=rfl
@[simp] theorem bH (f:α->Rs β):(no:Rs α).bind f=no:=rfl
@[simp] theorem ai (a:α):fc (some a)=ok a:=rfl
@[simp] theorem Ja:fc (none:Option α)=no:=rfl
@[simp] theorem dk (a:α):(ok a).calm=ok a:=rfl
end Rs
variable {gf:List PyData->Rs PyData}
def del (H:Hp) (A:List Addr):Hp:=fun b=>if b∈A then none else H b
theorem zN:del H []=H:=by funext b;simp [del]
theorem gR (h:b∈A):del H A b=none:=by simp [del,h]
theorem aP (h:b∉A):del H A b=H b:=by simp [del,h]
theorem bf (h:del H A b=some o):b∉A/\H b=some o:=by
 by_cases z:b∈A
 ·rw [gR z] at h;cases h
 ·rw [aP z] at h;exact ⟨z,h⟩
theorem aB:ax (del H A) H:=fun _ _ e=>(bf e).2
theorem ax.del (s:ax H H'):ax (del H A) (L2.del H' A):=fun b o e=>by obtain ⟨z,e⟩:=bf e;rw [aP z];exact s b o e
def HZ:HO->Bool
 | .lst _=>true
 | .dK _=>true
 | _=>false
def Ls (H:Hp) (A:List Addr):Prop:=∀ a∈A,∃ o,H a=some o/\HZ o=true
theorem Ls.same (h:Ls H A) (s:ax H H'):Ls H' A:=fun a ha=>by obtain ⟨o,e,q⟩:=h a ha;exact ⟨o,s _ _ e,q⟩
theorem Ls.nil:Ls H []:=fun _ h=>by cases h
theorem Ls.new {p:Addr} (h:Ls H A) (hp:H p=none):p∉A:=fun z=>by obtain ⟨xs,e,_⟩:=h p z;rw [hp] at e;cases e
def ao (ns:List Int):PyData:=.dict [(.none,.list (ns.map .int))]
mutual
def Is (K:PySem.W.Frag) (H:Hp):PyData->V->Prop
 | .none,v=>v=.non
 | .bool b,v=>v=.bl b
 | .int i,v=>v=.int i
 | .str x,v=>v=.str x
 | .list ds,v=>∃ a xs,v=.ref a/\H a=some (.lst xs)/\Iss K H ds xs
 | .tuple ds,v=>∃ a xs,v=.ref a/\H a=some (.tup xs)/\Iss K H ds xs
 | .dict kvs,v=>((∃ a ns,v=.ref a/\kvs=[(PyData.none,PyData.list (List.map PyData.int ns))]/\SqL K H a (List.map V.int ns)) \/
  ∃ (a:Addr) (l:List (Int×Int)),v=.ref a/\kvs=l.map (fun p=>(PyData.int p.1,PyData.int p.2))/\H a=some (.dK (l.map fun p=>(.inl p.1,V.int p.2)))) \/
  ∃ (a C dx:Addr) (fs:List (Str×V)),v=.ref a/\H a=some (.ins C dx fs)/\fs.lookup ("@":Str)=none/\(Isk K H kvs (("",.int (C:Int))::fs)\/Isk K H kvs (("",.int (C:Int))::("@",.int (a:Int))::fs))
def Iss (K:PySem.W.Frag) (H:Hp):List PyData->List V->Prop
 | [],vs=>vs=[]
 | d::ds,vs=>∃ v r,vs=v::r/\Is K H d v/\Iss K H ds r
def Isk (K:PySem.W.Frag) (H:Hp):List (PyData×PyData)->List (Str×V)->Prop
 | [],fs=>fs=[]
 | (k,d)::r,fs=>∃ f v fs',fs=(f,v)::fs'/\k=.str f/\Is K H d v/\Isk K H r fs'
end
def cA (C a:Addr) (fds:List (Str×PyData)):PyData:=.dict ((.str "",.int (C:Int))::(.str "@",.int (a:Int))::fds.map fun p=>(.str p.1,p.2))
def Cq (C:Addr) (fds:List (Str×PyData)):PyData:=.dict ((.str "",.int (C:Int))::fds.map fun p=>(.str p.1,p.2))
section
theorem bO {i:Int}:Is K H (.int i) (.int i):=by unfold Is;rfl
theorem is_bool {b:Bool}:Is K H (.bool b) (.bl b):=by unfold Is;rfl
theorem is_none:Is K H .none .non:=by unfold Is;rfl
theorem Cb:Is K H (.str x) (.str x):=by unfold Is;rfl
theorem iy (h:H a=some (.tup xs)) (h2:Iss K H ds xs):Is K H (.tuple ds) (.ref a):=by unfold Is;exact ⟨a,xs,rfl,h,h2⟩
theorem jV (h:H a=some (.lst xs)) (h2:Iss K H ds xs):Is K H (.list ds) (.ref a):=by unfold Is;exact ⟨a,xs,rfl,h,h2⟩
theorem AI (h:SqL K H a (ns.map V.int)):Is K H (ao ns) (.ref a):=by unfold ao Is;exact .inl (.inl ⟨a,ns,rfl,rfl,h⟩)
theorem cO:Iss K H [] []:=by unfold Iss;rfl
theorem cG {d:PyData} (h:Is K H d v) (h2:Iss K H ds vs):Iss K H (d::ds) (v::vs):=by unfold Iss;exact ⟨v,vs,rfl,h,h2⟩
theorem ja {d:PyData} (h:Is K H d v):Iss K H [d] [v]:=cG h cO
theorem Is.ofInt {i:Int} (h:Is K H (.int i) v):v=.int i:=by unfold Is at h;exact h
theorem Is.ofBool {i:Bool} (h:Is K H (.bool i) v):v=.bl i:=by unfold Is at h;exact h
theorem Is.ofNone (h:Is K H .none v):v=.non:=by unfold Is at h;exact h
theorem Is.ofStr (h:Is K H (.str x) v):v=.str x:=by unfold Is at h;exact h
theorem Is.ofTup (h:Is K H (.tuple ds) v):∃ a xs,v=.ref a/\H a=some (.tup xs)/\Iss K H ds xs:=by unfold Is at h;exact h
theorem Is.ofLst (h:Is K H (.list ds) v):∃ a xs,v=.ref a/\H a=some (.lst xs)/\Iss K H ds xs:=by unfold Is at h;exact h
theorem Is.ofScript (h:Is K H (ao ns) v):∃ a,v=.ref a/\SqL K H a (ns.map V.int):=by
 unfold ao Is at h;rcases h with (h | ⟨a,l,_,e,_⟩) | ⟨a,C,dx,fs,_,_,_,h | h⟩
 case inl.inr=>cases l <;> cases e
 case inr.inl=>unfold Isk at h;obtain ⟨f,_,_,_,h,_⟩:=h;cases h
 case inr.inr=>unfold Isk at h;obtain ⟨f,_,_,_,h,_⟩:=h;cases h
 obtain ⟨a,ms,e,e2,h⟩:=h;have e3:ns.map PyData.int=ms.map PyData.int:=by injection e2 with e2 _;injection e2 with _ e2;injection e2
 have e4:ns=ms:=by
  have inj:∀ (a b:List Int),a.map PyData.int=b.map PyData.int->a=b:=by
   intro a
   induction a with
   | nil=>intro b hb;cases b with | nil=>rfl | cons _ _=>simp at hb
   | cons x r ih =>
    intro b hb;cases b with
    | nil=>simp at hb
    | cons y s =>simp only [L5,List.cons.injEq,PyData.int.injEq] at hb;rw [hb.1,ih s hb.2]
  exact inj _ _ e3
 subst e4;exact ⟨a,e,h⟩
theorem Iss.nil_of (h:Iss K H [] vs):vs=[]:=by unfold Iss at h;exact h
theorem Iss.cons_of {d:PyData} (h:Iss K H (d::ds) vs):∃ v r,vs=v::r/\Is K H d v/\Iss K H ds r:=by unfold Iss at h;exact h
theorem Iss.length:∀ {ds:List PyData} {vs:List V},Iss K H ds vs->vs.length=ds.length
 | [],_,h=>by rw [h.nil_of];rfl
 | _::_,_,h=>by obtain ⟨v,r,e,_,h2⟩:=h.cons_of;rw [e,LS,LS,Iss.length h2]
mutual
theorem Is.same (e:ax H H'):∀ {d:PyData} {v:V},Is K H d v->Is K H' d v
 | .none,_,h=>by unfold Is at h ⊢;exact h
 | .bool _,_,h=>by unfold Is at h ⊢;exact h
 | .int _,_,h=>by unfold Is at h ⊢;exact h
 | .str _,_,h=>by unfold Is at h ⊢;exact h
 | .list ds,_,h=>by unfold Is at h ⊢;obtain ⟨a,xs,e1,h1,h2⟩:=h;exact ⟨a,xs,e1,e _ _ h1,Iss.same e h2⟩
 | .tuple ds,_,h=>by unfold Is at h ⊢;obtain ⟨a,xs,e1,h1,h2⟩:=h;exact ⟨a,xs,e1,e _ _ h1,Iss.same e h2⟩
 | .dict _,_,h=>by
  unfold Is at h ⊢;rcases h with (⟨a,ns,e1,e2,h2⟩ | ⟨a,l,e1,e2,h2⟩) | ⟨a,C,dx,fs,e1,h1,hn,h2 | h2⟩
  ·exact .inl (.inl ⟨a,ns,e1,e2,e.seq h2⟩)
  ·exact .inl (.inr ⟨a,l,e1,e2,e _ _ h2⟩)
  ·exact .inr ⟨a,C,dx,fs,e1,e _ _ h1,hn,.inl (Isk.same e h2)⟩
  ·exact .inr ⟨a,C,dx,fs,e1,e _ _ h1,hn,.inr (Isk.same e h2)⟩
theorem Iss.same (e:ax H H'):∀ {ds:List PyData} {vs:List V},Iss K H ds vs->Iss K H' ds vs
 | [],_,h=>by unfold Iss at h ⊢;exact h
 | d::ds,_,h=>by unfold Iss at h ⊢;obtain ⟨v,r,e1,h1,h2⟩:=h;exact ⟨v,r,e1,Is.same e h1,Iss.same e h2⟩
theorem Isk.same (e:ax H H'):∀ {ds:List (PyData×PyData)} {fs:List (Str×V)},Isk K H ds fs->Isk K H' ds fs
 | [],_,h=>by unfold Isk at h ⊢;exact h
 | (k,d)::ds,_,h=>by unfold Isk at h ⊢;obtain ⟨f,v,r,e1,e2,h1,h2⟩:=h;exact ⟨f,v,r,e1,e2,Is.same e h1,Isk.same e h2⟩
end
theorem nW:Isk K H [] []:=by unfold Isk;rfl
theorem dZ {f:Str} {d:PyData} {r:List (PyData×PyData)} {fs:List (Str×V)} (h:Is K H d v) (h2:Isk K H r fs):Isk K H ((.str f,d)::r) ((f,v)::fs):=by unfold Isk;exact ⟨f,v,fs,rfl,rfl,h,h2⟩
theorem Ii {fds:List (Str×PyData)} {fs:List (Str×V)} (h:H a=some (.ins C dx fs)) (hn:fs.lookup ("@":Str)=none) (h2:Isk K H (fds.map fun p=>(.str p.1,p.2)) fs):Is K H (Cq C fds) (.ref a):=by unfold Cq Is;exact .inr ⟨a,C,dx,fs,rfl,h,hn,.inl (dZ bO h2)⟩
theorem Bx {fds:List (Str×PyData)} {fs:List (Str×V)} (h:H a=some (.ins C dx fs)) (hn:fs.lookup ("@":Str)=none) (h2:Isk K H (fds.map fun p=>(.str p.1,p.2)) fs):Is K H (cA C a fds) (.ref a):=by unfold cA Is;exact .inr ⟨a,C,dx,fs,rfl,h,hn,.inr (dZ bO (dZ bO h2))⟩
theorem Hk (hA:Ls H A) (h:H a=some (.tup xs)):del H A a=some (.tup xs):=by rw [aP (fun q=>by obtain ⟨ys,e2,q2⟩:=hA a q;rw [h] at e2;cases e2;cases q2)];exact h
mutual
theorem Is.dl {A:List Addr} (hA:Ls H A):∀ {d:PyData} {v:V},fg d=true->Is K H d v->Is K (del H A) d v
 | .none,_,_,h=>by unfold Is at h ⊢;exact h
 | .bool _,_,_,h=>by unfold Is at h ⊢;exact h
 | .int _,_,_,h=>by unfold Is at h ⊢;exact h
 | .str _,_,_,h=>by unfold Is at h ⊢;exact h
 | .list _,_,n,_=>by unfold fg at n;cases n
 | .dict _,_,n,_=>by unfold fg at n;cases n
 | .tuple ds,_,n,h=>by unfold fg at n;obtain ⟨a,xs,e,h1,h2⟩:=h.ofTup;subst e;exact iy (Hk hA h1) (Iss.dl hA n h2)
theorem Iss.dl {A:List Addr} (hA:Ls H A):∀ {ds:List PyData} {vs:List V},kD ds=true->Iss K H ds vs->Iss K (del H A) ds vs
 | [],_,_,h=>by rw [h.nil_of];exact cO
 | d::ds,_,n,h=>by unfold kD at n;obtain ⟨n1,n2⟩:=Mu.mp n;obtain ⟨v,r,e,h1,h2⟩:=h.cons_of;subst e;exact cG (Is.dl hA n1 h1) (Iss.dl hA n2 h2)
end
mutual
def aH:PyData->Bool
 | .list ds=>dm ds
 | .tuple ds=>dm ds
 | .dict _=>false
 | _=>true
def dm:List PyData->Bool
 | []=>true
 | d::ds=>aH d&&dm ds
end
mutual
theorem Is.isd:∀ {d:PyData} {v:V},aH d=true->Is K H d v->IsD K H d v
 | .none,_,_,h=>by rw [h.ofNone];exact B6
 | .bool _,_,_,h=>by rw [h.ofBool];exact Cf
 | .int _,_,_,h=>by rw [h.ofInt];exact tN
 | .str _,_,_,h=>by rw [h.ofStr];exact FN
 | .list ds,_,n,h=>by unfold aH at n;obtain ⟨a,xs,e,h1,h2⟩:=h.ofLst;subst e;exact sX (SqL.of h1) (Iss.isd n h2)
 | .tuple ds,_,n,h=>by unfold aH at n;obtain ⟨a,xs,e,h1,h2⟩:=h.ofTup;subst e;exact EF (SqT.of h1) (Iss.isd n h2)
 | .dict _,_,n,_=>by unfold aH at n;cases n
theorem Iss.isd:∀ {ds:List PyData} {vs:List V},dm ds=true->Iss K H ds vs->ff K H ds vs
 | [],_,_,h=>by rw [h.nil_of];exact p7
 | d::ds,_,n,h=>by unfold dm at n;obtain ⟨n1,n2⟩:=Mu.mp n;obtain ⟨v,r,e,h1,h2⟩:=h.cons_of;subst e;exact sH (Is.isd n1 h1) (Iss.isd n2 h2)
end
def gx:PyData->Bool
 | .none=>true
 | .bool _=>true
 | .int _=>true
 | .str _=>true
 | _=>false
theorem IsD.is {d:PyData} (n:gx d=true) (h:IsD K H d v):Is K H d v:=by
 cases d with
 | none=>rw [h.ofNone];exact is_none
 | bool _=>rw [h.ofBool];exact is_bool
 | int _=>rw [h.ofInt];exact bO
 | str _=>rw [h.ofStr];exact Cb
 | _=>cases n
theorem wZ {d:PyData} (n:gx d=true):fg d=true:=by
 cases d with
 | list _=>cases n
 | tuple _=>cases n
 | dict _=>cases n
 | _=>unfold fg;rfl
theorem Iss.get:∀ {ds:List PyData} {vs:List V} {i:Nat} {v:V},Iss K H ds vs->vs[i]?=some v->∃ d,ds[i]?=some d/\Is K H d v
 | [],_,i,v,h,e=>by rw [h.nil_of] at e;simp at e
 | d::ds,_,i,v,h,e=>by
  obtain ⟨w,r,e1,h1,h2⟩:=h.cons_of;subst e1;cases i with
  | zero=>simp at e;subst e;exact ⟨d,rfl,h1⟩
  | succ i=>simpa using Iss.get (i:=i) h2 (by simpa using e)
theorem Iss.getD:∀ {ds:List PyData} {vs:List V} {i:Nat} {d:PyData},Iss K H ds vs->ds[i]?=some d->∃ v,vs[i]?=some v/\Is K H d v
 | [],_,i,v,h,e=>by simp at e
 | d::ds,_,i,v,h,e=>by
  obtain ⟨w,r,e1,h1,h2⟩:=h.cons_of;subst e1;cases i with
  | zero=>simp at e;subst e;exact ⟨w,rfl,h1⟩
  | succ i=>simpa using Iss.getD (i:=i) h2 (by simpa using e)
theorem Iss.append:∀ {ds es:List PyData} {vs us:List V},Iss K H ds vs->Iss K H es us->Iss K H (ds++es) (vs++us)
 | [],_,_,_,h,h'=>by rw [h.nil_of];exact h'
 | d::ds,es,_,us,h,h'=>by obtain ⟨v,r,e,h1,h2⟩:=h.cons_of;subst e;exact cG h1 (Iss.append h2 h')
theorem Iss.take:∀ {ds:List PyData} {vs:List V} (n:Nat),Iss K H ds vs->Iss K H (ds.take n) (vs.take n)
 | [],_,n,h=>by rw [h.nil_of];simpa using cO
 | d::ds,_,0,h=>by simpa using cO
 | d::ds,_,n+1,h=>by obtain ⟨v,r,e,h1,h2⟩:=h.cons_of;subst e;exact cG h1 (Iss.take n h2)
theorem Iss.drop:∀ {ds:List PyData} {vs:List V} (n:Nat),Iss K H ds vs->Iss K H (ds.drop n) (vs.drop n)
 | [],_,n,h=>by rw [h.nil_of];simpa using cO
 | d::ds,_,0,h=>h
 | d::ds,_,n+1,h=>by obtain ⟨v,r,e,h1,h2⟩:=h.cons_of;subst e;exact Iss.drop n h2
theorem Iss.set {d:PyData} {v:V} (hv:Is K H d v):∀ {ds:List PyData} {vs:List V} (i:Nat),Iss K H ds vs->Iss K H (ds.set i d) (vs.set i v)
 | [],_,n,h=>by rw [h.nil_of];simpa using cO
 | e::ds,_,0,h=>by obtain ⟨u,r,z,h1,h2⟩:=h.cons_of;subst z;exact cG hv h2
 | e::ds,_,n+1,h=>by obtain ⟨u,r,z,h1,h2⟩:=h.cons_of;subst z;exact cG h1 (Iss.set hv n h2)
theorem Iss.eraseIdx:∀ {ds:List PyData} {vs:List V} (i:Nat),Iss K H ds vs->Iss K H (ds.eraseIdx i) (vs.eraseIdx i)
 | [],_,n,h=>by rw [h.nil_of];simpa using cO
 | e::ds,_,0,h=>by obtain ⟨u,r,z,h1,h2⟩:=h.cons_of;subst z;exact h2
 | e::ds,_,n+1,h=>by obtain ⟨u,r,z,h1,h2⟩:=h.cons_of;subst z;exact cG h1 (Iss.eraseIdx n h2)
theorem Iss.rep {ds:List PyData} {vs:List V} (h:Iss K H ds vs):∀ k:Nat,Iss K H (List.replicate k ds).flatten (List.replicate k vs).flatten
 | 0=>cO
 | k+1=>by rw [MI,MI,MN,MN];exact h.append (Iss.rep h k)
theorem vH:∀ (ns:List Int),Iss K H (ns.map PyData.int) (ns.map V.int)
 | []=>cO
 | _::r=>cG bO (vH r)
theorem Iss.ofInts:∀ {ns:List Int} {vs:List V},Iss K H (ns.map PyData.int) vs->vs=ns.map V.int
 | [],_,h=>h.nil_of
 | n::r,_,h=>by obtain ⟨v,t,e,h1,h2⟩:=h.cons_of;rw [e,h1.ofInt,Iss.ofInts h2];rfl
theorem Iss.ofBools:∀ {ns:List Bool} {vs:List V},Iss K H (ns.map PyData.bool) vs->vs=ns.map V.bl
 | [],_,h=>h.nil_of
 | n::r,_,h=>by obtain ⟨v,t,e,h1,h2⟩:=h.cons_of;rw [e,h1.ofBool,Iss.ofBools h2];rfl
theorem Is.isNone {d:PyData} (h:Is K H d v):(v=.non)↔d=.none:=by
 cases d with
 | none=>simp [h.ofNone]
 | bool b=>simp [h.ofBool]
 | int i=>simp [h.ofInt]
 | str x=>simp [h.ofStr]
 | list ds=>obtain ⟨a,xs,e,_⟩:=h.ofLst;simp [e]
 | tuple ds=>obtain ⟨a,xs,e,_⟩:=h.ofTup;simp [e]
 | dict _=>unfold Is at h;rcases h with (⟨a,ns,e,_⟩ | ⟨a,l,e,_⟩) | ⟨a,C,dx,fs,e,_⟩ <;> simp [e]
theorem bL {p:Addr} (h:H p=none):ax H (upd H p o):=gU h
theorem ke {p:Addr} (h:p∈A):del (upd H p o) A=del H A:=by
 funext b;by_cases z:b∈A
 ·rw [gR z,gR z]
 ·rw [aP z,aP z,aA (by rintro rfl;exact z h)]
theorem lu {p:Addr} (hA:Ls H A) (hp:H p=none) (h:Iss K (del H A) ds xs):Is K (del (upd H p (.tup xs)) A) (.tuple ds) (.ref p) :=
 iy (by rw [aP (hA.new hp)];exact aG) (h.same (ax.del (bL hp)))
theorem ko {p:Addr} (hA:Ls H A) (hp:H p=none) (h:Iss K (del H A) ds xs):Is K (del (upd H p (.lst xs)) A) (.list ds) (.ref p) :=
 jV (by rw [aP (hA.new hp)];exact aG) (h.same (ax.del (bL hp)))
end
abbrev Ds:=List (Option PyData)
variable {gl gi gs:Ds->Rs (List PyData)} {δ:Ds} {tgt:PyData->Option Ds} {cond:Ds->Rs Bool} {ge:Ds->Rs PyData}
structure dw (K:PySem.W.Frag) (H:Hp) (A:List Addr) (δ:Ds) (σ:St):Prop where
 ls:Ls H A
 len:δ.length=σ.length
 get:∀ (i:Nat) (d:PyData),δ[i]?=some (some d)->∃ v,σ[i]?=some (some v)/\Is K (del H A) d v
theorem dw.same (R:dw K H A δ σ) (s:ax H H'):dw K H' A δ σ :=
 ⟨R.ls.same s,R.len,fun i d e=>by obtain ⟨v,e1,h⟩:=R.get i d e;exact ⟨v,e1,h.same s.del⟩⟩
def hW (K:PySem.W.Frag) (E:XK) (A:List Addr) (H:Hp) (r:Rs PyData) (Q:VK):Prop:=match r with
 | .ok d=>∀ v H',ax H H'->Is K (del H' A) d v->Q v H'
 | .rz C=>∀ H',ax H H'->E (.ref C) none H'
 | .no=>False
def Lu (K:PySem.W.Frag) (E:XK) (A:List Addr) (H:Hp) (r:Rs (List PyData)) (Q:List V->Hp->Prop):Prop:=match r with
 | .ok d=>∀ v H',ax H H'->Iss K (del H' A) d v->Q v H'
 | .rz C=>∀ H',ax H H'->E (.ref C) none H'
 | .no=>False
def vi (E:XK) (H:Hp) (r:Rs Bool) (Q:Bool->Hp->Prop):Prop:=match r with
 | .ok d=>∀ H',ax H H'->Q d H'
 | .rz C=>∀ H',ax H H'->E (.ref C) none H'
 | .no=>False
def eD (K:PySem.W.Frag) (E:XK) (g:Ds->Rs PyData):TE:=fun σ H Q=>∃ A δ,dw K H A δ σ/\hW K E A H (g δ) Q
def aD (K:PySem.W.Frag) (E:XK) (g:Ds->Rs (List PyData)):TA:=fun σ H Q=>∃ A δ,dw K H A δ σ/\Lu K E A H (g δ) Q
def cD (K:PySem.W.Frag) (E:XK) (g:Ds->Rs Bool):TT:=fun σ H Q=>∃ A δ,dw K H A δ σ/\vi E H (g δ) Q
def PD (X:Cx) (E:XK) (e:Expr) (g:Ds->Rs PyData):Prop:=PE X e (eD X.K E g)
def PAD (X:Cx) (E:XK) (es:List Expr) (g:Ds->Rs (List PyData)):Prop:=PA X es (aD X.K E g)/\∀ δ ds,g δ=.ok ds->ds.length=es.length
def PCD (X:Cx) (E:XK) (e:Expr) (g:Ds->Rs Bool):Prop:=PT X e (cD X.K E g)
def PWD (X:Cx) (E:XK) (e:Expr) (g:Ds->Rs Bool):Prop:=PW X e (cD X.K E g)
theorem PE.imp {t t':TE} (h:PE X e t) (k:∀ σ H Q,t' σ H Q->t σ H Q):PE X e t':=fun pins s σ H Q I q=>h pins s σ H Q I (k σ H Q q)
theorem PT.imp {t t':TT} (h:PT X e t) (k:∀ σ H Q,t' σ H Q->t σ H Q):PT X e t':=fun pins s σ H Q I q=>h pins s σ H Q I (k σ H Q q)
theorem PW.imp {t t':TT} (h:PW X e t) (k:∀ σ H Q,t' σ H Q->t σ H Q):PW X e t':=fun w pins s σ H Q I q=>h w pins s σ H Q I (k σ H Q q)
theorem PA.imp {e:List Expr} {t t':TA} (h:PA X e t) (k:∀ σ H Q,t' σ H Q->t σ H Q):PA X e t':=fun p pins s σ H Q I q=>h p pins s σ H Q I (k σ H Q q)
theorem PS.imp {e:Stmt} {t t':TS} (h:PS X e t) (k:∀ D σ H,t' D σ H->t D σ H):PS X e t':=fun pins s σ H D I q=>h pins s σ H D I (k D σ H q)
theorem PSs.imp {e:List Stmt} {t t':TS} (h:PSs X e t) (k:∀ D σ H,t' D σ H->t D σ H):PSs X e t':=fun pins s σ H D I q=>h pins s σ H D I (k D σ H q)
theorem hW.mono {r:Rs PyData} {Q:VK} (h:hW K E A H r Q) (s:ax H H1):hW K E A H1 r Q:=by
 cases r with
 | ok d=>exact fun v H' s' q=>h v H' (s.trans s') q
 | rz C=>exact fun H' s'=>h H' (s.trans s')
 | no=>exact h
theorem vi.mono {r:Rs Bool} {Q:Bool->Hp->Prop} (h:vi E H r Q) (s:ax H H1):vi E H1 r Q:=by
 cases r with
 | ok d=>exact fun H' s'=>h H' (s.trans s')
 | rz C=>exact fun H' s'=>h H' (s.trans s')
 | no=>exact h
theorem eD.run {g:Ds->Rs PyData} {Q:VK} (R:dw K H A δ σ)
  (ok:∀ d,g δ=.ok d->∀ v H',ax H H'->dw K H' A δ σ->Is K (del H' A) d v->Q v H') (rz:∀ C,g δ=.rz C->∀ H',ax H H'->E (.ref C) none H') (no:g δ=.no->False):eD K E g σ H Q:=by
 refine ⟨A,δ,R,?_⟩;cases e:g δ with
 | ok d=>exact fun v H' s q=>ok d e v H' s (R.same s) q
 | rz C=>exact fun H' s=>rz C e H' s
 | no=>exact no e
theorem aD.run {g:Ds->Rs (List PyData)} {Q:List V->Hp->Prop} (R:dw K H A δ σ)
  (ok:∀ d,g δ=.ok d->∀ v H',ax H H'->dw K H' A δ σ->Iss K (del H' A) d v->Q v H') (rz:∀ C,g δ=.rz C->∀ H',ax H H'->E (.ref C) none H') (no:g δ=.no->False):aD K E g σ H Q:=by
 refine ⟨A,δ,R,?_⟩;cases e:g δ with
 | ok d=>exact fun v H' s q=>ok d e v H' s (R.same s) q
 | rz C=>exact fun H' s=>rz C e H' s
 | no=>exact no e
theorem cD.run {g:Ds->Rs Bool} {Q:Bool->Hp->Prop} (R:dw K H A δ σ)
  (ok:∀ d,g δ=.ok d->∀ H',ax H H'->dw K H' A δ σ->Q d H') (rz:∀ C,g δ=.rz C->∀ H',ax H H'->E (.ref C) none H') (no:g δ=.no->False):cD K E g σ H Q:=by
 refine ⟨A,δ,R,?_⟩;cases e:g δ with
 | ok d=>exact fun H' s=>ok d e H' s (R.same s)
 | rz C=>exact fun H' s=>rz C e H' s
 | no=>exact no e
def af (i:Nat):Ds->Rs PyData:=fun δ=>match δ[i]? with
 | some (some d)=>.ok d
 | _=>.no
def gC (d:PyData):Ds->Rs PyData:=fun _=>.ok d
def g1 (f:PyData->Option PyData) (a:Ds->Rs PyData):Ds->Rs PyData:=fun δ=>(a δ).bind fun x=>Rs.fc (f x)
def g2 (f:PyData->PyData->Option PyData) (a b:Ds->Rs PyData):Ds->Rs PyData:=fun δ=>(a δ).bind fun x=>(b δ).bind fun y=>Rs.fc (f x y)
def gF (f:List PyData->Option PyData) (as:Ds->Rs (List PyData)):Ds->Rs PyData:=fun δ=>(as δ).bind fun ds=>Rs.fc (f ds)
def ah:Ds->Rs (List PyData):=fun _=>.ok []
def ae (a:Ds->Rs PyData) (r:Ds->Rs (List PyData)):Ds->Rs (List PyData):=fun δ=>(a δ).bind fun x=>(r δ).bind fun xs=>.ok (x::xs)
def fD (as:Ds->Rs (List PyData)):Ds->Rs PyData:=fun δ=>(as δ).bind fun ds=>.ok (.tuple ds)
def qB (as:Ds->Rs (List PyData)):Ds->Rs PyData:=fun δ=>(as δ).bind fun ds=>.ok (.list ds)
def aq (gf:List PyData->Rs PyData) (as:Ds->Rs (List PyData)):Ds->Rs PyData:=fun δ=>(as δ).bind gf
def truth:PyData->Rs Bool
 | .bool b=>.ok b
 | _=>.no
def gT (a:Ds->Rs PyData):Ds->Rs Bool:=fun δ=>(a δ).bind truth
def gG (a:Ds->Rs Bool):Ds->Rs Bool:=fun δ=>(a δ).bind fun b=>.ok (!b)
def AG (a b:Ds->Rs Bool):Ds->Rs Bool:=fun δ=>(a δ).bind fun x=>if x=true then b δ else .ok false
def cOr (a b:Ds->Rs Bool):Ds->Rs Bool:=fun δ=>(a δ).bind fun x=>if x=true then .ok true else b δ
def AZ (a b:Ds->Rs PyData):Ds->Rs PyData:=fun δ=>(a δ).bind fun x=>(truth x).bind fun t=>if t=true then b δ else .ok (.bool false)
def gOr (a b:Ds->Rs PyData):Ds->Rs PyData:=fun δ=>(a δ).bind fun x=>(truth x).bind fun t=>if t=true then .ok (.bool true) else b δ
def Lb (a:Ds->Rs PyData):Ds->Rs PyData:=fun δ=>(a δ).bind fun x=>(truth x).bind fun t=>.ok (.bool (!t))
def gIf (c:Ds->Rs Bool) (a b:Ds->Rs PyData):Ds->Rs PyData:=fun δ=>(c δ).bind fun x=>if x=true then a δ else b δ
section
variable {a b c:Expr} {ga gb gc:Ds->Rs PyData}
theorem Ir (i:Nat) (hN:X.N[i]?=some x) (hv:Vis X.env.scope x) (hd:(x==("__debug__":Str))=false)
  (hcd:(x==("__classdict__":Str))=false):PD X E (.Name x pos) (af i) :=
 (kG hN hv hd hcd).imp fun σ H Q pz3=>by
  obtain ⟨A,δ,R,o⟩:=pz3;unfold af at o;split at o
  ·rename_i d e;obtain ⟨v,e1,h⟩:=R.get i d e;exact ⟨v,e1,o v H (ax.refl H) h⟩
  ·exact o.elim
theorem BW {d:PyData} (h:PE X e (tC v)) (hi:∀ K H,Is K H d v):PD X E e (gC d):=h.imp fun σ H Q qz3=>(by obtain ⟨A,δ,R,o⟩:=qz3;exact o v H (ax.refl H) (hi _ _))
theorem Iy {i j pos}:PD X E (.Constant (.int i) j pos) (gC (.int i)):=BW gu fun _ _=>bO
theorem KN {i j pos}:PD X E (.Constant (.bool i) j pos) (gC (.bool i)):=BW Kb fun _ _=>is_bool
theorem HA {j pos}:PD X E (.Constant .none j pos) (gC .none):=BW GY fun _ _=>is_none
theorem G8 {i j pos}:PD X E (.Constant (.str i) j pos) (gC (.str i)):=BW Jj fun _ _=>Cb
theorem FY {i:Int} (hm:∃ t,X.mg x=some (.int i t)) (hg:Gl X x) (hd:(x==("__debug__":Str))=false):PD X E (.Name x pos) (gC (.int i)):=by obtain ⟨t,hm⟩:=hm;exact BW (Em (v:=.int i) hg hm ⟨_,rfl⟩ hd) fun _ _=>bO
def OpD (K:PySem.W.Frag) (f:PyData->PyData->Option PyData) (r:R2):Prop :=
 ∀ (d1 d2 d:PyData) (x y:V) (H:Hp) (A:List Addr) (Q:VK),f d1 d2=some d->Ls H A->Is K (del H A) d1 x->Is K (del H A) d2 y->(∀ v H',ax H H'->Is K (del H' A) d v->Q v H')->r x y H Q
theorem g2.read {r:R2} {Q:VK} (hr:OpD K f r) (R:dw K H A δ σ) (o:hW K E A H (g2 f ga gb δ) Q) :
  tOp r (eD K E ga) (eD K E gb) σ H Q:=by
 unfold g2 at o;refine eD.run R (fun d1 e1 v H1 s1 R1 h1=>?_) (fun C e1 H' s'=>?_) (fun e1=>?_)
 ·rw [e1] at o;refine eD.run R1 (fun d2 e2 u H2 s2 R2 h2=>?_) (fun C e2 H' s'=>?_) (fun e2=>?_)
  ·simp only [Rs.ag,e2] at o;cases e3:f d1 d2 with
   | none=>rw [e3] at o;exact o.elim
   | some d =>rw [e3] at o;exact hr d1 d2 d v u H2 A Q e3 R2.ls (h1.same s2.del) h2 fun w H' s q=>o w H' (s1.trans (s2.trans s)) q
  ·simp only [Rs.ag,e2,Rs.eO] at o;exact o H' (s1.trans s')
  ·simp only [Rs.ag,e2,Rs.bH] at o;exact o
 ·rw [e1] at o;exact o H' s'
 ·rw [e1] at o;exact o
theorem hV {r:R2} (hr:OpD X.K f r) (ha:PD X E a ga) (hb:PD X E b gb) (mk:∀ {ta tb:TE},PE X a ta->PE X b tb->PE X e (tOp r ta tb)):PD X E e (g2 f ga gb) :=
 (mk ha hb).imp fun σ H Q qz3=>(by obtain ⟨A,δ,R,o⟩:=qz3;exact g2.read hr R o)
theorem lp {r:R2} (hr:OpD X.K f r) (ha:PD X E a ga) (hb:PD X E b gb) (mk:∀ {ta tb:TE},PE X a ta->PE X b tb->PT X e (GU (tOp r ta tb))):PCD X E e (gT (g2 f ga gb)) :=
 (mk ha hb).imp fun σ H Q pz3=>by
  obtain ⟨A,δ,R,o⟩:=pz3;refine g2.read (Q:=fun x H'=>∃ k,x=.bl k/\Q k H') hr R ?_;unfold gT at o;cases q:g2 f ga gb δ with
  | no=>rw [q] at o;exact o
  | rz C=>rw [q] at o;exact o
  | ok d =>
   rw [q] at o;cases d with
   | bool k=>exact fun v H' s h=>⟨k,h.ofBool,o H' s⟩
   | _=>exact o.elim
def dI (f:Int->Int->Option PyData):PyData->PyData->Option PyData
 | .int i,.int j=>f i j
 | _,_=>none
theorem yX {f:Int->Int->Option PyData} {d1 d2 d:PyData} (h:dI f d1 d2=some d):∃ i j,d1=.int i/\d2=.int j/\f i j=some d:=by
 unfold dI at h;split at h
 ·exact ⟨_,_,rfl,rfl,h⟩
 ·cases h
def gj:=dI fun i j=>some (.int (i-j))
def eK:=dI fun i j=>if 0<j then some (.int (i % j)) else none
def iJ:=dI fun i j=>if 0<j/\j<1073741824 then some (.int (i / j)) else none
def Dk:=dI fun i j=>if 0<=j/\j<=1000000/\i.natAbs<2 ^ 64 then some (.int (i ^ j.toNat)) else none
def dLt:=dI fun i j=>some (.bool (decide (i<j)))
def dLe:=dI fun i j=>some (.bool (decide (i<=j)))
def dGt:=dI fun i j=>some (.bool (decide (j<i)))
def dGe:=dI fun i j=>some (.bool (decide (j<=i)))
theorem j4 {f:Int->Int->PyData} {v:Int->Int->V} (hv:∀ i j K H,Is K H (f i j) (v i j)):OpD K (dI fun i j=>some (f i j)) (rI0 v):=fun d1 d2 d x y H A Q e hA h1 h2 k=>by obtain ⟨i,j,rfl,rfl,e⟩:=yX e;cases e;exact ⟨i,j,h1.ofInt,h2.ofInt,k _ H (ax.refl H) (hv _ _ _ _)⟩
theorem DL {C C':Int->Int->Prop} [∀ i j,Decidable (C' i j)] {f:Int->Int->PyData} {v:Int->Int->V} (hc:∀ i j,C' i j->C i j) (hv:∀ i j K H,Is K H (f i j) (v i j)):OpD K (dI fun i j=>if C' i j then some (f i j) else none) (rI C v):=fun d1 d2 d x y H A Q e hA h1 h2 k=>by
 obtain ⟨i,j,rfl,rfl,e2⟩:=yX e;by_cases z:C' i j
 ·simp only [if_pos z] at e2;cases e2;exact ⟨i,j,h1.ofInt,h2.ofInt,hc i j z,k _ H (ax.refl H) (hv _ _ _ _)⟩
 ·simp only [if_neg z] at e2;cases e2
theorem IK (ha:PD X E a ga) (hb:PD X E b gb):PD X E (.BinOp a .Sub b pos) (g2 gj ga gb):=hV (j4 fun _ _ _ _=>bO) ha hb (eY HY)
theorem IA (ha:PD X E a ga) (hb:PD X E b gb):PD X E (.BinOp a .Mod b pos) (g2 eK ga gb):=hV (DL (fun _ _ h=>h) fun _ _ _ _=>bO) ha hb (eY oz)
theorem IT (ha:PD X E a ga) (hb:PD X E b gb):PD X E (.BinOp a .FloorDiv b pos) (g2 iJ ga gb):=hV (DL (C:=KZ) (fun _ _ h=>h) fun _ _ _ _=>bO) ha hb (eY Ft)
theorem G2 (ha:PD X E a ga) (hb:PD X E b gb):PD X E (.BinOp a .Pow b pos) (g2 Dk ga gb):=hV (DL (C:=KC) (fun _ _ h=>h) fun _ _ _ _=>bO) ha hb (eY HK)
theorem Kz (ha:PD X E a ga) (hb:PD X E b gb):PD X E (.Compare a [.Lt] [b] pos) (g2 dLt ga gb):=hV (j4 fun _ _ _ _=>is_bool) ha hb fun h1 h2=>n5 DA h1 h2 (i4 _)
theorem Kc (ha:PD X E a ga) (hb:PD X E b gb):PD X E (.Compare a [.LtE] [b] pos) (g2 dLe ga gb):=hV (j4 fun _ _ _ _=>is_bool) ha hb fun h1 h2=>n5 yz h1 h2 (i4 _)
theorem HC (ha:PD X E a ga) (hb:PD X E b gb):PCD X E (.Compare a [.Lt] [b] pos) (gT (g2 dLt ga gb)):=lp (j4 fun _ _ _ _=>is_bool) ha hb fun h1 h2=>j7 DA h1 h2 (i4 _)
theorem Hj (ha:PD X E a ga) (hb:PD X E b gb):PCD X E (.Compare a [.LtE] [b] pos) (gT (g2 dLe ga gb)):=lp (j4 fun _ _ _ _=>is_bool) ha hb fun h1 h2=>j7 yz h1 h2 (i4 _)
theorem IP (ha:PD X E a ga) (hb:PD X E b gb):PCD X E (.Compare a [.Gt] [b] pos) (gT (g2 dGt ga gb)):=lp (j4 fun _ _ _ _=>is_bool) ha hb fun h1 h2=>j7 JO h1 h2 (i4 _)
open PySem.SeqAt in
def dEq (x y:PyData):Option PyData:=if aH x&&aH y&&shaped x&&shaped y then some (.bool (PyData.eqv x y)) else none
open PySem.SeqAt in
def dNe (x y:PyData):Option PyData:=if aH x&&aH y&&shaped x&&shaped y then some (.bool (!PyData.eqv x y)) else none
open PySem.SeqAt in
theorem CP:OpD K dEq (fun x y H Q=>∃ d e,IsD K H d x/\IsD K H e y/\shaped d=true/\shaped e=true/\Q (.bl (PyData.eqv d e)) H):=fun d1 d2 d x y H A Q e hA h1 h2 k=>by
 unfold dEq at e;split at e
 ·rename_i z;simp only [L8] at z;cases e;exact ⟨d1,d2,(h1.same aB).isd z.1.1.1,(h2.same aB).isd z.1.1.2,z.1.2,z.2,k _ H (ax.refl H) is_bool⟩
 ·cases e
open PySem.SeqAt in
theorem HS:OpD K dNe (fun x y H Q=>∃ d e,IsD K H d x/\IsD K H e y/\shaped d=true/\shaped e=true/\Q (.bl (!PyData.eqv d e)) H):=fun d1 d2 d x y H A Q e hA h1 h2 k=>by
 unfold dNe at e;split at e
 ·rename_i z;simp only [L8] at z;cases e;exact ⟨d1,d2,(h1.same aB).isd z.1.1.1,(h2.same aB).isd z.1.1.2,z.1.2,z.2,k _ H (ax.refl H) is_bool⟩
 ·cases e
theorem Kx (hr:X.A.units+64<cLine) (ha:PD X E a ga) (hb:PD X E b gb):PD X E (.Compare a [.Eq] [b] pos) (g2 dEq ga gb):=hV CP ha hb fun h1 h2=>n5 (wV hr) h1 h2 (i4 _)
theorem Iw (hr:X.A.units+64<cLine) (ha:PD X E a ga) (hb:PD X E b gb):PCD X E (.Compare a [.Eq] [b] pos) (gT (g2 dEq ga gb)):=lp CP ha hb fun h1 h2=>j7 (wV hr) h1 h2 (i4 _)
theorem G0 (hr:X.A.units+64<cLine) (ha:PD X E a ga) (hb:PD X E b gb):PCD X E (.Compare a [.NotEq] [b] pos) (gT (g2 dNe ga gb)):=lp HS ha hb fun h1 h2=>j7 (GW hr) h1 h2 (i4 _)
def eN:PyData->Bool
 | .none=>true
 | _=>false
def mK (x:PyData):Option PyData:=some (.bool (eN x))
def hZ (x:PyData):Option PyData:=some (.bool (!eN x))
theorem g1.read {tt:(VK)->VK} {f:PyData->Option PyData} {Q:VK} (R:dw K H A δ σ) (o:hW K E A H (g1 f ga δ) Q)
  (hr:∀ d1 d x H',f d1=some d->Ls H' A->ax H H'->Is K (del H' A) d1 x->(∀ v H2,ax H' H2->Is K (del H2 A) d v->Q v H2)->tt Q x H'):eD K E ga σ H (tt Q):=by
 unfold g1 at o;refine eD.run R (fun d1 e1 v H1 s1 R1 h1=>?_) (fun C e1 H' s'=>?_) (fun e1=>?_)
 ·simp only [e1,Rs.ag] at o;cases e3:f d1 with
  | none=>rw [e3] at o;exact o.elim
  | some d=>rw [e3] at o;exact hr d1 d v H1 e3 R1.ls s1 h1 fun w H' s q=>o w H' (s1.trans s) q
 ·rw [e1] at o;exact o H' s'
 ·rw [e1] at o;exact o
theorem xj {d:PyData} (h:Is K H d v):decide (v=.non)=eN d:=by
 by_cases z:v=.non
 ·rw [decide_eq_true z,h.isNone.mp z];rfl
 ·rw [decide_eq_false z];have:d≠.none:=fun q=>z (h.isNone.mpr q)
  cases d <;> first | (exact absurd rfl this) | rfl
theorem IM {j pos'} (ha:PD X E a ga):PD X E (.Compare a [.Is] [.Constant .none j pos'] pos) (g1 mK ga) :=
 (Ha (B3 ha)).imp fun σ H Q ⟨A,δ,R,o⟩=>g1.read (tt:=fun Q x H1=>Q (.bl (decide (x=.non))) H1) R o fun d1 d x H' e _ _ h k=>by cases e;rw [xj h];exact k _ H' (ax.refl _) is_bool
theorem xi {t:TE} (h:PT X e (tB t)) (k:∀ σ H Q,eD X.K E ga σ H Q->t σ H Q):PCD X E e (gT ga):=h.imp fun σ H Q ⟨A,δ,R,o⟩=>k σ H _ ⟨A,δ,R,by
 unfold gT at o;cases q:ga δ with
 | no=>rw [q] at o;exact o
 | rz C=>rw [q] at o;exact o
 | ok d =>
  rw [q] at o;cases d with
  | bool c=>exact fun v H' s h=>⟨c,h.ofBool,o H' s⟩
  | _=>exact o.elim⟩
theorem Ge (h:PD X E e ga) (he:∀ whole,isTrue e X.env whole=(do let v <-whole;standAt e.pos;holding [v] (truthy v))):PCD X E e (gT ga):=xi (Hv h he) fun _ _ _ h=>h
theorem FH {j pos'} (ha:PD X E a ga):PCD X E (.Compare a [.Is] [.Constant .none j pos'] pos) (gT (g1 mK ga)) :=
 xi (xD (B3 ha)) fun σ H Q ⟨A,δ,R,o⟩=>g1.read (tt:=fun Q x H1=>Q (.bl (decide (x=.non))) H1) R o fun d1 d x H' e _ _ h k=>by cases e;rw [xj h];exact k _ H' (ax.refl _) is_bool
theorem B4 {j pos'} (ha:PD X E a ga):PCD X E (.Compare a [.IsNot] [.Constant .none j pos'] pos) (gT (g1 hZ ga)) :=
 xi (xD (F6 ha)) fun σ H Q ⟨A,δ,R,o⟩=>g1.read (tt:=fun Q x H1=>Q (.bl (!decide (x=.non))) H1) R o fun d1 d x H' e _ _ h k=>by cases e;rw [xj h];exact k _ H' (ax.refl _) is_bool
theorem DY {ca:Ds->Rs Bool} {f:Bool->Rs Bool} {Q:Bool->Hp->Prop} {t:Bool->Hp->Prop} (R:dw K H A δ σ) (o:vi E H ((ca δ).bind f) Q)
  (k:∀ b H1,ax H H1->dw K H1 A δ σ->vi E H1 (f b) Q->t b H1):cD K E ca σ H t:=by
 refine cD.run R (fun b e H1 s1 R1=>?_) (fun C e H' s'=>?_) (fun e=>?_)
 ·rw [e] at o;exact k b H1 s1 R1 (vi.mono (show vi E H (f b) Q from o) s1)
 ·rw [e] at o;exact o H' s'
 ·rw [e] at o;exact o
variable {ca cb:Ds->Rs Bool} {rest:List Expr}
theorem Gb (ha:PCD X E a ca):PCD X E (.UnaryOp .Not a pos) (gG ca):=(Iv ha).imp fun σ H Q qz3=>(by obtain ⟨A,δ,R,o⟩:=qz3;exact DY R o fun b H1 s1 R1 o=>o H1 (ax.refl _))
theorem D4 (ha:PCD X E a ca):PWD X E (.BoolOp .And [a] pos) ca:=Gp ha
theorem E8 (ha:PCD X E a ca):PWD X E (.BoolOp .Or [a] pos) ca:=Hd ha
theorem zU (ha:PCD X E a ca) (hb:PWD X E (.BoolOp .And (b::rest) pos) cb):PWD X E (.BoolOp .And (a::b::rest) pos) (AG ca cb):=PW.imp (IX ha hb) fun σ H Q ⟨A,δ,R,o⟩=>DY R o fun b H1 s1 R1 o=>by
 cases b with
 | true=>exact ⟨A,δ,R1,o⟩
 | false=>exact o H1 (ax.refl _)
theorem DF (ha:PCD X E a ca) (hb:PWD X E (.BoolOp .Or (b::rest) pos) cb):PWD X E (.BoolOp .Or (a::b::rest) pos) (cOr ca cb):=PW.imp (Kv ha hb) fun σ H Q ⟨A,δ,R,o⟩=>DY R o fun b H1 s1 R1 o=>by
 cases b with
 | false=>exact ⟨A,δ,R1,o⟩
 | true=>exact o H1 (ax.refl _)
theorem GR (h:PWD X E e ca):PCD X E e ca:=PW.pt h
theorem GN {f:PyData->Rs PyData} {Q:VK} {t:VK} (R:dw K H A δ σ) (o:hW K E A H ((ga δ).bind f) Q)
  (k:∀ d v H1,ax H H1->dw K H1 A δ σ->Is K (del H1 A) d v->hW K E A H1 (f d) Q->t v H1):eD K E ga σ H t:=by
 refine eD.run R (fun d e v H1 s1 R1 h1=>?_) (fun C e H' s'=>?_) (fun e=>?_)
 ·rw [e] at o;exact k d v H1 s1 R1 h1 (hW.mono (show hW K E A H (f d) Q from o) s1)
 ·rw [e] at o;exact o H' s'
 ·rw [e] at o;exact o
theorem qr {d:PyData} {f:Bool->Rs PyData} {Q:VK} (o:hW K E A H ((truth d).bind f) Q):∃ t,d=.bool t/\hW K E A H (f t) Q:=by
 cases d with
 | bool t=>exact ⟨t,rfl,o⟩
 | _=>exact o.elim
theorem He {op} (ha:PD X E a ga):PD X E (.BoolOp op [a] pos) ga:=HV ha
theorem G6 (ha:PD X E a ga) (hb:PD X E (.BoolOp .And (b::rest) pos) gb):PD X E (.BoolOp .And (a::b::rest) pos) (AZ ga gb):=(Jy ha hb).imp fun σ H Q ⟨A,δ,R,o⟩=>GN R o fun d v H1 s1 R1 h1 o=>by
 obtain ⟨t,rfl,o⟩:=qr o;refine ⟨t,h1.ofBool,?_⟩;cases t with
 | true=>exact ⟨A,δ,R1,o⟩
 | false=>exact o _ H1 (ax.refl _) is_bool
theorem Ky (ha:PD X E a ga) (hb:PD X E (.BoolOp .Or (b::rest) pos) gb):PD X E (.BoolOp .Or (a::b::rest) pos) (gOr ga gb):=(Kl ha hb).imp fun σ H Q ⟨A,δ,R,o⟩=>GN R o fun d v H1 s1 R1 h1 o=>by
 obtain ⟨t,rfl,o⟩:=qr o;refine ⟨t,h1.ofBool,?_⟩;cases t with
 | false=>exact ⟨A,δ,R1,o⟩
 | true=>exact o _ H1 (ax.refl _) is_bool
theorem KQ (hc:PCD X E c ca) (ha:PD X E a ga) (hb:PD X E b gb):PD X E (.IfExp c a b pos) (gIf ca ga gb):=(C7 hc ha hb).imp fun σ H Q pz3=>by
 obtain ⟨A,δ,R,o⟩:=pz3;unfold gIf at o;refine cD.run R (fun t e H1 s1 R1=>?_) (fun C e H' s'=>?_) (fun e=>?_)
 ·rw [e] at o;have o:=hW.mono (show hW X.K E A H (if t=true then ga δ else gb δ) Q from o) s1;cases t with
  | true=>exact ⟨A,δ,R1,o⟩
  | false=>exact ⟨A,δ,R1,o⟩
 ·rw [e] at o;exact o H' s'
 ·rw [e] at o;exact o
def mP:PyData->Option PyData
 | .int i=>some (.int (-i))
 | _=>none
theorem Hg (ha:PD X E a ga):PD X E (.UnaryOp .USub a pos) (g1 mP ga):=(JU Io ha).imp fun σ H Q ⟨A,δ,R,o⟩=>g1.read (tt:=fun Q x H1=>∃ i,x=.int i/\Q (.int (-i)) H1) R o fun d1 d x H' e _ _ h k=>by
 cases d1 with
 | int i=>cases e;exact ⟨i,h.ofInt,k _ H' (ax.refl _) bO⟩
 | _=>cases e
theorem Gr:PAD X E [] ah:=⟨f7.imp fun σ H Q qz3=>(by obtain ⟨A,δ,R,o⟩:=qz3;exact o [] H (ax.refl _) cO),fun δ ds e=>by cases e;rfl⟩
theorem BB (ha:PD X E a ga) (hr:PAD X E es gs) (hs:starEach (a::es) X.env=(false,eval a X.env)::starEach es X.env):PAD X E (a::es) (ae ga gs):=by
 refine ⟨(eo ha hr.1 hs).imp fun σ H Q ⟨A,δ,R,o⟩=>?_,fun δ ds e=>?_⟩
 ·unfold ae at o;refine eD.run R (fun d e v H1 s1 R1 h1=>?_) (fun C e H' s'=>?_) (fun e=>?_)
  ·simp only [e,Rs.ag] at o;refine aD.run R1 (fun ds e2 vs H2 s2 R2 h2=>?_) (fun C e2 H' s'=>?_) (fun e2=>?_)
   ·simp only [e2,Rs.ag] at o;exact o _ H2 (s1.trans s2) (cG (h1.same s2.del) h2)
   ·simp only [e2,Rs.eO] at o;exact o H' (s1.trans s')
   ·simp only [e2,Rs.bH] at o;exact o
  ·simp only [e,Rs.eO] at o;exact o H' s'
  ·simp only [e,Rs.bH] at o;exact o
 ·unfold ae at e;cases q:ga δ with
  | ok d =>
   cases q2:gs δ with
   | ok l =>simp only [q,q2,Rs.ag] at e;cases e;simp [hr.2 δ l q2]
   | rz C=>simp only [q,q2,Rs.ag,Rs.eO] at e;cases e
   | no=>simp only [q,q2,Rs.ag,Rs.bH] at e;cases e
  | rz C=>simp only [q,Rs.eO] at e;cases e
  | no=>simp only [q,Rs.bH] at e;cases e
theorem sL {f:List PyData->Rs PyData} {Q:VK} {t:List V->Hp->Prop} (R:dw K H A δ σ) (o:hW K E A H ((gs δ).bind f) Q)
  (k:∀ ds vs H1,gs δ=.ok ds->ax H H1->dw K H1 A δ σ->Iss K (del H1 A) ds vs->hW K E A H1 (f ds) Q->t vs H1):aD K E gs σ H t:=by
 refine aD.run R (fun d e v H1 s1 R1 h1=>?_) (fun C e H' s'=>?_) (fun e=>?_)
 ·rw [e] at o;exact k d v H1 e s1 R1 h1 (hW.mono (show hW K E A H (f d) Q from o) s1)
 ·rw [e] at o;exact o H' s'
 ·rw [e] at o;exact o
theorem IV {x1} (h:PAD X E es gs) (hl:es.length<=1000):PD X E (.Tuple es x1 pos) (fD gs):=(G9 h.1).imp fun σ H Q ⟨A,δ,R,o⟩=>sL R o fun ds vs H1 e s1 R1 h1 o=>by have n:=h.2 δ ds e;have m:=h1.length;exact ⟨by rw [sizeLine_eq];omega,fun p hp=>o _ _ (bL hp) (lu R1.ls hp h1)⟩
theorem Ip (h:PAD X E es gs) (hl:es.length<=1000):PD X E (.List es pos) (qB gs):=(yf h.1).imp fun σ H Q ⟨A,δ,R,o⟩=>sL R o fun ds vs H1 e s1 R1 h1 o=>by have n:=h.2 δ ds e;have m:=h1.length;exact ⟨by rw [sizeLine_eq];omega,fun p hp=>o _ _ (bL hp) (ko R1.ls hp h1)⟩
def spD (K:PySem.W.Frag) (n:Nat) (gf:List PyData->Rs PyData):Sp:=fun vs H Q E=>∃ A ds,Ls H A/\Iss K (del H A) ds vs/\ds.length=n/\hW K E A H (gf ds) Q
structure iC (P:Program) (w:World) (K:PySem.W.Frag) (mg:Str->Option Value) (base:Heap) (k:Nat) (x:Str) (n:Nat) (gf:List PyData->Rs PyData):Prop where
 ex:∃ f fd ps,gM P w K mg base (CXW P w) k f fd ps (spD K n gf)/\mg x=some (.ref f)/\PySem.W.keepIn K (.ref f)=true/\Binds K fd ps []
theorem uV:Passes (CXW X.prog X.w) X E0:=fun _ _ _ _ _ _ _ qz7=>(by obtain ⟨_,_,_,_,_,_,h,_⟩:=qz7;exact h.elim)
theorem Gu {k:Nat} (D:iC X.prog X.w X.K X.mg X.base k x (e::es).length gf) (hr:cx j X.A) (hx:Passes (CXW X.prog X.w) X E) (ha:PAD X E (e::es) gs) (hk:k<=j) (hg:Gl X x)
  (hdb:(x==("__debug__":Str))=false) (he:starEach (e::es) X.env=(false,eval e X.env)::starEach es X.env) (hpl:(backTo pos (starEach es X.env)).any (·.1)=false) :
  PD X E (.Call (.Name x p) (e::es) [] pos) (aq gf gs):=by
 obtain ⟨f,fd,ps,F,hm,hkp,hb⟩:=D.ex;refine (yV F (hr.mono hk) hg hm hkp hb .nil hx ha.1 hdb he hpl).imp fun σ H Q rz3=>?_
 obtain ⟨A,δ,R,o⟩:=rz3;refine sL R o fun ds vs H1 e s1 R1 h1 o=>?_
 refine ⟨A,ds,R1.ls,by simpa using h1,ha.2 δ ds e,o⟩
def FnD (K:PySem.W.Frag) (f:List PyData->Option PyData) (r:List V->Hp->VK->Prop):Prop :=
 ∀ (ds:List PyData) (d:PyData) (vs:List V) (H:Hp) (A:List Addr) (Q:VK),f ds=some d->Ls H A->Iss K (del H A) ds vs->(∀ v H',ax H H'->Is K (del H' A) d v->Q v H')->r vs H Q
theorem fY {r:List V->Hp->VK->Prop} {f:List PyData->Option PyData} (hf:FnD X.K f r) (ha:PAD X E es gs) (mk:∀ {t:TA},PA X es t->PE X e (tCB r t)):PD X E e (gF f gs) :=
 (mk ha.1).imp fun σ H Q ⟨A,δ,R,o⟩=>sL R o fun ds vs H1 e s1 R1 h1 o=>by
  cases q:f ds with
  | none=>rw [q] at o;exact o.elim
  | some d=>rw [q] at o;exact hf ds d vs H1 A Q q R1.ls h1 o
end
section
variable {a b c:Expr} {ga gb gc:Ds->Rs PyData}
def GH (K:PySem.W.Frag):R2:=fun x y H Q=>∃ a b xs ys,x=.ref a/\y=.ref b/\SqT K H a xs/\SqT K H b ys/\xs.length+ys.length<=sizeLine /\
 (xs=[]->Q (.ref b) H)/\(xs≠[]->ys=[]->Q (.ref a) H)/\(xs≠[]->ys≠[]->∀ p,H p=none->Q (.ref p) (upd H p (.tup (xs++ys))))
theorem Fl:OpR X (binaryOp .Add) (GH X.K):=by
 intro pins s σ H x y v u Q I rx ry h;obtain ⟨a,b,xs,ys,rfl,rfl,ha,hb,hz,q0,q1,q2⟩:=h;by_cases hx:xs=[]
 ·cases rx;cases ry;obtain ⟨vs,r1,p1,_⟩:=I.tuple ha;obtain ⟨ws,r2,p2,_⟩:=I.tuple hb;obtain ⟨⟨cls,dd,data,sl⟩,ho,hc,n,hd⟩:=id p1;obtain ⟨⟨cls2,dd2,data2,sl2⟩,ho2,hc2,n2,hd2⟩:=id p2;simp only at hc hd hc2 hd2;subst hc hd hc2 hd2;have hv:vs=[]:=r1.nil_iff.mpr hx;exact concat_meets ⟨_,ho,rfl⟩ ⟨_,ho2,rfl⟩ noFill_tuple_add seq_tuple_add PySem.F.slot_tuple_add PySem.F.entry_tuple_add (PySem.F.args_tuple_add_2 _ _)
   (tuple_addW0 a b vs.toArray ws.toArray n n2 dd dd2 sl sl2 (by simp [hv])) ⟨ho,ho2,⟨.ref b,H,I,rfl,q0 hx⟩⟩
 ·exact Ef pins s σ H _ _ v u Q I rx ry ⟨a,b,xs,ys,rfl,rfl,ha,hb,hx,hz,q1 hx,q2 hx⟩
def ba:PyData->PyData->Option PyData
 | .int i,.int j=>some (.int (i+j))
 | .list x,.list y=>if x.length+y.length<=1000000 then some (.list (x++y)) else none
 | .tuple x,.tuple y=>if x.length+y.length<=1000000 then some (.tuple (x++y)) else none
 | _,_=>none
theorem E7:OpD K ba (fun x y H Q=>rI0 (fun i j=>.int (i+j)) x y H Q\/JM x y H Q\/GH K x y H Q):=fun d1 d2 d x y H A Q e hA h1 h2 k=>by
 unfold ba at e;split at e
 ·cases e;exact .inl ⟨_,_,h1.ofInt,h2.ofInt,k _ H (ax.refl _) bO⟩
 ·rename_i l1 l2;split at e
  ·rename_i hz;cases e;obtain ⟨p,xs,rfl,hp,hx⟩:=h1.ofLst;obtain ⟨q,ys,rfl,hq,hy⟩:=h2.ofLst;refine .inr (.inl ⟨p,q,xs,ys,rfl,rfl,aB _ _ hp,aB _ _ hq,by rw [hx.length,hy.length,sizeLine_eq];omega,fun r hr=>k _ _ (bL hr) (ko hA hr (hx.append hy))⟩)
  ·cases e
 ·rename_i l1 l2;split at e
  ·rename_i hz;cases e;obtain ⟨p,xs,rfl,hp,hx⟩:=h1.ofTup;obtain ⟨q,ys,rfl,hq,hy⟩:=h2.ofTup;refine .inr (.inr ⟨p,q,xs,ys,rfl,rfl,SqT.of (aB _ _ hp),SqT.of (aB _ _ hq),by rw [hx.length,hy.length,sizeLine_eq];omega,fun z=>?_,fun _ z=>?_,fun _ _ r hr=>k _ _ (bL hr) (lu hA hr (hx.append hy))⟩)
   ·subst z;have:l1=[]:=MV.mp (by rw [<-hx.length];rfl);subst this;exact k _ H (ax.refl _) (iy hq hy)
   ·subst z;have:l2=[]:=MV.mp (by rw [<-hy.length];rfl);subst this;rw [Mn] at k;exact k _ H (ax.refl _) (iy hp hx)
  ·cases e
 ·cases e
theorem HI (ha:PD X E a ga) (hb:PD X E b gb):PD X E (.BinOp a .Add b pos) (g2 ba ga gb):=hV E7 ha hb (eY (mM.or (Hc.or Fl)))
def dIx:PyData->PyData->Option PyData
 | .list x,.int i=>atI x i
 | .tuple x,.int i=>atI x i
 | _,_=>none
theorem yN {i:Int} {d:PyData} (h:Iss K H ds vs) (e:atI ds i=some d):∃ v,atI vs i=some v/\Is K H d v:=by
 unfold atI at e ⊢;rw [h.length];cases q:ixN ds.length i with
 | none=>rw [q] at e;cases e
 | some j=>rw [q] at e;exact h.getD e
theorem Jh:OpD K dIx (fun x y H Q=>Kq K x y H Q\/JP K x y H Q):=fun d1 d2 d x y H A Q e hA h1 h2 k=>by
 unfold dIx at e;split at e
 ·obtain ⟨p,xs,rfl,hp,hx⟩:=h1.ofLst;obtain ⟨v,ev,hv⟩:=yN hx e;exact .inl ⟨p,xs,_,v,rfl,h2.ofInt,SqL.of (aB _ _ hp),ev,k _ H (ax.refl _) hv⟩
 ·obtain ⟨p,xs,rfl,hp,hx⟩:=h1.ofTup;obtain ⟨v,ev,hv⟩:=yN hx e;exact .inr ⟨p,xs,_,v,rfl,h2.ofInt,SqT.of (aB _ _ hp),ev,k _ H (ax.refl _) hv⟩
 ·cases e
theorem JJ (ha:PD X E a ga) (hb:PD X E b gb) (hs:yC b):PD X E (.Subscript a b pos) (g2 dIx ga gb):=hV Jh ha hb fun h1 h2=>DU (sW.or Ht) h1 h2 hs
def b8:List PyData->Option PyData
 | [.list x]=>some (.int x.length)
 | [.tuple x]=>some (.int x.length)
 | _=>none
theorem kq {d:PyData} (h:Iss K H [d] vs):∃ v,vs=[v]/\Is K H d v:=by obtain ⟨v,r,rfl,h1,h2⟩:=h.cons_of;rw [h2.nil_of];exact ⟨v,rfl,h1⟩
theorem FW {d e:PyData} (h:Iss K H [d,e] vs):∃ v u,vs=[v,u]/\Is K H d v/\Is K H e u:=by obtain ⟨v,r,rfl,h1,h2⟩:=h.cons_of;obtain ⟨u,rfl,h3⟩:=kq h2;exact ⟨v,u,rfl,h1,h3⟩
theorem FE:FnD K b8 (fun xs H Q=>∃ p ys,xs=[.ref p]/\(SqL K H p ys\/SqT K H p ys)/\Q (.int ys.length) H):=fun ds d vs H A Q e hA h k=>by
 unfold b8 at e;split at e
 ·cases e;obtain ⟨v,rfl,hh⟩:=kq h;obtain ⟨p,xs,rfl,hp,hx⟩:=hh.ofLst;exact ⟨p,xs,rfl,.inl (SqL.of (aB _ _ hp)),k _ H (ax.refl _) (by rw [hx.length];exact bO)⟩
 ·cases e;obtain ⟨v,rfl,hh⟩:=kq h;obtain ⟨p,xs,rfl,hp,hx⟩:=hh.ofTup;exact ⟨p,xs,rfl,.inr (SqT.of (aB _ _ hp)),k _ H (ax.refl _) (by rw [hx.length];exact bO)⟩
 ·cases e
theorem IS (hm:X.mg "len"=none) (ha:PAD X E (a::es) gs) (hg:Gl X "len") (he:starEach (a::es) X.env=(false,eval a X.env)::starEach es X.env) (hpl:(backTo pos (starEach es X.env)).any (·.1)=false) :
 PD X E (.Call (.Name "len" p) (a::es) [] pos) (gF b8 gs):=fY FE ha fun h=>fW ji hg hm PySem.boot_len h (by decide) (by decide) he hpl
theorem Cg:bootBuiltins "int"=some (.type "int"):=by decide +kernel
theorem vS:bootBuiltins "tuple"=some (.type "tuple"):=by decide +kernel
theorem sV:bootBuiltins "list"=some (.type "list"):=by decide +kernel
theorem Aw:bootBuiltins "isinstance"=some (.builtin "isinstance"):=by decide +kernel
theorem Hf:bootBuiltins "all"=some (.builtin "all"):=by decide +kernel
theorem Jg:bootBuiltins "sum"=some (.builtin "sum"):=by decide +kernel
theorem Hs:bootBuiltins "min"=some (.builtin "min"):=by decide +kernel
theorem Iz:bootBuiltins "max"=some (.builtin "max"):=by decide +kernel
def fG:List PyData->Option (List Int)
 | []=>some []
 | .int i::r=>(fG r).map (i::·)
 | _::_=>none
theorem dW:∀ {ds:List PyData} {ns:List Int},fG ds=some ns->ds=ns.map PyData.int
 | [],_,h=>by cases h;rfl
 | .int i::r,ns,h=>by
  unfold fG at h;cases q:fG r with
  | none=>rw [q] at h;cases h
  | some l=>rw [q] at h;cases h;rw [dW q];rfl
 | .none::_,_,h=>by cases h
 | .bool _::_,_,h=>by cases h
 | .str _::_,_,h=>by cases h
 | .list _::_,_,h=>by cases h
 | .tuple _::_,_,h=>by cases h
 | .dict _::_,_,h=>by cases h
theorem eX:∀ (ns:List Int),fG (ns.map PyData.int)=some ns
 | []=>rfl
 | n::r=>by rw [L5];unfold fG;rw [eX r];rfl
def iB:List PyData->Option (List Bool)
 | []=>some []
 | .bool i::r=>(iB r).map (i::·)
 | _::_=>none
theorem nG:∀ {ds:List PyData} {ns:List Bool},iB ds=some ns->ds=ns.map PyData.bool
 | [],_,h=>by cases h;rfl
 | .bool i::r,ns,h=>by
  unfold iB at h;cases q:iB r with
  | none=>rw [q] at h;cases h
  | some l=>rw [q] at h;cases h;rw [nG q];rfl
 | .none::_,_,h=>by cases h
 | .int _::_,_,h=>by cases h
 | .str _::_,_,h=>by cases h
 | .list _::_,_,h=>by cases h
 | .tuple _::_,_,h=>by cases h
 | .dict _::_,_,h=>by cases h
theorem pO:∀ (ns:List Bool),iB (ns.map PyData.bool)=some ns
 | []=>rfl
 | n::r=>by rw [L5];unfold iB;rw [pO r];rfl
def qD:List PyData->Option PyData
 | [.list x]=>(fG x).map fun ns=>.int ns.sum
 | _=>none
def nV:List PyData->Option PyData
 | [.list x]=>(iB x).map fun ns=>.bool (ns.all id)
 | _=>none
theorem Gv:FnD K qD (fun xs H Q=>∃ (a:Addr) (ns:List Int),xs=[.ref a]/\SqL K H a (ns.map V.int)/\Q (.int ns.sum) H):=fun ds d vs H A Q e hA h k=>by
 unfold qD at e;split at e
 ·rename_i x;cases q:fG x with
  | none=>rw [q] at e;cases e
  | some ns =>rw [q] at e;cases e;obtain ⟨v,rfl,hh⟩:=kq h;obtain ⟨p,xs,rfl,hp,hx⟩:=hh.ofLst;rw [dW q] at hx;rw [hx.ofInts] at hp;exact ⟨p,ns,rfl,SqL.of (aB _ _ hp),k _ H (ax.refl _) bO⟩
 ·cases e
theorem EO:FnD K nV (fun xs H Q=>∃ (a:Addr) (ns:List Bool),xs=[.ref a]/\SqL K H a (ns.map V.bl)/\Q (.bl (ns.all id)) H):=fun ds d vs H A Q e hA h k=>by
 unfold nV at e;split at e
 ·rename_i x;cases q:iB x with
  | none=>rw [q] at e;cases e
  | some ns =>rw [q] at e;cases e;obtain ⟨v,rfl,hh⟩:=kq h;obtain ⟨p,xs,rfl,hp,hx⟩:=hh.ofLst;rw [nG q] at hx;rw [hx.ofBools] at hp;exact ⟨p,ns,rfl,SqL.of (aB _ _ hp),k _ H (ax.refl _) is_bool⟩
 ·cases e
theorem IE (hc:X.calm=true) (hm:X.mg "sum"=none) (ha:PAD X E (a::es) gs) (hg:Gl X "sum") (he:starEach (a::es) X.env=(false,eval a X.env)::starEach es X.env) (hpl:(backTo pos (starEach es X.env)).any (·.1)=false) :
 PD X E (.Call (.Name "sum" p) (a::es) [] pos) (gF qD gs):=fY Gv ha fun h=>fW (CN hc) hg hm Jg h (by decide) (by decide) he hpl
theorem Ia (hc:X.calm=true) (hm:X.mg "all"=none) (ha:PAD X E (a::es) gs) (hg:Gl X "all") (he:starEach (a::es) X.env=(false,eval a X.env)::starEach es X.env) (hpl:(backTo pos (starEach es X.env)).any (·.1)=false) :
 PD X E (.Call (.Name "all" p) (a::es) [] pos) (gF nV gs):=fY EO ha fun h=>fW (CF hc) hg hm Hf h (by decide) (by decide) he hpl
def kC:List PyData->Option PyData
 | [.int i,.int j]=>some (.int (if j<i then j else i))
 | _=>none
def iO:List PyData->Option PyData
 | [.int i,.int j]=>some (.int (if j>i then j else i))
 | _=>none
theorem Ce:FnD K kC (fun xs H Q=>∃ i j,xs=[.int i,.int j]/\Q (.int (if j<i then j else i)) H):=fun ds d vs H A Q e hA h k=>by
 unfold kC at e;split at e
 ·cases e;obtain ⟨v,u,rfl,h1,h2⟩:=FW h;rw [h1.ofInt,h2.ofInt];exact ⟨_,_,rfl,k _ H (ax.refl _) bO⟩
 ·cases e
theorem Bv:FnD K iO (fun xs H Q=>∃ i j,xs=[.int i,.int j]/\Q (.int (if j>i then j else i)) H):=fun ds d vs H A Q e hA h k=>by
 unfold iO at e;split at e
 ·cases e;obtain ⟨v,u,rfl,h1,h2⟩:=FW h;rw [h1.ofInt,h2.ofInt];exact ⟨_,_,rfl,k _ H (ax.refl _) bO⟩
 ·cases e
theorem EU (hc:X.calm=true) (hm:X.mg "min"=none) (ha:PAD X E (a::es) gs) (hg:Gl X "min") (he:starEach (a::es) X.env=(false,eval a X.env)::starEach es X.env) (hpl:(backTo pos (starEach es X.env)).any (·.1)=false) :
 PD X E (.Call (.Name "min" p) (a::es) [] pos) (gF kC gs):=fY Ce ha fun h=>fW (Bo hc) hg hm Hs h (by decide) (by decide) he hpl
theorem ER (hc:X.calm=true) (hm:X.mg "max"=none) (ha:PAD X E (a::es) gs) (hg:Gl X "max") (he:starEach (a::es) X.env=(false,eval a X.env)::starEach es X.env) (hpl:(backTo pos (starEach es X.env)).any (·.1)=false) :
 PD X E (.Call (.Name "max" p) (a::es) [] pos) (gF iO gs):=fY Bv ha fun h=>fW (AO hc) hg hm Iz h (by decide) (by decide) he hpl
def Ap:List PyData->Option PyData
 | [.int i]=>some (.int i)
 | [.bool k]=>some (.int (if k then 1 else 0))
 | _=>none
theorem GA:FnD K Ap (fun xs H Q=>(∃ i,xs=[.int i]/\Q (.int i) H)\/∃ k,xs=[.bl k]/\Q (.int (if k then 1 else 0)) H):=fun ds d vs H A Q e hA h k=>by
 unfold Ap at e;split at e
 ·cases e;obtain ⟨v,rfl,h1⟩:=kq h;rw [h1.ofInt];exact .inl ⟨_,rfl,k _ H (ax.refl _) bO⟩
 ·cases e;obtain ⟨v,rfl,h1⟩:=kq h;rw [h1.ofBool];exact .inr ⟨_,rfl,k _ H (ax.refl _) bO⟩
 ·cases e
theorem CA (hm:X.mg "int"=none) (ha:PAD X E (a::es) gs) (hg:Gl X "int") (he:starEach (a::es) X.env=(false,eval a X.env)::starEach es X.env) (hpl:(backTo pos (starEach es X.env)).any (·.1)=false) :
 PD X E (.Call (.Name "int" p) (a::es) [] pos) (gF Ap gs):=fY GA ha fun h=>mI AU hg hm Cg h (by decide) (by decide) he hpl
def fi:List PyData->Option PyData
 | [.list x]=>some (.tuple x)
 | [.tuple x]=>some (.tuple x)
 | _=>none
def uZ:List PyData->Option PyData
 | [.list x]=>some (.list x)
 | [.tuple x]=>some (.list x)
 | _=>none
theorem Aa:FnD K fi (fun xs H Q=>∃ p ys,xs=[.ref p]/\((SqL K H p ys/\∀ l,H l=none->Q (.ref l) (upd H l (.tup ys)))\/(SqT K H p ys/\Q (.ref p) H))):=fun ds d vs H A Q e hA h k=>by
 unfold fi at e;split at e
 ·cases e;obtain ⟨v,rfl,hh⟩:=kq h;obtain ⟨p,xs,rfl,hp,hx⟩:=hh.ofLst;exact ⟨p,xs,rfl,.inl ⟨SqL.of (aB _ _ hp),fun l hl=>k _ _ (bL hl) (lu hA hl hx)⟩⟩
 ·cases e;obtain ⟨v,rfl,hh⟩:=kq h;obtain ⟨p,xs,rfl,hp,hx⟩:=hh.ofTup;exact ⟨p,xs,rfl,.inr ⟨SqT.of (aB _ _ hp),k _ H (ax.refl _) (iy hp hx)⟩⟩
 ·cases e
theorem DH:FnD K uZ (fun xs H Q=>∃ p ys,xs=[.ref p]/\(SqL K H p ys\/SqT K H p ys)/\∀ l,H l=none->Q (.ref l) (upd H l (.lst ys))):=fun ds d vs H A Q e hA h k=>by
 unfold uZ at e;split at e
 ·cases e;obtain ⟨v,rfl,hh⟩:=kq h;obtain ⟨p,xs,rfl,hp,hx⟩:=hh.ofLst;exact ⟨p,xs,rfl,.inl (SqL.of (aB _ _ hp)),fun l hl=>k _ _ (bL hl) (ko hA hl hx)⟩
 ·cases e;obtain ⟨v,rfl,hh⟩:=kq h;obtain ⟨p,xs,rfl,hp,hx⟩:=hh.ofTup;exact ⟨p,xs,rfl,.inr (SqT.of (aB _ _ hp)),fun l hl=>k _ _ (bL hl) (ko hA hl hx)⟩
 ·cases e
theorem wI (hm:X.mg "tuple"=none) (ha:PAD X E (a::es) gs) (hg:Gl X "tuple") (he:starEach (a::es) X.env=(false,eval a X.env)::starEach es X.env) (hpl:(backTo pos (starEach es X.env)).any (·.1)=false) :
 PD X E (.Call (.Name "tuple" p) (a::es) [] pos) (gF fi gs):=fY Aa ha fun h=>mI qG hg hm vS h (by decide) (by decide) he hpl
theorem AN (hm:X.mg "list"=none) (ha:PAD X E (a::es) gs) (hg:Gl X "list") (he:starEach (a::es) X.env=(false,eval a X.env)::starEach es X.env) (hpl:(backTo pos (starEach es X.env)).any (·.1)=false) :
 PD X E (.Call (.Name "list" p) (a::es) [] pos) (gF uZ gs):=fY DH ha fun h=>mI tK hg hm sV h (by decide) (by decide) he hpl
def kM (T:String) (d:PyData):Option PyData:=if aH d then some (.bool (tT d T)) else none
theorem AQ {T:Str} {T':String} {p':Pos} (hm:X.mg "isinstance"=none) (hmT:X.mg T=none) (hb:bootBuiltins T=some (.type T')) (hT:T'∈["bool", "int", "list", "tuple"]) (ha:PD X E a ga)
  (hg:Gl X "isinstance") (hgT:Gl X T) (hn:T≠"__name__") (hdT:(T==("__debug__":Str))=false) (hs:starEach [a,.Name T p'] X.env=(false,eval a X.env)::starEach [.Name T p'] X.env)
  (hs2:starEach [.Name T p'] X.env=(false,eval (.Name T p') X.env)::starEach [] X.env) (hpl:(backTo pos (starEach [.Name T p'] X.env)).any (·.1)=false) :
  PD X E (.Call (.Name "isinstance" p) [a,.Name T p'] [] pos) (g1 (kM T') ga):=by
 refine (fW uM hg hm Aw (eo ha (eo (E2 (v:=.ty T') hgT hmT hb rfl hn hdT) f7 hs2) hs) (by decide) (by decide) hs hpl).imp fun σ H Q rz3=>?_
 obtain ⟨A,δ,R,o⟩:=rz3;refine g1.read (tt:=fun Q x H1=>∃ d v T,[x,V.ty T']=[v,.ty T]/\IsD X.K H1 d v/\T∈["bool", "int", "list", "tuple"]/\Q (.bl (tT d T)) H1) R o fun d1 d x H' e _ _ h k=>?_
 unfold kM at e;split at e
 ·rename_i z;cases e;exact ⟨d1,x,T',rfl,(h.same aB).isd z,hT,k _ H' (ax.refl _) is_bool⟩
 ·cases e
end
def A8 (K:PySem.W.Frag) (J:It) (ds:List PyData) (G:Hp):Prop:=∀ (H1:Hp) (B:List Addr),ax G H1->Ls H1 B->(∀ b∈B,G b=none) ->
 (∀ i,i<ds.length->J.go i H1)/\J.stop ds.length H1/\∀ i x H2,i<ds.length->J.yld i H1 x H2->ax H1 H2/\∃ d,ds[i]?=some d/\Is K (del H2 B) d x
def outI (K:PySem.W.Frag) (E:XK) (A:List Addr) (H:Hp) (r:Rs (List PyData)) (R:It->Hp->Prop):Prop:=match r with
 | .ok ds=>∀ J H',ax H H'->A8 K J ds (del H' A)->R J H'
 | .rz C=>∀ H',ax H H'->E (.ref C) none H'
 | .no=>False
def iD (K:PySem.W.Frag) (E:XK) (g:Ds->Rs (List PyData)):TI:=fun σ H R=>∃ A δ,dw K H A δ σ/\outI K E A H (g δ) R
def PID (X:Cx) (E:XK) (tg iter:Expr) (g:Ds->Rs (List PyData)):Prop:=PI X tg iter (iD X.K E g)
theorem PI.imp {it:Expr} {t t':TI} (h:PI X tg it t) (k:∀ σ H R,t' σ H R->t σ H R):PI X tg it t':=fun pins s σ H R I q=>h pins s σ H R I (k σ H R q)
theorem PI.or {it:Expr} {t t':TI} (h:PI X tg it t) (h':PI X tg it t'):PI X tg it (fun σ H R=>t σ H R\/t' σ H R):=fun pins s σ H R I q=>q.elim (h pins s σ H R I) (h' pins s σ H R I)
section
variable {a:Expr} {ga:Ds->Rs PyData}
def yP:PyData->Rs (List PyData)
 | .list ds=>.ok ds
 | .tuple ds=>.ok ds
 | _=>.no
theorem lV (s:ax G H1) (hB:∀ b∈B,G b=none):ax G (del H1 B):=fun b o e=>by rw [aP (fun z=>by rw [hB b z] at e;cases e)];exact s b o e
theorem AV {p:Addr} (hp:G p=some (.lst xs)) (h:Iss K G ds xs):A8 K (Itl K p) ds G:=fun H1 B s _ hB=>by have hl:=h.length;have hS:SqL K H1 p xs:=SqL.of (s _ _ hp);refine ⟨fun i hi=>⟨xs,xs[i]'(by omega),hS,L1 _⟩,⟨xs,hS,by omega⟩,fun i x H2 hi y=>?_⟩;obtain ⟨rfl,y⟩:=y;obtain ⟨d,e,hd⟩:=h.get (y xs hS);exact ⟨ax.refl _,d,e,hd.same (lV s hB)⟩
theorem Cc {p:Addr} (hp:G p=some (.tup xs)) (h:Iss K G ds xs):A8 K (Itt K p) ds G:=fun H1 B s _ hB=>by have hl:=h.length;have hS:SqT K H1 p xs:=SqT.of (s _ _ hp);refine ⟨fun i hi=>⟨xs,xs[i]'(by omega),hS,L1 _⟩,⟨xs,hS,by omega⟩,fun i x H2 hi y=>?_⟩;obtain ⟨rfl,y⟩:=y;obtain ⟨d,e,hd⟩:=h.get (y xs hS);exact ⟨ax.refl _,d,e,hd.same (lV s hB)⟩
def bG (g:Ds->Rs PyData):Ds->Rs (List PyData):=fun δ=>(g δ).bind yP
theorem FU (h:PD X E a ga):PID X E tg a (bG ga):=(PI.or (Gs h) (Iu h)).imp fun σ H R pz3=>by
 obtain ⟨A,δ,Rp,o⟩:=pz3;unfold bG at o;cases q:ga δ with
 | no=>rw [q] at o;exact o.elim
 | rz C=>rw [q] at o;exact .inl (eD.run Rp (fun d e=>by rw [q] at e;cases e) (fun C' e H' s=>by rw [q] at e;cases e;exact o H' s) (fun e=>by rw [q] at e;cases e))
 | ok d =>
  rw [q] at o;cases d with
  | list ds =>refine .inl (eD.run Rp (fun d e v H1 s1 R1 h1=>?_) (fun C' e=>by rw [q] at e;cases e) (fun e=>by rw [q] at e;cases e));rw [q] at e;cases e;obtain ⟨p,xs,rfl,hp,hx⟩:=h1.ofLst;exact ⟨p,rfl,⟨xs,SqL.of (aB _ _ hp)⟩,o _ H1 s1 (AV hp hx)⟩
  | tuple ds =>refine .inr (eD.run Rp (fun d e v H1 s1 R1 h1=>?_) (fun C' e=>by rw [q] at e;cases e) (fun e=>by rw [q] at e;cases e));rw [q] at e;cases e;obtain ⟨p,xs,rfl,hp,hx⟩:=h1.ofTup;exact ⟨p,rfl,⟨xs,SqT.of (aB _ _ hp)⟩,o _ H1 s1 (Cc hp hx)⟩
  | _=>exact o.elim
def bX (lo:Int) (n:Nat):List PyData:=(List.range n).map fun (i:Nat)=>PyData.int (lo+(i:Int))
theorem dq (lo:Int) (n:Nat):(bX lo n).length=n:=by simp [bX]
theorem xV {lo:Int} {n:Nat}:A8 K (Itr lo n) (bX lo n) G:=fun H1 B s _ hB=>by refine ⟨fun i hi=>by rw [dq] at hi;exact hi,by rw [dq];exact LK _,fun i x H2 hi y=>?_⟩;obtain ⟨rfl,rfl⟩:=y;rw [dq] at hi;exact ⟨ax.refl _,_,by simp [bX,hi],bO⟩
def EL:List PyData->Rs (List PyData)
 | [.int j]=>if -(2 ^ 62)<=j/\j<2 ^ 62 then .ok (bX 0 j.toNat) else .no
 | _=>.no
def Ks:List PyData->Rs (List PyData)
 | [.int i,.int j]=>if -(2 ^ 62)<=i/\i<2 ^ 62/\-(2 ^ 62)<=j/\j<2 ^ 62 then .ok (bX i (j-i).toNat) else .no
 | _=>.no
def fX (g:Ds->Rs (List PyData)):Ds->Rs (List PyData):=fun δ=>(g δ).bind EL
def Ke (g:Ds->Rs (List PyData)):Ds->Rs (List PyData):=fun δ=>(g δ).bind Ks
theorem xR {f:List PyData->Rs (List PyData)} {R:It->Hp->Prop} {t:List V->Hp->Prop} (Rp:dw K H A δ σ) (o:outI K E A H ((gs δ).bind f) R)
  (k:∀ ds vs H1,gs δ=.ok ds->ax H H1->dw K H1 A δ σ->Iss K (del H1 A) ds vs->outI K E A H1 (f ds) R->t vs H1):aD K E gs σ H t:=by
 refine aD.run Rp (fun d e v H1 s1 R1 h1=>?_) (fun C e H' s'=>?_) (fun e=>?_)
 ·rw [e] at o;refine k d v H1 e s1 R1 h1 ?_;have o:outI K E A H (f d) R:=o;cases q:f d with
  | ok ds=>rw [q] at o;exact fun J H' s j=>o J H' (s1.trans s) j
  | rz C=>rw [q] at o;exact fun H' s=>o H' (s1.trans s)
  | no=>rw [q] at o;exact o
 ·rw [e] at o;exact o H' s'
 ·rw [e] at o;exact o
theorem xP (hm:X.mg "range"=none) (ha:PAD X E [a] gs) (hg:Gl X "range") (hs:starEach [a] X.env=[(false,eval a X.env)]) :
  PID X E tg (.Call (.Name "range" p) [a] [] pos) (fX gs):=(Bg hg hm ha.1 hs).imp fun σ H R ⟨A,δ,Rp,o⟩=>xR Rp o fun ds vs H1 e s1 R1 h1 o=>by
 unfold EL at o;split at o
 ·split at o
  ·rename_i z;obtain ⟨v,rfl,h⟩:=kq h1;rw [h.ofInt];exact ⟨_,rfl,z.1,z.2,o _ H1 (ax.refl _) xV⟩
  ·exact o.elim
 ·exact o.elim
def TgD (K:PySem.W.Frag) (n0 n:Nat) (tgt:PyData->Option Ds) (g:TG):Prop:=∀ (d:PyData) (v:V) (σ σ':St) (H:Hp) (A:List Addr) (Q:St->Hp->Prop) (own:Ds),σ.length=n0->σ'.length=n->Ls H A->Is K (del H A) d v->tgt d=some own ->
 own.length=n/\((∀ vs:St,vs.length=n->(∀ (i:Nat) e,own[i]?=some (some e)->∃ u,vs[i]?=some (some u)/\Is K (del H A) e u)->Q (σ++vs) H)->g v (σ++σ') H Q)
def aI:PyData->Option Ds:=fun d=>some [some d]
theorem C6:TgD K n0 1 aI (jB n0):=fun d v σ σ' H A Q own h1 h2 hA hd e=>by
 cases e;refine ⟨rfl,fun k=>?_⟩;unfold jB;subst h1;rw [set_own σ none v σ' h2];refine k _ rfl fun i e z=>?_
 match i,z with
 | 0,z=>cases z;exact ⟨v,rfl,hd⟩
def jX:PyData->Option Ds
 | .tuple [x,y]=>some [some x,some y]
 | _=>none
theorem uT:TgD K n0 2 jX (L2.JB K 2 (L2.zF (jB n0) (L2.zF (jB (n0+1)) L2.IU))):=fun d v σ σ' H A Q own h1 h2 hA hd e=>by
 unfold jX at e;split at e
 ·rename_i x y;cases e;refine ⟨rfl,fun k=>?_⟩;obtain ⟨p,xs,rfl,hp,hx⟩:=hd.ofTup;obtain ⟨u,w,rfl,hu,hw⟩:=FW hx;subst h1;refine ⟨p,_,rfl,SqT.of (aB _ _ hp),rfl,u,[w],rfl,w,[],rfl,rfl,?_⟩
  match σ',h2 with
  | [s1,s2],_ =>
   have:((σ++[s1,s2]).set σ.length (some u)).set (σ.length+1) (some w)=σ++[some u,some w]:=by rw [Nu _ _ (LK _),Nu _ _ (by omega)];simp
   rw [this];refine k _ rfl fun i e z=>?_
   match i,z with
   | 0,z=>cases z;exact ⟨u,rfl,hu⟩
   | 1,z=>cases z;exact ⟨w,rfl,hw⟩
 ·cases e
def eZ (cond:Ds->Rs Bool) (elt:Ds->Rs PyData) (tgt:PyData->Option Ds) (δ:Ds):List PyData->Rs (List PyData)
 | []=>.ok []
 | d::r=>match tgt d with
  | none=>.no
  | some own=>(cond (δ++own)).calm.bind fun b=>if b=true then (elt (δ++own)).calm.bind fun x=>(eZ cond elt tgt δ r).bind fun xs=>.ok (x::xs) else eZ cond elt tgt δ r
def a8 (n0:Nat) (src:Ds->Rs (List PyData)) (cond:Ds->Rs Bool) (elt:Ds->Rs PyData) (tgt:PyData->Option Ds):Ds->Rs (List PyData):=fun δ=>if δ.length=n0 then (src δ).bind fun ds=>if ds.length<=1000000 then eZ cond elt tgt δ ds else .no else .no
def bA:Ds->Rs Bool:=fun _=>.ok true
def Gn (K:PySem.W.Frag) (E:XK) (A:List Addr) (H:Hp) (r:Rs (List PyData)) (Q:VK):Prop:=match r with
 | .ok ds=>∀ a xs H',H a=none->ax H H'->H' a=some (.lst xs)->Iss K (del H' (a::A)) ds xs->Q (.ref a) H'
 | .rz C=>∀ H',ax H H'->E (.ref C) none H'
 | .no=>False
def lD (K:PySem.W.Frag) (E:XK) (g:Ds->Rs (List PyData)):TE:=fun σ H Q=>∃ A δ,dw K H A δ σ/\Gn K E A H (g δ) Q
def PLD (X:Cx) (E:XK) (e:Expr) (g:Ds->Rs (List PyData)):Prop:=PE X e (lD X.K E g)
def gL (g:Ds->Rs (List PyData)):Ds->Rs PyData:=fun δ=>(g δ).bind fun ds=>.ok (.list ds)
theorem mB {a:Addr}:ax (del H (a::A)) (del H A):=fun b o e=>by obtain ⟨z,e⟩:=bf e;rw [aP (fun q=>z (L4 _ q))];exact e
theorem Ik {g:Ds->Rs (List PyData)} (h:PLD X E e g):PD X E e (gL g):=PE.imp h fun σ H Q ⟨A,δ,R,o⟩=>⟨A,δ,R,by
 unfold gL at o;cases q:g δ with
 | no=>rw [q] at o;exact o
 | rz C=>rw [q] at o;exact o
 | ok ds =>rw [q] at o;intro a xs H' hn s hl hi;exact o _ H' s (jV (by rw [aP (R.ls.new hn)];exact hl) (hi.same mB))⟩
theorem Fh (h:PAD X E es gs) (hl:es.length<=1000):PLD X E (.List es pos) gs:=(yf h.1).imp fun σ H Q pz3=>by
 obtain ⟨A,δ,R,o⟩:=pz3;refine aD.run R (fun ds e vs H1 s1 R1 h1=>?_) (fun C e H' s'=>by rw [e] at o;exact o H' s') (fun e=>by rw [e] at o;exact o);rw [e] at o;have n:=h.2 δ ds e;have m:=h1.length;refine ⟨by rw [sizeLine_eq];omega,fun p hp=>o p vs _ (s1.free hp) (s1.trans (bL hp)) aG (h1.same ?_)⟩;refine fun b o e=>?_
 obtain ⟨z,e⟩:=bf e;have:b≠p:=aK e hp;rw [aP (by simp [this,z]),aA this];exact e
theorem BE {tt:TT} (hT:TgD K n0 own.length tgt g) (htt:∀ σ H Q,cD K E0 cond σ H Q->tt σ H Q) :
  ∀ σ H Q,lD K E (a8 n0 gi cond ge tgt) σ H Q->tLC own.length (iD K E gi) g tt (eD K E0 ge) σ H Q:=by
 intro σ H Q ⟨A,δ,R,o⟩;unfold a8 at o;by_cases hn0:δ.length=n0
 case neg=>rw [if_neg hn0] at o;exact o.elim
 rw [if_pos hn0] at o;have hσ:σ.length=n0:=by rw [<-R.len];exact hn0
 refine ⟨A,δ,R,?_⟩;cases q:gi δ with
 | no=>rw [q] at o;exact o
 | rz C=>rw [q] at o;exact o
 | ok ds =>
  rw [q] at o;have o:Gn K E A H (if ds.length<=1000000 then eZ cond ge tgt δ ds else .no) Q:=o;by_cases hz:ds.length<=1000000
  case neg=>rw [if_neg hz] at o;exact o.elim
  rw [if_pos hz] at o;intro J H1 s1 hJ D hD;have R1:=R.same s1;have nD:D∉A:=R1.ls.new hD;cases qo:eZ cond ge tgt δ ds with
  | rz C =>
   exfalso;have:∀ l,eZ cond ge tgt δ l≠.rz C:=by
    intro l
    induction l with
    | nil=>intro z;cases z
    | cons d r ih =>
     intro z;unfold eZ at z;split at z
     ·cases z
     ·rename_i own' _;cases c1:cond (δ++own') with
      | ok b =>
       simp only [c1,Rs.dk,Rs.ag] at z;split at z
       ·cases c2:ge (δ++own') with
        | ok x =>
         simp only [c2,Rs.dk,Rs.ag] at z;cases c3:eZ cond ge tgt δ r with
         | ok l=>simp only [c3,Rs.ag] at z;cases z
         | rz C'=>simp only [c3,Rs.eO] at z;cases z;exact ih c3
         | no=>simp only [c3,Rs.bH] at z;cases z
        | rz C'=>simp only [c2,Rs.calm,Rs.bH] at z;cases z
        | no=>simp only [c2,Rs.calm,Rs.bH] at z;cases z
       ·exact ih z
      | rz C'=>simp only [c1,Rs.calm,Rs.bH] at z;cases z
      | no=>simp only [c1,Rs.calm,Rs.bH] at z;cases z
   exact this ds qo
  | no=>rw [qo] at o;exact o.elim
  | ok out =>
   rw [qo] at o;have base:ax (del H1 A) (del (upd H1 D (.lst [])) (D::A)):=fun b o e=>by obtain ⟨z,e⟩:=bf e;have nb:b≠D:=aK e hD;rw [aP (by simp [nb,z]),aA nb];exact e
   refine ⟨fun i m ys H'=>m=ds.length-i/\i<=ds.length/\ax H1 H'/\H' D=some (.lst ys)/\ys.length<=i/\∃ dn rest,eZ cond ge tgt δ (ds.drop i)=.ok rest/\out=dn++rest/\Iss K (del H' (D::A)) dn ys,
    ⟨ds.length,by simp,Mw _,bL hD,aG,LK _,[],out,qo,rfl,cO⟩,?_⟩
   rintro i m ys H' ⟨rfl,hi,sm,hl,hy,dn,rest,c1,c2,c3⟩
   refine ⟨hl,?_⟩;have sG:ax (del H1 A) H':=aB.trans sm;have hBn:∀ b∈D::A,(del H1 A) b=none:=fun b hb=>by
    rcases L7.mp hb with z | z
    ·rw [z,aP nD];exact hD
    ·exact gR z
   obtain ⟨jg,js,jy⟩:=hJ H' (D::A) sG (fun b hb=>by
    rcases L7.mp hb with z | z
    ·exact ⟨_,by rw [z];exact hl,rfl⟩
    ·exact (R1.ls.same sm) b z) hBn
   by_cases hlt:i<ds.length
   ·refine .inr ⟨jg i hlt,fun x H2 σ' hσ' y=>?_⟩;obtain ⟨s2,d,ed,hd⟩:=jy i x H2 hlt y;have edr:ds.drop i=d::ds.drop (i+1):=by
     rw [Nf hlt];have:ds[i]=d:=by have:=L1 hlt;rw [this] at ed;exact Option.some.inj ed
     rw [this]
    rw [edr] at c1;unfold eZ at c1;cases et:tgt d with
    | none=>rw [et] at c1;cases c1
    | some ow =>
     rw [et] at c1;have l2:H2 D=some (.lst ys):=s2 _ _ hl;have LsD:Ls H2 (D::A):=fun b hb=>by
      rcases L7.mp hb with z | z
      ·exact ⟨_,by rw [z];exact l2,rfl⟩
      ·exact (R1.ls.same (sm.trans s2)) b z
     obtain ⟨hol,hgo⟩:=hT d x σ σ' H2 (D::A) (fun σ2 H2=>tt σ2 H2 fun b H3 =>
      if b=true then eD K E0 ge σ2 H3 fun v H4=>H4 D=some (.lst ys)/\ys.length<sizeLine/\(∃ σ'',σ2=σ++σ''/\σ''.length=own.length)/\∃ m',m' < ds.length-i/\_
      else (∃ σ'',σ2=σ++σ''/\σ''.length=own.length)/\∃ m',m' < ds.length-i/\_) ow hσ hσ' LsD hd et
     refine hgo fun vs hvs hown=>?_
     have sAll:ax (del H1 A) (del H2 (D::A)):=lV (sG.trans s2) hBn;have RE:dw K H2 (D::A) (δ++ow) (σ++vs):=by
      refine ⟨LsD,by rw [LL,LL,R.len,hvs,hol],fun k e ek=>?_⟩;by_cases hk:k<δ.length
      ·rw [M3 hk] at ek;obtain ⟨u,e1,hu⟩:=R1.get k e ek;exact ⟨u,by rw [M3 (by rw [<-R.len];exact hk)];exact e1,hu.same sAll⟩
      ·rw [M6 (by omega)] at ek;obtain ⟨u,e1,hu⟩:=hown _ e ek;exact ⟨u,by rw [M6 (by rw [<-R.len];omega),<-R.len];exact e1,hu⟩
     have bad:∀ r:Rs Bool,r=.rz 0->r.calm=.no:=fun r e=>by rw [e];rfl
     refine htt _ _ _ (cD.run RE (fun b eb H3 s3 R3=>?_) (fun C eb=>?_) (fun eb=>?_))
     ·simp only [eb,Rs.dk,Rs.ag] at c1;cases b with
      | true =>
       simp only [if_true] at c1;refine eD.run R3 (fun xd ex v H4 s4 R4 hv=>?_) (fun C ex=>?_) (fun ex=>?_)
       ·simp only [ex,Rs.dk,Rs.ag] at c1;cases cr:eZ cond ge tgt δ (ds.drop (i+1)) with
        | ok rs =>
         simp only [cr,Rs.ag] at c1;cases c1;have l4:H4 D=some (.lst ys):=s4 _ _ (s3 _ _ l2);have dU:del (upd H4 D (.lst (ys++[v]))) (D::A)=del H4 (D::A):=ke (L6);refine ⟨l4,by rw [sizeLine_eq];omega,⟨vs,rfl,hvs⟩,ds.length-(i+1),by omega,rfl,hlt,?_,aG,by simp;omega,dn++[xd],rs,cr,by rw [c2];simp,?_⟩
         ·exact ax.put (((sm.trans s2).trans s3).trans s4) hD
         ·rw [dU];exact (c3.same (ax.del (s2.trans (s3.trans s4)))).append (ja hv)
        | rz C=>simp only [cr,Rs.eO] at c1;cases c1
        | no=>simp only [cr,Rs.bH] at c1;cases c1
       ·simp only [ex,Rs.calm,Rs.bH] at c1;cases c1
       ·simp only [ex,Rs.calm,Rs.bH] at c1;cases c1
      | false =>simp only [M0,if_false] at c1;exact ⟨⟨vs,rfl,hvs⟩,ds.length-(i+1),by omega,rfl,hlt,(sm.trans s2).trans s3,s3 _ _ l2,by omega,dn,rest,c1,c2,c3.same (ax.del (s2.trans s3))⟩
     ·simp only [eb,Rs.calm,Rs.bH] at c1;cases c1
     ·simp only [eb,Rs.calm,Rs.bH] at c1;cases c1
   ·have e:i=ds.length:=by omega
    subst e;rw [NI] at c1;cases c1;rw [Mn] at c2;subst c2;exact .inl ⟨js,o D ys H' (s1.free hD) (s1.trans sm) hl c3⟩
def fR:Expr->List Str
 | .Name x _=>[x]
 | .Tuple [.Name x _,.Name y _] _ _=>[x,y]
 | _=>[]
def GO (own N:List Str):List Str:=N.map fun x=>bif own.elem x then x++"__" else x
abbrev bk (X:Cx) (tg:Expr) (scope:Scope):=blk X (GO (fR tg) X.N) scope (fR tg)
abbrev Jf (X:Cx) (tg:Expr) (scope:Scope):Bool:=sy X.N (GO (fR tg) X.N) X.env.scope scope (fR tg)
inductive PIf (X:Cx):List Expr->(Ds->Rs Bool)->Prop
 | nil:PIf X [] bA
 | one {c:Expr} {g:Ds->Rs Bool} (h:PCD X E0 c g):PIf X [c] g
def JQ (K:PySem.W.Frag) (ifs:List Expr) (g:Ds->Rs Bool):TT:=match ifs with
 | []=>vn
 | _=>cD K E0 g
theorem PIf.pts {g:Ds->Rs Bool} (h:PIf X ifs g):PTs X ifs (JQ X.K ifs g):=by
 cases h with
 | nil=>exact .nil
 | one h=>exact .one h
theorem PIf.tt {g:Ds->Rs Bool} (h:PIf X ifs g):∀ σ H Q,cD K E0 g σ H Q->JQ K ifs g σ H Q:=by
 cases h with
 | nil=>exact fun σ H Q qz3=>(by obtain ⟨A,δ,R,o⟩:=qz3;exact o H (ax.refl _))
 | one h=>exact fun _ _ _ h=>h
theorem CD (hc:X.calm=true) (hi:PID X E tg iter gi)
  (hT:TgD X.K n0 (fR tg).length tgt g) (hg:∀ C s2 H2 fp,PG (bk X tg scope C s2 H2 fp) tg g) (ht:∀ C s2 H2 fp,PIf (bk X tg scope C s2 H2 fp) ifs cond) (he:∀ C s2 H2 fp,PD (bk X tg scope C s2 H2 fp) E0 elt ge)
  (hB:Jf X tg scope=true) (hs:∀ x,foldedSetIterable iter X.env x=pure x):PLD X E (.ListComp elt [⟨tg,iter,ifs,0⟩] scope pos) (a8 n0 gi cond ge tgt) :=
 (B5 (own:=fR tg) (te:=eD X.K E0 ge) hc hi hg (fun C s2 H2 fp=>(ht C s2 H2 fp).pts) (fun C s2 H2 fp=>he C s2 H2 fp) hB hs).imp (BE hT (PIf.tt (ht 0 X.s₀ X.H₀ [])))
def PLS (X:Cx) (E:XK) (i:Nat) (st:Stmt) (gl:Ds->Rs (List PyData)):Prop:=PS X st (BX (lD X.K E gl) (jB i))
theorem vY (hsw:swapsWith (.ListComp elt [⟨tg,iter,ifs,0⟩] scope pos) (some (.Name x pos')) spos.line X.env=pure true) (hc:X.calm=true) (hN:X.N.Nodup) (hi:PID X E tg iter gi)
  (hT:TgD X.K n0 (fR tg).length tgt g) (hg:∀ C s2 H2 fp,PG (bk X tg scope C s2 H2 fp) tg g) (ht:∀ C s2 H2 fp,PIf (bk X tg scope C s2 H2 fp) ifs cond) (he:∀ C s2 H2 fp,PD (bk X tg scope C s2 H2 fp) E0 elt ge)
  (hxi:X.N[i]?=some x) (hx:Loc X.env.scope x) (hB:Jf X tg scope=true) (hs:∀ x,foldedSetIterable iter X.env x=pure x) (hf:X.fn x=true\/X.env.scope.names.lookup x=some .local) :
  PLS X E i (.Assign [.Name x pos'] (.ListComp elt [⟨tg,iter,ifs,0⟩] scope pos) spos) (a8 n0 gi cond ge tgt) :=
 PS.imp (oZ (own:=fR tg) (te:=eD X.K E0 ge) hc hN hxi hx hsw hi hg (fun C s2 H2 fp=>(ht C s2 H2 fp).pts) (fun C s2 H2 fp=>he C s2 H2 fp) hB hs hf) fun D σ H h=>BE hT (PIf.tt (ht 0 X.s₀ X.H₀ [])) σ H _ h
end
inductive Sr where
 | nx (δ:Ds)
 | rt (d:PyData)
 | rz (C:Addr)
 | bk (δ:Ds)
 | ct (δ:Ds)
 | no
def gX (K:PySem.W.Frag) (G:Hp):PyData->HO->Prop
 | .list ds,.lst xs=>Iss K G ds xs
 | .dict kvs,.dK l=>∃ m:List (Int×Int),kvs=m.map (fun p=>(PyData.int p.1,PyData.int p.2))/\l=m.map fun p=>(.inl p.1,V.int p.2)
 | _,_=>False
theorem gX.same {G':Hp} {d:PyData} (h:gX K G d o) (s:ax G G'):gX K G' d o:=by
 unfold gX at h ⊢;split at h
 ·exact Iss.same s h
 ·exact h
 ·exact h.elim
theorem gX.is {d:PyData} (h:gX K G d o) (ha:G a=some o):Is K G d (.ref a):=by
 unfold gX at h;split at h
 ·exact jV ha h
 ·obtain ⟨m,rfl,rfl⟩:=h;unfold Is;exact .inl (.inr ⟨a,m,rfl,rfl,ha⟩)
 ·exact h.elim
theorem gX.lst (h:gX K G (.list ds) o):∃ xs,o=.lst xs/\Iss K G ds xs:=by
 unfold gX at h;split at h
 ·rename_i e;cases e;exact ⟨_,rfl,h⟩
 ·rename_i e;cases e
 ·exact h.elim
structure b0 (K:PySem.W.Frag) (H0:Hp) (A0:List Addr) (H:Hp) (A:List Addr) (O:List Nat) (δ:Ds) (σ:St):Prop where
 same:ax H0 H
 ls0:Ls H0 A0
 new:∀ a∈A,H0 a=none
 ls:Ls H A
 len:δ.length=σ.length
 pl:∀ (i:Nat) d,i∉O->δ[i]?=some (some d)->∃ v,σ[i]?=some (some v)/\Is K (del H (A++A0)) d v
 own:∀ (i:Nat) d,i∈O->δ[i]?=some (some d)->∃ a o d',σ[i]?=some (some (.ref a))/\a∈A/\H a=some o/\d=d'/\gX K (del H (A++A0)) d' o
 inj:∀ (i j:Nat) d e a,i∈O->j∈O->δ[i]?=some (some d)->δ[j]?=some (some e)->σ[i]?=some (some (.ref a))->σ[j]?=some (some (.ref a))->i=j
def mask (O:List Nat) (δ:Ds):Ds:=if O=[] then δ else δ.mapIdx fun i d=>if i∈O then none else d
theorem lW (δ:Ds):mask [] δ=δ:=by simp [mask]
theorem Dx {d:PyData} (h:(mask O δ)[i]?=some (some d)):i∉O/\δ[i]?=some (some d):=by
 unfold mask at h;split at h
 ·rename_i z;subst z;exact ⟨by simp,h⟩
 ·rw [MR] at h;cases q:δ[i]? with
  | none=>rw [q] at h;cases h
  | some x =>
   rw [q] at h;simp only [MF,Option.some.injEq] at h;by_cases z:i∈O
   ·rw [if_pos z] at h;cases h
   ·rw [if_neg z] at h;exact ⟨z,by rw [h]⟩
theorem wt:(mask O δ).length=δ.length:=by unfold mask;split <;> simp
theorem vU:ax (del H (A++B)) (del H B):=fun b o e=>by obtain ⟨z,e⟩:=bf e;rw [aP (fun q=>z (LJ _ q))];exact e
section
theorem b0.lsA (R:b0 K H0 A0 H A O δ σ):Ls H (A++A0):=fun a h=>(M4.mp h).elim (R.ls a) fun z=>(R.ls0.same R.same) a z
theorem b0.step (R:b0 K H0 A0 H A O δ σ) (s:ax H H1):b0 K H0 A0 H1 A O δ σ where
 same:=R.same.trans s
 ls0:=R.ls0
 new:=R.new
 ls:=R.ls.same s
 len:=R.len
 pl:=fun i d h e=>by obtain ⟨v,e1,h1⟩:=R.pl i d h e;exact ⟨v,e1,h1.same s.del⟩
 own:=fun i d h e=>by obtain ⟨a,xs,ds,e1,h1,h2,h3,h4⟩:=R.own i d h e;exact ⟨a,xs,ds,e1,h1,s _ _ h2,h3,h4.same s.del⟩
 inj:=R.inj
theorem b0.apart (R:b0 K H0 A0 H A O δ σ) (h:a∈A):a∉A0:=fun z=>by obtain ⟨xs,e,_⟩:=R.ls0 a z;rw [R.new a h] at e;cases e
theorem b0.ownL (R:b0 K H0 A0 H A O δ σ) (h:i∈O) (e:δ[i]?=some (some (.list ds))):∃ a xs ds',σ[i]?=some (some (.ref a))/\a∈A/\H a=some (.lst xs)/\PyData.list ds=.list ds'/\Iss K (del H (A++A0)) ds' xs:=by obtain ⟨a,o,d',e1,h1,h2,h3,h4⟩:=R.own i _ h e;subst h3;obtain ⟨xs,rfl,h5⟩:=h4.lst;exact ⟨a,xs,ds,e1,h1,h2,rfl,h5⟩
theorem b0.full (R:b0 K H0 A0 H A O δ σ):dw K H A0 δ σ where
 ls:=R.ls0.same R.same
 len:=R.len
 get:=fun i d e=>by
  by_cases h:i∈O
  ·obtain ⟨a,xs,ds,e1,h1,h2,h3,h4⟩:=R.own i d h e;subst h3;exact ⟨_,e1,(h4.same vU).is (by rw [aP (R.apart h1)];exact h2)⟩
  ·obtain ⟨v,e1,h1⟩:=R.pl i d h e;exact ⟨v,e1,h1.same vU⟩
theorem b0.part (R:b0 K H0 A0 H A O δ σ):dw K H (A++A0) (mask O δ) σ where
 ls:=R.lsA
 len:=by rw [wt];exact R.len
 get:=fun i d e=>by obtain ⟨h,e⟩:=Dx e;exact R.pl i d h e
theorem get_set {l:List α} {x y:α} (h:(l.set i x)[j]?=some y):(i=j/\y=x)\/(i≠j/\l[j]?=some y):=by
 by_cases z:i=j
 ·subst z;rw [List.getElem?_set_self'] at h;cases q:l[i]? with
  | none=>rw [q] at h;cases h
  | some w=>rw [q] at h;simp at h;exact .inl ⟨rfl,h.symm⟩
 ·rw [M7 z] at h;exact .inr ⟨z,h⟩
theorem km {l:List α} {x y:α} (hn:i≠j) (h:l[j]?=some y):(l.set i x)[j]?=some y:=by rw [M7 hn];exact h
theorem b0.set {d:PyData} (R:b0 K H0 A0 H A O δ σ) (hi:i∉O) (hl:i<δ.length) (h:Is K (del H (A++A0)) d v):b0 K H0 A0 H A O (δ.set i (some d)) (σ.set i (some v)) where
 same:=R.same
 ls0:=R.ls0
 new:=R.new
 ls:=R.ls
 len:=by simp [R.len]
 pl:=fun j e hj q=>by
  rcases get_set q with ⟨z,q⟩ | ⟨z,q⟩
  ·cases q;subst z;exact ⟨v,by rw [Mj (by rw [<-R.len];exact hl)],h⟩
  ·obtain ⟨u,e1,h1⟩:=R.pl j e hj q;exact ⟨u,km z e1,h1⟩
 own:=fun j e hj q=>by
  rcases get_set q with ⟨z,q⟩ | ⟨z,q⟩
  ·subst z;exact absurd hj hi
  ·obtain ⟨a,xs,ds,e1,h1⟩:=R.own j e hj q;exact ⟨a,xs,ds,km z e1,h1⟩
 inj:=fun j k d' e a hj hk q1 q2 p1 p2=>by
  have n1:i≠j:=fun z=>hi (z▸hj)
  have n2:i≠k:=fun z=>hi (z▸hk)
  rw [M7 n1] at q1 p1;rw [M7 n2] at q2 p2;exact R.inj j k d' e a hj hk q1 q2 p1 p2
theorem b0.setOwn (R:b0 K H0 A0 H A O δ σ) (hi:i∈O) (hl:i<δ.length) (hn:H a=none) (s:ax H H1) (ha:H1 a=some (.lst xs)) (h:Iss K (del H1 (a::(A++A0))) ds xs) :
  b0 K H0 A0 H1 (a::A) O (δ.set i (some (.list ds))) (σ.set i (some (.ref a))) where
 same:=R.same.trans s
 ls0:=R.ls0
 new:=fun b hb=>by
  rcases L7.mp hb with z | z
  ·rw [z];exact R.same.free hn
  ·exact R.new b z
 ls:=fun b hb=>by
  rcases L7.mp hb with z | z
  ·exact ⟨_,by rw [z];exact ha,rfl⟩
  ·exact (R.ls.same s) b z
 len:=by simp [R.len]
 pl:=fun j e hj q=>by
  rcases get_set q with ⟨z,q⟩ | ⟨z,q⟩
  ·subst z;exact absurd hi hj
  ·obtain ⟨u,e1,h1⟩:=R.pl j e hj q;refine ⟨u,km z e1,h1.same fun b o e=>?_⟩;obtain ⟨y,e⟩:=bf e;have nb:b≠a:=aK e hn;rw [aP (by simpa [nb] using y)];exact s _ _ e
 own:=fun j e hj q=>by
  have kk:∀ b o,del H (A++A0) b=some o->del H1 (a::A++A0) b=some o:=fun b o e=>by obtain ⟨y,e⟩:=bf e;have nb:b≠a:=aK e hn;rw [aP (by simpa [nb] using y)];exact s _ _ e
  rcases get_set q with ⟨z,q⟩ | ⟨z,q⟩
  ·cases q;subst z;exact ⟨a,_,_,by rw [Mj (by rw [<-R.len];exact hl)],L6,ha,rfl,h⟩
  ·obtain ⟨b,ys,es,e1,h1,h2,h3,h4⟩:=R.own j e hj q;exact ⟨b,ys,es,km z e1,L4 _ h1,s _ _ h2,h3,h4.same kk⟩
 inj:=fun j k d' e b hj hk q1 q2 p1 p2=>by
  have old:∀ k,k∈O->i≠k->∀ e,δ[k]?=some (some e)->σ[k]?=some (some (.ref a))->False:=fun k hk _ e q p=>by obtain ⟨b,ys,es,e1,h1,h2,_⟩:=R.own k e hk q;rw [p] at e1;cases e1;rw [hn] at h2;cases h2
  by_cases z1:i=j
  ·by_cases z2:i=k
   ·rw [<-z1,z2]
   ·subst z1;rw [Mj (by rw [<-R.len];exact hl)] at p1;cases p1;rw [M7 z2] at q2 p2;exact (old k hk z2 e q2 p2).elim
  ·by_cases z2:i=k
   ·subst z2;rw [Mj (by rw [<-R.len];exact hl)] at p2;cases p2;rw [M7 z1] at q1 p1;exact (old j hj z1 d' q1 p1).elim
   ·rw [M7 z1] at q1 p1;rw [M7 z2] at q2 p2;exact R.inj j k d' e b hj hk q1 q2 p1 p2
theorem b0.put (R:b0 K H0 A0 H A O δ σ) (hi:i∈O) (hd:δ[i]?=some (some d0)) (hs:σ[i]?=some (some (.ref a))) (ha:a∈A) (h:Iss K (del H (A++A0)) ds ys) :
  b0 K H0 A0 (upd H a (.lst ys)) A O (δ.set i (some (.list ds))) σ:=by
 have dU:del (upd H a (.lst ys)) (A++A0)=del H (A++A0):=ke (Me _ ha);have hl:i<δ.length:=(M8.mp hd).1;refine ⟨fun b o e=>?_,R.ls0,R.new,fun b hb=>?_,by simp [R.len],fun j e hj q=>?_,fun j e hj q=>?_,fun j k d' e b hj hk q1 q2 p1 p2=>?_⟩
 ·have nb:b≠a:=fun z=>by rw [z,R.new a ha] at e;cases e
  rw [aA nb];exact R.same b o e
 ·by_cases z:b=a
  ·exact ⟨_,by rw [z,aG],rfl⟩
  ·rw [aA z];exact R.ls b hb
 ·rcases get_set q with ⟨z,q⟩ | ⟨z,q⟩
  ·subst z;exact absurd hi hj
  ·rw [dU];exact R.pl j e hj q
 ·rcases get_set q with ⟨z,q⟩ | ⟨z,q⟩
  ·cases q;subst z;exact ⟨a,_,_,hs,ha,aG,rfl,by rw [dU];exact h⟩
  ·obtain ⟨b,zs,es,e1,h1,h2,h3,h4⟩:=R.own j e hj q;have nb:b≠a:=fun w=>z (R.inj i j _ _ a hi hj hd q hs (by rw [<-w];exact e1))
   exact ⟨b,zs,es,e1,h1,by rw [aA nb];exact h2,h3,by rw [dU];exact h4⟩
 ·rcases get_set q1 with ⟨z1,q1⟩ | ⟨z1,q1⟩ <;> rcases get_set q2 with ⟨z2,q2⟩ | ⟨z2,q2⟩
  ·rw [<-z1,z2]
  ·subst z1;exact R.inj i k d0 e b hi hk hd q2 p1 p2
  ·subst z2;exact R.inj j i d' d0 b hj hi q1 hd p1 p2
  ·exact R.inj j k d' e b hj hk q1 q2 p1 p2
def un (H0 G:Hp):Hp:=fun b=>match H0 b with | some o=>some o | none=>G b
theorem DS:ax H0 (un H0 G):=fun b o e=>by unfold un;rw [e]
theorem Lc (h0:ax H0 H) (hG:ax G H):ax G (un H0 G):=fun b o e=>by
 unfold un;cases q:H0 b with
 | none=>exact e
 | some o2=>have h2:=h0 b o2 q;rw [hG b o e] at h2;exact h2.symm
theorem JW (h0:ax H0 H) (hG:ax G H):ax (un H0 G) H:=fun b o e=>by
 unfold un at e;cases q:H0 b with
 | none=>rw [q] at e;exact hG b o e
 | some o2=>rw [q] at e;rw [<-Option.some.inj e];exact h0 b o2 q
theorem b0.more (R:b0 K H0 A0 H A O δ σ):b0 K (un H0 (del H (A++A0))) A0 H A O δ σ :=
 ⟨JW R.same aB,R.ls0.same DS,fun a h=>by unfold un;rw [R.new a h];exact gR (Me _ h),R.ls,R.len,R.pl,R.own,R.inj⟩
theorem b0.less {H0':Hp} (R:b0 K H0' A0 H A O δ σ) (s:ax H0 H0') (l:Ls H0 A0):b0 K H0 A0 H A O δ σ:=⟨s.trans R.same,l,fun a h=>s.free (R.new a h),R.ls,R.len,R.pl,R.own,R.inj⟩
end
def l5 (K:PySem.W.Frag) (E:XK) (H0:Hp) (A0:List Addr) (O:List Nat) (r:Sr) (D:Ends):Prop:=match r with
 | .nx δ=>∀ A σ H,b0 K H0 A0 H A O δ σ->D.nx σ H
 | .rt d=>∀ v H,ax H0 H->Is K (del H A0) d v->D.rt v H
 | .rz C=>∀ H,ax H0 H->E (.ref C) none H
 | .bk δ=>∀ A σ H,b0 K H0 A0 H A O δ σ->D.bk σ H
 | .ct δ=>∀ A σ H,b0 K H0 A0 H A O δ σ->D.ct σ H
 | .no=>False
def sD (K:PySem.W.Frag) (E:XK) (O:List Nat) (G:Ds->Sr):TS:=fun D σ H=>∃ H0 A0 A δ,b0 K H0 A0 H A O δ σ/\l5 K E H0 A0 O (G δ) D
def PSD (X:Cx) (E:XK) (O:List Nat) (s:Stmt) (G:Ds->Sr):Prop:=PS X s (sD X.K E O G)
def PBD (X:Cx) (E:XK) (O:List Nat) (ss:List Stmt) (G:Ds->Sr):Prop:=PSs X ss (sD X.K E O G)
def aY:Ds->Sr:=fun δ=>.nx δ
def az (a b:Ds->Sr):Ds->Sr:=fun δ=>match a δ with
 | .nx δ'=>b δ'
 | r=>r
def ofR {α:Type} (r:Rs α) (k:α->Sr):Sr:=match r with
 | .ok a=>k a
 | .rz C=>.rz C
 | .no=>.no
@[simp] theorem av (a:α) (k:α->Sr):ofR (.ok a) k=k a:=rfl
@[simp] theorem mW (C:Addr) (k:α->Sr):ofR (.rz C) k=.rz C:=rfl
@[simp] theorem mR (k:α->Sr):ofR (.no:Rs α) k=.no:=rfl
def sIf (c:Ds->Rs Bool) (a b:Ds->Sr):Ds->Sr:=fun δ=>ofR (c δ) fun t=>if t=true then a δ else b δ
def bj (g:Ds->Rs PyData):Ds->Sr:=fun δ=>ofR (g δ) .rt
def jF (g:Ds->Rs PyData):Ds->Sr:=fun δ=>ofR (g δ) fun _=>.nx δ
def aL (O:List Nat) (i:Nat) (g:Ds->Rs PyData):Ds->Sr:=fun δ=>if i<δ.length then ofR (g (mask O δ)) fun d=>.nx (δ.set i (some d)) else .no
def oJ (i:Nat) (g:Ds->Rs PyData):Ds->Sr:=fun δ=>if i<δ.length then ofR (g δ) fun d=>if fg d then .nx (δ.set i (some d)) else .no else .no
def eU (O:List Nat) (i:Nat) (g:Ds->Rs (List PyData)):Ds->Sr:=fun δ=>if i<δ.length then ofR (g (mask O δ)) fun ds=>.nx (δ.set i (some (.list ds))) else .no
def gK (O:List Nat) (i:Nat) (g:Ds->Rs PyData):Ds->Sr:=fun δ=>match δ[i]? with
 | some (some (.list ds))=>ofR (g (mask O δ)) fun d=>if ds.length<1000000 then .nx (δ.set i (some (.list (ds++[d])))) else .no
 | _=>.no
section
variable {ss:List Stmt} {G G':Ds->Sr} {a b c:Expr} {ga gb:Ds->Rs PyData} {ca:Ds->Rs Bool}
theorem tL:PBD X E O [] aY:=uj.imp fun D σ H qz3=>(by obtain ⟨H0,A0,A,δ,R,o⟩:=qz3;exact o A σ H R)
theorem iM (h1:PSD X E O st G) (h2:PBD X E O ss G'):PBD X E O (st::ss) (az G G'):=(cH h1 h2).imp fun D σ H ⟨H0,A0,A,δ,R,o⟩=>⟨H0,A0,A,δ,R,by
 unfold az at o;cases q:G δ with
 | nx δ'=>rw [q] at o;exact fun A' σ' H' R'=>⟨H0,A0,A',δ',R',o⟩
 | rt d=>rw [q] at o;exact o
 | rz C=>rw [q] at o;exact o
 | bk d=>rw [q] at o;exact o
 | ct d=>rw [q] at o;exact o
 | no=>rw [q] at o;exact o⟩
theorem nX (h1:PSD X E O st G):PBD X E O [st] G:=(ic h1).imp fun D σ H h=>h
theorem DV (hc:PCD X E c ca) (h1:PBD X E O ss G) (h2:PBD X E O ss' G'):PSD X E O (.If c ss ss' pos) (sIf ca G G'):=(zA hc h1 h2).imp fun D σ H pz3=>by
 obtain ⟨H0,A0,A,δ,R,o⟩:=pz3;unfold sIf at o;refine cD.run R.full (fun t et H1 s1 R1=>?_) (fun C et H' s'=>?_) (fun et=>?_)
 ·rw [et] at o;cases t with
  | true=>exact ⟨H0,A0,A,δ,R.step s1,o⟩
  | false=>exact ⟨H0,A0,A,δ,R.step s1,o⟩
 ·rw [et] at o;exact o H' (R.same.trans s')
 ·rw [et] at o;exact o
theorem uv (h:PD X E e ga):PSD X E O (.Return (some e) pos) (bj ga):=(qb h).imp fun D σ H pz3=>by
 obtain ⟨H0,A0,A,δ,R,o⟩:=pz3;unfold bj at o;refine eD.run R.full (fun d ed v H1 s1 R1 hv=>?_) (fun C et H' s'=>?_) (fun et=>?_)
 ·rw [ed] at o;exact o v H1 (R.same.trans s1) hv
 ·rw [et] at o;exact o H' (R.same.trans s')
 ·rw [et] at o;exact o
theorem Cn (h:PD X E e ga) (hs:swapsWith e none pos.line X.env=pure false):PSD X E O (.Expr e pos) (jF ga):=(n6 h hs).imp fun D σ H pz3=>by
 obtain ⟨H0,A0,A,δ,R,o⟩:=pz3;unfold jF at o;refine eD.run R.full (fun d ed v H1 s1 R1 hv=>?_) (fun C et H' s'=>?_) (fun et=>?_)
 ·rw [ed] at o;exact o A σ H1 (R.step s1)
 ·rw [et] at o;exact o H' (R.same.trans s')
 ·rw [et] at o;exact o
theorem Gw (h:PD X E e ga) (hN:X.N.Nodup) (hO:i∉O) (hi:X.N[i]?=some x) (hx:Loc X.env.scope x) (hs:swapsWith e (some (.Name x pos')) pos.line X.env=pure false)
  (hf:X.fn x=true\/X.env.scope.names.lookup x=some .local):PSD X E O (.Assign [.Name x pos'] e pos) (aL O i ga):=(qw hN hi hx h hs hf).imp fun D σ H pz3=>by
 obtain ⟨H0,A0,A,δ,R,o⟩:=pz3;unfold aL at o;split at o
 ·rename_i hl;refine eD.run R.part (fun d ed v H1 s1 R1 hv=>?_) (fun C et H' s'=>?_) (fun et=>?_)
  ·rw [ed] at o;exact o A _ H1 ((R.step s1).set hO hl hv)
  ·rw [et] at o;exact o H' (R.same.trans s')
  ·rw [et] at o;exact o
 ·exact o.elim
theorem B2 (h:PD X E e ga) (hN:X.N.Nodup) (hO:i∉O) (hi:X.N[i]?=some x) (hx:Loc X.env.scope x) (hs:swapsWith e (some (.Name x pos')) pos.line X.env=pure false)
  (hf:X.fn x=true\/X.env.scope.names.lookup x=some .local):PSD X E O (.Assign [.Name x pos'] e pos) (oJ i ga):=(qw hN hi hx h hs hf).imp fun D σ H pz3=>by
 obtain ⟨H0,A0,A,δ,R,o⟩:=pz3;unfold oJ at o;split at o
 ·rename_i hl;refine eD.run R.full (fun d ed v H1 s1 R1 hv=>?_) (fun C et H' s'=>?_) (fun et=>?_)
  ·rw [ed] at o;have o:l5 X.K E H0 A0 O (if fg d=true then .nx (δ.set i (some d)) else .no) D:=o;split at o
   ·rename_i hd;exact o A _ H1 ((R.step s1).set hO hl ((hv.same aB).dl (R.step s1).lsA hd))
   ·exact o.elim
  ·rw [et] at o;exact o H' (R.same.trans s')
  ·rw [et] at o;exact o
 ·exact o.elim
theorem FV (h:PLD X E e gl) (hN:X.N.Nodup) (hO:i∈O) (hi:X.N[i]?=some x) (hx:Loc X.env.scope x) (hs:swapsWith e (some (.Name x pos')) pos.line X.env=pure false)
  (hf:X.fn x=true\/X.env.scope.names.lookup x=some .local):PSD X E O (.Assign [.Name x pos'] e pos) (eU O i gl):=(qw hN hi hx h hs hf).imp fun D σ H pz3=>by
 obtain ⟨H0,A0,A,δ,R,o⟩:=pz3;unfold eU at o;split at o
 ·rename_i hl;refine ⟨A++A0,mask O δ,R.part,?_⟩;cases q:gl (mask O δ) with
  | ok ds =>rw [q] at o;exact fun p xs H' hn s hp hi'=>o (p::A) _ H' (R.setOwn hO hl hn s hp hi')
  | rz C=>rw [q] at o;exact fun H' s'=>o H' (R.same.trans s')
  | no=>rw [q] at o;exact o
 ·exact o.elim
theorem C8 (h:PLS X E i st gl) (hO:i∈O):PSD X E O st (eU O i gl):=PS.imp h fun D σ H pz3=>by
 obtain ⟨H0,A0,A,δ,R,o⟩:=pz3;unfold eU at o;split at o
 ·rename_i hl;refine ⟨A++A0,mask O δ,R.part,?_⟩;cases q:gl (mask O δ) with
  | ok ds =>rw [q] at o;exact fun p xs H' hn s hp hi'=>o (p::A) _ H' (R.setOwn hO hl hn s hp hi')
  | rz C=>rw [q] at o;exact fun H' s'=>o H' (R.same.trans s')
  | no=>rw [q] at o;exact o
 ·exact o.elim
theorem BL (h:PLS X E i st gl) (hO:i∉O):PSD X E O st (aL O i (gL gl)):=PS.imp h fun D σ H pz3=>by
 obtain ⟨H0,A0,A,δ,R,o⟩:=pz3;unfold aL gL at o;split at o
 ·rename_i hl;have R1:=R.part;refine ⟨A++A0,mask O δ,R1,?_⟩;cases q:gl (mask O δ) with
  | ok ds =>rw [q] at o;intro p xs H' hn s hp hi';exact o A _ H' ((R.step s).set hO hl (jV (by rw [aP (R1.ls.new hn)];exact hp) (hi'.same mB)))
  | rz C=>rw [q] at o;exact fun H' s'=>o H' (R.same.trans s')
  | no=>rw [q] at o;exact o
 ·exact o.elim
theorem tyL {p:Addr} (h:H p=some (.lst xs)):tyV K "list" (.ref p) H:=.inl ⟨rfl,xs,SqL.of h⟩
theorem FR {pa pc:Pos} (h:PD X E e ga) (hO:i∈O) (hi:X.N[i]?=some x) (hv:Vis X.env.scope x)
  (hd:(x==("__debug__":Str))=false) (hcd:(x==("__classdict__":Str))=false) (hst:starEach [e] X.env=(false,eval e X.env)::starEach [] X.env)
  (hbase:attributeBase (.Name x pn) "append" X.env (eval (.Name x pn) X.env)=eval (.Name x pn) X.env)
  (hfew:((backTo pc (starEach [e] X.env)).all (fun x=>!x.1)&&(backToKw pc (keywordEach [] X.env)).all (fun x=>x.1.isSome)&&decide (([e]:List Expr).length+([]:List Keyword).length+(if ([]:List Keyword).isEmpty then 0 else 1)<30))=true)
  (hline:(pa.endLine==pc.line)=true) (hs:swapsWith (.Call (.Attribute (.Name x pn) "append" pa) [e] [] pc) none pos.line X.env=pure false) :
  PSD X E O (.Expr (.Call (.Attribute (.Name x pn) "append" pa) [e] [] pc) pos) (gK O i ga) :=
 (n6 (Cp PySem.F.plainAttrs_list PySem.F.slot_list_append PySem.F.type_list_append mS (kG hi hv hd hcd) (eo h f7 hst) hbase hfew hline hst rfl) hs).imp fun D σ H pz3=>by
  obtain ⟨H0,A0,A,δ,R,o⟩:=pz3;unfold gK at o;split at o
  ·rename_i ds q;obtain ⟨p,xs,ds',e1,hp,hl,e2,hx⟩:=R.ownL hO q;cases e2;refine ⟨_,e1,tyL hl,?_⟩;refine eD.run R.part (fun d ed v H1 s1 R1 hv=>?_) (fun C et H' s'=>?_) (fun et=>?_)
   ·rw [ed] at o;have o:l5 X.K E H0 A0 O (if ds.length<1000000 then .nx (δ.set i (some (.list (ds++[d])))) else .no) D:=o;split at o
    ·rename_i hz;refine ⟨p,xs,v,rfl,rfl,s1 _ _ hl,by rw [hx.length,sizeLine_eq];omega,?_⟩;exact o A _ _ ((R.step s1).put hO q e1 hp ((hx.same s1.del).append (ja hv)))
    ·exact o.elim
   ·rw [et] at o;exact o H' (R.same.trans s')
   ·rw [et] at o;exact o
  ·exact o.elim
def TgS (K:PySem.W.Frag) (O:List Nat) (tgt:PyData->Ds->Option Ds) (g:TG):Prop:=∀ (d:PyData) (v:V) (H0:Hp) (A0:List Addr) (H:Hp) (A:List Addr) (δ δ':Ds) (σ:St) (Q:St->Hp->Prop),b0 K H0 A0 H A O δ σ->Is K (del H (A++A0)) d v->tgt d δ=some δ' ->
 (∀ σ',b0 K H0 A0 H A O δ' σ'->Q σ' H)->g v σ H Q
def bw (i:Nat):PyData->Ds->Option Ds:=fun d δ=>if i<δ.length then some (δ.set i (some d)) else none
theorem DQ (hi:i∉O):TgS K O (bw i) (jB i):=fun d v H0 A0 H A δ δ' σ Q R h e k=>by
 unfold bw at e;split at e
 ·rename_i hl;cases e;exact k _ (R.set hi hl h)
 ·cases e
def mZ:List Nat->List PyData->Ds->Option Ds
 | [],[],δ=>some δ
 | i::is,d::ds,δ=>if i<δ.length then mZ is ds (δ.set i (some d)) else none
 | _,_,_=>none
def fV (is:List Nat):PyData->Ds->Option Ds
 | .tuple ds,δ=>mZ is ds δ
 | _,_=>none
def xY:List Nat->TGs
 | []=>L2.IU
 | i::is=>L2.zF (jB i) (xY is)
theorem nE {K:PySem.W.Frag}:∀ (is:List Nat) (ds:List PyData) (vs:List V) (H0:Hp) (A0:List Addr) (H:Hp) (A:List Addr) (δ δ':Ds) (σ:St) (Q:St->Hp->Prop),(∀ i∈is,i∉O)->b0 K H0 A0 H A O δ σ->Iss K (del H (A++A0)) ds vs->mZ is ds δ=some δ' ->
  (∀ σ',b0 K H0 A0 H A O δ' σ'->Q σ' H)->xY is vs σ H Q
 | [],[],vs,H0,A0,H,A,δ,δ',σ,Q,_,R,h,e,k=>by cases e;exact ⟨h.nil_of,k σ R⟩
 | i::is,d::ds,vs,H0,A0,H,A,δ,δ',σ,Q,hO,R,h,e,k=>by
  obtain ⟨v,r,rfl,h1,h2⟩:=h.cons_of;unfold mZ at e;split at e
  ·rename_i hl;exact ⟨v,r,rfl,nE is ds r H0 A0 H A _ δ' _ Q (fun j hj=>hO j (L4 _ hj)) (R.set (hO i L6) hl h1) h2 e k⟩
  ·cases e
 | [],_::_,_,_,_,_,_,_,_,_,_,_,_,_,e,_=>by cases e
 | _::_,[],_,_,_,_,_,_,_,_,_,_,_,_,e,_=>by cases e
theorem pP:∀ {is:List Nat} {ds:List PyData} {δ δ':Ds},mZ is ds δ=some δ'->ds.length=is.length
 | [],[],_,_,_=>rfl
 | _::is,_::ds,δ,δ',e=>by
  unfold mZ at e;split at e
  ·simp [pP e]
  ·cases e
 | [],_::_,_,_,e=>by cases e
 | _::_,[],_,_,e=>by cases e
theorem Fs {is:List Nat} (hi:∀ i∈is,i∉O):TgS K O (fV is) (L2.JB K is.length (xY is)):=fun d v H0 A0 H A δ δ' σ Q R h e k=>by
 unfold fV at e;split at e
 ·obtain ⟨p,xs,rfl,hp,hx⟩:=h.ofTup;exact ⟨p,xs,rfl,SqT.of (aB _ _ hp),by rw [hx.length,pP e],nE is _ xs H0 A0 H A δ δ' σ Q hi R hx e k⟩
 ·cases e
def forL (tgt:PyData->Ds->Option Ds) (body:Ds->Sr):List PyData->Ds->Sr
 | [],δ=>.nx δ
 | d::r,δ=>match tgt d δ with
  | none=>.no
  | some δ1=>match body δ1 with
   | .nx δ2=>forL tgt body r δ2
   | .ct δ2=>forL tgt body r δ2
   | .bk δ2=>.nx δ2
   | .rt v=>.rt v
   | .rz C=>.rz C
   | .no=>.no
def fz (O:List Nat) (src:Ds->Rs (List PyData)) (tgt:PyData->Ds->Option Ds) (body:Ds->Sr):Ds->Sr:=fun δ=>ofR (src (mask O δ)) fun ds=>forL tgt body ds δ
theorem FK {tgt:PyData->Ds->Option Ds} (hp:PassesOwn (model X.prog X.w) X.A X.env X.xe) (hc:X.calm=true) (hi:PID X E tg iter gi) (hT:TgS X.K O tgt g) (hg:PG X tg g) (hb:PBD X E O ss G)
  (hs:∀ x,foldedSetIterable iter X.env x=pure x):PSD X E O (.For tg iter ss [] pos) (fz O gi tgt G):=(GZ hp hc hi hg hb hs).imp fun D σ H pz3=>by
 obtain ⟨H0,A0,A,δ,R,o⟩:=pz3;unfold fz at o;refine ⟨A++A0,mask O δ,R.part,?_⟩;cases q:gi (mask O δ) with
 | no=>rw [q] at o;exact o
 | rz C=>rw [q] at o;exact fun H' s'=>o H' (R.same.trans s')
 | ok ds =>
  rw [q] at o;intro J H1 s1 hJ;have R1:=(R.step s1).more;have o:l5 X.K E H0 A0 O (forL tgt G ds δ) D:=o;refine ⟨fun i m σ' H'=>m=ds.length-i/\i<=ds.length/\∃ A' δ',b0 X.K (un H0 (del H1 (A++A0))) A0 H' A' O δ' σ'/\l5 X.K E H0 A0 O (forL tgt G (ds.drop i) δ') D,⟨ds.length,by simp,Mw _,A,δ,R1,o⟩,?_⟩
  rintro i m σ' H' ⟨rfl,hi',A',δ',R',o'⟩
  have sG:ax (del H1 (A++A0)) (un H0 (del H1 (A++A0))):=Lc (R.same.trans s1) aB;have hB:∀ b∈A'++A0,(del H1 (A++A0)) b=none:=fun b hb=>by
   rcases M4.mp hb with z | z
   ·exact sG.free (R'.new b z)
   ·exact gR (LJ _ z)
  obtain ⟨jg,js,jy⟩:=hJ H' (A'++A0) (sG.trans R'.same) R'.lsA hB;by_cases hlt:i<ds.length
  ·refine .inr ⟨jg i hlt,?_⟩;have edr:ds.drop i=ds[i]::ds.drop (i+1):=Nf hlt;rw [edr] at o';unfold forL at o';refine ⟨fun σ2 H2=>∃ A2 δ2,b0 X.K (un H0 (del H1 (A++A0))) A0 H2 A2 O δ2 σ2/\l5 X.K E H0 A0 O (forL tgt G (ds.drop (i+1)) δ2) D,fun σ2 H2 ⟨A2,δ2,R2,o2⟩=>⟨ds.length-(i+1),by omega,rfl,hlt,A2,δ2,R2,o2⟩,fun x H2 y=>?_⟩;obtain ⟨s2,d,ed,hd⟩:=jy i x H2 hlt y;have:ds[i]=d:=by have:=L1 hlt;rw [this] at ed;exact Option.some.inj ed
   rw [this] at o';cases et:tgt d δ' with
   | none=>rw [et] at o';exact o'.elim
   | some δ1 =>
    simp only [et] at o';refine hT d x _ _ _ _ _ _ _ _ (R'.step s2) hd et fun σ3 R3=>⟨_,_,_,_,R3,?_⟩
    cases eb:G δ1 with
    | nx δ2=>rw [eb] at o';exact fun A4 σ4 H4 R4=>⟨A4,δ2,R4,o'⟩
    | ct δ2=>rw [eb] at o';exact fun A4 σ4 H4 R4=>⟨A4,δ2,R4,o'⟩
    | bk δ2=>rw [eb] at o';exact fun A4 σ4 H4 R4=>o' A4 σ4 H4 (R4.less DS R.ls0)
    | rt v=>rw [eb] at o';exact fun v4 H4 s4 h4=>o' v4 H4 (DS.trans s4) h4
    | rz C=>rw [eb] at o';exact fun H4 s4=>o' H4 (DS.trans s4)
    | no=>rw [eb] at o';exact o'
  ·have e:i=ds.length:=by omega
   subst e;rw [NI] at o';exact .inl ⟨js,o' A' σ' H' (R'.less DS R.ls0)⟩
end
section
variable {ss:List Stmt} {G G':Ds->Sr} {a b c:Expr} {ga gb gk:Ds->Rs PyData} {ca:Ds->Rs Bool}
def bU (c:Ds->Rs Bool) (b:Ds->Sr):Nat->Ds->Sr
 | 0,_=>.no
 | n+1,δ=>ofR (c δ) fun t=>if t=true then (match b δ with
  | .nx δ2=>bU c b n δ2
  | .ct δ2=>bU c b n δ2
  | .bk δ2=>.nx δ2
  | .rt v=>.rt v
  | .rz C=>.rz C
  | .no=>.no) else .nx δ
theorem Ax (fuel:Nat) (hp:PassesOwn (model X.prog X.w) X.A X.env X.xe) (hc:PCD X E c ca) (hb:PBD X E O ss G):PSD X E O (.While c ss [] pos) (fun δ=>bU ca G fuel δ):=(vI hp hc hb).imp fun D σ H pz3=>by
 obtain ⟨H0,A0,A,δ,R,o⟩:=pz3;refine ⟨fun m σ H=>∃ A δ,b0 X.K H0 A0 H A O δ σ/\l5 X.K E H0 A0 O (bU ca G m δ) D,⟨fuel,A,δ,R,o⟩,?_⟩
 rintro m σ H ⟨A,δ,R,o⟩
 cases m with
 | zero=>exact o.elim
 | succ m =>
  unfold bU at o;refine cD.run R.full (fun t et H1 s1 R1=>?_) (fun C et H' s'=>?_) (fun et=>?_)
  ·rw [et] at o;cases t with
   | false=>exact o A σ H1 (R.step s1)
   | true =>
    refine ⟨fun σ' H'=>∃ A δ,b0 X.K H0 A0 H' A O δ σ'/\l5 X.K E H0 A0 O (bU ca G m δ) D,fun σ' H' q=>⟨m,MO m,q⟩,H0,A0,A,δ,R.step s1,?_⟩;have o:l5 X.K E H0 A0 O (match G δ with
     | .nx δ2=>bU ca G m δ2
     | .ct δ2=>bU ca G m δ2
     | .bk δ2=>.nx δ2
     | .rt v=>.rt v
     | .rz C=>.rz C
     | .no=>.no) D:=o
    cases eb:G δ with
    | nx δ2=>rw [eb] at o;exact fun A4 σ4 H4 R4=>⟨A4,δ2,R4,o⟩
    | ct δ2=>rw [eb] at o;exact fun A4 σ4 H4 R4=>⟨A4,δ2,R4,o⟩
    | bk δ2=>rw [eb] at o;exact o
    | rt v=>rw [eb] at o;exact o
    | rz C=>rw [eb] at o;exact o
    | no=>rw [eb] at o;exact o
  ·rw [et] at o;exact o H' (R.same.trans s')
  ·rw [et] at o;exact o
def qL (i:Nat) (gk ge:Ds->Rs PyData):Ds->Sr:=fun δ=>match δ[i]? with
 | some (some (.list ds))=>ofR (ge δ) fun d=>ofR (gk δ) fun k=>match k with
  | .int k=>match ixN ds.length k with
   | some j=>if fg d then .nx (δ.set i (some (.list (ds.set j d)))) else .no
   | none=>.no
  | _=>.no
 | _=>.no
theorem Eb {k:Expr} {ps:Pos} (h:PD X E e ga) (hk:PD X E k gk) (hO:i∈O) (hi:X.N[i]?=some x) (hv:Vis X.env.scope x)
  (hd:(x==("__debug__":Str))=false) (hcd:(x==("__classdict__":Str))=false)
  (ha:∀ v,assign (.Subscript (.Name x pn) k ps) X.env v=(do
   let ov <-holding [v] (eval (.Name x pn) X.env);let iv <-holding [v,ov] (eval k X.env)
   standAt ps
   holding [v,ov,iv] (setItem ov iv v)
   release [v,ov,iv] []))
  (hs:swapsWithSole [.Subscript (.Name x pn) k ps] e pos.line X.env=pure false) (hw:swappedStores [.Subscript (.Name x pn) k ps] e X.env=pure none)
  (h1:(assignEach [.Subscript (.Name x pn) k ps] X.env).map (·.2)=[assign (.Subscript (.Name x pn) k ps) X.env]):PSD X E O (.Assign [.Subscript (.Name x pn) k ps] e pos) (qL i gk ga) :=
 (Hy h (Ig (kG hi hv hd hcd) hk set_list ha) hs hw h1).imp fun D σ H pz3=>by
  obtain ⟨H0,A0,A,δ,R,o⟩:=pz3;unfold qL at o;split at o
  ·rename_i ds q;obtain ⟨p,xs,ds',e1,hp,hl,e2,hx⟩:=R.ownL hO q;cases e2;refine eD.run R.full (fun d ed v H1 s1 R1 hv=>?_) (fun C et H' s'=>?_) (fun et=>?_)
   ·simp only [ed,av] at o;refine ⟨_,e1,?_⟩;refine eD.run R1 (fun kd ek u H2 s2 R2 hu=>?_) (fun C et H' s'=>?_) (fun et=>?_)
    ·simp only [ek,av] at o;split at o
     ·rename_i kk;split at o
      ·rename_i j hj;split at o
       ·rename_i hn;have s12:=s1.trans s2;refine ⟨p,xs,kk,j,rfl,hu.ofInt,s12 _ _ hl,by rw [hx.length];exact hj,?_⟩;exact o A _ _ ((R.step s12).put hO q e1 hp (Iss.set (((hv.same s2.del).same aB).dl (R.step s12).lsA hn) j (hx.same s12.del)))
       ·exact o.elim
      ·exact o.elim
     ·exact o.elim
    ·simp only [et,mW] at o;exact o H' (R.same.trans (s1.trans s'))
    ·simp only [et,mR] at o;exact o
   ·simp only [et,mW] at o;exact o H' (R.same.trans s')
   ·simp only [et,mR] at o;exact o
  ·exact o.elim
structure qM (K:PySem.W.Frag) (mg:Str->Option Value) (x:Str) (C:Addr):Prop where
 m:mg x=some (.ref C)
 e:PySem.W.excIn K C [.type "ValueError",.type "Exception",.type "BaseException",.type "object"] "ValueError.__new__"=true
def jd (C:Addr) (gs:Ds->Rs (List PyData)):Ds->Sr:=fun δ=>ofR (gs δ) fun _=>.rz C
theorem A9 {np:Pos} (hc:X.calm=true) (M:xc X E) (EE:qM X.K X.mg x C) (ha:PAD X E (e::es) gs) (hl:(e::es).length<=1000) (hg:Gl X x)
  (hdb:(x==("__debug__":Str))=false) (he:starEach (e::es) X.env=(false,eval e X.env)::starEach es X.env) (hpl:(backTo cpos (starEach es X.env)).any (·.1)=false) :
  PSD X E O (.Raise (some (.Call (.Name x np) (e::es) [] cpos)) none pos) (jd C gs) :=
 (Bs hc M PySem.F.excBase_ValueError hg EE.m EE.e ha.1 hdb he hpl).imp fun D σ H pz3=>by
  obtain ⟨H0,A0,A,δ,R,o⟩:=pz3;unfold jd at o;refine aD.run R.full (fun ds ed vs H1 s1 R1 hv=>?_) (fun C et H' s'=>?_) (fun et=>?_)
  ·simp only [ed,av] at o;exact ⟨by rw [hv.length,ha.2 δ ds ed,sizeLine_eq];omega,o H1 (R.same.trans s1)⟩
  ·simp only [et,mW] at o;exact o H' (R.same.trans s')
  ·simp only [et,mR] at o;exact o
end
section
theorem lz {f:Addr} {k:Nat} (F:Fun K x qual st f fd) (S:cX N ps (aE st)) (len:∀ vs H Q E,sp vs H Q E->vs.length=ps.length)
  (hbody:∀ (cdv:Value) (A:Around) (outer:List Env) (s:Shared) (H:Hp) (vs:List V) (Q:VK) (E:XK),cx k (A.deeper (envOfC qual (aE st) s.heap.objs.size f cdv))->sp vs H Q E ->
   ∃ t,PSs (cZ CX P w K mg base N qual (aE st) f cdv A outer s H E) (cm st) t/\t { nx:=fun _ H'=>Q .non H',rt:=Q } (start N vs) H):gM P w K mg base CX (k+1) f fd ps sp:=by
 obtain ⟨oc,od,kV,doc,pm,an,cdv,ct,osl,rfl,lk,hcd⟩:=F.ex;exact Bz lk hcd S len fun A outer s H vs Q E hr hsp=>hbody cdv A outer s H vs Q E hr hsp
def bc:Sr->Rs PyData
 | .rt d=>.ok d
 | .nx _=>.ok .none
 | .rz C=>.rz C
 | _=>.no
theorem Jq {f:Addr} {A:Around}:xc (cZ (CXW P w) P w K mg base N qual scope f cd A outer s H E) E :=
 fun _ _ _ _ _ _ _ _ I hx hE=>vB (CX:=CX0) I hx hE
theorem b0.start (hA:Ls H A0) (hi:Iss K (del H A0) ds vs) (hl:ds.length=ps.length) (hO:∀ i∈O,ps.length<=i) :
  b0 K H A0 H [] O (ds.map some++List.replicate (N.length-ps.length) none) (L2.start N vs):=by
 have hv:=hi.length;have at':∀ (i:Nat) d,(ds.map some++List.replicate (N.length-ps.length) none)[i]?=some (some d)->i<ds.length/\ds[i]?=some d:=fun i d e=>by
  by_cases h:i<ds.length
  ·rw [M3 (by simpa using h),LQ] at e;refine ⟨h,?_⟩;cases q:ds[i]? with
   | none=>rw [q] at e;cases e
   | some z=>rw [q] at e;simp at e;rw [e]
  ·rw [M6 (by simpa using h),Nj] at e;split at e <;> cases e
 refine ⟨ax.refl _,hA,(fun a h=>by cases h),(fun a h=>by cases h),?_,fun i d _ e=>?_,fun i d h e=>?_,fun i j d e a h _ q _ _ _=>?_⟩
 ·unfold L2.start;simp [hv,hl]
 ·obtain ⟨hlt,e⟩:=at' i d e;obtain ⟨v,ev,hd⟩:=hi.getD e;refine ⟨v,?_,hd⟩;unfold L2.start;rw [M3 (by simp;omega),LQ,ev];rfl
 ·obtain ⟨hlt,_⟩:=at' i d e;exact absurd (hO i h) (by omega)
 ·obtain ⟨hlt,_⟩:=at' i d q;exact absurd (hO i h) (by omega)
theorem iC.of {f:Addr} {k:Nat} {G:Ds->Sr} (F:Fun K x qual st f fd) (S:cX N ps (aE st)) (b:Binds K fd ps []) (m:mg x=some (.ref f)) (hO:∀ i∈O,ps.length<=i)
  (body:∀ (cdv:Value) (A:Around) (outer:List Env) (s:Shared) (H:Hp) (E:XK),cx k (A.deeper (envOfC qual (aE st) s.heap.objs.size f cdv))->PBD (cZ (CXW P w) P w K mg base N qual (aE st) f cdv A outer s H E) E O (cm st) G)
  (hg:∀ ds,ds.length=ps.length->gf ds≠.no->bc (G (ds.map some++List.replicate (N.length-ps.length) none))=gf ds):iC P w K mg base (k+1) x ps.length gf:=by
 refine ⟨f,fd,ps,lz F S (fun vs H Q E h=>?_) (fun cdv A outer s H vs Q E hr h=>?_),m,F.kp,b⟩
 ·obtain ⟨A,ds,hA,hi,hl,o⟩:=h;rw [hi.length,hl]
 ·obtain ⟨A0,ds,hA,hi,hl,o⟩:=h;refine ⟨_,body cdv A outer s H E hr,H,A0,[],_,b0.start hA hi hl hO,?_⟩;have hg':=hg ds hl (fun z=>by rw [z] at o;exact o);cases q:G (ds.map some++List.replicate (N.length-ps.length) none) with
  | rt d=>rw [q] at hg';rw [<-hg'] at o;exact fun v H' s' hv=>o v H' s' hv
  | nx δ=>rw [q] at hg';rw [<-hg'] at o;exact fun A' σ H' R'=>o .non H' R'.same is_none
  | rz C=>rw [q] at hg';rw [<-hg'] at o;exact fun H' s'=>o H' s'
  | bk δ=>rw [q] at hg';rw [<-hg'] at o;exact o.elim
  | ct δ=>rw [q] at hg';rw [<-hg'] at o;exact o.elim
  | no=>rw [q] at hg';rw [<-hg'] at o;exact o.elim
theorem iC.old {f:Addr} {k:Nat} (F:gM P w K mg base CX0 k f fd ps sp) (m:mg x=some (.ref f)) (kp:PySem.W.keepIn K (.ref f)=true) (b:Binds K fd ps [])
  (h:∀ ds,ds.length=ps.length->gf ds≠.no->∃ d,gf ds=.ok d/\gx d=true/\∀ vs H Q,Iss K H ds vs->(∀ v H',ax H H'->IsD K H' d v->Q v H')->sp vs H Q E0):iC P w K mg base k x ps.length gf:=by
 refine ⟨f,fd,ps,⟨fun vs H Q E h'=>?_,fun A outer s H args us vs Q E hr he hb hv h'=>?_⟩,m,kp,b⟩
 ·obtain ⟨A,ds,hA,hi,hl,o⟩:=h';rw [hi.length,hl]
 ·obtain ⟨A0,ds,hA,hi,hl,o⟩:=h';obtain ⟨d,e,nl,hsp⟩:=h ds hl (fun z=>by rw [z] at o;exact o);rw [e] at o;refine codeAny_mono (F.run A outer s H args us vs Q E0 hr he hb hv (hsp vs H Q (hi.same aB) fun v H' s' hd=>o v H' s' ((hd.is nl).dl (hA.same s') (wZ nl)))) fun r s' hq=>?_
  cases r with
  | error ev=>exact False.elim hq
  | ok fl =>
   cases fl with
   | ret u=>exact hq
   | next=>exact False.elim hq
   | brk=>exact False.elim hq
   | cont=>exact False.elim hq
end
open AutoSeq1 (wpAny_loadPart')
theorem mU:fillsNumberSlot (.type "tuple") "mul"=pure false :=
 PySem.fillsNumberSlot_seq (id:="tuple.__mul__") (r:=some (.builtin "tuple.__rmul__")) PySem.F.slot_tuple_mul.lookup (by decide +kernel) PySem.F.slot_tuple_rmul.lookup (by decide +kernel)
theorem tZ:seqRepeat? (.type "tuple")=pure (some (.builtin "tuple.__mul__")):=by unfold seqRepeat?;rw [PySem.seqSlot_of (T:="tuple") (name:="__mul__") (id:="tuple.__mul__") PySem.F.slot_tuple_mul.lookup (by decide +kernel),PySem.seqSlot_of (T:="tuple") (name:="__rmul__") (id:="tuple.__rmul__") PySem.F.slot_tuple_rmul.lookup (by decide +kernel)];rfl
theorem uF (a:Int) (t:Tok) (l:Addr) (items:Array Value) (n:Nat) (dd:Option Addr) (sl:Array (Option Value)) :
  Meets (Builtin.«int.__rmul__» ⟨[.int a t,.ref l],[]⟩) (fun _ R s=>s.heap.get? l=some { cls:=.type "tuple",dict:=dd,data:=.seq items n,slots:=sl }/\R (.ok (.ret Value.notImplemented)) s) :=
 .of_wp fun prog w A R s h=>by obtain ⟨hp,g,d,tk,os⟩:=s;obtain ⟨hl,h⟩:=h;wp_walk;exact ⟨_,rfl,h⟩
theorem Cj (l:Addr) (items:Array Value) (n:Nat) (x:Int) (u:Tok) (dd:Option Addr) (sl:Array (Option Value)) (h1:(decide (x < -(2 ^ 63)) || decide (x≥2 ^ 63))=false) (h2:(items.isEmpty || x==1)=false) (h3:(decide (x<=0) || items.isEmpty)=false)
  (h4:decide ((items.size:Int)*x>(2 ^ 63-1) / 8)=false) (h5:Builtin.Tuple.tupleTooMany ((items.size:Int)*x)=false) (hsz:(List.foldl (fun x1 x2=>x1++x2) #[] (List.replicate x.toNat items)).size<=sizeLine) :
  Meets (Builtin.«tuple.__mul__» ⟨[.ref l,.int x u],[]⟩) (fun _ R s=>s.heap.get? l=some { cls:=.type "tuple",dict:=dd,data:=.seq items n,slots:=sl }/\R (.ok (.ret (Value.ref s.heap.objs.size))) { s with heap:=s.heap.push { cls:=Value.type "tuple",data:=Data.seq (List.foldl (fun x1 x2=>x1++x2) #[] (List.replicate x.toNat items)) } }) :=
 .of_wp fun prog w A R s h=>by
  obtain ⟨hp,g,d,tk,os⟩:=s;obtain ⟨hl,h⟩:=h;have f1:=AutoSeq1.idx_int;have f2:=AutoSeq1.sub_tuple_tuple
  wp_walk using wpAny_loadPart' hl
  refine wpAny_ite_false (by rw [h1];rfl) ?_
  wp_walk using wpAny_loadPart' hl
  refine wpAny_ite_false h4 ?_
  wp_walk using wpAny_loadPart' hl
  exact ⟨_,rfl,h⟩
section
variable {a b c:Expr} {ga gb gc:Ds->Rs PyData}
def GI (K:PySem.W.Frag):R2:=fun x y H Q=>∃ l k xs,x=.ref l/\y=.int k/\SqT K H l xs/\xs≠[]/\2<=k/\k<1000000/\xs.length*k.toNat<=1000000/\∀ p,H p=none->Q (.ref p) (upd H p (.tup (List.replicate k.toNat xs).flatten))
theorem Fc:OpR X (binaryOp .Mult) (GI X.K):=by
 intro pins s σ H x y v u Q I rx ry h;obtain ⟨l,k,xs,rfl,rfl,hl,hne,hk1,hk2,hz,q⟩:=h;cases rx;obtain ⟨t,rfl⟩:=ry;obtain ⟨its,r,p1,_⟩:=I.tuple hl;obtain ⟨⟨cls,dd,data,sl⟩,ho,hc,n,hd⟩:=id p1;simp only at hc hd;subst hc hd;have hlen:=r.length;have hne':its≠[]:=fun z=>hne (r.nil_iff.mp z)
 have hpos:0<its.length:=MJ.mpr hne';have hfold:List.foldl (fun x1 x2=>x1++x2) #[] (List.replicate k.toNat its.toArray)=(List.replicate k.toNat its).flatten.toArray:=by have:=foldl_rep its k.toNat [];rw [Ma] at this;exact this
 have hemp:its.toArray.isEmpty=false:=by simp [hne']
 have hmul:(its.length:Int)*k<=1000000:=by
  have e1:((its.length*k.toNat:Nat):Int)=(its.length:Int)*k:=by rw [Int.natCast_mul,MK (by omega)]
  rw [<-e1,<-hlen];omega
 have hsz2:(List.replicate k.toNat its).flatten.length<=1000000:=by rw [len_rep,Nat.mul_comm,<-hlen];exact hz
 refine wpAny_binaryOp_repeat_ref (T:="tuple") (U:="int") (by decide) ⟨_,ho,rfl⟩ (fun s'=>typeIs_int s' k t) mU PySem.F.fills_int_mul PySem.F.slot_int_rmul tZ PySem.F.slot_int_index.lookup
  (call_meets PySem.F.slot_int_rmul (typeIs_int s k t) PySem.F.entry_int_rmul (PySem.F.args_int_rmul_2 _ _) (uF k t l its.toArray n dd sl)
   ⟨ho,rfl,⟨_,ho,rfl⟩,call_meets PySem.F.slot_tuple_mul ⟨_,ho,rfl⟩ PySem.F.entry_tuple_mul (PySem.F.args_tuple_mul_2 _ _) (Cj l its.toArray n k t dd sl ?_ ?_ ?_ ?_ ?_ ?_) ⟨ho,?_⟩⟩)
 ·rw [decide_eq_false (by omega),decide_eq_false (by omega)];rfl
 ·rw [hemp,Bool.false_or];simp;omega
 ·rw [hemp,Bool.or_false];exact decide_eq_false (by omega)
 ·rw [LO];exact decide_eq_false (by omega)
 ·rw [LO];unfold Builtin.Tuple.tupleTooMany;rw [sizeLine_eq];exact decide_eq_false (by omega)
 ·rw [hfold,LO,sizeLine_eq];omega
 ·rw [hfold];refine ⟨.ref s.heap.objs.size,_,I.laid (t':=s.toks) (o:=.tup (List.replicate k.toNat xs).flatten) (fun b ob q=>L0 _ q) (LK _) ?_,rfl,q _ (I.hok.fresh (LK _))⟩;exact ⟨by rw [len_rep,Nat.mul_comm,sizeLine_eq];omega,_,r.rep k.toNat,tH.new _ _⟩
def bY:PyData->PyData->Option PyData
 | .int i,.int j=>if (-(2 ^ 64)<i/\i<2 ^ 64)\/(-(2 ^ 64)<j/\j<2 ^ 64) then some (.int (i*j)) else none
 | .list x,.int k=>if 0<=k/\k<1000000/\x.length*k.toNat<=1000000 then some (.list (List.replicate k.toNat x).flatten) else none
 | .tuple x,.int k=>if x≠[]/\2<=k/\k<1000000/\x.length*k.toNat<=1000000 then some (.tuple (List.replicate k.toNat x).flatten) else none
 | _,_=>none
theorem Gd:OpD K bY (fun x y H Q=>rI F2 (fun i j=>.int (i*j)) x y H Q\/JK x y H Q\/GI K x y H Q):=fun d1 d2 d x y H A Q e hA h1 h2 k=>by
 unfold bY at e;split at e
 ·split at e
  ·rename_i z;cases e;exact .inl ⟨_,_,h1.ofInt,h2.ofInt,z,k _ H (ax.refl _) bO⟩
  ·cases e
 ·split at e
  ·rename_i z;cases e;obtain ⟨p,xs,rfl,hp,hx⟩:=h1.ofLst;exact .inr (.inl ⟨p,_,xs,rfl,h2.ofInt,aB _ _ hp,by omega,by omega,by rw [hx.length,sizeLine_eq];omega,fun r hr=>k _ _ (bL hr) (ko hA hr (hx.rep _))⟩)
  ·cases e
 ·split at e
  ·rename_i z;cases e;obtain ⟨p,xs,rfl,hp,hx⟩:=h1.ofTup;refine .inr (.inr ⟨p,_,xs,rfl,h2.ofInt,SqT.of (aB _ _ hp),fun q=>z.1 ?_,z.2.1,z.2.2.1,by rw [hx.length];exact z.2.2.2,fun r hr=>k _ _ (bL hr) (lu hA hr (hx.rep _))⟩);exact MV.mp (by rw [<-hx.length,q];rfl)
  ·cases e
 ·cases e
theorem Ji (ha:PD X E a ga) (hb:PD X E b gb):PD X E (.BinOp a .Mult b pos) (g2 bY ga gb):=hV Gd ha hb (eY (mO.or (IF.or Fc)))
end
section
variable {A:Around} {E:Value->Shared->Prop}
theorem ku {sl:Addr} (ht:IsTup s.heap t items) (hs:s.heap.IsSliceOf sl vl vu .none) (pl:IsPart vl lo) (pu:IsPart vu hi)
  (hw:HT.sIx items.size 0 lo=0/\HT.sIx items.size items.size hi=items.size) (h:Q (.ref t) s):wpAny (model prog w) A (getItem (.ref t) (.ref sl)) Q E s:=by
 obtain ⟨os,hos,hcs,hds⟩:=id hs;have hTs:s.TypeIs (.ref sl) "slice":=⟨os,hos,hcs⟩
 unfold getItem
 try with_reducible refine wpAny_holding ?_
 first | refine wpAny_bind (wpAny_pure ?_) | skip
 refine wpAny_bind (wpAny_sequenceKey ht.typeIs (by decide) ?_);refine wpAny_bind (wpAny_callSpecial?_slot (name:=Str.ofString "__getitem__") ht.typeIs PyProof.Rows.slot_tuple_getitem
  (wpAny_call_entry PyProof.Rows.slot_tuple_getitem ht.typeIs entry_tuple_getitem ?_ (args_tuple_getitem _ _)))
 show wpAny _ _ (Builtin.Tuple.tupleItemsOf (.ref t) >>= _) _ _ s;refine wpAny_bind (tupleItemsOf_ ht ?_);refine wpAny_bind (wpAny_typeOf hTs ?_);rw [if_pos (by decide)];refine wpAny_bind (HT.iN hs pl pu ?_);have hyes:(((HT.sIx items.size 0 lo:Nat):Int)==0&&(1:Int)==1&&(HT.sIx items.size items.size hi-HT.sIx items.size 0 lo)==items.size)=true:=by rw [hw.1,hw.2];simp
 show wpAny _ _ (if (((HT.sIx items.size 0 lo:Nat):Int)==0&&(1:Int)==1&&(HT.sIx items.size items.size hi-HT.sIx items.size 0 lo)==items.size)=true then _ else _) _ _ s;rw [if_pos hyes];refine wpAny_bind (m:=Builtin.Tuple.tupleIsExact (.ref t)) (wpAny_bind (wpAny_typeOf ht.typeIs (wpAny_pure ?_)));rw [if_pos (by decide)]
 first
  | exact wpAny_bind (wpAny_rule (wpAny_pure ⟨_,rfl,wpAny_pure h⟩))
  | (refine wpAny_bind (wpAny_rule ?_);trace_state;exact wpAny_pure ⟨_,rfl,wpAny_pure h⟩)
end
end L2
variable {δ:L2.Ds} {gf:List PyData->L2.Rs PyData} {gs gi src:L2.Ds->L2.Rs (List PyData)} {cond:L2.Ds->L2.Rs Bool} {tgt:PyData->Option L2.Ds} {ga gb:L2.Ds->L2.Rs PyData}
namespace L2
open PySem PySem.Spec PyProof.Rows
section
variable {E:XK} {a b c e:Expr} {gc:Ds->Rs PyData} {es:List Expr}
def Kf (K:PySem.W.Frag):V->Option Int->Option Int->Hp->VK->Prop:=fun x lo hi H Q=>∃ a xs,x=.ref a/\SqT K H a xs/\(HT.sIx xs.length 0 lo=0/\HT.sIx xs.length xs.length hi=xs.length)/\Q (.ref a) H
theorem Ff:SlR X (Kf X.K):=by
 intro pins s σ H x v vl vu lo hi sl Q I rx hs pl pu h;obtain ⟨a,xs,rfl,hx,hw,q⟩:=h;cases rx;obtain ⟨its,r,ht,hz⟩:=I.tuple hx;have hlen:its.toArray.size=xs.length:=by rw [LO,r.length]
 refine ⟨"tuple",_,PyProof.Rows.slot_tuple_getitem.lookup,ht.typeIs,?_⟩;exact ku ht hs pl pu (by rw [hlen];exact hw) ⟨.ref a,H,I,rfl,q⟩
def cutD (xs:List PyData) (lo hi:Option Int):List PyData:=(xs.drop (HT.sIx xs.length 0 lo)).take (HT.sIx xs.length xs.length hi-HT.sIx xs.length 0 lo)
def Ep:PyData->Option Int->Option Int->Option PyData
 | .list x,lo,hi=>some (.list (cutD x lo hi))
 | .tuple x,lo,hi=>some (.tuple (cutD x lo hi))
 | _,_,_=>none
def Ci:PyData->Rs (Option Int)
 | .int i=>.ok (some i)
 | _=>.no
def fN:Ds->Rs (Option Int):=fun _=>.ok none
def jO (g:Ds->Rs PyData):Ds->Rs (Option Int):=fun δ=>(g δ).bind Ci
def Ly (E:XK) (H:Hp) (r:Rs (Option Int)) (Q:Option Int->Hp->Prop):Prop:=match r with
 | .ok o=>∀ H',ax H H'->Q o H'
 | .rz C=>∀ H',ax H H'->E (.ref C) none H'
 | .no=>False
def oD (K:PySem.W.Frag) (E:XK) (g:Ds->Rs (Option Int)):TO:=fun σ H Q=>∃ A δ,dw K H A δ σ/\Ly E H (g δ) Q
def POD (X:Cx) (E:XK) (e:Option Expr) (g:Ds->Rs (Option Int)):Prop:=PO X e (oD X.K E g)
theorem PO.imp {e:Option Expr} {t t':TO} (h:PO X e t) (k:∀ σ H Q,t' σ H Q->t σ H Q):PO X e t':=fun pins s σ H Q I q=>h pins s σ H Q I (k σ H Q q)
theorem Dt:POD X E none fN:=FL.imp fun σ H Q qz3=>(by obtain ⟨A,δ,R,o⟩:=qz3;exact o H (ax.refl _))
theorem Dm (h:PD X E e ga):POD X E (some e) (jO ga):=(Fy h).imp fun σ H Q ⟨A,δ,R,o⟩=>⟨A,δ,R,by
 unfold jO at o;cases q:ga δ with
 | no=>rw [q] at o;exact o
 | rz C=>rw [q] at o;exact o
 | ok d =>
  rw [q] at o;cases d with
  | int i=>exact fun v H' s h=>⟨i,h.ofInt,o H' s⟩
  | _=>exact o.elim⟩
theorem oD.run {g:Ds->Rs (Option Int)} {Q:Option Int->Hp->Prop} (R:dw K H A δ σ)
  (ok:∀ d,g δ=.ok d->∀ H',ax H H'->dw K H' A δ σ->Q d H') (rz:∀ C,g δ=.rz C->∀ H',ax H H'->E (.ref C) none H') (no:g δ=.no->False):oD K E g σ H Q:=by
 refine ⟨A,δ,R,?_⟩;cases e:g δ with
 | ok d=>exact fun H' s=>ok d e H' s (R.same s)
 | rz C=>exact fun H' s=>rz C e H' s
 | no=>exact no e
def g0 (g:Ds->Rs PyData) (lo hi:Ds->Rs (Option Int)):Ds->Rs PyData:=fun δ=>(g δ).bind fun d=>(lo δ).bind fun l=>(hi δ).bind fun h=>Rs.fc (Ep d l h)
theorem Iss.cut (h:Iss K H ds vs) (lo hi:Option Int):Iss K H (cutD ds lo hi) (wG vs lo hi):=by unfold cutD wG;rw [h.length];exact (h.drop _).take _
theorem DX {lo hi:Option Expr} {gl gh:Ds->Rs (Option Int)} (he:PD X E e ga) (hl:POD X E lo gl) (hh:POD X E hi gh):PD X E (.Subscript e (.Slice lo hi none p2) pos) (g0 ga gl gh) :=
 (CK (Ez.or (G5.or Ff)) he hl hh).imp fun σ H Q pz3=>by
  obtain ⟨A,δ,R,o⟩:=pz3;unfold g0 at o;refine eD.run R (fun d ed v H1 s1 R1 hv=>?_) (fun C et H' s'=>by rw [et] at o;exact o H' s') (fun et=>by rw [et] at o;exact o);simp only [ed,Rs.ag] at o;refine oD.run R1 (fun l el H2 s2 R2=>?_) (fun C et H' s'=>by rw [et] at o;exact o H' (s1.trans s')) (fun et=>by rw [et] at o;exact o);simp only [el,Rs.ag] at o;refine oD.run R2 (fun h eh H3 s3 R3=>?_) (fun C et H' s'=>by rw [et] at o;exact o H' (s1.trans (s2.trans s'))) (fun et=>by rw [et] at o;exact o);simp only [eh,Rs.ag] at o;have hv3:=hv.same (s2.trans s3).del;have s13:=s1.trans (s2.trans s3);cases d with
  | list ds =>obtain ⟨p,xs,rfl,hp,hx⟩:=hv3.ofLst;exact .inl ⟨p,xs,rfl,SqL.of (aB _ _ hp),fun q hq=>o _ _ (s13.trans (bL hq)) (ko R3.ls hq (hx.cut l h))⟩
  | tuple ds =>
   obtain ⟨p,xs,rfl,hp,hx⟩:=hv3.ofTup;by_cases hw:HT.sIx xs.length 0 l=0/\HT.sIx xs.length xs.length h=xs.length
   ·refine .inr (.inr ⟨p,xs,rfl,SqT.of (aB _ _ hp),hw,o _ _ s13 ?_⟩);have e:cutD ds l h=ds:=by unfold cutD;rw [<-hx.length,hw.1,hw.2];simp [hx.length]
    show Is X.K _ (.tuple (cutD ds l h)) _;rw [e];exact iy hp hx
   ·exact .inr (.inl ⟨p,xs,rfl,SqT.of (aB _ _ hp),hw,fun q hq=>o _ _ (s13.trans (bL hq)) (lu R3.ls hq (hx.cut l h))⟩)
  | _=>exact o.elim
def toV:PyData->V
 | .none=>.non
 | .bool b=>.bl b
 | .int i=>.int i
 | .str x=>.str x
 | _=>.non
def inD (x:PyData) (xs:List PyData):Bool:=inV (toV x) (xs.map toV)
def B8 (neg:Bool):PyData->PyData->Option PyData
 | x,.list xs=>if gx x&&xs.all gx then some (.bool (if neg then !inD x xs else inD x xs)) else none
 | x,.tuple xs=>if gx x&&xs.all gx then some (.bool (if neg then !inD x xs else inD x xs)) else none
 | _,_=>none
theorem Is.flat {d:PyData} (h:Is K H d v) (f:gx d=true):v=toV d/\jm v=true:=by
 cases d with
 | none=>rw [h.ofNone];exact ⟨rfl,rfl⟩
 | bool b=>rw [h.ofBool];exact ⟨rfl,rfl⟩
 | int i=>rw [h.ofInt];exact ⟨rfl,rfl⟩
 | str x=>rw [h.ofStr];exact ⟨rfl,rfl⟩
 | _=>cases f
theorem Iss.flat {K:PySem.W.Frag} {H:Hp}:∀ {ds:List PyData} {vs:List V},Iss K H ds vs->ds.all gx=true->vs=ds.map toV/\vs.all jm=true
 | [],_,h,_=>by rw [h.nil_of];exact ⟨rfl,rfl⟩
 | d::ds,_,h,f=>by rw [N6,L8] at f;obtain ⟨v,r,rfl,h1,h2⟩:=h.cons_of;obtain ⟨e1,f1⟩:=h1.flat f.1;obtain ⟨e2,f2⟩:=Iss.flat h2 f.2;exact ⟨by rw [e1,e2];rfl,by rw [N6,f1,f2];rfl⟩
theorem Jw {neg:Bool}:OpD K (B8 neg) (rIn K neg):=fun d1 d2 d x y H A Q e hA h1 h2 k=>by
 unfold B8 at e;split at e
 ·split at e
  ·rename_i z;rw [L8] at z;cases e;obtain ⟨p,xs,rfl,hp,hx⟩:=h2.ofLst;obtain ⟨e1,f1⟩:=h1.flat z.1;obtain ⟨e2,f2⟩:=hx.flat z.2;refine ⟨p,xs,rfl,.inl (SqL.of (aB _ _ hp)),f1,f2,?_⟩;rw [e1,e2];exact k _ H (ax.refl _) is_bool
  ·cases e
 ·split at e
  ·rename_i z;rw [L8] at z;cases e;obtain ⟨p,xs,rfl,hp,hx⟩:=h2.ofTup;obtain ⟨e1,f1⟩:=h1.flat z.1;obtain ⟨e2,f2⟩:=hx.flat z.2;refine ⟨p,xs,rfl,.inr (SqT.of (aB _ _ hp)),f1,f2,?_⟩;rw [e1,e2];exact k _ H (ax.refl _) is_bool
  ·cases e
 ·cases e
theorem J5 (ha:PD X E a ga) (hb:PD X E b gb) (hm:behindInMarks .In b=false):PD X E (.Compare a [.In] [b] pos) (g2 (B8 false) ga gb):=hV Jw ha hb fun h1 h2=>n5 Am h1 h2 hm
def mj (f f':PyData->PyData->Option PyData) (a b c:Ds->Rs PyData):Ds->Rs PyData:=fun δ=>(a δ).bind fun x=>(b δ).bind fun y=>(Rs.fc (f x y)).bind fun z=>(truth z).bind fun t=>if t=true then (c δ).bind fun w=>Rs.fc (f' y w) else .ok (.bool false)
theorem Ca {op':CmpOp} {r r':R2} {f f':PyData->PyData->Option PyData} (ho:OpR X (compareOp op) r) (ho':OpR X (compareOp op') r') (hf:OpD X.K f r) (hf':OpD X.K f' r') (ha:PD X E a ga) (hb:PD X E b gb) (hc:PD X E c gc)
  (hm:lastMarks [op,op'] [b,c]=false:=by with_unfolding_all rfl):PD X E (.Compare a [op,op'] [b,c] pos) (mj f f' ga gb gc):=(BJ ho ho' ha hb hc hm).imp fun σ H Q pz3=>by
 obtain ⟨A,δ,R,o⟩:=pz3;unfold mj at o;refine eD.run R (fun d1 e1 v H1 s1 R1 h1=>?_) (fun C et H' s'=>by rw [et] at o;exact o H' s') (fun et=>by rw [et] at o;exact o);simp only [e1,Rs.ag] at o;refine eD.run R1 (fun d2 e2 u H2 s2 R2 h2=>?_) (fun C et H' s'=>by rw [et] at o;exact o H' (s1.trans s')) (fun et=>by rw [et] at o;exact o);simp only [e2,Rs.ag] at o;cases e3:f d1 d2 with
 | none=>rw [e3] at o;exact o.elim
 | some z =>
  simp only [e3,Rs.ai,Rs.ag] at o;refine hf d1 d2 z v u H2 A _ e3 R2.ls (h1.same s2.del) h2 fun w H3 s3 h3=>?_
  obtain ⟨t,rfl,o⟩:=qr o;refine ⟨t,h3.ofBool,?_⟩;cases t with
  | false=>exact o _ H3 (s1.trans (s2.trans s3)) is_bool
  | true =>
   have o:hW X.K E A H ((gc δ).bind fun w=>Rs.fc (f' d2 w)) Q:=o;refine eD.run (R2.same s3) (fun d3 e4 w' H4 s4 R4 h4=>?_) (fun C et H' s'=>by rw [et] at o;exact o H' (s1.trans (s2.trans (s3.trans s')))) (fun et=>by rw [et] at o;exact o);simp only [e4,Rs.ag] at o;cases e5:f' d2 d3 with
   | none=>rw [e5] at o;exact o.elim
   | some d=>rw [e5] at o;exact hf' d2 d3 d u w' H4 A Q e5 R4.ls (h2.same (s3.trans s4).del) h4 fun x H5 s5 h5=>o x H5 (s1.trans (s2.trans (s3.trans (s4.trans s5)))) h5
theorem F5 (ha:PD X E a ga) (hb:PD X E b gb) (hc:PD X E c gc) (hm:lastMarks [.LtE,.LtE] [b,c]=false):PD X E (.Compare a [.LtE,.LtE] [b,c] pos) (mj dLe dLe ga gb gc):=Ca yz yz (j4 fun _ _ _ _=>is_bool) (j4 fun _ _ _ _=>is_bool) ha hb hc hm
end
section
variable {E:XK} {a b c:Expr}
def Ll (i j c:Int):Nat:=(Builtin.Range.rangeSize i j c).toNat
def Hh (i j c:Int):Bool:=decide (-(1000000)<=i/\i<=1000000/\-(1000000)<=j/\j<=1000000/\-(1000000)<=c/\c<=1000000/\c≠0)&&Builtin.Range.small i j c
def GX (lo c:Int) (n:Nat):List PyData:=(List.range n).map fun (i:Nat)=>PyData.int (lo+(i:Int)*c)
def Ki:List PyData->Rs (List PyData)
 | [.int i,.int j,.int c]=>if Hh i j c then .ok (GX i c (Ll i j c)) else .no
 | _=>.no
def J0 (g:Ds->Rs (List PyData)):Ds->Rs (List PyData):=fun δ=>(g δ).bind Ki
def tLR (ta:TA):TE:=fun σ H Q=>ta σ H fun vs H1=>∃ j:Int,vs=[.int j]/\0<=j/\j<=1000000/\∀ p,H1 p=none->Q (.ref p) (upd H1 p (.lst ((List.range j.toNat).map fun (i:Nat)=>V.int (i:Int))))
theorem IQ {s2:Shared} {Q:VK} {j:Int} {tk:Nat} {acc':Array Value} {c':Nat} (I2:Inv X pins σ H1 s2) (kk:∀ b o,s2.heap.get? b=some o->h'.get? b=some o)
 (hl:h'.get? s2.heap.objs.size=some { cls:=.type "list",dict:=none,data:=.seq acc' c',slots:=#[] }) (hi:ItemsOf (fun i v=>∃ t,v=.int ((0:Int)+(i:Int)*1) t) acc' j.toNat) (q1:0<=j) (q2:j<=1000000)
 (q:∀ p,H1 p=none->Q (.ref p) (upd H1 p (.lst ((List.range j.toNat).map fun (i:Nat)=>V.int (i:Int))))):EP X pins σ Q (.ref s2.heap.objs.size) { s2 with heap:=h',toks:=tk }:=by
 have hv:Vals ((List.range j.toNat).map fun (i:Nat)=>V.int (i:Int)) acc'.toList:=by
  have aux:∀ (l:List Value) (k:Nat),(∀ (m:Nat) v,l[m]?=some v->∃ t,v=.int ((0:Int)+((k+m:Nat):Int)*1) t)->Vals ((List.range' k l.length).map fun (i:Nat)=>V.int (i:Int)) l:=by
   intro l
   induction l with
   | nil=>intro k _;exact .nil
   | cons x r ih =>
    intro k hk;rw [LS,NJ,L5];refine .cons ?_ (ih (k+1) fun m v hm=>?_)
    ·obtain ⟨t,e⟩:=hk 0 x rfl;exact ⟨t,by rw [e];simp⟩
    ·obtain ⟨t,e⟩:=hk (m+1) v (by simpa using hm);exact ⟨t,by rw [e,show k+(m+1)=k+1+m by omega]⟩
  have h1:=aux acc'.toList 0 (fun m v hm=>by obtain ⟨t,e⟩:=hi.2 m v (by rw [<-Nt];exact hm);exact ⟨t,by rw [e];simp⟩)
  rw [MH,hi.1] at h1;rw [List.range_eq_range'];exact h1
 exact ⟨.ref s2.heap.objs.size,_,I2.laid (t':=tk) kk (LK _) (show dg X.prog X.w _ h' _ (.lst ((List.range j.toNat).map fun (i:Nat)=>V.int (i:Int))) from ⟨by rw [L3,ND,sizeLine_eq];omega,acc'.toList,c',hv,by simpa using hl⟩),rfl,q _ (I2.hok.fresh (LK _))⟩
theorem sP (hc:X.calm=true) (hg:Gl X "range") (hm:X.mg "range"=none) (hgl:Gl X "list") (hml:X.mg "list"=none) (ha:PA X [a] ta) (hs:starEach [a] X.env=[(false,eval a X.env)]:=by rfl)
  (hs2:starEach [.Call (.Name "range" p) [a] [] pos] X.env=[(false,eval (.Call (.Name "range" p) [a] [] pos) X.env)]:=by rfl) :
  PE X (.Call (.Name "list" p2) [.Call (.Name "range" p) [a] [] pos] [] pos2) (tLR ta):=by
 intro pins s σ H Q I h;refine Call_ (gr I hgl hml sV (PyProof.Rows.callWith_type1 ?_ hs2 rfl));rw [hs2];show wpAny _ _ (spliced ((false,eval (.Call (.Name "range" p) [a] [] pos) X.env)::backTo pos2 [])) _ _ s;refine Calls.spliced_cons (Call_ (gr I hg hm boot_range (PyProof.Rows.callWith_type1 (thn (ha pos pins s σ H _ I h) fun us s1 rz2=>?_) hs rfl)));obtain ⟨vs,H1,I1,r1,q1⟩:=rz2;obtain ⟨j,e,q1,q2,q⟩:=q1;subst e;cases r1 with
 | cons r rr =>
  cases rr;obtain ⟨t,rfl⟩:=r;refine call_range_1 (Calls.spliced_nil ?_);have e2:Builtin.Range.rangeSize 0 j 1=((j.toNat:Nat):Int):=by rw [rangeSize_one];split <;> omega
  refine call_list_range (n:=j.toNat) (I1.ok.hd hc) (IsRange.new ..) (small_one (by omega) (by omega) (by omega) (by omega)) e2 (by omega) fun h' tk acc' c' kk hl hi=>?_
  exact IQ (I1.kept fun b o e=>L0 _ e) kk hl hi q1 q2 q
def uc:List PyData->Rs (List PyData)
 | [.int j]=>if 0<=j/\j<=1000000 then .ok (bX 0 j.toNat) else .no
 | _=>.no
def gLR (g:Ds->Rs (List PyData)):Ds->Rs (List PyData):=fun δ=>(g δ).bind uc
theorem AE (hc:X.calm=true) (hm:X.mg "range"=none) (hml:X.mg "list"=none) (ha:PAD X E [a] gs) (hg:Gl X "range") (hgl:Gl X "list") (hs:starEach [a] X.env=[(false,eval a X.env)])
  (hs2:starEach [.Call (.Name "range" p) [a] [] pos] X.env=[(false,eval (.Call (.Name "range" p) [a] [] pos) X.env)]):PLD X E (.Call (.Name "list" p2) [.Call (.Name "range" p) [a] [] pos] [] pos2) (gLR gs) :=
 (sP hc hg hm hgl hml ha.1 hs hs2).imp fun σ H Q pz3=>by
  obtain ⟨A,δ,R,o⟩:=pz3;unfold gLR at o;refine aD.run R (fun ds e vs H1 s1 R1 h1=>?_) (fun C e H' s'=>by rw [e] at o;exact o H' s') (fun e=>by rw [e] at o;exact o);simp only [e,Rs.ag] at o;unfold uc at o;split at o
  ·split at o
   ·rename_i j z;obtain ⟨v,rfl,h⟩:=kq h1;rw [h.ofInt];refine ⟨j,rfl,z.1,z.2,fun q hq=>o q _ _ (s1.free hq) (s1.trans (bL hq)) aG ?_⟩;have:bX 0 j.toNat=((List.range j.toNat).map fun (i:Nat)=>(i:Int)).map PyData.int:=by unfold bX;rw [LW];congr 1;funext i;simp
    rw [this,show ((List.range j.toNat).map fun (i:Nat)=>V.int (i:Int))=((List.range j.toNat).map fun (i:Nat)=>(i:Int)).map V.int by rw [LW];rfl];exact vH _
   ·exact o.elim
  ·exact o.elim
end
theorem vD (t:Addr) (xs:Array Value):Meets (Builtin.«enumerate.__new__» ⟨[.type "enumerate",.ref t],[]⟩) (fun _ R s=>s.heap.IsTuple t xs /\
   R (.ok (.ret (.ref (s.heap.push { cls:=.type "tuple_iterator",data:=.fields #[.ref t,.int 0 0] }).objs.size)))
    { s with heap:=(s.heap.push { cls:=.type "tuple_iterator",data:=.fields #[.ref t,.int 0 0] }).push { cls:=.type "enumerate",data:=.fields #[.none,.bool false,.ref s.heap.objs.size,rawInt 0,.none,.none] } }) :=
 .of_wp fun prog w A R s h=>by
  obtain ⟨hp,g,d,tk,os⟩:=s;obtain ⟨hl,h⟩:=h;have hsub:=sub_enumerate;have hL:Heap.IsTuple (Shared.heap ⟨hp,g,d,tk,os⟩) t xs:=hl
  wp_walk
  refine wpAny_stack_any fun st=>wpAny_pure ?_
  split
  ·rename_i c _ _ _ _ _;cases (c==Value.type "enumerate")
   ·wp_walk using wpAny_pyIter_tuple hL
    exact ⟨_,rfl,h⟩
   ·wp_walk using wpAny_pyIter_tuple hL
    exact ⟨_,rfl,h⟩
  ·wp_walk using wpAny_pyIter_tuple hL
   exact ⟨_,rfl,h⟩
theorem xS {A:Around} {l:Addr} (hL:s.heap.IsTuple l items)
  (h:∀ h',IsEnum h' (s.heap.objs.size+1) s.heap.objs.size 0 .none->h'.IsTupleIter s.heap.objs.size l 0->(∀ b o,s.heap.get? b=some o->h'.get? b=some o)->Q (.ref (s.heap.objs.size+1)) { s with heap:=h' }) :
  wpAny (model prog w) A (call (.type "enumerate") [.ref l]) Q E s:=by
 refine callType_new PySem.F.called_enumerate (by decide) (PySem.F.typeCall_enumerate_1 _) (PySem.F.newCall_enumerate_1 _) (fun obj=>PySem.F.args_object_init_2 obj _) PySem.F.entry_enumerate_new (vD l items) ⟨hL,?_⟩;have hz:(s.heap.push { cls:=.type "tuple_iterator",data:=.fields #[.ref l,.int 0 0] }).objs.size=s.heap.objs.size+1:=Heap.size_push ..;show _/\_;rw [hz];have he:IsEnum ((s.heap.push { cls:=.type "tuple_iterator",data:=.fields #[.ref l,.int 0 0] }).push
   { cls:=.type "enumerate",data:=.fields #[.none,.bool false,.ref s.heap.objs.size,rawInt 0,.none,.none] }) (s.heap.objs.size+1) s.heap.objs.size 0 .none:=by
  have:=LP (s.heap.push { cls:=.type "tuple_iterator",data:=.fields #[.ref l,.int 0 0] })
   (o:={ cls:=.type "enumerate",data:=.fields #[.none,.bool false,.ref s.heap.objs.size,rawInt 0,.none,.none] }) rfl
  rw [hz] at this;exact this
 refine ⟨⟨_,he,rfl⟩,h _ he ⟨_,L0 _ (LP _ rfl),rfl,rfl⟩ fun b o e=>L0 _ (L0 _ e)⟩
def Ite (P:Hp->List V->Prop) (n:Nat):It :=
 ⟨fun i H=>i<n/\∃ xs,P H xs/\xs.length=n,
  fun i H v H'=>∃ t x,v=.ref t/\H t=none/\H'=upd H t (.tup [.int i,x])/\∀ xs,P H xs->xs[i]?=some x,
  fun i H=>i=n/\∃ xs,P H xs/\xs.length=n⟩
theorem sf {e:Addr} {n:Nat} {S:Nat->Heap->Prop} {B:Heap->Array Value->Prop} (hne:e≠it) (hea:e≠a)
  (hD:∀ (A:Around),A.handled=none->∀ its:Array Value,Draws P w A it [it,a] its.size (fun i v=>its[i]?=some v) (fun i h=>S i h/\B h its))
  (hB:∀ (X:Cx),X.prog=P->X.w=w->X.K=K->∀ {pins:List (Addr×Obj)} {s:Shared} {σ:St} {H:Hp} {xs:List V},Inv X pins σ H s->Pv H xs->∃ its:List Value,Vals xs its/\B s.heap its.toArray)
  (hI:∀ (X:Cx),X.prog=P->X.w=w->X.K=K->∀ {pins:List (Addr×Obj)} {s:Shared} {σ:St} {H:Hp} {xs ys:List V},Inv X pins σ H s->Pv H xs->Pv H ys->xs=ys)
  (hO:∀ i h,S i h->∃ o,h.get? it=some o/\∀ v,o.data≠.cell v) (hK:∀ i h h',S i h->(∀ o,h.get? it=some o->h'.get? it=some o)->S i h') :
  Turn P w K (.Tuple elts x1 tp) (Ite Pv n) [e,it] e (fun i h=>(∃ old,IsEnum h e it i old)/\S i h) where
 mem:=by simp
 obj:=fun i h st c hc=>by
  obtain ⟨⟨old,h1⟩,h2⟩:=st;simp only [L7,LZ,or_false] at hc;rcases hc with rfl | rfl
  ·exact ⟨_,h1,fun v q=>by cases q⟩
  ·exact hO i h h2
 keep:=fun i h h' st k=>by obtain ⟨⟨old,h1⟩,h2⟩:=st;exact ⟨⟨old,k e (by simp) _ h1⟩,hK i h h' h2 fun o q=>k it (by simp) o q⟩
 item:=by
  intro X hP hw hKK hc i pins s σ H E I hf st hg;subst hP hw hKK;obtain ⟨hi,xs,hx,lx⟩:=hg;obtain ⟨⟨old,h1⟩,h2⟩:=st;obtain ⟨its,rv,hb⟩:=hB X rfl rfl rfl I hx;have la:=rv.length;refine wpAny_pyNext_enum_itemD (hD X.A.in1 (I.ok.hd hc) its.toArray) h1 ⟨h2,hb⟩ (by simp;omega) hne (by simp [hne,hea]) fun x h' tk px ho hs hT hsz hk=>⟨_,rfl,?_⟩
  refine wpAny_letOwnedTupleGo_enum (s:={ s with heap:=h',toks:=tk+1 }) ho fun h2' d1 d2=>?_
  have el:e<s.heap.objs.size:=LN h1;have il:it<s.heap.objs.size:=by obtain ⟨o,q,_⟩:=hO i _ h2;exact LN q
  have up:∀ c o,c≠e->h'.get? c=some o->h2'.get? c=some o:=fun c o hc q=>(d2.2 c hc).trans q
  obtain ⟨x0,ex,rx⟩:∃ x0,xs[i]?=some x0/\RelV x0 x:=by
   have hil:i<xs.length:=by omega
   obtain ⟨u',e1,e2⟩:=rv.get (L1 hil);refine ⟨xs[i],L1 hil,?_⟩;have px':its[i]?=some x:=by simpa using px
   rw [e1] at px';cases px';exact e2
  have fr:H s.heap.objs.size=none:=I.hok.fresh (LK _);refine ⟨.ref s.heap.objs.size,upd H s.heap.objs.size (.tup [.int i,x0]),?_,rfl,⟨_,x0,rfl,fr,rfl,fun ys h=>by rw [hI X rfl rfl rfl I h hx];exact ex⟩,?_,fun c hc'=>?_⟩
  ·refine I.turnLay (t':=tk+1) (ch:=[e,it]) hf (LK _) (fun c o hn q=>?_) ⟨by show 2<=sizeLine;decide,[.int i tk,x],.cons ⟨tk,rfl⟩ (.cons rx .nil),⟨_,up _ _ (My el) hT,rfl,rfl,_,rfl⟩⟩;simp only [L7,LZ,or_false,not_or] at hn;exact up c o hn.1 (hk c o hn.1 hn.2 q)
  ·exact ⟨⟨x,by simpa using d1⟩,hK _ _ _ hs.1 fun o q=>up it o hne.symm q⟩
  ·have h0:=(hf c hc').1;simp only [L7,LZ,or_false] at hc';rcases hc' with rfl | rfl
   ·rw [aA (LR el)];exact h0
   ·rw [aA (LR il)];exact h0
 done:=by
  intro X hP hw hKK hc i pins s σ H E I hf st hg;subst hP hw hKK;obtain ⟨hi,xs,hx,lx⟩:=hg;obtain ⟨⟨old,h1⟩,h2⟩:=st;obtain ⟨its,rv,hb⟩:=hB X rfl rfl rfl I hx;have la:=rv.length;have e':its.toArray.size=i:=by simp;omega
  refine wpAny_pyNext_enum_endD (hD X.A.in1 (I.ok.hd hc) its.toArray) h1 ⟨by rw [e'];exact h2,hb⟩ fun h' k=>⟨rfl,?_⟩
  refine I.turneds (t':=s.toks) (ch:=[e,it]) hf fun c o hn q=>?_
  simp only [L7,LZ,or_false,not_or] at hn;exact k c o hn.2 q
 self:=fun _ _ _ _ _ st h=>by obtain ⟨⟨old,h1⟩,_⟩:=st;exact wpAny_pyIter_enum h1 h
theorem ET:bootBuiltins "enumerate"=some (.type "enumerate"):=by decide +kernel
def KS (K:PySem.W.Frag) (ta:TA):TI:=fun σ H R=>ta σ H fun vs H1=>∃ a xs,vs=[.ref a]/\((SqT K H1 a xs/\R (Ite (fun H ys=>SqT K H a ys) xs.length) H1)\/(SqL K H1 a xs/\R (Ite (fun H ys=>SqL K H a ys) xs.length) H1))
theorem Fw {a:Expr} (hg:Gl X "enumerate") (hm:X.mg "enumerate"=none) (ha:PA X [a] ta) (hs:starEach [a] X.env=[(false,eval a X.env)]:=by rfl) :
  PI X (.Tuple elts x1 tp) (.Call (.Name "enumerate" p) [a] [] pos) (KS X.K ta):=by
 intro pins s σ H R I h;refine Call_ (gr I hg hm ET (PyProof.Rows.callWith_type1 (thn (ha pos pins s σ H _ I h) fun us s1 rz2=>?_) hs rfl));obtain ⟨vs,H1,I1,r1,q1⟩:=rz2;obtain ⟨aa,xs,e,q⟩:=q1;subst e;obtain ⟨u1,e1,r2⟩:=vals1 r1;subst e1;cases r2;have big:∀ c∈[s1.heap.objs.size+1,s1.heap.objs.size],s1.heap.objs.size<=c:=fun c hc=>by
  simp only [L7,LZ,or_false] at hc;rcases hc with rfl | rfl
  ·exact N8 _
  ·exact LK _
 have nes:s1.heap.objs.size+1≠s1.heap.objs.size:=Nat.succ_ne_self _;rcases q with ⟨hx,q⟩ | ⟨hx,q⟩
 ·obtain ⟨its,rv,pt,_⟩:=I1.tuple hx;have pt':s1.heap.IsTuple aa its.toArray:=pt;have al:aa<s1.heap.objs.size:=by obtain ⟨_,g,_⟩:=pt';exact LN g
  refine xS pt' fun h' he hit kk=>wpAny_pyIter_enum he ?_
  have I2:Inv X pins σ H1 { s1 with heap:=h' }:=I1.kept (t':=s1.toks) kk;refine ⟨_,_,_,_,H1,rfl,I2,sf (a:=aa) (S:=fun i h=>h.IsTupleIter s1.heap.objs.size aa i) (B:=fun h its=>h.IsTuple aa its) nes (My (Mx al)) (fun A hh its=>mr hh s1.heap.objs.size aa (LR al) its)
   (fun X' _ _ hK {_ _ _ _ _} I h=>?_) (fun X' _ _ hK {_ _ _ _ _ _} I h1 h2=>?_) (fun i h st=>?_) (fun i h h'' st k=>?_),⟨⟨_,he⟩,hit⟩,fun c hc=>I1.fpOk (big c hc) (I1.hok.fresh (big c hc)),q⟩
  ·rw [<-hK] at h;obtain ⟨its,rv,p,_⟩:=I.tuple h;exact ⟨its,rv,p⟩
  ·rw [<-hK] at h1 h2;exact I.tuple_inj h1 h2
  ·obtain ⟨o,g,_,d⟩:=st;exact ⟨o,g,fun v q=>by rw [d] at q;cases q⟩
  ·obtain ⟨o,g,r⟩:=st;exact ⟨o,k o g,r⟩
 ·obtain ⟨its,rv,pl,_⟩:=I1.list hx;have al:aa<s1.heap.objs.size:=by obtain ⟨_,_,g,_⟩:=pl;exact LN g
  refine call_enumerate_list pl.isList fun h' he hit hz kk=>wpAny_pyIter_enum he ?_
  have I2:Inv X pins σ H1 { s1 with heap:=h' }:=I1.kept (t':=s1.toks) kk;refine ⟨_,_,_,_,H1,rfl,I2,sf (a:=aa) (S:=fun i h=>h.IsListIter s1.heap.objs.size aa i) (B:=fun h its=>h.IsList aa its) nes (My (Mx al)) (fun A hh its=>Draws.list hh s1.heap.objs.size aa (LR al) its)
   (fun X' _ _ hK {_ _ _ _ _} I h=>?_) (fun X' _ _ hK {_ _ _ _ _ _} I h1 h2=>?_) (fun i h st=>?_) (fun i h h'' st k=>?_),⟨⟨_,he⟩,hit⟩,fun c hc=>I1.fpOk (big c hc) (I1.hok.fresh (big c hc)),q⟩
  ·rw [<-hK] at h;obtain ⟨its,rv,p,_⟩:=I.list h;exact ⟨its,rv,p.isList⟩
  ·rw [<-hK] at h1 h2;exact I.list_inj h1 h2
  ·obtain ⟨o,g,_,d⟩:=st;exact ⟨o,g,fun v q=>by rw [d] at q;cases q⟩
  ·obtain ⟨o,g,r⟩:=st;exact ⟨o,k o g,r⟩
def iw (ds:List PyData):List PyData:=ds.mapIdx fun i d=>.tuple [.int i,d]
theorem j6 (ds:List PyData):(iw ds).length=ds.length:=by simp [iw]
theorem q9 (h:Iss K G ds xs) (hp:∀ H1,ax G H1->Pv H1 xs):A8 K (Ite Pv xs.length) (iw ds) G:=fun H1 B s lB hB=>by have hl:=h.length;rw [j6];refine ⟨fun i hi=>⟨by omega,xs,hp H1 s,rfl⟩,⟨hl.symm,xs,hp H1 s,rfl⟩,fun i x H2 hi y=>?_⟩;obtain ⟨t,x0,rfl,ht,rfl,hx⟩:=y;obtain ⟨d,e,hd⟩:=h.get (hx xs (hp H1 s));refine ⟨bL ht,.tuple [.int i,d],by unfold iw;rw [MR,e];rfl,?_⟩;have nb:t∉B:=lB.new ht;exact iy (by rw [aP nb];exact aG) (cG bO (ja (hd.same (fun b o q=>by have q1:=s b o q;have nt:b≠t:=aK q1 ht;rw [aP (fun z=>by rw [hB b z] at q;cases q),aA nt];exact q1))))
section
variable {E:XK} {a b c e k:Expr} {gk:Ds->Rs PyData} {es:List Expr}
def pL:List PyData->Rs (List PyData)
 | [.list ds]=>.ok (iw ds)
 | [.tuple ds]=>.ok (iw ds)
 | _=>.no
def iG (g:Ds->Rs (List PyData)):Ds->Rs (List PyData):=fun δ=>(g δ).bind pL
theorem DB (hm:X.mg "enumerate"=none) (ha:PAD X E [a] gs) (hg:Gl X "enumerate") (hs:starEach [a] X.env=[(false,eval a X.env)]) :
  PID X E (.Tuple elts x1 tp) (.Call (.Name "enumerate" p) [a] [] pos) (iG gs):=(Fw hg hm ha.1 hs).imp fun σ H R ⟨A,δ,Rp,o⟩=>xR Rp o fun ds vs H1 e s1 R1 h1 o=>by
 unfold pL at o;split at o
 ·obtain ⟨v,rfl,h⟩:=kq h1;obtain ⟨p,xs,rfl,hp,hx⟩:=h.ofLst;exact ⟨p,xs,rfl,.inr ⟨SqL.of (aB _ _ hp),o _ H1 (ax.refl _) (q9 hx fun H2 s2=>SqL.of (s2 _ _ hp))⟩⟩
 ·obtain ⟨v,rfl,h⟩:=kq h1;obtain ⟨p,xs,rfl,hp,hx⟩:=h.ofTup;exact ⟨p,xs,rfl,.inl ⟨SqT.of (aB _ _ hp),o _ H1 (ax.refl _) (q9 hx fun H2 s2=>SqT.of (s2 _ _ hp))⟩⟩
 ·exact o.elim
def iW (y x:Nat) (gk:Ds->Rs PyData):Ds->Sr:=fun δ=>match δ[y]?,δ[x]? with
 | some (some (.list ys)),some (some (.list xs))=>ofR (gk δ) fun k=>match k with
  | .int k=>if -(1000000)<=k/\k<=1000000/\ys.length<1000000 then (match ixN xs.length k with
   | some j=>match xs[j]? with
    | some d=>.nx ((δ.set x (some (.list (xs.eraseIdx j)))).set y (some (.list (ys++[d]))))
    | none=>.no
   | none=>.no) else .no
  | _=>.no
 | _,_=>.no
theorem xm {y x:Nat} {ny nx:Str} {py pa pc px pb pd:Pos} (hk:PD X E k gk) (hyx:x≠y) (hOy:y∈O) (hOx:x∈O) (hiy:X.N[y]?=some ny) (hix:X.N[x]?=some nx)
  (hvy:Vis X.env.scope ny) (hvx:Vis X.env.scope nx)
  (hdy:(ny==("__debug__":Str))=false) (hcdy:(ny==("__classdict__":Str))=false) (hdx:(nx==("__debug__":Str))=false) (hcdx:(nx==("__classdict__":Str))=false)
  (hst:starEach [k] X.env=(false,eval k X.env)::starEach [] X.env) (hst2:starEach [.Call (.Attribute (.Name nx px) "pop" pb) [k] [] pd] X.env=(false,eval (.Call (.Attribute (.Name nx px) "pop" pb) [k] [] pd) X.env)::starEach [] X.env)
  (hbase:attributeBase (.Name nx px) "pop" X.env (eval (.Name nx px) X.env)=eval (.Name nx px) X.env) (hbase2:attributeBase (.Name ny py) "append" X.env (eval (.Name ny py) X.env)=eval (.Name ny py) X.env)
  (hfew:((backTo pd (starEach [k] X.env)).all (fun x=>!x.1)&&(backToKw pd (keywordEach [] X.env)).all (fun x=>x.1.isSome)&&decide (([k]:List Expr).length+([]:List Keyword).length+(if ([]:List Keyword).isEmpty then 0 else 1)<30))=true)
  (hfew2:((backTo pc (starEach [.Call (.Attribute (.Name nx px) "pop" pb) [k] [] pd] X.env)).all (fun x=>!x.1)&&(backToKw pc (keywordEach [] X.env)).all (fun x=>x.1.isSome)&&decide (([.Call (.Attribute (.Name nx px) "pop" pb) [k] [] pd]:List Expr).length+([]:List Keyword).length+(if ([]:List Keyword).isEmpty then 0 else 1)<30))=true)
  (hline:(pb.endLine==pd.line)=true) (hline2:(pa.endLine==pc.line)=true)
  (hs:swapsWith (.Call (.Attribute (.Name ny py) "append" pa) [.Call (.Attribute (.Name nx px) "pop" pb) [k] [] pd] [] pc) none pos.line X.env=pure false) :
  PSD X E O (.Expr (.Call (.Attribute (.Name ny py) "append" pa) [.Call (.Attribute (.Name nx px) "pop" pb) [k] [] pd] [] pc) pos) (iW y x gk) :=
 (n6 (Cp PySem.F.plainAttrs_list PySem.F.slot_list_append PySem.F.type_list_append mS (kG hiy hvy hdy hcdy) (eo (Cp PySem.F.plainAttrs_list PySem.F.slot_list_pop PySem.F.type_list_pop BP (kG hix hvx hdx hcdx) (eo hk f7 hst) hbase hfew hline hst rfl) f7 hst2) hbase2 hfew2 hline2 hst2 rfl) hs).imp fun D σ H pz3=>by
  obtain ⟨H0,A0,A,δ,R,o⟩:=pz3;unfold iW at o;split at o
  ·rename_i ys xs qy qx;obtain ⟨p,vy,dy,e1,hp,hl,e2,hx⟩:=R.ownL hOy qy;cases e2;obtain ⟨r,vx,dx,f1,hr,hm,f2,hz⟩:=R.ownL hOx qx;cases f2;have npr:p≠r:=fun z=>hyx (R.inj x y _ _ p hOx hOy qx qy (by rw [z];exact f1) e1)
   refine ⟨_,e1,tyL hl,_,f1,tyL hm,?_⟩;refine eD.run R.full (fun kd ek u H1 s1 R1 hu=>?_) (fun C et H' s'=>by rw [et] at o;exact o H' (R.same.trans s')) (fun et=>by rw [et] at o;exact o);simp only [ek,av] at o;split at o
   ·rename_i kk;split at o
    ·rename_i hb;split at o
     ·rename_i j hj;split at o
      ·rename_i d hd;obtain ⟨w,hw,hwd⟩:=hz.getD hd;have hj':=hj;obtain ⟨g1,g2,g3,g4⟩:=uC hj;have RS:=R.step s1;have RS2:=RS.put (ds:=xs.eraseIdx j) (ys:=vx.eraseIdx j) hOx qx f1 hr ((hz.same s1.del).eraseIdx j);refine ⟨r,vx,kk,j,w,rfl,by rw [hu.ofInt],s1 _ _ hm,by omega,by omega,by rw [hz.length];exact g1,hw,?_⟩;have dU:del (upd H1 r (.lst (vx.eraseIdx j))) (A++A0)=del H1 (A++A0):=ke (Me _ hr);refine ⟨p,vy,w,rfl,rfl,by rw [aA npr];exact s1 _ _ hl,by rw [hx.length,sizeLine_eq];omega,?_⟩;refine o A _ _ (RS2.put (ds:=ys++[d]) hOy (by rw [M7 hyx];exact qy) e1 hp ?_);rw [dU];exact (hx.same s1.del).append (ja (hwd.same s1.del))
      ·exact o.elim
     ·exact o.elim
    ·exact o.elim
   ·exact o.elim
  ·exact o.elim
end
theorem vo:isSubtype (.type "tuple") (.type "set")=pure false:=by rw [isSubtype_type];kernel_rfl
theorem wB:isSubtype (.type "tuple") (.type "frozenset")=pure false:=by rw [isSubtype_type];kernel_rfl
section
variable {A:Around}
def seen (ns:List Int) (n:Nat):List Int:=firstMet (fun i=>ns.getD i 0) n
theorem Aj {tu:Addr} (hh:A.handled=none) (ht:s.heap.IsTuple tu its) (hi:IntsAre its.toList ns) (hb:its.size+1<scanBound)
  (hQ:∀ (h':Heap) (tk:Nat),h'.SetOf (intKind prog w) s.heap.objs.size (fun k=>(seen ns its.size).any (·==k)) (seen ns its.size).length->(∀ b o,b<s.heap.objs.size->s.heap.get? b=some o->h'.get? b=some o)->Q (.ref s.heap.objs.size) { s with heap:=h',toks:=tk }) :
  wpAny (model prog w) A (call (.type "set") [.ref tu]) Q E s:=by
 obtain ⟨c,tl,mro⟩:=PySem.F.called_set.mro;have m1:=PySem.F.called_set.made;have m2:=PySem.F.called_set.sub;refine wpAny_call (codeAny_of_tree ?_);show wpAny _ _ (callAny (.type "set") _) _ _ _;refine wpAny_pure ⟨Code.quiet_builtin _ (by decide +kernel),codeAny_builtin PySem.F.entry_type_call ?_⟩;rw [Around.under_plain (weight_type_call_type "set" [.ref tu] []) rfl];have m3:=PySem.F.called_set.notType;have m4:=PySem.F.called_set.canCreate;have m5:=PySem.F.typeCall_set_1 (.ref tu)
 repeat (any_goals (first | assumption | wp_step))
 refine codeAny_mono (PySem.code_set_new_1 (.ref tu) (E:=E) (Q₁:=fun ob s1=>∃ led:Bool,ob=.ref s.heap.objs.size/\s1={ s with heap:=s.heap.push { cls:=.type "set",dict:=none,data:=.set #[] 0 (.fresh 0 0 led) } }) fun led=>⟨led,rfl,rfl⟩) fun r s1 hr=>?_
 cases r with
 | error ev=>exact hr
 | ok fl =>
  cases fl with
  | ret ob =>
   obtain ⟨led,rfl,rfl⟩:=hr;have gS:(s.heap.push { cls:=.type "set",dict:=none,data:=.set #[] 0 (.fresh 0 0 led) }).get? s.heap.objs.size=some { cls:=.type "set",dict:=none,data:=.set #[] 0 (.fresh 0 0 led) }:=LP _ rfl;have tS:Shared.TypeIs { s with heap:=s.heap.push { cls:=.type "set",dict:=none,data:=.set #[] 0 (.fresh 0 0 led) } } (.ref s.heap.objs.size) "set":=⟨_,gS,rfl⟩
   have m6:=PySem.F.called_set.init.lookup;have m7:=PySem.F.called_set.init.bind (.ref s.heap.objs.size)
   repeat (any_goals (first | assumption | wp_step))
   refine codeAny_mono (codeAny_call_builtin (R:=wants (fun rv s2=>rv=.none/\∃ h' tk,s2={ s with heap:=h',toks:=tk }/\h'.SetOf (intKind prog w) s.heap.objs.size (fun k=>(seen ns its.size).any (·==k)) (seen ns its.size).length /\
     (∀ b o,b<s.heap.objs.size->s.heap.get? b=some o->h'.get? b=some o)) E) PySem.F.called_set.init.plain PySem.F.entry_set_init (PySem.check_set_init_1 tS ?_)) fun r2 s2 hr2=>?_
   ·obtain ⟨⟨oc,od,oda,osl⟩,go,gc,gn,gd⟩:=ht;simp only at gc gd;subst gc;subst gd;have go':(s.heap.push { cls:=.type "set",dict:=none,data:=.set #[] 0 (.fresh 0 0 led) }).get? tu=some { cls:=.type "tuple",dict:=od,data:=.seq its gn,slots:=osl }:=L0 _ go;have n1:=vo;have n2:=wB;have n3:(Value.type "tuple"==Value.type "dict")=false:=by decide
    have t1:(s.heap.push { cls:=.type "set",dict:=none,data:=.set #[] 0 (.fresh 0 0 led) }).IsTuple tu its:=⟨_,go',rfl,gn,rfl⟩
    unfold Builtin.«set.__init__» noKeywords Builtin.Frozenset.updateFrom;generalize zz:pyIter=PI
    wp_walk
    subst zz;refine wpAny_pyIter_tuple t1 (wpAny_bind (wpAny_runValue ?_));have tl':tu<s.heap.objs.size:=LN go;have h3:A.in1.in1.in1.handled=none:=by simp [hh]
    have ne1:tu≠(s.heap.push { cls:=.type "set",dict:=none,data:=.set #[] 0 (.fresh 0 0 led) }).objs.size:=by rw [Heap.size_push];exact LR (Mx tl')
    have nSf:s.heap.objs.size∉[(s.heap.push { cls:=.type "set",dict:=none,data:=.set #[] 0 (.fresh 0 0 led) }).objs.size,tu]:=by rw [Heap.size_push];simp only [L7,LM,LZ,or_false,not_or];exact ⟨LR (MO _),My tl'⟩
    have vv:∀ (i:Nat) (v:Value),its[i]?=some v->∃ t,v=.int ((fun i=>ns.getD i 0) i) t:=fun i v hv=>IntsAre.int_at hi i v (by rw [Nt];exact hv)
    refine codeAny_set_update_loopS ((Walks.tuple h3 _ tu ne1 its).toS) s.heap.objs.size nSf (fun i=>ns.getD i 0) vv hb (its.size-0) 0 _ (by omega) (Mw _) ⟨⟨_,LP _ rfl,rfl,rfl⟩,⟨_,L0 _ go',rfl,gn,rfl⟩⟩ ?_ ?_
    ·have gg:((s.heap.push { cls:=.type "set",dict:=none,data:=.set #[] 0 (.fresh 0 0 led) }).push { cls:=.type "tuple_iterator",data:=.fields #[.ref tu,.int 0 0] }).get? s.heap.objs.size=some { cls:=.type "set",dict:=none,data:=.set #[] 0 (.fresh 0 0 led) }:=L0 _ gS;exact SetOf_congr ((setObjOf_fresh (knd:=intKind prog w) led).setOf gg (by unfold scanBound;omega)) (fun _=>rfl) rfl
    ·intro s' mv hS';obtain ⟨h',g',d',tk',os'⟩:=s';have e1:g'=s.gens:=mv.gens;have e2:d'=s.drawn:=mv.drawn;have e3:os'=s.os:=mv.os;subst e1;subst e2;subst e3;show wpAny _ _ _ _ _ _;refine wpAny_pure ?_;show wpAny _ _ (ret Value.none) _ _ _;refine wpAny_pure ⟨rfl,h',tk',rfl,hS',fun b o hb e=>?_⟩;have b2:b≠(s.heap.push { cls:=.type "set",dict:=none,data:=.set #[] 0 (.fresh 0 0 led) }).objs.size:=by rw [Heap.size_push];exact LR (Mx hb)
     exact mv.heap b o (by simp only [L7,LM,LZ,or_false,not_or];exact ⟨LR hb,b2⟩) (L0 _ (L0 _ e))
   ·cases r2 with
    | error ev=>exact hr2
    | ok fl2 =>
     cases fl2 with
     | ret rv =>
      obtain ⟨rfl,h',tk,rfl,hS',kk⟩:=hr2
      repeat (any_goals (first | assumption | wp_step))
      exact hQ _ _ hS' kk
     | _=>exact hr2.elim
  | _=>exact hr.elim
end
section
variable {E:XK} {a b c e:Expr} {gc:Ds->Rs PyData} {es:List Expr}
theorem Jc:bootBuiltins "set"=some (.type "set"):=by decide +kernel
def tLS (K:PySem.W.Frag) (ta:TA):TE:=fun σ H Q=>ta σ H fun vs H1=>∃ (p:Addr) (ns:List Int),vs=[.ref p]/\SqT K H1 p (ns.map V.int)/\ns.length<=1000/\Q (.int (seen ns ns.length).length) H1
theorem Bf (hc:X.calm=true) (hg:Gl X "set") (hm:X.mg "set"=none) (hgl:Gl X "len") (hml:X.mg "len"=none) (ha:PA X [a] ta) (hs:starEach [a] X.env=[(false,eval a X.env)]:=by rfl)
  (hs2:starEach [.Call (.Name "set" p) [a] [] pos] X.env=(false,eval (.Call (.Name "set" p) [a] [] pos) X.env)::starEach [] X.env:=by rfl) (hpl:(backTo pos2 (starEach [] X.env)).any (·.1)=false:=by rfl) :
  PE X (.Call (.Name "len" p2) [.Call (.Name "set" p) [a] [] pos] [] pos2) (tLS X.K ta):=by
 intro pins s σ H Q I h;refine wpAny_Call_Name_kw (gr I hgl hml PySem.boot_len ?_);refine PyProof.Rows.callWith_builtin1 ?_ hs2 hpl;rw [hs2];show wpAny _ _ (spliced ((false,eval (.Call (.Name "set" p) [a] [] pos) X.env)::backTo pos2 [])) _ _ s;refine Calls.spliced_cons (Call_ (gr I hg hm Jc (PyProof.Rows.callWith_type1 (thn (ha pos pins s σ H _ I h) fun us s1 rz2=>?_) hs rfl)));obtain ⟨vs,H1,I1,r1,q1⟩:=rz2;obtain ⟨q,ns,e,hq,hz,fin⟩:=q1;subst e;obtain ⟨u,rfl,ru⟩:=vals1 r1;cases ru;obtain ⟨its,rv,pt,_⟩:=I1.tuple hq;have hl:=rv.length;rw [L3] at hl;refine Aj (I1.ok.hd hc) (show s1.heap.IsTuple q its.toArray from pt) (intsAre_of rv) (by rw [LO];unfold scanBound;omega) fun h' tk hS kk=>Calls.spliced_nil ?_
 have I2:Inv X pins σ H1 { s1 with heap:=h',toks:=tk }:=I1.kept fun b o e=>kk b o (LN e) e
 have esz:its.toArray.size=ns.length:=by rw [LO];exact hl.symm
 rw [esz] at hS;obtain ⟨o,es',ep,t,ho,ex,hd,_,_,hb,hf,hsz⟩:=hS;refine PySem.call_len_set ho ex hd hf (by unfold scanBound at hb;omega) ⟨.int (seen ns ns.length).length,H1,I2.tok _,⟨_,by rw [hsz]⟩,fin⟩
def lQ:List PyData->Option PyData
 | [.tuple x]=>(fG x).bind fun ns=>if ns.length<=1000 then some (.int (seen ns ns.length).length) else none
 | _=>none
theorem AH (hc:X.calm=true) (hm:X.mg "set"=none) (hml:X.mg "len"=none) (ha:PAD X E [a] gs) (hg:Gl X "set") (hgl:Gl X "len") (hs:starEach [a] X.env=[(false,eval a X.env)])
  (hs2:starEach [.Call (.Name "set" p) [a] [] pos] X.env=(false,eval (.Call (.Name "set" p) [a] [] pos) X.env)::starEach [] X.env) (hpl:(backTo pos2 (starEach [] X.env)).any (·.1)=false) :
  PD X E (.Call (.Name "len" p2) [.Call (.Name "set" p) [a] [] pos] [] pos2) (gF lQ gs):=(Bf hc hg hm hgl hml ha.1 hs hs2 hpl).imp fun σ H Q ⟨A,δ,R,o⟩=>sL R o fun ds vs H1 e s1 R1 h1 o=>by
 unfold lQ at o;split at o
 ·rename_i x;cases q:fG x with
  | none=>rw [q] at o;exact o.elim
  | some ns =>
   rw [q] at o;obtain ⟨v,rfl,hh⟩:=kq h1;obtain ⟨p,xs,rfl,hp,hx⟩:=hh.ofTup;rw [dW q] at hx;rw [hx.ofInts] at hp;by_cases z:ns.length<=1000
   ·simp only [N4,if_pos z] at o;exact ⟨p,ns,rfl,SqT.of (aB _ _ hp),z,o _ H1 (ax.refl _) bO⟩
   ·simp only [N4,if_neg z] at o;exact o.elim
 ·exact o.elim
end
open AutoSeq1 (wpAny_loadPart')
open SeqAt (EqAt)
theorem vN {prog:Program} {w:World} {A:Around} {E:Value->Shared->Prop} {s:Shared} {its:Array Value} {x:Value} {e:Value->Bool} {j:Nat} {Q:Option PySem.Fin×Unit->Shared->Prop} (hj:j<its.size) (hit:e its[j]=true) (hno:∀ m (hm:m<its.size),m<j->e its[m]=false)
  (he:∀ y,y∈its->EqAt A s y x (e y)) (hQ:Q (some (.done (.ret (.int j s.toks))),()) { s with toks:=s.toks+1 }):∀ (k i m:Nat),i+k=j->j<i+m ->
  wpAny (model prog w) A (forIn (List.range' i m) ((none:Option PySem.Fin),()) fun (i:Nat) _=>match its[i]? with
   | some y=>do
    let b <-eqBool y x
    if b=true then do
      let r <-retInt (i:Int)
      pure (ForInStep.done (some r,()))
     else pure (ForInStep.yield (none,()))
   | _=>pure (ForInStep.yield (none,()))) Q E s
 | 0,i,0,h1,h2=>by omega
 | 0,i,m+1,h1,h2=>by
  have:i=j:=by omega
  subst this;rw [NJ,Nd];have q:its[i]?=some its[i]:=by simp [hj]
  simp only [q];refine wpAny_bind (wpAny_bind (he _ (Array.getElem_mem hj) prog w _ _ ?_));rw [hit,if_pos rfl];unfold retInt;exact wpAny_bind (wpAny_bind (wpAny_mkInt (wpAny_pure (wpAny_pure (wpAny_pure hQ)))))
 | k+1,i,0,h1,h2=>by omega
 | k+1,i,m+1,h1,h2=>by
  have hi:i<its.size:=by omega
  rw [NJ,Nd];have q:its[i]?=some its[i]:=by simp [hi]
  simp only [q];refine wpAny_bind (wpAny_bind (he _ (Array.getElem_mem hi) prog w _ _ ?_));rw [hno i hi (by omega),if_neg LX];exact wpAny_pure (vN hj hit hno he hQ k (i+1) m (by omega) (by omega))
theorem AB (tu:Addr) (its:Array Value) (n:Nat) (dd:Option Addr) (sl:Array (Option Value)) (x:Value) (e:Value->Bool) (j:Nat) (hj:j<its.size) (hit:e its[j]=true) (hno:∀ m (hm:m<its.size),m<j->e its[m]=false) :
  Meets (Builtin.«tuple.index» ⟨[.ref tu,x],[]⟩)
   (fun A R s=>s.heap.get? tu=some { cls:=.type "tuple",dict:=dd,data:=.seq its n,slots:=sl }/\(∀ y,y∈its->EqAt A.in1 s y x (e y))/\R (.ok (.ret (.int j s.toks))) { s with toks:=s.toks+1 }):=by
 intro prog w A R s hs;obtain ⟨hp,g,d,tk,os⟩:=s;obtain ⟨hl,he,hR⟩:=hs;unfold Builtin.«tuple.index»;simp only [Std.Legacy.Range.forIn_eq_forIn_range',Std.Legacy.Range.size];generalize hF:(@forIn Sem (List Nat))=F
 wp_walk using wpAny_loadPart' hl
 subst hF;refine vN hj hit hno he ?_ j 0 _ (by omega) (by simp;omega);exact wpAny_pure hR
section
variable {E:XK} {a o e:Expr} {go:Ds->Rs PyData} {es:List Expr}
def Ib:V->List V->Hp->VK->Prop:=fun x vs H Q=>∃ l xs y j,x=.ref l/\vs=[y]/\H l=some (.tup xs)/\jm y=true/\xs.all jm=true/\(xs.findIdx? fun z=>eqV z y)=some j/\Q (.int j) H
def tIx (to:TE) (t:TA):TE:=fun σ H Q=>to σ H fun x H1=>(∃ l xs,x=.ref l/\H1 l=some (.tup xs))/\t σ H1 fun vs H2=>Ib x vs H2 Q
theorem Dc {to:TE} {t:TA} {apos:Pos} (ho:PE X o to) (ha:PA X [e] t) (hbase:attributeBase o "index" X.env (eval o X.env)=eval o X.env:=by rfl)
  (hfew:((backTo cpos (starEach [e] X.env)).all (fun x=>!x.1)&&(backToKw cpos (keywordEach [] X.env)).all (fun x=>x.1.isSome)&&decide (([e]:List Expr).length+([]:List Keyword).length+(if ([]:List Keyword).isEmpty then 0 else 1)<30))=true:=by rfl)
  (hline:(apos.endLine==cpos.line)=true:=by rfl) (hs:starEach [e] X.env=(false,eval e X.env)::starEach [] X.env:=by rfl) (hplain:(backTo cpos (starEach [] X.env)).any (·.1)=false:=by rfl) :
  PE X (.Call (.Attribute o "index" apos) [e] [] cpos) (tIx to t):=by
 intro pins s σ H Q I h;refine wpAny_Call_method_late hbase hfew hline rfl (thn (ho pins s σ H _ I h) fun v s1 rz2=>?_);obtain ⟨x,H1,I1,r1,⟨l,xs,hx,hl⟩,q1⟩:=rz2;subst hx;cases r1;obtain ⟨hz,its,rv,ob,ge,gc,gd,n,gq⟩:=I1.hok l _ hl;refine ⟨"tuple", "tuple.index",PySem.F.plainAttrs_tuple,PySem.F.slot_tuple_index,PySem.F.type_tuple_index,⟨ob,ge,gc⟩,fun a ea=>by cases ea;exact ⟨ob,ge,gd⟩,?_⟩;have hA:=ha cpos pins s1 σ H1 _ I1 q1;rw [hs] at hA ⊢;refine Calls.callWith_builtin (by show (false || (backTo cpos (starEach [] X.env)).any (·.1))=false;rw [hplain];rfl) (Calls.evalArgs_plain ?_);refine thn hA fun us s2 rz2=>?_
 obtain ⟨vs,H2,I2,r2,q2⟩:=rz2;obtain ⟨l',xs',y,j,e1,e2,hl',fy,fs,hj,q⟩:=q2;cases e1;subst e2;obtain ⟨hz',its',rv',ob',ge',gc',gd',n',gq'⟩:=I2.hok l _ hl';obtain ⟨u,rfl,ru⟩:=vals1 r2;obtain ⟨oc,od,oda,osl⟩:=ob';simp only at gc' gd' gq';subst gc' gd' gq';have hlen:=rv'.length;obtain ⟨hjl,hjt,hjn⟩:=List.findIdx?_eq_some_iff_getElem.mp hj;have at':∀ (m:Nat) (hm:m<xs'.length),eqU y (its'[m]'(by omega))=eqV xs'[m] y:=fun m hm=>by
  obtain ⟨w',hw,rw'⟩:=rv'.get (L1 hm);have:its'[m]'(by omega)=w':=by have h2:=L1 (show m<its'.length by omega);rw [h2] at hw;exact Option.some.inj hw
  rw [this];exact yc rw' (LU.mp fs _ (Mh hm))
 refine call_meets PySem.F.slot_tuple_index ⟨_,ge',rfl⟩ PySem.F.entry_tuple_index (PySem.F.args_tuple_index_2 _ _) (AB l its'.toArray n' none osl u (eqU y) j (by simp;omega) (by simpa [at' j hjl] using hjt) (fun m hm hmj=>?_)) ⟨ge',fun z hz=>lF ru fy rv' fs z (by simpa using hz),⟨.int j,H2,I2.tok _,⟨_,rfl⟩,q⟩⟩;have hm':m<xs'.length:=by simp at hm;omega
 have:=hjn m hmj;simpa [at' m hm'] using this
def mx (xs:List PyData) (y:PyData):Option PyData:=if gx y&&xs.all gx then ((xs.map toV).findIdx? fun z=>eqV z (toV y)).map fun j=>.int j else none
def kI (go ga:Ds->Rs PyData):Ds->Rs PyData:=fun δ=>(go δ).bind fun d=>match d with
 | .tuple xs=>(ga δ).bind fun y=>Rs.fc (mx xs y)
 | _=>.no
theorem BD {apos:Pos} (ho:PD X E o go) (ha:PD X E e ga) (hbase:attributeBase o "index" X.env (eval o X.env)=eval o X.env)
  (hfew:((backTo cpos (starEach [e] X.env)).all (fun x=>!x.1)&&(backToKw cpos (keywordEach [] X.env)).all (fun x=>x.1.isSome)&&decide (([e]:List Expr).length+([]:List Keyword).length+(if ([]:List Keyword).isEmpty then 0 else 1)<30))=true)
  (hline:(apos.endLine==cpos.line)=true) (hs:starEach [e] X.env=(false,eval e X.env)::starEach [] X.env) (hplain:(backTo cpos (starEach [] X.env)).any (·.1)=false) :
  PD X E (.Call (.Attribute o "index" apos) [e] [] cpos) (kI go ga):=(Dc ho (eo ha f7 hs) hbase hfew hline hs hplain).imp fun σ H Q pz3=>by
 obtain ⟨A,δ,R,oo⟩:=pz3;unfold kI at oo;refine eD.run R (fun d1 e1 v H1 s1 R1 h1=>?_) (fun C et H' s'=>by rw [et] at oo;exact oo H' s') (fun et=>by rw [et] at oo;exact oo);simp only [e1,Rs.ag] at oo;cases d1 with
 | tuple xs =>
  obtain ⟨p,vs,rfl,hp,hx⟩:=h1.ofTup;refine ⟨⟨p,vs,rfl,aB _ _ hp⟩,?_⟩;have oo:hW X.K E A H ((ga δ).bind fun y=>Rs.fc (mx xs y)) Q:=oo;refine eD.run R1 (fun d2 e2 u H2 s2 R2 h2=>?_) (fun C et H' s'=>by rw [et] at oo;exact oo H' (s1.trans s')) (fun et=>by rw [et] at oo;exact oo);simp only [e2,Rs.ag] at oo;unfold mx at oo;split at oo
  ·rename_i z;rw [L8] at z;obtain ⟨f1,f2⟩:=h2.flat z.1;obtain ⟨f3,f4⟩:=hx.flat z.2;cases q:((xs.map toV).findIdx? fun z=>eqV z (toV d2)) with
   | none=>rw [q] at oo;exact oo.elim
   | some j =>rw [q] at oo;exact ⟨p,vs,u,j,rfl,rfl,s2 _ _ (aB _ _ hp),f2,f4,by rw [f1,f3];exact q,oo _ H2 (s1.trans s2) bO⟩
  ·exact oo.elim
 | _=>exact oo.elim
end
end L2
namespace L2
open PySem PySem.Spec PyProof.Rows
def vC:List Int->Option Int
 | []=>none
 | x::r=>some (r.foldl (fun a b=>if b>a then b else a) x)
theorem fold_max:∀ (r:List Int) (x:Int),(r.foldl (fun a b=>if b>a then b else a) x)∈x::r/\∀ a∈x::r,a<=r.foldl (fun a b=>if b>a then b else a) x
 | [],x=>⟨L6,fun a ha=>by cases LM.mp ha;exact MQ _⟩
 | y::r,x=>by
  obtain ⟨h1,h2⟩:=fold_max r (if y>x then y else x);rw [MX];have h0:=h2 _ L6;refine ⟨?_,fun a ha=>?_⟩
  ·rcases L7.mp h1 with z | z
   ·rw [z];split <;> simp
   ·exact L4 _ (L4 _ z)
  ·have hx:x<=(if y>x then y else x):=by split <;> omega
   have hy:y<=(if y>x then y else x):=by split <;> omega
   rcases L7.mp ha with rfl | ha
   ·exact NK hx h0
   ·rcases L7.mp ha with rfl | ha
    ·exact NK hy h0
    ·exact h2 a (L4 _ ha)
theorem FQ {M m:Int} (h1:M∈ns) (h2:∀ a∈ns,a<=M) (e:vC ns=some m):M=m:=by
 cases ns with
 | nil=>cases e
 | cons x r =>cases e;obtain ⟨g1,g2⟩:=fold_max r x;have a1:=h2 _ g1;have a2:=g2 _ h1;omega
section
variable {E:XK} {a:Expr} {es:List Expr}
theorem EV:bootBuiltins "max"=some (.builtin "max"):=by decide +kernel
theorem FX:bootBuiltins "min"=some (.builtin "min"):=by decide +kernel
end
section
variable {E:XK}
end
section
variable {E:XK} {a b c:Expr} {gc:Ds->Rs PyData}
end
section
variable {E:XK} {a:Expr} {es:List Expr}
end
section
variable {E:XK} {a:Expr}
end
end L2
namespace PyProof.Rows
open PySem
section
variable {A:Around}
end
end PyProof.Rows
namespace L2
open PySem PySem.Spec PyProof.Rows
section
variable {E:XK} {a:Expr} {es:List Expr}
end
end L2
namespace L2
open PySem PySem.Spec PySem.Calls PyProof.Rows PySem.W PySem.Builtin PySem.Builtin.ObjectAttr PySem.Builtin.Getset_descriptor
section
variable {A:Around} {K:Frag} {x:Addr} {ox:Obj}
structure GD (h:Heap) (x:Addr) (D:Addr):Prop where
 ex:∃ o,h.get? x=some o/\o.cls=.ref D
theorem GD.type {M:Model} (I:GD h x D):Looks M h (typeOf (.ref x)) (.ref D):=by obtain ⟨o,h1,h2⟩:=I.ex;exact h2▸(Looks.ld h1).andThen .now
end
end L2
namespace L2
open PySem PySem.Spec PyProof.Rows
section
variable {E:XK} {ea:Addr} {oe:Obj}
end
section
variable {E:XK} {ea:Addr} {oe:Obj}
end
def xu (O:List Nat) (i:Nat) (g:Ds->Rs PyData):Ds->Sr:=fun δ=>match δ[i]? with
 | some (some (.int a))=>ofR (g (mask O δ)) fun d=>match d with
  | .int b=>.nx (δ.set i (some (.int (a+b))))
  | _=>.no
 | _=>.no
section
variable {E:XK} {e a b:Expr} {es:List Expr}
theorem EM (h:PD X E e ga) (hN:X.N.Nodup) (hO:i∉O) (hi:X.N[i]?=some x) (hx:Loc X.env.scope x)
  (hf:X.fn x=true\/X.env.scope.names.lookup x=some .local):PSD X E O (.AugAssign (.Name x pos') .Add e pos) (xu O i ga):=(Ho hN hi hx h Jm hf).imp fun D σ H pz3=>by
 obtain ⟨H0,A0,A,δ,R,o⟩:=pz3;unfold xu at o;split at o
 ·rename_i z hz;obtain ⟨v,ev,hv⟩:=R.pl i _ hO hz;have hl:i<δ.length:=(M8.mp hz).1;refine ⟨v,ev,?_⟩;refine eD.run R.part (fun d ed u H1 s1 R1 hu=>?_) (fun C et H' s'=>?_) (fun et=>?_)
  ·rw [ed,av] at o;split at o
   ·refine ⟨_,_,hv.ofInt,hu.ofInt,o A _ H1 ((R.step s1).set hO hl bO)⟩
   ·exact o.elim
  ·rw [et,mW] at o;exact o H' (R.same.trans s')
  ·rw [et,mR] at o;exact o
 ·exact o.elim
def jl (f:Str):List (PyData×PyData)->Option PyData
 | []=>none
 | (k,d)::r=>match k with
  | .str g=>if g=f then some d else jl f r
  | _=>none
def bB (C:Addr) (f:Str):PyData->Option PyData
 | .dict (k::r)=>match k with
  | (.str z,.int c)=>if z=""/\c=(C:Int) then jl f r else none
  | _=>none
 | _=>none
theorem Isk.jl {K:PySem.W.Frag} {H:Hp}:∀ {r:List (PyData×PyData)} {fs:List (Str×V)} {f:Str} {d:PyData},Isk K H r fs->L2.jl f r=some d->∃ v,fs.lookup f=some v/\Is K H d v
 | [],_,f,d,_,l=>by simp [L2.jl] at l
 | (k,x)::r,fs,f,d,h,l=>by
  unfold Isk at h;obtain ⟨g,v,fs',rfl,rfl,h1,h2⟩:=h;simp only [L2.jl] at l;rw [M5];by_cases z:g=f
  ·subst z;rw [if_pos rfl] at l;cases l;exact ⟨v,by simp,h1⟩
  ·rw [if_neg z] at l;have:(f==g)=false:=by simpa using fun q=>z q.symm
   rw [this];exact Isk.jl h2 l
theorem Ei {f:Str} {d x:PyData} (hf:f≠"@") (e:bB C f d=some x) (h:Is K H d v):∃ a dx fs u,v=.ref a/\H a=some (.ins C dx fs)/\fs.lookup f=some u/\Is K H x u:=by
 unfold bB at e;split at e
 ·rename_i k r;split at e
  ·rename_i z c;split at e
   ·rename_i q;obtain ⟨rfl,rfl⟩:=q;unfold Is at h;rcases h with (⟨a,ns,_,ek,_⟩ | ⟨a,l,_,ek,_⟩) | ⟨a,C',dx,fs,ev,h1,hn,h2 | h2⟩
    ·injection ek with ek _;cases ek
    ·cases l <;> simp at ek
    ·unfold Isk at h2;obtain ⟨g,u,fs',e1,e2,h3,h4⟩:=h2;cases e1;have e5:=h3.ofInt;injection e5 with e5
     obtain rfl:C'=C:=Int.ofNat.inj e5;obtain ⟨u,l,hu⟩:=h4.jl e;exact ⟨a,dx,fs,u,ev,h1,l,hu⟩
    ·unfold Isk at h2;obtain ⟨g,u,fs',e1,e2,h3,h4⟩:=h2;cases e1;have e5:=h3.ofInt;injection e5 with e5
     obtain rfl:C'=C:=Int.ofNat.inj e5;obtain ⟨u,l,hu⟩:=h4.jl e;rw [M5,show (f==("@":Str))=false by simpa using hf] at l;exact ⟨a,dx,fs,u,ev,h1,l,hu⟩
   ·cases e
  ·cases e
 ·cases e
theorem HH {f:Str} (cl:Cls X.K C) (n:fw X.K C f) (ha:PD X E a ga) (hb:attributeBase a f X.env (eval a X.env)=eval a X.env) (hf:f≠"@"):PD X E (.Attribute a f pos) (g1 (bB C f) ga) :=
 (Jd ha hb).imp fun σ H Q ⟨A,δ,R,o⟩=>g1.read (tt:=fun Q x H1=>∃ a C dx fs v,x=.ref a/\H1 a=some (.ins C dx fs)/\Cls X.K C/\fw X.K C f/\fs.lookup f=some v/\Q v H1) R o fun d1 d x H' e _ _ h k=>by obtain ⟨p,dx,fs,u,rfl,hp,l,hu⟩:=Ei hf e h;exact ⟨p,C,dx,fs,u,rfl,aB _ _ hp,cl,n,l,k _ H' (ax.refl _) hu⟩
def Jk (C:Addr) (names:List Str):Sp:=fun vs H Q _=>∃ (x dx:Addr) (args:List V),vs=.ref x::args/\args.length=names.length/\H x=some (.ins C dx []) /\
 ∀ H':Hp,(∀ b,b≠x->H' b=H b)->H' x=some (.ins C dx (names.zip args))->Q .non H'
structure oM (P:Program) (w:World) (K:PySem.W.Frag) (mg:Str->Option Value) (base:Heap) (k:Nat) (x:Str) (C:Addr) (names:List Str):Prop where
 ex:∃ f fd ps,Mk K C f/\gM P w K mg base (CXW P w) k f fd ps (Jk C names)/\Binds K fd ps []/\mg x=some (.ref C)
def sj (C:Addr) (names:List Str):List PyData->Rs PyData:=fun ds=>if ds.length=names.length then .ok (Cq C (names.zip ds)) else .no
theorem sQ {K:PySem.W.Frag} {H:Hp}:∀ {names:List Str} {ds:List PyData} {vs:List V},Iss K H ds vs->Isk K H ((names.zip ds).map fun p=>(.str p.1,p.2)) (names.zip vs)
 | [],_,_,_=>by simpa using nW
 | _::_,[],_,h=>by rw [h.nil_of];simpa using nW
 | n::ns,d::ds,_,h=>by obtain ⟨v,r,rfl,h1,h2⟩:=h.cons_of;simp only [Ng,L5];exact dZ h1 (sQ h2)
theorem yk {f:Str}:∀ {names:List Str} {vs:List V},f∉names->(names.zip vs).lookup f=none
 | [],_,_=>rfl
 | _::_,[],_=>rfl
 | n::ns,v::vs,h=>by rw [Ng,M5,show (f==n)=false by simpa using fun q=>h (by rw [q];exact L6)];exact yk fun q=>h (L4 _ q)
theorem Gi {k:Nat} (D:oM X.prog X.w X.K X.mg X.base k x C names) (hr:cx j X.A) (hx:Passes (CXW X.prog X.w) X E) (ha:PAD X E (e::es) gs) (hk:k+1<=j) (hg:Gl X x)
  (hdb:(x==("__debug__":Str))=false) (he:starEach (e::es) X.env=(false,eval e X.env)::starEach es X.env) (hpl:(backTo pos (starEach es X.env)).any (·.1)=false) (hn:("@":Str)∉names) :
  PD X E (.Call (.Name x p) (e::es) [] pos) (aq (sj C names) gs):=by
 obtain ⟨f,fd,ps,M,F,hb,hm⟩:=D.ex;refine (zQ M F (hr.mono hk) hg hm hb .nil hx ha.1 hdb he hpl).imp fun σ H Q rz3=>?_
 obtain ⟨A,δ,R,o⟩:=rz3;refine sL R o fun ds vs H1 e s1 R1 h1 o=>?_
 unfold sj at o;split at o
 ·rename_i hl;intro x dx nx ndx ne;refine ⟨x,dx,vs++[],rfl,by rw [Mn,h1.length,hl],aG,fun H' k1 k2=>⟨rfl,?_⟩⟩;rw [Mn] at k2;have sm:ax H1 H':=fun b q eb=>by have n1:b≠x:=aK eb nx;rw [k1 b n1,aA n1,aA (aK eb ndx)];exact eb
  refine o (.ref x) H' sm (Ii (dx:=dx) (fs:=names.zip vs) ?_ (yk hn) (sQ (h1.same sm.del)));rw [aP (R1.ls.new nx)];exact k2
 ·exact o.elim
def u9:PyData->PyData->Option PyData
 | .list x,.int d=>(fG x).map fun ns=>.int ((vC ns).getD d)
 | _,_=>none
end
section
variable {A:Around} {R:Result->Shared->Prop} {I:Addr} {wr:List Addr} {n:Nat} {T:Nat->Value->Prop} {St:Nat->Heap->Prop} {dv:Value}
theorem CS (a v:Value):argsOk "max" ⟨[a],[(Str.ofString "default",v)]⟩:=by unfold argsOk;kernel_rfl
theorem tI:(toString "max"++toString ".loop":String)="max.loop":=by decide
theorem oB (W:Walks prog w A.in1 I fp wr n T St) (bt:Nat->Nat->Bool) (hc:CmpOf prog w A.in1 .Gt T bt) (S:Addr) (hf:S∉fp):∀ (k j:Nat) (s:Shared) (vb:Value) (c:Nat),n=j+1+k->St (j+1) s.heap->T (argBest bt j) vb ->
  s.heap.get? S=some { cls:=.type "list",dict:=none,data:=.seq #[vb,vb] c,slots:=#[] }->(∀ v h' tk,T (argBest bt (n-1)) v->(∀ b o,b∉wr->b≠S->s.heap.get? b=some o->h'.get? b=some o)->R (.ok (.ret v)) { s with heap:=h',toks:=tk }) ->
  codeAny (model prog w) A (.builtin "max.loop" ⟨[.ref I,.none,.ref S],[(Str.ofString "default",dv)]⟩) R s
 | 0,j,s,vb,c,hn,hst,hb,hS,hR=>by
  have nw:S∉wr:=fun h=>hf (W.sub _ h)
  refine codeAny_builtin F.entry_max_loop ?_;rw [Around.under_plainId F.plain_max_loop _];show wpAny _ A.in1 (seqItems? (.ref S) >>= _) _ _ s;refine wpAny_bind (wpAny_seqItems hS rfl ?_);show wpAny _ A.in1 (tryCatch (pyNext (.ref I)) _ >>= _) _ _ s;refine wpAny_bind (wpAny_tryCatch (W.done s _ _ (by rw [show n=j+1 from hn];exact hst) fun h1 t1 k1=>?_));have hS1:=k1 S _ nw hS;show wpAny _ A.in1 (updateSeq S (fun _=>#[]) >>= _) _ _ _;refine wpAny_bind (wpAny_updateSeq hS1 rfl (wpAny_bind (wpAny_letGo (wpAny_pure ?_))));exact hR vb _ t1 (by rw [show n-1=j by omega];exact hb) fun b o q1 q2 z=>(Mo _ _ (Ne.symm q2)).trans (k1 b o q1 z)
 | k+1,j,s,vb,c,hn,hst,hb,hS,hR=>by
  have nw:S∉wr:=fun h=>hf (W.sub _ h)
  refine codeAny_builtin F.entry_max_loop ?_;rw [Around.under_plainId F.plain_max_loop _];show wpAny _ A.in1 (seqItems? (.ref S) >>= _) _ _ s;refine wpAny_bind (wpAny_seqItems hS rfl ?_);show wpAny _ A.in1 (tryCatch (pyNext (.ref I)) _ >>= _) _ _ s;refine wpAny_bind (wpAny_tryCatch (W.item (j+1) s _ _ (by omega) hst fun v h1 t1 hv st1 k1=>?_));have hS1:=k1 S _ nw hS;show wpAny _ A.in1 (tryCatch (holding [v,v] (richCompare .Gt v vb >>= _)) _ >>= _) _ _ _;refine wpAny_bind (wpAny_tryCatch (wpAny_holding (wpAny_bind (hc (j+1) (argBest bt j) v vb _ _ _ hv hb (wpAny_bind (wpAny_holding (wpAny_truthy_bool (wpAny_bind (wpAny_letGo (wpAny_pure ?_))))))))));cases q:bt (j+1) (argBest bt j) with
  | true =>
   rw [if_pos rfl];refine wpAny_bind (wpAny_updateSeq hS1 rfl (wpAny_bind (wpAny_letGo ?_)));rw [tI];refine wpAny_pure ⟨plainId_quiet F.plain_max_loop _,oB W bt hc S hf k (j+1) _ v _ (by omega) (W.frame _ _ _ st1 fun b hbf o e=>?_) (by unfold argBest;rw [q];exact hv) (N1 _ hS1 rfl) fun v2 h2 t2 p2 k2=>?_⟩
   ·exact (Mo _ _ (fun z:S=b=>hf (z▸hbf))).trans e
   ·exact hR v2 h2 t2 p2 fun b o q1 q2 z=>k2 b o q1 q2 ((Mo _ _ (Ne.symm q2)).trans (k1 b o q1 z))
  | false =>rw [if_neg (by decide)];refine wpAny_bind (wpAny_letGo ?_);rw [tI];refine wpAny_pure ⟨plainId_quiet F.plain_max_loop _,oB W bt hc S hf k (j+1) _ vb c (by omega) st1 (by unfold argBest;rw [q];exact hb) hS1 fun v2 h2 t2 p2 k2=>?_⟩;exact hR v2 h2 t2 p2 fun b o q1 q2 z=>k2 b o q1 q2 (k1 b o q1 z)
variable {l:Addr} {xs:Array (Int×Tok)}
theorem BA (hh:A.handled=none) (hl:s.heap.IsList l (intItems xs))
  (h0:xs.size=0->∀ h' tk,(∀ b o,s.heap.get? b=some o->h'.get? b=some o)->Q dv { s with heap:=h',toks:=tk })
  (h:0<xs.size->∀ v h' tk,(intItems xs)[argBest (fun i j=>decide (numAt xs i>numAt xs j)) (xs.size-1)]?=some v->(∀ b o,s.heap.get? b=some o->h'.get? b=some o)->Q v { s with heap:=h',toks:=tk }) :
  wpAny (model prog w) A (call (.builtin "max") [.ref l] [(Str.ofString "default",dv)]) Q E s:=by
 refine kmk_tree F.kind_max F.plain_max F.entry_max (CS _ _) ?_;show wpAny _ A.in1 (Builtin.Builtins.bindParams "max" ["key", "default"] 0 ⟨[],[(Str.ofString "default",dv)]⟩ >>= _) _ _ s;refine wpAny_bind (wpAny_of_eq (show Builtin.Builtins.bindParams "max" ["key", "default"] 0 ⟨[],[(Str.ofString "default",dv)]⟩=pure [none,some dv] from rfl) (wpAny_bind (wpAny_pure ?_)));refine wpAny_bind (iter_intList hl fun s2 e st hfp hlI=>wpAny_bind (wpAny_newObj_type ?_));subst e;have W:=Walks.list (prog:=prog) (w:=w) (A:=A.in1) hh s.heap.objs.size l hlI (intItems xs);have hsz:(intItems xs).size=xs.size:=by simp [intItems]
 have hSf:(s.heap.push { cls:=.type "list_iterator",data:=.fields #[.ref l,.int 0 0] }).objs.size∉[s.heap.objs.size,l]:=fun hm=>ML _ (hfp _ hm)
 rw [tI];refine wpAny_pure ⟨plainId_quiet F.plain_max_loop _,codeAny_builtin F.entry_max_loop ?_⟩;rw [Around.under_plainId F.plain_max_loop _];show wpAny _ A.in1 (seqItems? (.ref _) >>= _) _ _ _;refine wpAny_bind (wpAny_seqItems (LP _ rfl) rfl ?_);show wpAny _ A.in1 (tryCatch (pyNext (.ref _)) _ >>= _) _ _ _;have st1:=W.frame _ _ _ st fun b _ o e=>L0 { cls:=.type "list",data:=.seq #[] } e
 have nS:(s.heap.push { cls:=.type "list_iterator",data:=.fields #[.ref l,.int 0 0] }).objs.size∉[s.heap.objs.size]:=fun z=>hSf (L7.mpr (.inl (LM.mp z)))
 have kp:∀ b o,s.heap.get? b=some o->b∉[s.heap.objs.size]/\((s.heap.push { cls:=.type "list_iterator",data:=.fields #[.ref l,.int 0 0] }).push { cls:=.type "list",data:=.seq #[] }).get? b=some o/\b≠(s.heap.push { cls:=.type "list_iterator",data:=.fields #[.ref l,.int 0 0] }).objs.size:=fun b o e=>by
  have hb:b<s.heap.objs.size:=LN e;refine ⟨fun z=>?_,L0 _ (L0 _ e),?_⟩
  ·rw [LM.mp z] at hb;exact ML _ hb
  ·rw [Heap.size_push];exact LR (Mx hb)
 by_cases hz:xs.size=0
 ·refine wpAny_bind (wpAny_tryCatch (W.done _ _ _ (by rw [hsz,hz];exact st1) fun h1 t1 k1=>?_));show wpAny _ A.in1 (rule _ >>= _) _ _ _;refine wpAny_bind (wpAny_rule (wpAny_pure ?_));exact h0 hz h1 t1 fun b o e=>k1 b o (kp b o e).1 (kp b o e).2.1
 ·refine wpAny_bind (wpAny_tryCatch (W.item 0 _ _ _ (by rw [hsz];omega) st1 fun v h1 t1 hv st2 k1=>?_));have hS1:=k1 _ _ nS (LP _ rfl);show wpAny _ A.in1 (updateSeq _ (fun _=>#[v,v]) >>= _) _ _ _;refine wpAny_bind (wpAny_updateSeq hS1 rfl ?_);rw [tI];refine wpAny_pure ⟨plainId_quiet F.plain_max_loop _,oB W _ (CmpOf.ints_gt (numAt xs) fun _ _=>intItems_at) _ hSf (xs.size-1) 0 _ v _ (by rw [hsz];omega) (W.frame _ _ _ st2 fun b hbf o e=>?_) hv (N1 _ hS1 rfl) fun v2 h2 t2 p2 k2=>?_⟩
  ·exact (Mo _ _ (fun z:(s.heap.push { cls:=.type "list_iterator",data:=.fields #[.ref l,.int 0 0] }).objs.size=b=>hSf (by rw [z];exact hbf))).trans e
  ·refine h (by omega) v2 h2 t2 (by rw [hsz] at p2;exact p2) fun b o e=>k2 b o (kp b o e).1 (kp b o e).2.2 ?_
   exact (Mo _ _ (Ne.symm (kp b o e).2.2)).trans (k1 b o (kp b o e).1 (kp b o e).2.1)
end
section
variable {E:XK} {e a b:Expr} {es:List Expr}
theorem Bp (h:ns.length=0) (d:Int):(vC ns).getD d=d:=by cases ns with | nil=>rfl | cons _ _=>simp at h
theorem eD.weak {g:Ds->Rs PyData} {Q Q':VK} (h:eD K E g σ H Q) (k:∀ v H',Q v H'->Q' v H'):eD K E g σ H Q':=by
 obtain ⟨A,δ,R,o⟩:=h;refine ⟨A,δ,R,?_⟩;cases q:g δ with
 | ok d=>rw [q] at o;exact fun v H' s1 h1=>k v H' (o v H' s1 h1)
 | rz C=>rw [q] at o;exact o
 | no=>rw [q] at o;exact o
theorem ES (hc:X.calm=true) (hm:X.mg "max"=none) (ha:PD X E a ga) (hb:PD X E b gb) (hg:Gl X "max") (he:starEach [a] X.env=[(false,eval a X.env)]) :
  PD X E (.Call (.Name "max" p) [a] [⟨some "default",b,kp⟩] pos) (g2 u9 ga gb):=by
 have key:PE X (.Call (.Name "max" p) [a] [⟨some "default",b,kp⟩] pos) (tOp (fun x y H Q=>∃ (p:Addr) (ns:List Int) (d:Int),x=.ref p/\y=.int d/\SqL X.K H p (ns.map V.int)/\Q (.int ((vC ns).getD d)) H) (eD X.K E ga) (eD X.K E gb)):=by
  intro pins s σ H Q I h;refine wpAny_Call_Name_kw (gr I hg hm EV ?_ (by decide) (by decide));refine callWith_kw ?_ (by rw [he];rfl) (by rw [he];rfl) rfl rfl;refine thn ((eo ha f7 he) pos pins s σ H (fun vs H1=>∃ x,vs=[x]/\eD X.K E gb σ H1 fun y H2=>∃ (p:Addr) (ns:List Int) (d:Int),x=.ref p/\y=.int d/\SqL X.K H2 p (ns.map V.int)/\Q (.int ((vC ns).getD d)) H2) I
   (eD.weak h fun x H1 q=>⟨x,rfl,q⟩)) fun us s1 ⟨vs,H1,I1,r1,x,q0,q1⟩=>?_
  subst q0;obtain ⟨u,rfl,ru⟩:=vals1 r1;refine thn ((yU hb DI) pos pins s1 σ H1 (fun vs H2=>∃ y,vs=[y]/\∃ (p:Addr) (ns:List Int) (d:Int),x=.ref p/\y=.int d/\SqL X.K H2 p (ns.map V.int)/\Q (.int ((vC ns).getD d)) H2) I1
   (eD.weak q1 fun y H2 q=>⟨y,rfl,q⟩)) fun ws s2 ⟨zs,H2,I2,r2,y,q2,p,ns,d,ex,ey,hS,q3⟩=>?_
  subst q2;obtain ⟨v,rfl,rv⟩:=vals1 r2;subst ex ey;obtain rfl:u=Value.ref p:=ru;obtain ⟨td,rfl⟩:=(show ∃ t,v=Value.int d t from rv)
  obtain ⟨its,rl,pl,_⟩:=I2.list hS;have hi:IntsAre its ns:=intsAre_of rl;obtain ⟨xs,hx⟩:=hi.allInts.items;have hns:ns=xs.toList.map (·.1):=by rw [<-hi.numsOf,<-nums_intItems,<-hx]
  have hl':s2.heap.IsList p (intItems xs):=hx▸pl.isList;have hnl:ns.length=xs.size:=by rw [hns,L3,MH]
  refine BA (I2.ok.hd hc) hl' (fun hz h' tk hk=>?_) fun hz v h' tk hv hk=>?_
  ·rw [Bp (by omega) d] at q3;exact ⟨.int d,H2,I2.kept hk,⟨_,rfl⟩,q3⟩
  ·obtain ⟨t,rfl⟩:=intItems_at hv;obtain ⟨h1,h2⟩:=argBest_gt (numAt xs) (xs.size-1);obtain ⟨m,em⟩:∃ m,vC ns=some m:=by
    cases ns with
    | nil=>simp at hnl;omega
    | cons _ _=>exact ⟨_,rfl⟩
   have e:numAt xs (argBest (fun i j=>decide (numAt xs i>numAt xs j)) (xs.size-1))=m:=by
    refine FQ ?_ (fun b hb=>?_) em
    ·rw [hns,numAt_eq];exact getD_mem (by rw [L3,MH];omega)
    ·rw [hns] at hb;obtain ⟨j,hj,rfl⟩:=mem_getD hb;rw [L3,MH] at hj;rw [<-numAt_eq];exact h2 j (by omega)
   rw [em] at q3;exact ⟨.int m,H2,I2.kept hk,⟨_,by rw [<-e]⟩,q3⟩
 exact key.imp fun σ H Q ⟨A,δ,R,o⟩=>g2.read (fun d1 d2 d x y H' A' Q' e' hA h1 h2 k=>by
  unfold u9 at e';split at e'
  ·rename_i l dd;obtain ⟨ns,q,rfl⟩:=MP.mp e';obtain ⟨p,xs,rfl,hp,hx⟩:=h1.ofLst;rw [dW q] at hx;rw [hx.ofInts] at hp;exact ⟨p,ns,dd,rfl,h2.ofInt,SqL.of (aB _ _ hp),k _ H' (ax.refl _) bO⟩
  ·cases e') R o
end
theorem En {kV:Value}
  (hb:∀ (kV doc pm:Value) (an:Option Addr) (cdv ct:Value) (us:List Value),us.length=ps.length->bindArgs (PySem.W.fnOf "__init__" qual (fk st) (cm st) (aE st) .none kV doc pm an cdv ct) ⟨us,[]⟩=pure (ps.zip us))
  (a:PySem.W.findIn K (.ref C) "__init__"=some (some (.ref f))) (i:PySem.W.isFn K (.ref f)=true)
  (l:K.lookup f=some ⟨oc,od,.func (PySem.W.fnOf "__init__" qual (fk st) (cm st) (aE st) .none kV dc pm an cd ct),sl⟩)
  (c:PySem.W.codeIn K cd qual=true) (k:PySem.W.keepIn K (.ref f)=true) (mk:PySem.W.makesIn K C=true) (kc:PySem.W.keepIn K (.ref C)=true):∃ f fd,Mk K C f/\Fun K "__init__" qual st f fd/\Binds K fd ps [] :=
 have F:=xW (st:=st) l c k
 ⟨f,_,⟨mk,a,i,kc⟩,F,F.binds hb⟩
end L2
namespace RS
open PySem
set_option genInjectivity true in
structure Er where
 every:Int
 due:Int
 late:Int
 parts:List (Int×Option Int)
def bg:Option Int->PyData
 | none=>.none
 | some i=>.int i
def aJ (p:Int×Option Int):PyData:=.tuple [.int p.1,bg p.2]
def Er.d (e:Er):PyData:=.tuple [.int e.every,.int e.due,.int e.late,.tuple (e.parts.map aJ)]
def aw (es:List Er):PyData:=.tuple (es.map Er.d)
def isWhole (d:PyData) (lo hi:Int):Bool:=match d with
 | .int i=>decide (lo<=i)&&decide (i<=hi)
 | _=>false
def cj (d:PyData) (lo hi:Int):Bool:=match d with
 | .tuple ds=>decide (lo<=(ds.length:Int))&&decide ((ds.length:Int)<=hi)
 | _=>false
def c8 (d:PyData):Bool:=match d with
 | .tuple [a,b]=>isWhole a 1 20&&(match b with | .none=>true | b=>isWhole b 0 3)
 | _=>false
def iS (ds:List PyData):Bool:=match ds.getLast? with
 | some (.tuple [_,.none])=>true
 | _=>false
def dS (d:PyData):Bool:=match d with
 | .tuple ds=>decide (1<=ds.length)&&decide (ds.length<=4)&&ds.all c8&&iS ds
 | _=>false
def bP (d:PyData):Bool:=match d with
 | .tuple [.int e,du,.int l,ps]=>decide (2<=e)&&decide (e<=60)&&(decide (0<=l)&&decide (l<=(if e-1<20 then e-1 else 20)))&&isWhole du 1 (e-l)&&dS ps
 | _=>false
def c7 (d:PyData):Bool:=match d with
 | .tuple ds=>decide (1<=ds.length)&&decide (ds.length<=6)&&ds.all bP
 | _=>false
structure Er.Ok (e:Er):Prop where
 e1:2<=e.every
 e2:e.every<=60
 l1:0<=e.late
 l2:e.late<=20
 l3:e.late<e.every
 d1:1<=e.due
 d2:e.due<=e.every-e.late
 p1:e.parts≠[]
 p2:e.parts.length<=4
 pl:∀ p∈e.parts,1<=p.1/\p.1<=20/\∀ t,p.2=some t->0<=t/\t<=3
 la:∀ p,e.parts.getLast?=some p->p.2=none
theorem Av {p:Int×Option Int} (h1:1<=p.1) (h2:p.1<=20) (h3:∀ t,p.2=some t->0<=t/\t<=3):c8 (aJ p)=true:=by
 obtain ⟨l,t⟩:=p;cases t with
 | none=>simp [c8,aJ,bg,isWhole,h1,h2]
 | some t =>obtain ⟨a,b⟩:=h3 t rfl;simp [c8,aJ,bg,isWhole,h1,h2,a,b]
theorem u7 {e:Er} (h:e.Ok):bP e.d=true:=by
 have hp:(e.parts.map aJ).all c8=true:=by rw [LU];intro d hd;obtain ⟨p,hp,rfl⟩:=L9.mp hd;obtain ⟨a,b,c⟩:=h.pl p hp;exact Av a b c
 have hl:iS (e.parts.map aJ)=true:=by
  unfold iS;rw [Nk];cases q:e.parts.getLast? with
  | none=>exact absurd (List.getLast?_eq_none_iff.mp q) h.p1
  | some p =>obtain ⟨l,t⟩:=p;have:t=none:=h.la _ q;subst this;rfl
 have hn:1<=e.parts.length:=by
  cases q:e.parts with
  | nil=>exact absurd q h.p1
  | cons _ _=>simp
 have h1:=h.e1;have h2:=h.e2;have h3:=h.l1;have h4:=h.l2;have h5:=h.l3;have h6:=h.d1;have h7:=h.d2;have h8:=h.p2;have hl2:e.late<=if e.every-1<20 then e.every-1 else 20:=by split <;> omega
 simp [bP,Er.d,dS,isWhole,hp,hl,hn,h1,h2,h3,h6,h7,h8,hl2]
theorem lh {es:List Er} (h1:1<=es.length) (h2:es.length<=6) (h:∀ e∈es,e.Ok):c7 (aw es)=true:=by
 have hp:(es.map Er.d).all bP=true:=by rw [LU];intro d hd;obtain ⟨e,he,rfl⟩:=L9.mp hd;exact u7 (h e he)
 simp [c7,aw,h1,h2,hp]
def cellAt (ns:List Int) (k:Int):Int :=
 if k<(ns.length:Int) then ns.getD k.toNat 0 else if ns=[] then 0 else ns.getD (k % (ns.length:Int)).toNat 0*31+k
def AY (ns:List Int) (k:Int):Int:=(cellAt ns k+7919*k+1)*48271 % 2147483647
def mixed (ns:List Int) (k many:Int):Int:=(AY ns k*AY ns k+7*AY ns k+k) % 2147483629 % many
theorem EB (ns:List Int) (k:Int):0<=AY ns k:=Mt _ (by decide)
theorem EJ (ns:List Int) (k:Int):AY ns k<2147483647:=MM _ (by decide)
theorem cz (ns:List Int) (k:Int) (h:0<many):0<=mixed ns k many:=Mt _ (by omega)
theorem cy (ns:List Int) (k:Int) (h:0<many):mixed ns k many<many:=MM _ h
def kA (i:Int):Option Int:=if i=0 then some 0 else if i=1 then some 1 else if i=2 then some 1 else if i=3 then some 0 else none
def eS (ns:List Int) (j:Int) (tools:Bool):Int×Option Int:=(1+mixed ns j 40 % 4,if tools then kA (mixed ns j 40 / 4 % 5) else none)
def iE (ns:List Int) (at' every:Int):Int :=
 if every-1<mixed ns (at' + 1) 4*(if mixed ns (at' + 2) 3=0 then 1 else 0) then every-1 else mixed ns (at' + 1) 4*(if mixed ns (at' + 2) 3=0 then 1 else 0)
def nj (ns:List Int) (at' due:Int):Int:=if mixed ns (at' + 1) 3=0 then due-mixed ns (at' + 2) due else due
def mkE (ns:List Int) (at' top:Int) (tools:Bool):Er where
 every:=3+mixed ns at' top
 late:=iE ns at' (3+mixed ns at' top)
 due:=nj ns at' (3+mixed ns at' top-iE ns at' (3+mixed ns at' top))
 parts:=((List.range (mixed ns (at' + 3) 3).toNat).map fun (k:Nat)=>eS ns (at' + 4+(k:Int)) tools)++[(1+mixed ns (at' + 6) 3,none)]
def nP (ns:List Int) (at' most top:Int) (tools:Bool):List Er:=(List.range (1+mixed ns at' most).toNat).map fun (k:Nat)=>mkE ns (at' + 1+7*(k:Int)) top tools
theorem pA (ns:List Int) (at' every:Int) (h:3<=every):0<=iE ns at' every/\iE ns at' every<=3/\iE ns at' every<every:=by
 have h1:=cz ns (at' + 1) (many:=4) (by decide);have h2:=cy ns (at' + 1) (many:=4) (by decide);unfold iE;generalize mixed ns (at' + 1) 4=x at *;by_cases hc:mixed ns (at' + 2) 3=0
 ·simp only [hc,if_true,Int.mul_one];split <;> omega
 ·simp only [hc,if_false,Int.mul_zero];split <;> omega
theorem EK (ns:List Int) (at' due:Int) (h:1<=due):1<=nj ns at' due/\nj ns at' due<=due:=by have h1:=cz ns (at' + 2) (many:=due) (by omega);have h2:=cy ns (at' + 2) (many:=due) (by omega);unfold nj;split <;> omega
theorem Gq (i t:Int) (h:kA i=some t):0<=t/\t<=1:=by
 unfold kA at h
 repeat' split at h
 all_goals (first | (cases h;decide) | cases h)
theorem Cw (ns:List Int) (j:Int) (tools:Bool):1<=(eS ns j tools).1/\(eS ns j tools).1<=4/\∀ t,(eS ns j tools).2=some t->0<=t/\t<=1:=by
 have h1:0<=mixed ns j 40 % 4:=Mt _ (by decide);have h2:mixed ns j 40 % 4<4:=MM _ (by decide);refine ⟨by unfold eS;simp only;omega,by unfold eS;simp only;omega,fun t h=>?_⟩;unfold eS at h;simp only at h;cases tools with
 | false=>simp at h
 | true=>simp at h;exact Gq _ _ h
theorem HQ (ns:List Int) (at' top:Int) (tools:Bool) (h1:0<top) (h2:top<=58):(mkE ns at' top tools).Ok:=by
 have a1:=cz ns at' h1;have a2:=cy ns at' h1;have l:=pA ns at' (3+mixed ns at' top) (by omega);have d:=EK ns at' (3+mixed ns at' top-iE ns at' (3+mixed ns at' top)) (by omega);have n1:=cz ns (at' + 3) (many:=3) (by decide);have n2:=cy ns (at' + 3) (many:=3) (by decide);have n3:=cz ns (at' + 6) (many:=3) (by decide);have n4:=cy ns (at' + 6) (many:=3) (by decide);refine ⟨?_,?_,l.1,?_,l.2.2,d.1,d.2,?_,?_,?_,?_⟩
 ·show 2<=3+mixed ns at' top;omega
 ·show 3+mixed ns at' top<=60;omega
 ·have:=l.2.1;show iE ns at' (3+mixed ns at' top)<=20;omega
 ·simp [mkE]
 ·simp only [mkE,LL,L3,ND,M9];omega
 ·intro p hp;simp only [mkE,M4,L9,LM] at hp;rcases hp with ⟨k,_,rfl⟩ | rfl
  ·have:=Cw ns (at' + 4+(k:Int)) tools;refine ⟨this.1,by omega,fun t ht=>?_⟩;have:=this.2.2 t ht;omega
  ·exact ⟨by simp only;omega,by simp only;omega,fun t ht=>by cases ht⟩
 ·intro p hp;simp only [mkE,List.getLast?_append,List.getLast?_singleton,Option.some_or] at hp;cases hp;rfl
theorem DC (ns:List Int) (at' most top:Int) (tools:Bool) (h:0<most):1<=(nP ns at' most top tools).length/\((nP ns at' most top tools).length:Int)<=most:=by have h1:=cz ns at' h;have h2:=cy ns at' h;simp only [nP,L3,ND];omega
theorem FF (ns:List Int) (at' most top:Int) (tools:Bool) (h1:0<top) (h2:top<=58):∀ e∈nP ns at' most top tools,e.Ok:=by intro e he;simp only [nP,L9] at he;obtain ⟨k,_,rfl⟩:=he;exact HQ _ _ _ _ h1 h2
end RS
variable {e:RS.Er} {es:List RS.Er}
namespace RS
open PySem L2
structure Cs where
 RankError:Addr
 NoErrands:Addr
 NoRanks:Addr
 NoComings:Addr
 NoErrand:Addr
 NoNumber:Addr
 TooLong:Addr
 NoText:Addr
 Holding:Addr
 Jobs:Addr
abbrev Gf:=List PyData->Rs PyData
def bM (K:PySem.W.Frag) (mg:Str->Option Value) (x:Str) (st:Stmt) (ps:List Str):Prop:=∃ f fd,Fun K x x st f fd/\Binds K fd ps []/\mg x=some (.ref f)
def iY (cs:Cs):Ds->Sr :=
 (az (sIf (cOr (gG (gT (g1 (kM "int") (af 0)))) (gT (g1 (kM "bool") (af 0)))) (bj (gC (.bool false))) aY)
  (bj (mj dLe dLe (af 1) (af 0) (af 2))))
def jf (cs:Cs):Ds->Sr :=
 (bj (AZ (g1 (kM "tuple") (af 0)) (mj dLe dLe (af 1) (gF b8 (ae (af 0) ah)) (af 2))))
def gP (cs:Cs) (aO a9:Gf):Ds->Sr :=
 (az (sIf (cOr (gG (gT (aq a9 (ae (af 0) (ae (gC (.int 2)) (ae (gC (.int 2)) ah)))))) (gG (gT (aq aO (ae (g2 dIx (af 0) (gC (.int 0))) (ae (gC (.int 1)) (ae (gC (.int 20)) ah))))))) (bj (gC (.bool false))) aY)
  (bj (gOr (g1 mK (g2 dIx (af 0) (gC (.int 1)))) (aq aO (ae (g2 dIx (af 0) (gC (.int 1))) (ae (gC (.int 0)) (ae (g2 gj (gC (.int 4)) (gC (.int 1))) ah)))))))
def f6 (cs:Cs) (a9 gf_is_part:Gf):Ds->Sr :=
 (az (sIf (cOr (gG (gT (aq a9 (ae (af 0) (ae (gC (.int 1)) (ae (gC (.int 4)) ah)))))) (gG (gT (gF nV (ae (gL (a8 1 (bG (af 0)) bA (aq gf_is_part (ae (af 1) ah)) aI)) ah))))) (bj (gC (.bool false))) aY)
  (bj (g1 mK (g2 dIx (g2 dIx (af 0) (g1 mP (gC (.int 1)))) (gC (.int 1))))))
def dX (cs:Cs) (aO gf_are_parts a9:Gf):Ds->Sr :=
 (az (sIf (gG (gT (aq a9 (ae (af 0) (ae (gC (.int 4)) (ae (gC (.int 4)) ah)))))) (bj (gC (.bool false))) aY)
  (az (aL [] 1 (g2 dIx (af 0) (gC (.int 0))))
  (az (aL [] 2 (g2 dIx (af 0) (gC (.int 1))))
  (az (aL [] 3 (g2 dIx (af 0) (gC (.int 2))))
  (az (sIf (gG (gT (aq aO (ae (af 1) (ae (gC (.int 2)) (ae (gC (.int 60)) ah)))))) (bj (gC (.bool false))) aY)
  (az (sIf (gG (gT (aq aO (ae (af 3) (ae (gC (.int 0)) (ae (gF kC (ae (gC (.int 20)) (ae (g2 gj (af 1) (gC (.int 1))) ah))) ah)))))) (bj (gC (.bool false))) aY)
  (bj (AZ (aq aO (ae (af 2) (ae (gC (.int 1)) (ae (g2 gj (af 1) (af 3)) ah)))) (aq gf_are_parts (ae (g2 dIx (af 0) (gC (.int 3))) ah))))))))))
def iK (cs:Cs) (a9 gf_is_errand:Gf):Ds->Sr :=
 (az (sIf (cOr (gG (gT (aq a9 (ae (af 0) (ae (gC (.int 1)) (ae (gC (.int 6)) ah)))))) (gG (gT (gF nV (ae (gL (a8 1 (bG (af 0)) bA (aq gf_is_errand (ae (af 1) ah)) aI)) ah))))) (jd cs.NoErrands (ae (gC (.str "errands are a tuple of 1 to 6 errands (every, due, late, parts)")) ah)) aY)
  (bj (af 0)))
def cM (cs:Cs) (a9 aO:Gf):Ds->Sr :=
 (az (aL [] 2 (g2 gj (gF b8 (ae (af 0) ah)) (gC (.int 1))))
  (az (sIf (cOr (gG (gT (aq a9 (ae (af 1) (ae (gF b8 (ae (af 0) ah)) (ae (gF b8 (ae (af 0) ah)) ah)))))) (gG (gT (gF nV (ae (gL (a8 3 (bG (af 1)) bA (aq aO (ae (af 3) (ae (gC (.int 0)) (ae (af 2) ah)))) aI)) ah))))) (jd cs.NoRanks (ae (gC (.str "ranks are a tuple of the numbers of all errands")) ah)) aY)
  (az (sIf (gT (g2 dLt (gF lQ (ae (af 1) ah)) (gF b8 (ae (af 1) ah)))) (jd cs.NoRanks (ae (gC (.str "ranks have each errand's number once")) ah)) aY)
  (bj (af 1)))))
def en (cs:Cs) (aO:Gf):Ds->Sr :=
 (az (sIf (gG (gT (aq aO (ae (af 1) (ae (gC (.int 0)) (ae (g2 gj (gF b8 (ae (af 0) ah)) (gC (.int 1))) ah)))))) (jd cs.NoErrand (ae (gC (.str "no errand has this number")) ah)) aY)
  (bj (af 1)))
def fP (cs:Cs) (bD aW br:Gf):Ds->Sr :=
 (az (jF (aq br (ae (af 0) ah)))
  (az (jF (aq aW (ae (af 0) (ae (af 1) ah))))
  (jF (aq bD (ae (af 0) (ae (af 2) ah))))))
def qZ (cs:Cs):Ds->Sr :=
 (bj (gF qD (ae (gL (a8 1 (bG (g2 dIx (af 0) (gC (.int 3)))) bA (g2 dIx (af 1) (gC (.int 0))) aI)) ah)))
def jh (cs:Cs):Ds->Sr :=
 (bj (g2 (B8 false) (af 1) (gL (a8 2 (bG (g2 dIx (af 0) (gC (.int 3)))) bA (g2 dIx (af 2) (gC (.int 1))) aI))))
def lI (cs:Cs) (cC:Gf):Ds->Sr :=
 (az (fz [] (iG (ae (af 1) ah)) (fV [3,4]) (sIf (gT (aq cC (ae (g2 dIx (af 0) (af 4)) (ae (af 2) ah)))) (bj (af 3)) aY))
  (bj (gC .none)))
def gN (cs:Cs) (dF:Gf):Ds->Sr :=
 (bj (gL (a8 2 (fX (ae (gC (.int 4)) ah)) bA (aq dF (ae (af 0) (ae (af 1) (ae (af 2) ah)))) aI)))
def je (cs:Cs) (aR:Gf):Ds->Sr :=
 (az (aL [5] 3 (kI (af 1) (af 2)))
  (az (aL [5] 4 (aq aR (ae (af 0) (ae (af 1) ah))))
  (az (eU [5] 5 ah)
  (az (fz [5] (bG (g0 (af 1) (jO (g2 ba (af 3) (gC (.int 1)))) fN)) (bw 6) (fz [5] (iG (ae (g2 dIx (g2 dIx (af 0) (af 6)) (gC (.int 3))) ah)) (fV [7,8]) (sIf (AG (gT (g1 hZ (g2 dIx (af 8) (gC (.int 1))))) (gT (g2 dLe (g2 dIx (af 4) (g2 dIx (af 8) (gC (.int 1)))) (af 3)))) (gK [5] 5 (aq (sj cs.Holding ["number", "part", "tool", "times"]) (ae (af 6) (ae (af 7) (ae (g2 dIx (af 8) (gC (.int 1))) (ae (g2 gj (g2 dIx (af 8) (gC (.int 0))) (gC (.int 1))) ah)))))) aY)))
  (bj (af 5))))))
def fh (cs:Cs) (cT:Gf):Ds->Sr :=
 (bj (g2 u9 (gL (a8 3 (bG (aq cT (ae (af 0) (ae (af 1) (ae (af 2) ah))))) bA (g1 (bB cs.Holding "times") (af 3)) aI)) (gC (.int 0))))
def gB (cs:Cs):Ds->Sr :=
 (bj (g2 iJ (g2 gj (g2 ba (af 0) (af 1)) (gC (.int 1))) (af 1)))
def tF (cs:Cs) (gf_work_of bR:Gf):Ds->Sr :=
 (az (aL [] 5 (g2 ba (af 3) (aq gf_work_of (ae (g2 dIx (af 0) (af 2)) ah))))
  (az (fz [] (bG (g0 (af 1) fN (jO (kI (af 1) (af 2))))) (bw 6) (az (aL [] 7 (g2 dIx (af 0) (af 6)))
  (xu [] 5 (g2 bY (aq gf_work_of (ae (af 7) ah)) (aq bR (ae (g2 ba (af 4) (g2 dIx (af 7) (gC (.int 2)))) (ae (g2 dIx (af 7) (gC (.int 0))) ah)))))))
  (bj (af 5))))
def ia (cs:Cs) (cW:Gf):Ds->Sr :=
 (az (aL [5] 4 (g2 gj (g2 dIx (g2 dIx (af 0) (af 2)) (gC (.int 0))) (g2 dIx (g2 dIx (af 0) (af 2)) (gC (.int 2)))))
  (az (eU [5] 5 ah)
  (az (aL [5] 6 (aq cW (ae (af 0) (ae (af 1) (ae (af 2) (ae (af 3) (ae (gC (.int 1)) ah)))))))
  (az (fun δ=>bU (gT (g2 dLe (af 6) (af 4))) (az (gK [5] 5 (af 6))
  (az (aL [5] 7 (aq cW (ae (af 0) (ae (af 1) (ae (af 2) (ae (af 3) (ae (af 6) ah)))))))
  (az (sIf (gT (g2 dEq (af 7) (af 6))) (bj (af 5)) aY)
  (aL [5] 6 (af 7))))) 1000000 δ)
  (bj (gC .none))))))
def fu (cs:Cs) (cU:Gf):Ds->Sr :=
 (az (aL [] 4 (aq cU (ae (af 0) (ae (af 1) (ae (af 2) (ae (af 3) ah))))))
  (bj (gIf (gT (g1 mK (af 4))) (gC .none) (g2 dIx (af 4) (g1 mP (gC (.int 1)))))))
def dQ (cs:Cs) (bo cB:Gf):Ds->Sr :=
 (bj (aq cB (ae (af 0) (ae (af 1) (ae (af 2) (ae (aq bo (ae (af 0) (ae (af 1) (ae (af 2) ah)))) ah))))))
def kl (cs:Cs) (bI bz:Gf):Ds->Sr :=
 (az (jF (aq bz (ae (af 0) (ae (af 1) (ae (af 2) ah)))))
  (bj (aq bI (ae (af 0) (ae (af 1) (ae (af 2) ah))))))
def gJ (cs:Cs) (aj:Gf):Ds->Sr :=
 (az (aL [7] 4 (g2 ba (gC (.int 3)) (aq aj (ae (af 0) (ae (af 1) (ae (af 2) ah))))))
  (az (aL [7] 5 (g2 bY (aq aj (ae (af 0) (ae (g2 ba (af 1) (gC (.int 1))) (ae (gC (.int 4)) ah)))) (gF Ap (ae (g2 dEq (aq aj (ae (af 0) (ae (g2 ba (af 1) (gC (.int 2))) (ae (gC (.int 3)) ah)))) (gC (.int 0))) ah))))
  (az (aL [7] 5 (gF kC (ae (af 5) (ae (g2 gj (af 4) (gC (.int 1))) ah))))
  (az (aL [7] 6 (g2 gj (af 4) (af 5)))
  (az (sIf (gT (g2 dEq (aq aj (ae (af 0) (ae (g2 ba (af 1) (gC (.int 1))) (ae (gC (.int 3)) ah)))) (gC (.int 0)))) (aL [7] 6 (g2 gj (af 6) (aq aj (ae (af 0) (ae (g2 ba (af 1) (gC (.int 2))) (ae (af 6) ah)))))) aY)
  (az (eU [7] 7 ah)
  (az (fz [7] (fX (ae (aq aj (ae (af 0) (ae (g2 ba (af 1) (gC (.int 3))) (ae (gC (.int 3)) ah)))) ah)) (bw 8) (az (aL [7] 9 (aq aj (ae (af 0) (ae (g2 ba (g2 ba (af 1) (gC (.int 4))) (af 8)) (ae (gC (.int 40)) ah)))))
  (az (gK [7] 7 (fD (ae (g2 ba (gC (.int 1)) (g2 eK (af 9) (gC (.int 4)))) (ae (g2 dIx (qB (ae (gC (.int 0)) (ae (gC (.int 1)) (ae (gC (.int 1)) (ae (gC (.int 0)) (ae (gC .none) ah)))))) (g2 eK (g2 iJ (af 9) (gC (.int 4))) (gC (.int 5)))) ah))))
  (sIf (gG (gT (af 3))) (qL 7 (g1 mP (gC (.int 1))) (fD (ae (g2 dIx (g2 dIx (af 7) (g1 mP (gC (.int 1)))) (gC (.int 0))) (ae (gC .none) ah)))) aY))))
  (bj (fD (ae (af 4) (ae (af 6) (ae (af 5) (ae (gF fi (ae (g2 ba (af 7) (qB (ae (fD (ae (g2 ba (gC (.int 1)) (aq aj (ae (af 0) (ae (g2 ba (af 1) (gC (.int 6))) (ae (gC (.int 3)) ah))))) (ae (gC .none) ah))) ah))) ah)) ah)))))))))))))
def fQ (cs:Cs) (ck aj:Gf):Ds->Sr :=
 (az (aL [] 5 (g2 ba (gC (.int 1)) (aq aj (ae (af 0) (ae (af 1) (ae (af 2) ah))))))
  (bj (gF fi (ae (gL (a8 6 (fX (ae (af 5) ah)) bA (aq ck (ae (af 0) (ae (g2 ba (g2 ba (af 1) (gC (.int 1))) (g2 bY (gC (.int 7)) (af 6))) (ae (af 3) (ae (af 4) ah))))) aI)) ah))))
def ib (cs:Cs) (aj:Gf):Ds->Sr :=
 (az (eU [3,4] 3 (gLR (ae (af 2) ah)))
  (az (eU [3,4] 4 ah)
  (az (fz [3,4] (fX (ae (af 2) ah)) (bw 5) (iW 4 3 (aq aj (ae (af 0) (ae (g2 ba (af 1) (af 5)) (ae (gF b8 (ae (af 3) ah)) ah))))))
  (bj (gF fi (ae (af 4) ah))))))
def oR (cs:Cs):Ds->Sr :=
 (bj (gF qD (ae (gL (a8 1 (bG (g2 dIx (af 0) (gC (.int 3)))) bA (g2 dIx (af 1) (gC (.int 0))) aI)) ah)))
def ud (cs:Cs) (bo bz:Gf):Ds->Sr :=
 (az (jF (aq bz (ae (af 0) (ae (af 1) (ae (af 2) ah)))))
  (bj (aq bo (ae (af 0) (ae (af 1) (ae (af 2) ah))))))
end RS
set_option maxHeartbeats 1000000
variable {cs:RS.Cs}
namespace RS
open PySem L2
variable {p:Int×Option Int} {g:PyData->Bool} {a b:Int} {xs:List PyData}
theorem Fv (h:i∉O):(mask O δ)[i]?=δ[i]?:=by
 unfold mask;by_cases z:O=[]
 ·rw [if_pos z]
 ·rw [if_neg z,MR];cases δ[i]? with
  | none=>rfl
  | some d=>simp [h]
theorem aC (h:i∉O):af i (mask O δ)=af i δ:=by unfold af;rw [Fv h]
@[simp] theorem ak (d:PyData) (δ:Ds):af 0 (some d::δ)=.ok d:=rfl
@[simp] theorem ar (i:Nat) (x:Option PyData) (δ:Ds):af (i+1) (x::δ)=af i δ:=rfl
@[simp] theorem cF (d:PyData) (δ:Ds):gC d δ=.ok d:=rfl
@[simp] theorem f9 (f:PyData->Option PyData) (a:Ds->Rs PyData) (δ:Ds):g1 f a δ=(a δ).bind fun x=>Rs.fc (f x):=rfl
@[simp] theorem bK (f:PyData->PyData->Option PyData) (a b:Ds->Rs PyData) (δ:Ds):g2 f a b δ=(a δ).bind fun x=>(b δ).bind fun y=>Rs.fc (f x y):=rfl
@[simp] theorem fH (f:List PyData->Option PyData) (a:Ds->Rs (List PyData)) (δ:Ds):gF f a δ=(a δ).bind fun x=>Rs.fc (f x):=rfl
@[simp] theorem aF (δ:Ds):ah δ=.ok []:=rfl
@[simp] theorem ay (a:Ds->Rs PyData) (r:Ds->Rs (List PyData)) (δ:Ds):ae a r δ=(a δ).bind fun x=>(r δ).bind fun xs=>.ok (x::xs):=rfl
@[simp] theorem jz (a:Ds->Rs (List PyData)) (δ:Ds):fD a δ=(a δ).bind fun ds=>.ok (.tuple ds):=rfl
@[simp] theorem wU (a:Ds->Rs (List PyData)) (δ:Ds):qB a δ=(a δ).bind fun ds=>.ok (.list ds):=rfl
@[simp] theorem bh (f:Gf) (a:Ds->Rs (List PyData)) (δ:Ds):aq f a δ=(a δ).bind f:=rfl
@[simp] theorem dH (a:Ds->Rs PyData) (δ:Ds):gT a δ=(a δ).bind truth:=rfl
@[simp] theorem aX (b:Bool):truth (.bool b)=.ok b:=rfl
@[simp] theorem tM (a:Ds->Rs Bool) (δ:Ds):gG a δ=(a δ).bind fun b=>.ok (!b):=rfl
@[simp] theorem Hu (a b:Ds->Rs Bool) (δ:Ds):AG a b δ=(a δ).bind fun x=>if x=true then b δ else .ok false:=rfl
@[simp] theorem yY (a b:Ds->Rs Bool) (δ:Ds):cOr a b δ=(a δ).bind fun x=>if x=true then .ok true else b δ:=rfl
@[simp] theorem yi (a b:Ds->Rs PyData) (δ:Ds):AZ a b δ=(a δ).bind fun x=>(truth x).bind fun t=>if t=true then b δ else .ok (.bool false):=rfl
@[simp] theorem LC (a b:Ds->Rs PyData) (δ:Ds):gOr a b δ=(a δ).bind fun x=>(truth x).bind fun t=>if t=true then .ok (.bool true) else b δ:=rfl
@[simp] theorem Lg (a:Ds->Rs PyData) (δ:Ds):Lb a δ=(a δ).bind fun x=>(truth x).bind fun t=>.ok (.bool (!t)):=rfl
@[simp] theorem nQ (a:Ds->Rs (List PyData)) (δ:Ds):gL a δ=(a δ).bind fun ds=>.ok (.list ds):=rfl
@[simp] theorem mF (a:Ds->Rs PyData) (δ:Ds):bG a δ=(a δ).bind yP:=rfl
@[simp] theorem Lf (ds:List PyData):yP (.list ds)=.ok ds:=rfl
@[simp] theorem tG (ds:List PyData):yP (.tuple ds)=.ok ds:=rfl
@[simp] theorem kj (a:Ds->Rs (List PyData)) (δ:Ds):fX a δ=(a δ).bind EL:=rfl
@[simp] theorem K0 (a:Ds->Rs (List PyData)) (δ:Ds):Ke a δ=(a δ).bind Ks:=rfl
@[simp] theorem K1 (a:Ds->Rs (List PyData)) (δ:Ds):J0 a δ=(a δ).bind Ki:=rfl
@[simp] theorem KL (a:Ds->Rs (List PyData)) (δ:Ds):gLR a δ=(a δ).bind uc:=rfl
@[simp] theorem zB (a:Ds->Rs (List PyData)) (δ:Ds):iG a δ=(a δ).bind pL:=rfl
@[simp] theorem K2 (ds:List PyData):pL [.list ds]=.ok (iw ds):=rfl
@[simp] theorem yZ (ds:List PyData):pL [.tuple ds]=.ok (iw ds):=rfl
@[simp] theorem Ku (f f':PyData->PyData->Option PyData) (a b c:Ds->Rs PyData) (δ:Ds):mj f f' a b c δ=(a δ).bind fun x=>(b δ).bind fun y=>(Rs.fc (f x y)).bind fun z=>(truth z).bind fun t=>if t=true then (c δ).bind fun w=>Rs.fc (f' y w) else .ok (.bool false):=rfl
@[simp] theorem mz (δ:Ds):fN δ=.ok none:=rfl
@[simp] theorem uH (g:Ds->Rs PyData) (δ:Ds):jO g δ=(g δ).bind Ci:=rfl
@[simp] theorem uz (i:Int):Ci (.int i)=.ok (some i):=rfl
@[simp] theorem p5 (g:Ds->Rs PyData) (lo hi:Ds->Rs (Option Int)) (δ:Ds):g0 g lo hi δ=(g δ).bind fun d=>(lo δ).bind fun l=>(hi δ).bind fun h=>Rs.fc (Ep d l h):=rfl
@[simp] theorem K9 (x:List PyData) (lo hi:Option Int):Ep (.list x) lo hi=some (.list (cutD x lo hi)):=rfl
@[simp] theorem xa (x:List PyData) (lo hi:Option Int):Ep (.tuple x) lo hi=some (.tuple (cutD x lo hi)):=rfl
@[simp] theorem aN (a b:Ds->Sr) (δ:Ds):az a b δ=match a δ with | .nx δ'=>b δ' | r=>r:=rfl
@[simp] theorem eM (δ:Ds):aY δ=.nx δ:=rfl
@[simp] theorem cJ (c:Ds->Rs Bool) (a b:Ds->Sr) (δ:Ds):sIf c a b δ=ofR (c δ) fun t=>if t=true then a δ else b δ:=rfl
@[simp] theorem bW (g:Ds->Rs PyData) (δ:Ds):bj g δ=ofR (g δ) .rt:=rfl
@[simp] theorem om (g:Ds->Rs PyData) (δ:Ds):jF g δ=ofR (g δ) fun _=>.nx δ:=rfl
@[simp] theorem ik (i:Nat) (g:Ds->Rs PyData) (δ:Ds):aL [] i g δ=if i<δ.length then ofR (g δ) fun d=>.nx (δ.set i (some d)) else .no:=by unfold aL;rw [lW]
@[simp] theorem J8 (C:Addr) (gs:Ds->Rs (List PyData)) (δ:Ds):jd C gs δ=ofR (gs δ) fun _=>.rz C:=rfl
theorem kF (O:List Nat) (src:Ds->Rs (List PyData)) (tgt:PyData->Ds->Option Ds) (body:Ds->Sr) (δ:Ds):fz O src tgt body δ=ofR (src (mask O δ)) fun ds=>forL tgt body ds δ:=rfl
@[simp] theorem aU (d:PyData):bc (.rt d)=.ok d:=rfl
@[simp] theorem JC (δ:Ds):bc (.nx δ)=.ok .none:=rfl
@[simp] theorem JE (C:Addr):bc (.rz C)=.rz C:=rfl
@[simp] theorem JF:bc .no=.no:=rfl
@[simp] theorem d6 (a b:Int):ba (.int a) (.int b)=some (.int (a+b)):=rfl
@[simp] theorem nv (a b:Int):gj (.int a) (.int b)=some (.int (a-b)):=rfl
@[simp] theorem rg (a b:Int):eK (.int a) (.int b)=if 0<b then some (.int (a % b)) else none:=rfl
@[simp] theorem v5 (a b:Int):iJ (.int a) (.int b)=if 0<b/\b<1073741824 then some (.int (a / b)) else none:=rfl
@[simp] theorem G7 (a b:Int):dLt (.int a) (.int b)=some (.bool (decide (a<b))):=rfl
@[simp] theorem Hw (a b:Int):dLe (.int a) (.int b)=some (.bool (decide (a<=b))):=rfl
@[simp] theorem EN (a b:Int):dGt (.int a) (.int b)=some (.bool (decide (b<a))):=rfl
@[simp] theorem LG (a b:Int):dGe (.int a) (.int b)=some (.bool (decide (b<=a))):=rfl
@[simp] theorem GS (a:Int):mP (.int a)=some (.int (-a)):=rfl
@[simp] theorem DN (d:PyData):mK d=some (.bool (eN d)):=rfl
@[simp] theorem uo (d:PyData):hZ d=some (.bool (!eN d)):=rfl
@[simp] theorem pZ:eN .none=true:=rfl
@[simp] theorem sJ (i:Int):eN (.int i)=false:=rfl
@[simp] theorem vK (x:List PyData) (i:Int):dIx (.tuple x) (.int i)=atI x i:=rfl
@[simp] theorem BM (x:List PyData) (i:Int):dIx (.list x) (.int i)=atI x i:=rfl
@[simp] theorem Cv (x:List PyData):b8 [.tuple x]=some (.int x.length):=rfl
@[simp] theorem jI (x:List PyData):b8 [.list x]=some (.int x.length):=rfl
@[simp] theorem yo (a b:Int):kC [.int a,.int b]=some (.int (if b<a then b else a)):=rfl
@[simp] theorem CV (a b:Int):iO [.int a,.int b]=some (.int (if b>a then b else a)):=rfl
@[simp] theorem Hl (b:Bool):Ap [.bool b]=some (.int (if b then 1 else 0)):=rfl
@[simp] theorem uf (x:List PyData):fi [.list x]=some (.tuple x):=rfl
@[simp] theorem Ln (x:List PyData):fi [.tuple x]=some (.tuple x):=rfl
@[simp] theorem jq (a b:Int):dEq (.int a) (.int b)=some (.bool (a==b)):=by
 have h:∀ i:Int,PySem.SeqAt.shaped (.int i)=true:=fun i=>by simp [PySem.SeqAt.shaped,PyData.canLay0,PyData.depth]
 unfold dEq;rw [h,h];simp [aH,PyData.eqv]
@[simp] theorem KA (a b:Int):dNe (.int a) (.int b)=some (.bool (!(a==b))):=by
 have h:∀ i:Int,PySem.SeqAt.shaped (.int i)=true:=fun i=>by simp [PySem.SeqAt.shaped,PyData.canLay0,PyData.depth]
 unfold dNe;rw [h,h];simp [aH,PyData.eqv]
theorem mh {xs:List α} {i:Int} (h:i=j):atI xs i=xs[j]?:=by
 subst h;unfold atI ixN;by_cases z:(j:Int)<xs.length
 ·rw [if_pos (by omega),if_pos z];simp
 ·rw [if_pos (by omega),if_neg z];simp;omega
@[simp] theorem LH (xs:List α):atI xs 0=xs[0]?:=mh (j:=0) rfl
@[simp] theorem LF (xs:List α):atI xs 1=xs[1]?:=mh (j:=1) rfl
@[simp] theorem LI (xs:List α):atI xs 2=xs[2]?:=mh (j:=2) rfl
@[simp] theorem LD (xs:List α):atI xs 3=xs[3]?:=mh (j:=3) rfl
theorem j9 (xs:List α):atI xs (-1)=xs.getLast?:=by
 unfold atI ixN;rw [if_neg (by decide)];by_cases z:xs=[]
 ·subst z;rfl
 ·have:0<xs.length:=MJ.mpr z;rw [if_pos (by omega),List.getLast?_eq_getElem?];simp only [N4];congr 1;omega
theorem iH (g:α->Bool) (xs:List α):nV [.list (xs.map fun d=>.bool (g d))]=some (.bool (xs.all g)):=by
 have hb:iB (xs.map fun d=>PyData.bool (g d))=some (xs.map g):=by rw [show (xs.map fun d=>PyData.bool (g d))=(xs.map g).map PyData.bool by rw [LW];rfl];exact pO _
 show (iB (xs.map fun d=>PyData.bool (g d))).map (fun ns=>PyData.bool (ns.all id))=_;rw [hb,MF,List.all_map];rfl
theorem u0 (g:α->Int) (xs:List α):qD [.list (xs.map fun d=>.int (g d))]=some (.int (xs.map g).sum):=by
 have hb:fG (xs.map fun d=>PyData.int (g d))=some (xs.map g):=by rw [show (xs.map fun d=>PyData.int (g d))=(xs.map g).map PyData.int by rw [LW];rfl];exact eX _
 show (fG (xs.map fun d=>PyData.int (g d))).map (fun ns=>PyData.int ns.sum)=_;rw [hb,MF]
theorem comp_map {elt:Ds->Rs PyData} {δ:Ds} {f:PyData->PyData}:∀ (ds:List PyData),(∀ d∈ds,elt (δ++[some d])=.ok (f d))->eZ bA elt aI δ ds=.ok (ds.map f)
 | [],_=>rfl
 | d::r,h=>by unfold eZ;simp only [aI,bA,Rs.dk,Rs.ag,if_true,h d L6,comp_map r fun e he=>h e (L4 _ he),L5]
theorem cu {elt:Ds->Rs PyData} {f:PyData->PyData} (hn:δ.length=n0) (hs:src δ=.ok ds) (hl:ds.length<=1000000) (h:∀ d∈ds,elt (δ++[some d])=.ok (f d)) :
  a8 n0 src bA elt aI δ=.ok (ds.map f):=by
 unfold a8;rw [if_pos hn,hs];simp only [Rs.ag,if_pos hl];exact comp_map ds h
theorem i9:∀ {ds:List PyData},dm ds=true->∀ d∈ds,aH d=true
 | [],_,d,hd=>by cases hd
 | e::r,h,d,hd=>by
  unfold dm at h;obtain ⟨h1,h2⟩:=Mu.mp h;rcases L7.mp hd with z | z
  ·rw [z];exact h1
  ·exact i9 h2 d z
theorem eu (h:aH (.tuple ds)=true):∀ d∈ds,aH d=true:=by unfold aH at h;exact i9 h
def aO:Gf
 | [d,.int a,.int b]=>if aH d then .ok (.bool (isWhole d a b)) else .no
 | _=>.no
theorem n8 {f:PyData->Int->Int->Rs PyData} (h:(match ds with | [x0,.int x1,.int x2]=>f x0 x1 x2 | _=>.no)≠.no):∃ x0 x1 x2,ds=[x0,.int x1,.int x2]/\f x0 x1 x2≠.no:=by
 rcases ds with _ | ⟨x0,_ | ⟨x1,_ | ⟨x2,_ | ⟨y,ys⟩⟩⟩⟩
 ·exact absurd rfl h
 ·exact absurd rfl h
 ·first | exact absurd rfl h | (cases x1 <;> exact absurd rfl h)
 ·skip
  cases x1 with
  | int x1 =>
   cases x2 with
   | int x2 =>exact ⟨_,_,_,rfl,h⟩
   | _=>exact absurd rfl h
  | _=>first | exact absurd rfl h | (cases x2 <;> exact absurd rfl h)
 ·first | exact absurd rfl h | (cases x1 <;> first | exact absurd rfl h | (cases x2 <;> exact absurd rfl h))
abbrev LLq (G:Ds->Sr) (n k:Nat) (g:Gf):Prop:=∀ ds,ds.length=n->g ds≠.no->bc (G (ds.map some++List.replicate k none))=g ds
theorem xU (cs:Cs):LLq (iY cs) 3 0 aO:=by
 intro ds hl hne;obtain ⟨d,a,b,ez,hz⟩:=n8 hne;clear hne;subst ez;have hne:=hz;clear hz;unfold aO
 ·skip
  split at hne
  ·rename_i hd;simp only [hd,if_true];cases d with
   | int i=>by_cases h:a<=i <;> simp [iY,kM,hd,tT,tyD,isWhole,h]
   | dict _=>simp [aH] at hd
   | _=>simp [iY,kM,hd,tT,tyD,isWhole]
  ·exact absurd rfl hne
def a9:Gf
 | [d,.int a,.int b]=>if aH d then .ok (.bool (cj d a b)) else .no
 | _=>.no
theorem xk (cs:Cs):LLq (jf cs) 3 0 a9:=by
 intro ds hl hne;obtain ⟨d,a,b,ez,hz⟩:=n8 hne;clear hne;subst ez;have hne:=hz;clear hz;unfold a9
 ·skip
  split at hne
  ·rename_i hd;simp only [hd,if_true];cases d with
   | tuple x=>by_cases h:a<=(x.length:Int) <;> simp [jf,kM,hd,tT,tyD,cj,h]
   | dict _=>simp [aH] at hd
   | _=>simp [jf,kM,hd,tT,tyD,cj]
  ·exact absurd rfl hne
def gy (g:PyData->Bool):Gf
 | [d]=>if aH d then .ok (.bool (g d)) else .no
 | _=>.no
theorem qz (h:gy g ds≠.no):∃ d,ds=[d]/\aH d=true/\gy g ds=.ok (.bool (g d)):=by
 unfold gy at h ⊢;split at h
 ·rename_i d;split at h
  ·rename_i hd;exact ⟨d,rfl,hd,by simp [hd]⟩
  ·exact absurd rfl h
 ·exact absurd rfl h
theorem qd {d:PyData} (h:aH d=true):gy g [d]=.ok (.bool (g d)):=by unfold gy;simp [h]
@[simp] theorem JD {d:PyData} (h:aH d=true):a9 [d,.int a,.int b]=.ok (.bool (cj d a b)):=by unfold a9;simp [h]
@[simp] theorem wd {d:PyData} (h:aH d=true):aO [d,.int a,.int b]=.ok (.bool (isWhole d a b)):=by unfold aO;simp [h]
theorem vT {d:PyData} (h:cj d 2 2=true):∃ a b,d=.tuple [a,b]:=by
 cases d with
 | tuple ds =>
  simp [cj] at h
  match ds,h with
  | [a,b],_=>exact ⟨a,b,rfl⟩
  | [],h=>simp at h
  | [_],h=>simp at h
  | _::_::_::_,h=>simp at h;omega
 | _=>cases h
theorem A5 (cs:Cs):LLq (gP cs aO a9) 1 0 (gy c8):=by
 intro ds hl hne;obtain ⟨d,rfl,hd,e⟩:=qz hne;rw [e];cases e1:cj d 2 2 with
 | false =>
  have:c8 d=false:=by
   unfold c8;split
   ·simp [cj] at e1
   ·rfl
  simp [gP,hd,e1,this]
 | true =>
  obtain ⟨a,b,rfl⟩:=vT e1;have ha:=eu hd a (by simp);have hb:=eu hd b (by simp);cases e2:isWhole a 1 20 with
  | false=>simp [gP,hd,ha,e1,e2,c8]
  | true =>
   cases b with
   | none=>simp [gP,hd,ha,e1,e2,c8]
   | _=>simp [gP,hd,ha,hb,e1,e2,c8,eN]
theorem wg (cs:Cs):LLq (f6 cs a9 (gy c8)) 1 0 (gy dS):=by
 intro ds hl hne;obtain ⟨d,rfl,hd,e⟩:=qz hne;rw [e];cases e1:cj d 1 4 with
 | false =>
  have:dS d=false:=by
   cases d with
   | tuple ds =>simp only [cj,Ms,decide_eq_false_iff_not] at e1;simp only [dS,Ms,decide_eq_false_iff_not];refine .inl (.inl ?_);omega
   | _=>rfl
  simp [f6,hd,e1,this]
 | true =>
  obtain ⟨xs,rfl⟩:∃ ds,d=.tuple ds:=by cases d <;> first | exact ⟨_,rfl⟩ | cases e1
  have hn:1<=xs.length/\xs.length<=4:=by simp only [cj,L8,decide_eq_true_eq] at e1;omega
  have hc:a8 1 (bG (af 0)) bA (aq (gy c8) (ae (af 1) ah)) aI [some (.tuple xs)]=.ok (xs.map fun d=>.bool (c8 d)) :=
   cu rfl rfl (by omega) fun d hd'=>by simp [qd (eu hd d hd')]
  have hf:=iH c8 xs;cases e2:xs.all c8 with
  | false=>simp [f6,hd,e1,hc,hf,e2,dS]
  | true =>
   have hne:xs≠[]:=by intro z;subst z;simp at hn
   have hl2:xs.getLast?=some (xs.getLast hne):=List.getLast?_eq_some_getLast hne;have hp:=LU.mp e2 _ (List.getLast_mem hne);obtain ⟨a,b,eab⟩:∃ a b,xs.getLast hne=.tuple [a,b]:=by
    revert hp;generalize xs.getLast hne=z;intro hp;unfold c8 at hp;split at hp
    ·exact ⟨_,_,rfl⟩
    ·cases hp
   rw [eab] at hl2;have hln:iS xs=eN b:=by unfold iS;rw [hl2];cases b <;> rfl
   simp [f6,hd,e1,hc,hf,e2,dS,j9,hl2,hln,hn.1,hn.2]
theorem uw {d:PyData} (h:cj d 4 4=true):∃ a b c e,d=.tuple [a,b,c,e]:=by
 cases d with
 | tuple ds =>
  simp [cj] at h
  match ds,h with
  | [a,b,c,e],_=>exact ⟨a,b,c,e,rfl⟩
  | [],h=>simp at h
  | [_],h=>simp at h
  | [_,_],h=>simp at h
  | [_,_,_],h=>simp at h
  | _::_::_::_::_::_,h=>simp at h;omega
 | _=>cases h
theorem dh {d:PyData} (h:isWhole d a b=true):∃ i,d=.int i/\a<=i/\i<=b:=by
 cases d with
 | int i=>simp [isWhole] at h;exact ⟨i,rfl,h⟩
 | _=>cases h
theorem oP {a b c e:PyData} (h:isWhole a 2 60=false):bP (.tuple [a,b,c,e])=false:=by
 cases a with
 | int i =>
  cases c with
  | int l =>simp only [isWhole,Ms,decide_eq_false_iff_not] at h;simp only [bP,Ms,decide_eq_false_iff_not];omega
  | _=>rfl
 | _=>rfl
theorem qK {b c e:PyData} {i:Int} (h:isWhole c 0 (if i-1<20 then i-1 else 20)=false):bP (.tuple [.int i,b,c,e])=false:=by
 cases c with
 | int l =>simp only [isWhole,Ms,decide_eq_false_iff_not] at h;simp only [bP,Ms,decide_eq_false_iff_not];exact .inl (.inl (.inr h))
 | _=>rfl
theorem qP {b e:PyData} {i l:Int} (h1:2<=i/\i<=60) (h2:0<=l/\l<=if i-1<20 then i-1 else 20):bP (.tuple [.int i,b,.int l,e])=(isWhole b 1 (i-l)&&dS e):=by simp [bP,h1.1,h1.2,h2.1,h2.2]
theorem wa (cs:Cs):LLq (dX cs aO (gy dS) a9) 1 3 (gy bP):=by
 intro ds hl hne;obtain ⟨d,rfl,hd,e⟩:=qz hne;rw [e];cases e1:cj d 4 4 with
 | false =>
  have:bP d=false:=by
   unfold bP;split
   ·simp [cj] at e1
   ·rfl
  simp [dX,hd,e1,this]
 | true =>
  obtain ⟨a,b,c,q,rfl⟩:=uw e1;have ha:=eu hd a (by simp);have hb:=eu hd b (by simp);have hc:=eu hd c (by simp);have he:=eu hd q (by simp);cases e2:isWhole a 2 60 with
  | false=>simp [dX,hd,ha,hb,hc,he,e1,e2,oP e2]
  | true =>
   obtain ⟨i,rfl,i1,i2⟩:=dh e2;cases e3:isWhole c 0 (if i-1<20 then i-1 else 20) with
   | false=>simp [dX,hd,ha,hb,hc,he,e1,e2,e3,qK e3]
   | true =>
    obtain ⟨l,rfl,l1,l2⟩:=dh e3;have er:=qP (b:=b) (e:=q) ⟨i1,i2⟩ ⟨l1,l2⟩;cases e4:isWhole b 1 (i-l) with
    | false=>simp [dX,hd,ha,hb,hc,he,e1,e2,e3,e4,er]
    | true=>simp [dX,hd,ha,hb,hc,he,e1,e2,e3,e4,er,qd he]
def br (cs:Cs):Gf
 | [d]=>if aH d then (if c7 d then .ok d else .rz cs.NoErrands) else .no
 | _=>.no
theorem AS (cs:Cs):LLq (iK cs a9 (gy bP)) 1 0 (br cs):=by
 intro ds hl hne;obtain ⟨d,rfl⟩:∃ d,ds=[d]:=by
  match ds,hl with
  | [d],_=>exact ⟨d,rfl⟩
 have hd:aH d=true:=by
  unfold br at hne;by_cases z:aH d=true
  ·exact z
  ·simp [z] at hne
 have eg:br cs [d]=if c7 d then .ok d else .rz cs.NoErrands:=by unfold br;simp [hd]
 rw [eg];cases e1:cj d 1 6 with
 | false =>
  have:c7 d=false:=by
   cases d with
   | tuple ds =>simp only [cj,Ms,decide_eq_false_iff_not] at e1;simp only [c7,Ms,decide_eq_false_iff_not];refine .inl ?_;omega
   | _=>rfl
  simp [iK,hd,e1,this]
 | true =>
  obtain ⟨xs,rfl⟩:∃ ds,d=.tuple ds:=by cases d <;> first | exact ⟨_,rfl⟩ | cases e1
  have hn:1<=xs.length/\xs.length<=6:=by simp only [cj,L8,decide_eq_true_eq] at e1;omega
  have hc:a8 1 (bG (af 0)) bA (aq (gy bP) (ae (af 1) ah)) aI [some (.tuple xs)]=.ok (xs.map fun d=>.bool (bP d)) :=
   cu rfl rfl (by omega) fun d hd'=>by simp [qd (eu hd d hd')]
  have hf:=iH bP xs;cases e2:xs.all bP with
  | false=>simp [iK,hd,e1,hc,hf,e2,c7]
  | true=>simp [iK,hd,e1,hc,hf,e2,c7,hn.1,hn.2]
theorem jj {β:Type} {tgt:PyData->Ds->Option Ds} {body:Ds->Sr} (inv:Nat->Ds->Prop):∀ (ds:List PyData) (k:Nat),(∀ (i:Nat) d δ,ds[i]?=some d->inv (k+i) δ->∃ δ1 δ2,tgt d δ=some δ1/\body δ1=.nx δ2/\inv (k+i+1) δ2) ->
  ∀ δ,inv k δ->∃ δ',forL tgt body ds δ=.nx δ'/\inv (k+ds.length) δ'
 | [],k,_,δ,h=>⟨δ,rfl,h⟩
 | d::r,k,hs,δ,h=>by
  obtain ⟨δ1,δ2,e1,e2,h2⟩:=hs 0 d δ rfl h;obtain ⟨δ',e3,h3⟩:=jj (β:=β) inv r (k+1) (fun i x δ hx hi=>by have:=hs (i+1) x δ (by simpa using hx) (by rw [show k+(i+1)=k+1+i by omega];exact hi);rw [show k+1+i+1=k+(i+1)+1 by omega];exact this) δ2 h2
  exact ⟨δ',by unfold forL;rw [e1];simp only [e2];exact e3,by rw [LS,show k+(r.length+1)=k+1+r.length by omega];exact h3⟩
def CY:PyData->Option Int
 | .int i=>some i
 | _=>none
def bQ:PyData->Int×Option Int
 | .tuple [.int l,t]=>(l,CY t)
 | _=>(0,none)
def deE:PyData->Er
 | .tuple [.int e,.int d,.int l,.tuple ps]=>⟨e,d,l,ps.map bQ⟩
 | _=>⟨0,0,0,[]⟩
theorem rO (e:Int) (d:Int) (l:Int) (ps:List PyData):deE (.tuple [.int e,.int d,.int l,.tuple ps])=⟨e,d,l,ps.map bQ⟩:=rfl
def cQ:PyData->List Er
 | .tuple ds=>ds.map deE
 | _=>[]
theorem wL (o:Option Int):CY (bg o)=o:=by cases o <;> rfl
theorem ft (p:Int×Option Int):bQ (aJ p)=p:=by obtain ⟨l,t⟩:=p;simp [aJ,bQ,wL]
theorem vz (e:Er):deE e.d=e:=by
 obtain ⟨a,b,c,ps⟩:=e;simp [Er.d,rO,LW]
 conv=>rhs;rw [<-MA ps]
 exact LY fun p _=>ft p
theorem eW (es:List Er):cQ (aw es)=es:=by
 simp [aw,cQ,LW]
 conv=>rhs;rw [<-MA es]
 exact LY fun e _=>vz e
theorem part_of {d:PyData} (h:c8 d=true):aJ (bQ d)=d/\1<=(bQ d).1/\(bQ d).1<=20/\∀ t,(bQ d).2=some t->0<=t/\t<=3:=by
 unfold c8 at h;split at h
 ·rename_i a b;rw [L8] at h;obtain ⟨i,rfl,h1,h2⟩:=dh h.1;have hb:=h.2;cases b with
  | none=>exact ⟨rfl,h1,h2,fun t q=>by cases q⟩
  | int t =>obtain ⟨t',q,h3,h4⟩:=dh hb;cases q;exact ⟨rfl,h1,h2,fun t q=>by cases q;exact ⟨h3,h4⟩⟩
  | _=>cases hb
 ·cases h
theorem qW {d:PyData} (h:bP d=true):(deE d).d=d/\(deE d).Ok:=by
 unfold bP at h;split at h
 ·rename_i e du l ps;simp only [L8,decide_eq_true_eq] at h;obtain ⟨⟨⟨⟨h1,h2⟩,h3,h4⟩,h5⟩,h6⟩:=h;obtain ⟨du,rfl,d1,d2⟩:=dh h5;unfold dS at h6;split at h6
  ·rename_i ps;simp only [L8,decide_eq_true_eq] at h6;obtain ⟨⟨⟨p1,p2⟩,p3⟩,p4⟩:=h6;have pa:=LU.mp p3;have l4:l<=20/\l<e:=by split at h4 <;> omega
   refine ⟨?_,?_⟩
   ·have em:ps.map (aJ∘bQ)=ps:=by
     conv=>rhs;rw [<-MA ps]
     exact LY fun p hp=>(part_of (pa p hp)).1
    simp only [rO,Er.d,LW,em]
   ·refine ⟨h1,h2,h3,l4.1,l4.2,d1,d2,fun z=>?_,by simpa [rO] using p2,fun p hp=>?_,fun p hp=>?_⟩
    ·have:ps=[]:=by simpa [rO] using z
     subst this;simp at p1
    ·obtain ⟨q,hq,rfl⟩:=L9.mp (show p∈ps.map bQ from hp);exact (part_of (pa q hq)).2
    ·have hp:(ps.map bQ).getLast?=some p:=hp;rw [Nk] at hp;unfold iS at p4;cases q:ps.getLast? with
     | none=>rw [q] at hp;cases hp
     | some z =>
      rw [q] at hp p4;simp at hp;split at p4
      ·rename_i a heq;cases heq;subst hp;unfold bQ;split
       ·rename_i l t e1;injection e1 with e1;injection e1 with _ e1;injection e1 with e1 _
        rw [<-e1];rfl
       ·rfl
      ·cases p4
  ·cases h6
 ·cases h
theorem xC {d:PyData} (h:c7 d=true):aw (cQ d)=d/\1<=(cQ d).length/\(cQ d).length<=6/\∀ e∈cQ d,e.Ok:=by
 unfold c7 at h;split at h
 ·rename_i ds;simp only [L8,decide_eq_true_eq] at h;obtain ⟨⟨h1,h2⟩,h3⟩:=h;have pa:=LU.mp h3;refine ⟨?_,by simpa [cQ] using h1,by simpa [cQ] using h2,fun e he=>?_⟩
  ·simp only [cQ,aw,LW];congr 1
   conv=>rhs;rw [<-MA ds]
   exact LY fun p hp=>(qW (pa p hp)).1
  ·obtain ⟨q,hq,rfl⟩:=L9.mp (show e∈ds.map deE from he);exact (qW (pa q hq)).2
 ·cases h
def deI:PyData->Int
 | .int i=>i
 | _=>0
def cq:PyData->List Int
 | .tuple ds=>ds.map deI
 | _=>[]
def au (ns:List Int):PyData:=.tuple (ns.map .int)
theorem dY (ns:List Int):cq (au ns)=ns:=by
 simp [au,cq,LW]
 conv=>rhs;rw [<-MA ns]
 exact LY fun _ _=>rfl
def dR (n:Nat):PyData->Bool
 | .tuple ds=>decide (ds.length=n)&&ds.all (fun d=>isWhole d 0 ((n:Int)-1))&&decide (ds.map deI).Nodup
 | _=>false
structure cf (n:Nat) (rs:List Int):Prop where
 len:rs.length=n
 rng:∀ r∈rs,0<=r/\r<n
 nd:rs.Nodup
theorem lY {n:Nat} {d:PyData} (h:dR n d=true):au (cq d)=d/\cf n (cq d):=by
 unfold dR at h;split at h
 ·rename_i ds;simp only [L8,decide_eq_true_eq] at h;obtain ⟨⟨h1,h2⟩,h3⟩:=h;have pa:=LU.mp h2;refine ⟨?_,by simpa [cq] using h1,fun r hr=>?_,h3⟩
  ·simp only [cq,au,LW];congr 1
   conv=>rhs;rw [<-MA ds]
   refine LY fun p hp=>?_
   obtain ⟨i,rfl,_⟩:=dh (pa p hp);rfl
  ·obtain ⟨q,hq,rfl⟩:=L9.mp (show r∈ds.map deI from hr);obtain ⟨i,rfl,a,b⟩:=dh (pa q hq);exact ⟨a,by show i<n;omega⟩
 ·cases h
theorem gY {n:Nat} (h:cf n rs):dR n (au rs)=true:=by
 have e:(rs.map PyData.int).map deI=rs:=by
  rw [LW];conv=>rhs;rw [<-MA rs]
  exact LY fun _ _=>rfl
 unfold dR au;simp only [L3,h.len,decide_true,Nm,e,h.nd,N7];rw [LU];intro d hd;obtain ⟨r,hr,rfl⟩:=L9.mp hd;have:=h.rng r hr;simp [isWhole,this.1];omega
theorem ml:∀ (l acc:List Int),acc.Nodup->((l.foldl PyProof.Rows.step_dedup acc).length<=acc.length+l.length)/\((l.foldl PyProof.Rows.step_dedup acc).length=acc.length+l.length↔(acc++l).Nodup)
 | [],acc,h=>by simpa using h
 | x::r,acc,h=>by
  rw [MX];by_cases z:acc.any (·==x)=true
  ·have e:PyProof.Rows.step_dedup acc x=acc:=by unfold PyProof.Rows.step_dedup;rw [if_pos z]
   rw [e];have:=ml r acc h;refine ⟨by rw [LS];omega,fun q=>?_,fun q=>?_⟩
   ·rw [LS] at q;omega
   ·exfalso;obtain ⟨y,hy,ey⟩:=Nq.mp z;have:y=x:=by simpa using ey
    subst this;rw [NF] at q;exact q.2.2 y hy y L6 rfl
  ·have e:PyProof.Rows.step_dedup acc x=acc++[x]:=by unfold PyProof.Rows.step_dedup;rw [if_neg z]
   have hx:x∉acc:=fun q=>z (Nq.mpr ⟨x,q,by simp⟩)
   have hn:(acc++[x]).Nodup:=by rw [NF];exact ⟨h,by simp,fun a ha b hb=>by rw [LM.mp hb];rintro rfl;exact hx ha⟩
   rw [e];have:=ml r (acc++[x]) hn;rw [LL,M9,Mp] at this;refine ⟨by rw [LS];omega,?_⟩;rw [LS,show acc.length+(r.length+1)=acc.length+1+r.length by omega];exact this.2
theorem xr (ns:List Int):((seen ns ns.length).length:Int)<ns.length↔¬ ns.Nodup:=by
 have e:(List.range ns.length).map (fun i=>ns.getD i 0)=ns:=by
  apply List.ext_getElem?;intro i;rw [LQ];by_cases h:i<ns.length
  ·rw [Na h,L1 h];simp [M1,L1 h]
  ·rw [N2 (by simpa using h),N2 (by simpa using h)];rfl
 have:=ml ns [] List.nodup_nil;unfold seen PyProof.Rows.firstMet;rw [e];simp only [ME,MT,Ma] at this;constructor
 ·intro h q;have:=this.2.mpr q;omega
 ·intro h;have h1:=this.1;have h2:¬ (List.foldl PyProof.Rows.step_dedup [] ns).length=ns.length:=fun q=>h (this.2.mp q)
  omega
def aW (cs:Cs):Gf
 | [.tuple es,r]=>if aH r&&decide (es.length<=100) then (if dR es.length r then .ok r else .rz cs.NoRanks) else .no
 | _=>.no
theorem CI {f:List PyData->PyData->Rs PyData} (h:(match ds with | [.tuple x0,x1]=>f x0 x1 | _=>.no)≠.no):∃ x0 x1,ds=[.tuple x0,x1]/\f x0 x1≠.no:=by
 rcases ds with _ | ⟨x0,_ | ⟨x1,_ | ⟨y,ys⟩⟩⟩
 ·exact absurd rfl h
 ·first | exact absurd rfl h | (cases x0 <;> exact absurd rfl h)
 ·skip
  cases x0 with
  | tuple x0 =>exact ⟨_,_,rfl,h⟩
  | _=>exact absurd rfl h
 ·first | exact absurd rfl h | (cases x0 <;> exact absurd rfl h)
theorem nR (cs:Cs):LLq (cM cs a9 aO) 2 1 (aW cs):=by
 intro ds hl hne;obtain ⟨es,r,ez,hz⟩:=CI hne;clear hne;subst ez;have hne:=hz;clear hz;unfold aW
 ·skip
  split at hne
  ·rename_i hh;simp only [hh,if_true];rw [L8,decide_eq_true_eq] at hh;obtain ⟨hd,h100⟩:=hh;cases e1:cj r es.length es.length with
   | false =>
    have:dR es.length r=false:=by
     cases r with
     | tuple xs =>
      have:xs.length≠es.length:=fun q=>by simp [cj,q] at e1
      simp [dR,this]
     | _=>rfl
    simp [cM,hd,e1,this]
   | true =>
    obtain ⟨xs,rfl⟩:∃ ds,r=.tuple ds:=by cases r <;> first | exact ⟨_,rfl⟩ | cases e1
    have hn:xs.length=es.length:=by simp only [cj,L8,decide_eq_true_eq] at e1;omega
    have hc:a8 3 (bG (af 1)) bA (aq aO (ae (af 3) (ae (gC (.int 0)) (ae (af 2) ah)))) aI [some (.tuple es),some (.tuple xs),some (.int ((es.length:Int)-1))]=.ok (xs.map fun d=>.bool (isWhole d 0 ((es.length:Int)-1))) :=
     cu rfl rfl (by omega) fun d hd'=>by simp [eu hd d hd']
    have hf:=iH (fun d=>isWhole d 0 ((es.length:Int)-1)) xs;cases e2:xs.all (fun d=>isWhole d 0 ((es.length:Int)-1)) with
    | false=>simp [cM,hd,e1,hc,hf,e2,dR]
    | true =>
     have pa:=LU.mp e2;have ei:xs=(xs.map deI).map PyData.int:=by
      rw [LW]
      conv=>lhs;rw [<-MA xs]
      refine LY fun p hp=>?_
      obtain ⟨i,rfl,_⟩:=dh (pa p hp);rfl
     have hs:lQ [.tuple xs]=some (.int (seen (xs.map deI) (xs.map deI).length).length):=by
      unfold lQ
      conv=>lhs;rw [ei]
      simp only [eX,N4];rw [if_pos (by simp;omega)]
     have hsn:=xr (xs.map deI);have hml:(xs.map deI).length=es.length:=by rw [L3];exact hn
     rw [hml] at hs hsn;by_cases hnd:(xs.map deI).Nodup
     ·have h2:¬ (seen (xs.map deI) es.length).length<es.length:=fun q=>hsn.mp (by omega) hnd
      simp [cM,hd,e1,hc,hf,e2,hs,hn,h2,dR,hnd]
     ·have h2:(seen (xs.map deI) es.length).length<es.length:=by have:=hsn.mpr hnd;omega
      simp [cM,hd,e1,hc,hf,e2,hs,hn,h2,dR,hnd]
  ·exact absurd rfl hne
def jA:PyData->Bool
 | .tuple [.int l,b]=>decide (0<=l)&&decide (l<=1000000)&&(match b with | .none=>true | .int t=>decide (0<=t)&&decide (t<=3) | _=>false)
 | _=>false
def t9:PyData->Bool
 | .tuple [.int e,.int _,.int l,.tuple ps]=>decide (1<=e)&&decide (e<1073741824)&&decide (-1000000000<=l)&&decide (l<=1000000000)&&decide (ps.length<=1000)&&ps.all jA
 | _=>false
def pG:PyData->Bool
 | .tuple ds=>decide (ds.length<=100)&&ds.all t9
 | _=>false
structure Er.Sh (e:Er):Prop where
 e1:1<=e.every
 e2:e.every<1073741824
 l1:-1000000000<=e.late
 l2:e.late<=1000000000
 pn:e.parts.length<=1000
 pl:∀ p∈e.parts,0<=p.1/\p.1<=1000000/\∀ t,p.2=some t->0<=t/\t<=3
theorem rj {d:PyData} (h:jA d=true):aJ (bQ d)=d/\0<=(bQ d).1/\(bQ d).1<=1000000/\∀ t,(bQ d).2=some t->0<=t/\t<=3:=by
 unfold jA at h;split at h
 ·rename_i l b;simp only [L8,decide_eq_true_eq] at h;obtain ⟨⟨h1,h2⟩,h3⟩:=h;cases b with
  | none=>exact ⟨rfl,h1,h2,fun t q=>by cases q⟩
  | int t =>simp only [L8,decide_eq_true_eq] at h3;exact ⟨rfl,h1,h2,fun t q=>by cases q;exact h3⟩
  | _=>cases h3
 ·cases h
theorem sE {d:PyData} (h:t9 d=true):(deE d).d=d/\(deE d).Sh:=by
 unfold t9 at h;split at h
 ·rename_i e du l ps;simp only [L8,decide_eq_true_eq] at h;obtain ⟨⟨⟨⟨⟨h1,h2⟩,hl1⟩,hl2⟩,h3⟩,h4⟩:=h;have pa:=LU.mp h4;have em:ps.map (aJ∘bQ)=ps:=by
   conv=>rhs;rw [<-MA ps]
   exact LY fun p hp=>(rj (pa p hp)).1
  refine ⟨by simp only [rO,Er.d,LW,em],h1,h2,hl1,hl2,by simpa [rO] using h3,fun p hp=>?_⟩;obtain ⟨q,hq,rfl⟩:=L9.mp (show p∈ps.map bQ from hp);exact (rj (pa q hq)).2
 ·cases h
theorem lE (h:e.Sh):t9 e.d=true:=by
 unfold t9 Er.d;simp only [h.e1,h.e2,h.l1,h.l2,decide_true,Nm,L3,h.pn];rw [LU];intro d hd;obtain ⟨p,hp,rfl⟩:=L9.mp hd;obtain ⟨a,b,c⟩:=h.pl p hp;obtain ⟨l,t⟩:=p;cases t with
 | none=>simp at a b;simp [jA,aJ,bg,a,b]
 | some t=>have:=c t rfl;simp at a b;simp [jA,aJ,bg,a,b,this.1,this.2]
theorem Er.Ok.sh (h:e.Ok):e.Sh:=⟨by have:=h.e1;omega,by have:=h.e2;omega,by have:=h.l1;omega,by have:=h.l2;omega,by have:=h.p2;omega,fun p hp=>by obtain ⟨a,b,c⟩:=h.pl p hp;exact ⟨by omega,by omega,c⟩⟩
theorem wK {d:PyData} (h:pG d=true):aw (cQ d)=d/\(cQ d).length<=100/\∀ e∈cQ d,e.Sh:=by
 unfold pG at h;split at h
 ·rename_i ds;simp only [L8,decide_eq_true_eq] at h;have pa:=LU.mp h.2;refine ⟨?_,by simpa [cQ] using h.1,fun e he=>?_⟩
  ·simp only [cQ,aw,LW];congr 1
   conv=>rhs;rw [<-MA ds]
   exact LY fun p hp=>(sE (pa p hp)).1
  ·obtain ⟨q,hq,rfl⟩:=L9.mp (show e∈ds.map deE from he);exact (sE (pa q hq)).2
 ·cases h
theorem oK (h1:es.length<=100) (h:∀ e∈es,e.Sh):pG (aw es)=true:=by unfold pG aw;simp only [L3,h1,decide_true,Nm];rw [LU];intro d hd;obtain ⟨e,he,rfl⟩:=L9.mp hd;exact lE (h e he)
def Er.work (e:Er):Int:=(e.parts.map (·.1)).sum
def Er.has (e:Er) (t:Int):Bool:=e.parts.any fun p=>p.2==some t
def er0:Er:=⟨1,1,0,[]⟩
def aS (es:List Er) (n:Int):Er:=es.getD n.toNat er0
def hts (es:List Er):List Int->Int->Int->Option Int
 | [],_,_=>none
 | r::rs,k,t=>if (aS es r).has t then some k else hts es rs (k+1) t
def bE (es:List Er) (rs:List Int) (t:Int):Option Int:=hts es rs 0 t
def placeOf (rs:List Int) (n:Int):Nat:=rs.findIdx (·==n)
def iV (es:List Er) (rs:List Int) (pl:Int) (acc:Int) (p:Int×Option Int):Int:=match p.2 with
 | some t=>(match bE es rs t with
  | some h=>if h<=pl then max acc (p.1-1) else acc
  | none=>acc)
 | none=>acc
def gp (es:List Er) (rs:List Int) (n:Int):Int:=(((rs.drop (placeOf rs n+1)).map fun m=>(aS es m).parts).flatten).foldl (iV es rs (placeOf rs n)) 0
def Er.times (e:Er) (t:Int):Int:=(t+e.late) / e.every+(if (t+e.late) % e.every>0 then 1 else 0)
def eV (es:List Er) (rs:List Int) (n t:Int):Int:=gp es rs n+(aS es n).work+((rs.take (placeOf rs n)).map fun m=>(aS es m).times t*(aS es m).work).sum
def e9 (es:List Er) (rs:List Int) (n:Int):Option Int:=((List.range ((aS es n).every-(aS es n).late).toNat).map fun (i:Nat)=>(1+(i:Int))).find? fun t=>decide (eV es rs n t<=t)
theorem jT (h0:0<=n) (h1:n<es.length):es[n.toNat]?=some (aS es n):=by unfold aS;rw [M1,L1 (by omega)];rfl
theorem bV (h0:0<=n) (h1:n<es.length):aS es n∈es:=Mi (jT h0 h1)
theorem ij (h0:0<=n) (h1:n<es.length):atI (es.map Er.d) n=some (aS es n).d:=by rw [mh (j:=n.toNat) (by omega),LQ,jT h0 h1];rfl
def cn:Gf
 | [d]=>if t9 d then .ok (.int (deE d).work) else .no
 | _=>.no
theorem gW (h:e.Sh):cn [e.d]=.ok (.int e.work):=by unfold cn;simp [lE h,vz]
theorem Di (p:Int×Option Int):dIx (aJ p) (.int 0)=some (.int p.1):=rfl
theorem BN (p:Int×Option Int):dIx (aJ p) (.int 1)=some (bg p.2):=rfl
theorem FO (e:Er):dIx e.d (.int 3)=some (.tuple (e.parts.map aJ)):=rfl
theorem Kg {f:PyData->Rs PyData} (h:(match ds with | [x0]=>f x0 | _=>.no)≠.no):∃ x0,ds=[x0]/\f x0≠.no:=by
 rcases ds with _ | ⟨x0,_ | ⟨y,ys⟩⟩
 ·exact absurd rfl h
 ·skip
  exact ⟨_,rfl,h⟩
 ·exact absurd rfl h
theorem xT (cs:Cs):LLq (oR cs) 1 0 cn:=by
 intro ds hl hne;obtain ⟨d,ez,hz⟩:=Kg hne;clear hne;subst ez;have hne:=hz;clear hz
 ·skip
  split at hne
  ·rename_i hd;obtain ⟨e1,sh⟩:=sE hd;rw [<-e1];generalize deE d=e at sh;rw [gW sh];have hc:a8 1 (bG (g2 dIx (af 0) (gC (.int 3)))) bA (g2 dIx (af 1) (gC (.int 0))) aI [some e.d]=.ok ((e.parts.map aJ).map fun d=>.int (bQ d).1) :=
    cu rfl (by simp [FO]) (by have:=sh.pn;simp;omega) fun d hd'=>by obtain ⟨p,hp,rfl⟩:=L9.mp hd';simp [Di,ft]
   have hm:((e.parts.map aJ).map fun d=>PyData.int (bQ d).1)=e.parts.map fun p=>.int p.1:=by rw [LW];exact LY fun p _=>by simp [ft]
   rw [hm] at hc;simp [oR,hc,u0,Er.work]
  ·exact absurd rfl hne
theorem ye (h:n∈rs):placeOf rs n<rs.length:=List.findIdx_lt_length_of_exists ⟨n,h,by simp⟩
theorem u5:∀ {l m:List Int},l.Nodup->(∀ x∈l,x∈m)->l.length<=m.length
 | [],m,_,_=>Mw _
 | x::r,m,hn,hs=>by
  rw [Mf] at hn;have hx:=hs x L6;have:=u5 (l:=r) (m:=m.erase x) hn.2 fun y hy=>by rw [List.mem_erase_of_ne (by rintro rfl;exact hn.1 hy)];exact hs y (L4 _ hy)
  rw [List.length_erase_of_mem hx] at this;have hp:=List.length_pos_of_mem hx;rw [LS];omega
theorem cf.mem {k:Nat} (h:cf k rs) (h0:0<=n) (h1:n<k):n∈rs:=by
 have base:∀ x:Int,0<=x->x<k->x∈(List.range k).map fun (i:Nat)=>(i:Int):=fun x a b=>L9.mpr ⟨x.toNat,MS.mpr (by omega),by omega⟩
 by_cases z:n∈rs
 ·exact z
 ·exfalso;have:=u5 (l:=n::rs) (m:=(List.range k).map fun (i:Nat)=>(i:Int)) (Mf.mpr ⟨z,h.nd⟩) fun x hx=>by
   rcases L7.mp hx with q | q
   ·rw [q];exact base n h0 h1
   ·have:=h.rng x q;exact base x this.1 this.2
  have hl:=h.len;simp at this;omega
theorem Bn (ns:List Int):(ns.map PyData.int).all gx=true:=by rw [LU];intro d hd;obtain ⟨n,_,rfl⟩:=L9.mp hd;rfl
theorem k9 (n:Int):∀ rs:List Int,n∈rs->(((rs.map PyData.int).map toV).findIdx? fun z=>eqV z (.int n))=some (placeOf rs n)
 | [],h=>by cases h
 | r::rs,h=>by
  have ev:eqV (.int r) (.int n)=(r==n):=rfl;rw [L5,L5,List.findIdx?_cons];unfold placeOf;rw [NG];show (if eqV (.int r) (.int n)=true then some 0 else _)=_;rw [ev];cases hr:r==n with
  | true=>rfl
  | false =>
   have hne:r≠n:=by simpa using hr
   have:=k9 n rs ((L7.mp h).resolve_left fun q=>hne q.symm);rw [if_neg LX,this];rfl
theorem iu (h:n∈rs):mx (rs.map .int) (.int n)=some (.int (placeOf rs n)):=by unfold mx;rw [Bn,show gx (.int n)=true from rfl];simp only [NB,if_true];rw [show toV (.int n)=.int n from rfl,k9 n rs h];rfl
@[simp] theorem tO (go ga:Ds->Rs PyData) (δ:Ds):kI go ga δ=(go δ).bind fun d=>match d with | .tuple xs=>(ga δ).bind fun y=>Rs.fc (mx xs y) | _=>.no:=rfl
theorem CU {k:Nat}:cutD xs (some (k:Int)) none=xs.drop k:=by
 unfold cutD;have e1:HT.sIx xs.length 0 (some (k:Int))=min k xs.length:=HT.zW _ _ _;have e2:HT.sIx xs.length xs.length none=xs.length:=rfl;rw [e1,e2];by_cases h:k<=xs.length
 ·rw [Nat.min_eq_left h];exact List.take_of_length_le (by simp)
 ·rw [Nat.min_eq_right (by omega),List.drop_of_length_le (LK _),List.drop_of_length_le (by omega)];simp
theorem CJ {k:Nat}:cutD xs none (some (k:Int))=xs.take k:=by unfold cutD;have e1:HT.sIx xs.length 0 none=0:=rfl;have e2:HT.sIx xs.length xs.length (some (k:Int))=min k xs.length:=HT.zW _ _ _;rw [e1,e2];simp
theorem oV (es:List Er) (t:Int):∀ (rs:List Int) (k:Int) (m:Int),m∈rs->(aS es m).has t=true->∃ h,hts es rs k t=some h
 | [],_,_,h,_=>by cases h
 | r::rs,k,m,h,ht=>by
  unfold hts;by_cases z:(aS es r).has t=true
  ·exact ⟨k,by rw [if_pos z]⟩
  ·rw [if_neg z];rcases L7.mp h with q | q
   ·subst q;exact absurd ht z
   ·exact oV es t rs (k+1) m q ht
theorem wX (h0:0<=t) (h3:t<=3):atI ((List.range 4).map fun (t:Nat)=>bg (bE es rs t)) t=some (bg (bE es rs t)):=by rw [mh (j:=t.toNat) (by omega),LQ,Na (by omega)];simp only [MF];rw [MK h0]
theorem JA (hp:p∈e.parts) (h:p.2=some t):e.has t=true:=Nq.mpr ⟨p,hp,by simp [h]⟩
theorem pX:∀ (ps:List (Int×Option Int)),(∀ p∈ps,0<=p.1/\p.1<=1000000)->0<=(ps.map (·.1)).sum/\(ps.map (·.1)).sum<=1000000*ps.length
 | [],_=>by simp
 | p::r,h=>by
  have h1:=h p L6;have h2:=pX r fun q hq=>h q (L4 _ hq)
  simp only [L5,Mq,LS];omega
theorem Er.Sh.work_b (h:e.Sh):0<=e.work/\e.work<=1000000000:=by
 have:=pX e.parts fun p hp=>⟨(h.pl p hp).1,(h.pl p hp).2.1⟩
 have h2:=h.pn;unfold Er.work;omega
theorem xv (h1:-(2 ^ 64)<b) (h2:b<2 ^ 64):bY (.int a) (.int b)=some (.int (a*b)):=by show (if _ then _ else _)=_;rw [if_pos (.inr ⟨h1,h2⟩)]
theorem qh (h1:-(2 ^ 64)<a) (h2:a<2 ^ 64):bY (.int a) (.int b)=some (.int (a*b)):=by show (if _ then _ else _)=_;rw [if_pos (.inl ⟨h1,h2⟩)]
def dB (B:Nat) (p:Int->Bool):Option Int:=((List.range B).map fun (i:Nat)=>(1+(i:Int))).find? p
theorem uh (B:Nat) (p:Int->Bool):dB (B+1) p=(dB B p).or (if p (1+(B:Int)) then some (1+(B:Int)) else none):=by unfold dB;rw [List.range_succ,Mm,List.find?_append];congr 1;simp only [L5,Mr,MG,List.find?_nil];cases p (1+(B:Int)) <;> rfl
theorem fj {p:Int->Bool}:∀ {B:Nat} {t:Int},dB B p=some t->1<=t/\t<=B/\p t=true/\∀ s,1<=s->s<t->p s=false
 | 0,t,h=>by cases h
 | B+1,t,h=>by
  rw [uh] at h;cases q:dB B p with
  | some u =>rw [q] at h;cases h;obtain ⟨h1,h2,h3,h4⟩:=fj q;exact ⟨h1,by omega,h3,h4⟩
  | none =>
   rw [q,Option.none_or] at h;split at h
   ·rename_i hp;cases h;refine ⟨by omega,by omega,hp,fun s h1 h2=>?_⟩;unfold dB at q;have:=Nz.mp q s (L9.mpr ⟨(s-1).toNat,MS.mpr (by omega),by omega⟩);simpa using this
   ·cases h
theorem iX {B:Nat} {p:Int->Bool} (h:dB B p=none):∀ s:Int,1<=s->s<=(B:Int)->p s=false:=fun s h1 h2=>by unfold dB at h;have:=Nz.mp h s (L9.mpr ⟨(s-1).toNat,MS.mpr (by omega),by omega⟩);simpa using this
theorem wN {B:Nat} {p:Int->Bool} (h1:1<=t) (h2:t<=B) (h3:p t=true) (h4:∀ s,1<=s->s<t->p s=false):dB B p=some t:=by
 cases q:dB B p with
 | none=>rw [iX q t h1 h2] at h3;cases h3
 | some u =>
  obtain ⟨u1,u2,u3,u4⟩:=fj q;by_cases z:u<t
  ·rw [h4 u u1 z] at u3;cases u3
  ·by_cases z2:t<u
   ·rw [u4 t h1 z2] at h3;cases h3
   ·rw [show u=t by omega]
theorem yl {B:Nat} {p:Int->Bool} (h:∀ s:Int,1<=s->s<=(B:Int)->p s=false):dB B p=none:=by
 cases q:dB B p with
 | none=>rfl
 | some u =>obtain ⟨u1,u2,u3,u4⟩:=fj q;rw [h u u1 u2] at u3;cases u3
theorem lL (es:List Er) (rs:List Int) (n:Int):e9 es rs n=dB ((aS es n).every-(aS es n).late).toNat fun t=>decide (eV es rs n t<=t):=rfl
theorem Er.times_mono (h:1<=e.every) {u:Int} (ht:t<=u):e.times t<=e.times u:=by
 unfold Er.times;have q:=Int.ediv_le_ediv (c:=e.every) (by omega) (show t+e.late<=u+e.late by omega);have r1:=Mt (t+e.late) (b:=e.every) (by omega);have r2:=Mt (u+e.late) (b:=e.every) (by omega);have d1:=Nv (t+e.late) e.every;have d2:=Nv (u+e.late) e.every;by_cases z:(t+e.late) / e.every=(u+e.late) / e.every
 ·rw [<-z] at d2 ⊢;split <;> split <;> omega
 ·split <;> split <;> omega
theorem v9 {α:Type} (f g:α->Int):∀ l:List α,(∀ x∈l,f x<=g x)->(l.map f).sum<=(l.map g).sum
 | [],_=>MQ _
 | x::r,h=>by
  have h1:=h x L6;have h2:=v9 f g r fun y hy=>h y (L4 _ hy)
  simp only [L5,Mq];omega
theorem i6 {α:Type} (f:α->Int):∀ l:List α,(∀ x∈l,0<=f x)->0<=(l.map f).sum
 | [],_=>MQ _
 | x::r,h=>by
  have h1:=h x L6;have h2:=i6 f r fun y hy=>h y (L4 _ hy)
  simp only [L5,Mq];omega
theorem nh {u:Int} (hsh:∀ e∈es,e.Sh) (hr:cf es.length rs) (ht:t<=u):eV es rs n t<=eV es rs n u:=by
 unfold eV;have:=v9 (fun m=>(aS es m).times t*(aS es m).work) (fun m=>(aS es m).times u*(aS es m).work) (rs.take (placeOf rs n)) fun m hm=>by have hm':=hr.rng m (MB hm);have hs:=hsh _ (bV hm'.1 hm'.2);exact Mg (Er.times_mono hs.e1 ht) hs.work_b.1
 omega
structure kJ (f:Int->Int):Prop where
 mono:∀ t u,1<=t->t<=u->f t<=f u
 one:∀ t,1<=t->1<=f t
theorem kJ.fix {f:Int->Int} (R:kJ f) (h1:1<=t) (h:f t<=t) (h4:∀ s,1<=s->s<t->¬ f s<=s):f t=t:=by
 by_cases z:f t<t
 ·exact absurd (R.mono _ _ (R.one t h1) h) (fun q=>h4 (f t) (R.one t h1) z q)
 ·omega
theorem Er.times_pos (h:1<=e.every) (ht:0<=t+e.late):0<=e.times t:=by unfold Er.times;have:=Int.ediv_nonneg ht (show 0<=e.every by omega);split <;> omega
inductive Fa2 {α β:Type} (R:α->β->Prop):List α->List β->Prop where
 | nil:Fa2 R [] []
 | cons {a:α} {b:β} {l:List α} {m:List β} (h:R a b) (t:Fa2 R l m):Fa2 R (a::l) (b::m)
def cnd (es:List Er) (rs:List Int) (pl:Int) (t:Int):Bool:=match bE es rs t with
 | some h=>decide (h<=pl)
 | none=>false
def wo (c:Int->Bool) (acc:Int) (p:Int×Option Int):Int:=match p.2 with
 | some t=>if c t then max acc (p.1-1) else acc
 | none=>acc
theorem va (es:List Er) (rs:List Int) (pl:Int):iV es rs pl=wo (cnd es rs pl):=by
 funext acc p;unfold iV wo cnd;cases p.2 with
 | none=>rfl
 | some t =>
  simp only;cases bE es rs t with
  | none=>rfl
  | some h=>simp
theorem CL {c:Int->Bool} {acc M:Int}:wo c acc p<=M↔acc<=M/\∀ t,p.2=some t->c t=true->p.1-1<=M:=by
 unfold wo;rcases hp:p.2 with _ | t
 ·simp
 ·simp only;cases hc:c t with
  | false=>simp [hc]
  | true =>
   simp only [if_true];constructor
   ·intro h;refine ⟨by omega,fun u hu _=>by cases hu;omega⟩
   ·rintro ⟨h1,h2⟩
    have:=h2 t rfl hc;omega
theorem wu {c:Int->Bool} {M:Int}:∀ (l:List (Int×Option Int)) (acc:Int),l.foldl (wo c) acc<=M↔acc<=M/\∀ p∈l,∀ t,p.2=some t->c t=true->p.1-1<=M
 | [],acc=>by simp
 | p::l,acc=>by
  rw [MX,wu l,CL];constructor
  ·rintro ⟨⟨h1,h2⟩,h3⟩
   exact ⟨h1,fun q hq=>(L7.mp hq).elim (fun z=>by rw [z];exact h2) (h3 q)⟩
  ·rintro ⟨h1,h2⟩
   exact ⟨⟨h1,h2 p L6⟩,fun q hq=>h2 q (L4 _ hq)⟩
theorem Cu (es:List Er) (t:Int):∀ (rs:List Int) (k:Int) (j:Nat),(∃ h,hts es rs k t=some h/\h<=k+j)↔∃ m∈rs.take (j+1),(aS es m).has t=true
 | [],k,j=>by simp [hts]
 | r::rs,k,j=>by
  unfold hts;rw [Nb];by_cases hr:(aS es r).has t=true
  ·rw [if_pos hr];exact ⟨fun _=>⟨r,L6,hr⟩,fun _=>⟨k,rfl,by omega⟩⟩
  ·rw [if_neg hr];cases j with
   | zero =>
    have lo:∀ (rs:List Int) (k:Int) h,hts es rs k t=some h->k<=h:=by
     intro rs
     induction rs with
     | nil=>intro k h e;cases e
     | cons a l ih =>
      intro k h e;unfold hts at e;split at e
      ·cases e;exact MQ _
      ·have:=ih _ _ e;omega
    constructor
    ·rintro ⟨h,e,hl⟩
     have:=lo rs (k+1) h e;omega
    ·rintro ⟨m,hm,hh⟩
     simp at hm;subst hm;exact absurd hh hr
   | succ j =>
    have ih:=Cu es t rs (k+1) j;constructor
    ·rintro ⟨h,e,hl⟩
     obtain ⟨m,hm,hh⟩:=ih.mp ⟨h,e,by omega⟩;exact ⟨m,L4 _ hm,hh⟩
    ·rintro ⟨m,hm,hh⟩
     rcases L7.mp hm with z | z
     ·rw [z] at hh;exact absurd hh hr
     ·obtain ⟨h,e,hl⟩:=ih.mpr ⟨m,z,hh⟩;exact ⟨h,e,by omega⟩
theorem yM {pl:Nat}:cnd es rs (pl:Int) t=true↔∃ m∈rs.take (pl+1),(aS es m).has t=true:=by
 rw [<-Cu es t rs 0 pl];unfold cnd bE;cases hts es rs 0 t with
 | none=>simp
 | some h=>simp
def we (es:List Er) (ms:List Int):List (Int×Option Int):=(ms.map fun m=>(aS es m).parts).flatten
theorem yv {ms:List Int}:p∈we es ms↔∃ m∈ms,p∈(aS es m).parts:=by
 unfold we;rw [List.mem_flatten];constructor
 ·rintro ⟨l,hl,hp⟩
  obtain ⟨m,hm,rfl⟩:=L9.mp hl;exact ⟨m,hm,hp⟩
 ·rintro ⟨m,hm,hp⟩
  exact ⟨_,L9.mpr ⟨m,hm,rfl⟩,hp⟩
theorem sA {M:Int}:gp es rs n<=M↔0<=M/\∀ m∈rs.drop (placeOf rs n+1),∀ p∈(aS es m).parts,∀ t,p.2=some t->(∃ u∈rs.take (placeOf rs n+1),(aS es u).has t=true)->p.1-1<=M:=by
 unfold gp;rw [va,wu];constructor
 ·rintro ⟨h1,h2⟩
  exact ⟨h1,fun m hm p hp t ht hu=>h2 p (yv.mpr ⟨m,hm,hp⟩) t ht (yM.mpr hu)⟩
 ·rintro ⟨h1,h2⟩
  refine ⟨h1,fun p hp t ht hc=>?_⟩;obtain ⟨m,hm,hp⟩:=yv.mp hp;exact h2 m hm p hp t ht (yM.mp hc)
theorem yq {A r:List Int} (h:n∈A):placeOf (A++r) n=placeOf A n:=by
 unfold placeOf
 induction A with
 | nil=>cases h
 | cons a l ih =>
  rw [Mc,NG,NG];cases hn:a==n with
  | true=>rfl
  | false =>
   have hne:a≠n:=by simpa using hn
   rw [cond_false,cond_false,ih ((L7.mp h).resolve_left fun q=>hne q.symm)]
theorem kN (es:List Er) (rs:List Int) (n:Int):0<=gp es rs n:=(sA.mp (MQ _)).1
theorem nN:∀ (ps:List (Int×Option Int)),(∀ p∈ps,0<=p.1)->∀ p∈ps,p.1<=(ps.map (·.1)).sum
 | [],_,p,hp=>by cases hp
 | q::r,h,p,hp=>by
  have h0:=h q L6;have h1:=i6 (fun p:Int×Option Int=>p.1) r fun p hp=>h p (L4 _ hp)
  simp only [L5,Mq];rcases L7.mp hp with rfl | hp
  ·omega
  ·have:=nN r (fun p hp=>h p (L4 _ hp)) p hp;omega
theorem Er.Sh.part_le (h:e.Sh) (hp:p∈e.parts):p.1<=e.work:=nN e.parts (fun p hp=>(h.pl p hp).1) p hp
section
variable {A B:List Int} {x y:Int}
end
theorem Er.Ok.work1 (h:e.Ok):1<=e.work:=by obtain ⟨p,hp⟩:=List.exists_mem_of_ne_nil _ h.p1;have h1:=h.sh.part_le hp;have h2:=(h.pl p hp).1;omega
theorem qI (hok:∀ e∈es,e.Ok) (hr:cf es.length rs) (n0:0<=n) (n1:n<es.length):kJ (eV es rs n) where
 mono:=fun t u _ ht=>nh (fun e he=>(hok e he).sh) hr ht
 one:=fun t ht=>by
  unfold eV;have h1:=kN es rs n;have h2:=(hok _ (bV n0 n1)).work1;have h3:=i6 (fun m=>(aS es m).times t*(aS es m).work) (rs.take (placeOf rs n)) fun m hm=>by have hm':=hr.rng m (MB hm);have ho:=hok _ (bV hm'.1 hm'.2);have l0:=ho.l1;exact Nx (Er.times_pos ho.sh.e1 (by omega)) ho.sh.work_b.1
  omega
section
variable {ot:List Int}
end
def fA:PyData->Option (List Int)
 | .dict [(.none,.list l)]=>fG l
 | _=>none
theorem fM (ns:List Int):fA (ao ns)=some ns:=eX ns
def aj:Gf
 | [s,.int k,.int many]=>(match fA s with
  | some ns=>if 0<=k/\0<many then .ok (.int (mixed ns k many)) else .no
  | none=>.no)
 | _=>.no
theorem cw {k:Int} (h1:0<=k) (h2:0<many):aj [ao ns,.int k,.int many]=.ok (.int (mixed ns k many)):=by unfold aj;simp [fM,h1,h2]
theorem gw (O:List Nat) (i:Nat) (g:Ds->Rs PyData) (δ:Ds):aL O i g δ=if i<δ.length then ofR (g (mask O δ)) fun d=>.nx (δ.set i (some d)) else .no:=rfl
def ck:Gf
 | [s,.int a,.int top,.bool tools]=>(match fA s with
  | some ns=>if 0<=a/\0<top/\top<=58 then .ok (mkE ns a top tools).d else .no
  | none=>.no)
 | _=>.no
theorem iP {top:Int} {tools:Bool} (h1:0<=a) (h2:0<top) (h3:top<=58):ck [ao ns,.int a,.int top,.bool tools]=.ok (mkE ns a top tools).d:=by unfold ck;simp [fM,h1,h2,h3]
theorem Ag (o:Option Int):fg (bg o)=true:=by cases o <;> (unfold bg fg;rfl)
theorem xQ (p:Int×Option Int):fg (aJ p)=true:=by unfold aJ fg kD;rw [show fg (.int p.1)=true by unfold fg;rfl];unfold kD;rw [Ag];unfold kD;rfl
theorem By {i:Int} (h0:0<=i) (h1:i<5):atI [PyData.int 0,PyData.int 1,PyData.int 1,PyData.int 0,PyData.none] i=some (bg (kA i)):=by
 have:i=0\/i=1\/i=2\/i=3\/i=4:=by omega
 rcases this with rfl | rfl | rfl | rfl | rfl <;> rfl
theorem uY (ns:List Int) (a top:Int) (tools:Bool) (ev la du:PyData) (ha:0<=a) (L:List PyData) (hL:L.length<1000) (i:Nat) (x8 x9:Option PyData) :
   az (aL [7] 9 (aq aj (ae (af 0) (ae (g2 ba (g2 ba (af 1) (gC (.int 4))) (af 8)) (ae (gC (.int 40)) ah)))))
   (az (gK [7] 7 (fD (ae (g2 ba (gC (.int 1)) (g2 eK (af 9) (gC (.int 4)))) (ae (g2 dIx (qB (ae (gC (.int 0)) (ae (gC (.int 1)) (ae (gC (.int 1)) (ae (gC (.int 0)) (ae (gC .none) ah)))))) (g2 eK (g2 iJ (af 9) (gC (.int 4))) (gC (.int 5)))) ah))))
   (sIf (gG (gT (af 3))) (qL 7 (g1 mP (gC (.int 1))) (fD (ae (g2 dIx (g2 dIx (af 7) (g1 mP (gC (.int 1)))) (gC (.int 0))) (ae (gC .none) ah)))) aY))
     [some (ao ns),some (.int a),some (.int top),some (.bool tools),some ev,some la,some du,some (.list L),some (.int (0+(i:Int))),x9]
  =.nx [some (ao ns),some (.int a),some (.int top),some (.bool tools),some ev,some la,some du,some (.list (L++[aJ (eS ns (a+4+(i:Int)) tools)])),some (.int (0+(i:Int))),some (.int (mixed ns (a+4+(0+(i:Int))) 40))]:=by
 have hm:=cw (ns:=ns) (k:=a+4+(0+(i:Int))) (many:=40) (by omega) (by decide);have m0:=cz ns (a+4+(0+(i:Int))) (many:=40) (by decide);have m1:=cy ns (a+4+(0+(i:Int))) (many:=40) (by decide);have ek:a+4+(0+(i:Int))=a+4+(i:Int):=by omega
 generalize hc:mixed ns (a+4+(0+(i:Int))) 40=c at *;have q1:0<=c / 4 % 5:=Mt _ (by decide);have q2:c / 4 % 5<5:=MM _ (by decide);have t5:=By q1 q2;have hp:eS ns (a+4+(i:Int)) tools=(1+c % 4,if tools then kA (c / 4 % 5) else none):=by unfold eS;rw [<-ek,hc]
 have s1:aL [7] 9 (aq aj (ae (af 0) (ae (g2 ba (g2 ba (af 1) (gC (.int 4))) (af 8)) (ae (gC (.int 40)) ah)))) [some (ao ns),some (.int a),some (.int top),some (.bool tools),some ev,some la,some du,some (.list L),some (.int (0+(i:Int))),x9]
    =.nx [some (ao ns),some (.int a),some (.int top),some (.bool tools),some ev,some la,some du,some (.list L),some (.int (0+(i:Int))),some (.int c)]:=by
   rw [gw,if_pos (by simp)];simp only [bh,ay,aF,bK,aC (show 0∉[7] by decide),aC (show 1∉[7] by decide),aC (show 8∉[7] by decide),ak,ar,cF,Rs.ag,d6,Rs.ai,hm,av];rfl
 have s2:gK [7] 7 (fD (ae (g2 ba (gC (.int 1)) (g2 eK (af 9) (gC (.int 4)))) (ae (g2 dIx (qB (ae (gC (.int 0)) (ae (gC (.int 1)) (ae (gC (.int 1)) (ae (gC (.int 0)) (ae (gC .none) ah)))))) (g2 eK (g2 iJ (af 9) (gC (.int 4))) (gC (.int 5)))) ah)))
     [some (ao ns),some (.int a),some (.int top),some (.bool tools),some ev,some la,some du,some (.list L),some (.int (0+(i:Int))),some (.int c)]
    =.nx [some (ao ns),some (.int a),some (.int top),some (.bool tools),some ev,some la,some du,some (.list (L++[aJ (1+c % 4,kA (c / 4 % 5))])),some (.int (0+(i:Int))),some (.int c)]:=by
   unfold gK;simp only [MC,MD];simp only [jz,wU,ay,aF,bK,aC (show 9∉[7] by decide),ak,ar,cF,Rs.ag,d6,Rs.ai,rg,v5,if_pos (show (0:Int)<4 by decide),if_pos (show (0:Int)<5 by decide),if_pos (show (0:Int)<4/\(4:Int)<1073741824 by decide),BM,t5,av,if_pos (show L.length<1000000 by omega)];rfl
 rw [aN,s1];simp only;rw [aN,s2];simp only;cases tools with
 | true =>rw [hp];simp
 | false =>
   rw [hp];have hl:atI (L++[aJ (1+c % 4,kA (c / 4 % 5))]) (-1)=some (aJ (1+c % 4,kA (c / 4 % 5))):=by rw [j9];simp
   have hx:ixN (L++[aJ (1+c % 4,kA (c / 4 % 5))]).length (-1)=some L.length:=by unfold ixN;rw [if_neg (by decide),LL,M9,if_pos (by omega)];congr 1;omega
   have hs:(L++[aJ (1+c % 4,kA (c / 4 % 5))]).set L.length (.tuple [.int (1+c % 4),.none])=L++[aJ (1+c % 4,none)]:=by rw [Nu _ _ (LK _)];simp;rfl
   have nl:fg (.tuple [.int (1+c % 4),.none])=true:=xQ (1+c % 4,none);rw [cJ];simp only [tM,dH,ak,ar,Rs.ag,aX,av,Ni,if_true];unfold qL;simp only [MC,MD,jz,ay,aF,bK,f9,ak,ar,cF,Rs.ag,GS,Rs.ai,BM,hl,Di,av,hx,nl,if_true,hs];rfl
theorem j8 {j:Int} (h0:0<=j) (h1:j<1000000):EL [.int j]=.ok (bX 0 j.toNat):=by show (if _ then _ else _)=_;rw [if_pos (by omega)]
theorem gZ {lo:Int} {n:Nat} {d:PyData} (h:(bX lo n)[i]?=some d):i<n/\d=.int (lo+(i:Int)):=by have hi:=(M8.mp h).1;rw [dq] at hi;unfold bX at h;rw [LQ,Na hi] at h;exact ⟨hi,(Option.some.inj h).symm⟩
theorem qu (n:Nat) (g:Nat->α):(List.range (n+1)).map g=(List.range n).map g++[g n]:=by rw [List.range_succ,Mm];rfl
theorem Cr {f:PyData->Int->Int->Bool->Rs PyData} (h:(match ds with | [x0,.int x1,.int x2,.bool x3]=>f x0 x1 x2 x3 | _=>.no)≠.no):∃ x0 x1 x2 x3,ds=[x0,.int x1,.int x2,.bool x3]/\f x0 x1 x2 x3≠.no:=by
 rcases ds with _ | ⟨x0,_ | ⟨x1,_ | ⟨x2,_ | ⟨x3,_ | ⟨y,ys⟩⟩⟩⟩⟩
 ·exact absurd rfl h
 ·exact absurd rfl h
 ·first | exact absurd rfl h | (cases x1 <;> exact absurd rfl h)
 ·first | exact absurd rfl h | (cases x1 <;> first | exact absurd rfl h | (cases x2 <;> exact absurd rfl h))
 ·skip
  cases x1 with
  | int x1 =>
   cases x2 with
   | int x2 =>
    cases x3 with
    | bool x3 =>exact ⟨_,_,_,_,rfl,h⟩
    | _=>exact absurd rfl h
   | _=>first | exact absurd rfl h | (cases x3 <;> exact absurd rfl h)
  | _=>first | exact absurd rfl h | (cases x2 <;> first | exact absurd rfl h | (cases x3 <;> exact absurd rfl h))
 ·first | exact absurd rfl h | (cases x1 <;> first | exact absurd rfl h | (cases x2 <;> first | exact absurd rfl h | (cases x3 <;> exact absurd rfl h)))
theorem tw (cs:Cs):LLq (gJ cs aj) 4 6 ck:=by
 intro ds hl hne;obtain ⟨s,a,top,tools,ez,hz⟩:=Cr hne;clear hne;subst ez;have hne:=hz;clear hz
 ·skip
  split at hne
  ·rename_i ns hs;have es:s=ao ns:=by
    unfold fA at hs;split at hs
    ·rename_i l;rw [dW hs];rfl
    ·cases hs
   subst es;split at hne
   ·rename_i hc;obtain ⟨ha,ht,ht2⟩:=hc;rw [iP ha ht ht2];show bc (gJ cs aj [some (ao ns),some (.int a),some (.int top),some (.bool tools),none,none,none,none,none,none])=_;have hm:∀ k many:Int,0<=k->0<many->aj [ao ns,.int k,.int many]=.ok (.int (mixed ns k many)):=fun k many h1 h2=>cw h1 h2
    have a1:=cz ns a ht;have lb:=pA ns a (3+mixed ns a top) (by omega);have b1:=cz ns (a+1) (many:=4) (by decide);have b2:=cy ns (a+1) (many:=4) (by decide);have n1:=cz ns (a+3) (many:=3) (by decide);have n2:=cy ns (a+3) (many:=3) (by decide);have c1:=cz ns (a+6) (many:=3) (by decide);have c2:=cy ns (a+6) (many:=3) (by decide)
    -- every
    have s1:aL [7] 4 (g2 ba (gC (.int 3)) (aq aj (ae (af 0) (ae (af 1) (ae (af 2) ah))))) [some (ao ns),some (.int a),some (.int top),some (.bool tools),none,none,none,none,none,none]
      =.nx [some (ao ns),some (.int a),some (.int top),some (.bool tools),some (.int (3+mixed ns a top)),none,none,none,none,none]:=by
     rw [gw,if_pos (by simp)];simp only [bh,ay,aF,bK,aC (show 0∉[7] by decide),aC (show 1∉[7] by decide),aC (show 2∉[7] by decide),ak,ar,cF,Rs.ag,hm a top ha ht,d6,Rs.ai,av];rfl
    generalize hev:3+mixed ns a top=ev at *;have evp:3<=ev:=by omega
    have s2:aL [7] 5 (g2 bY (aq aj (ae (af 0) (ae (g2 ba (af 1) (gC (.int 1))) (ae (gC (.int 4)) ah)))) (gF Ap (ae (g2 dEq (aq aj (ae (af 0) (ae (g2 ba (af 1) (gC (.int 2))) (ae (gC (.int 3)) ah)))) (gC (.int 0))) ah))) [some (ao ns),some (.int a),some (.int top),some (.bool tools),some (.int ev),none,none,none,none,none]
      =.nx [some (ao ns),some (.int a),some (.int top),some (.bool tools),some (.int ev),some (.int (mixed ns (a+1) 4*(if mixed ns (a+2) 3=0 then 1 else 0))),none,none,none,none]:=by
     rw [gw,if_pos (by simp)];simp only [bh,ay,aF,bK,fH,aC (show 0∉[7] by decide),aC (show 1∉[7] by decide),ak,ar,cF,Rs.ag,d6,Rs.ai,hm (a+1) 4 (by omega) (by decide),hm (a+2) 3 (by omega) (by decide),jq,Hl];rw [qh (by omega) (by omega)];simp only [Rs.ai,av,beq_iff_eq];rfl
    have s3:aL [7] 5 (gF kC (ae (af 5) (ae (g2 gj (af 4) (gC (.int 1))) ah))) [some (ao ns),some (.int a),some (.int top),some (.bool tools),some (.int ev),some (.int (mixed ns (a+1) 4*(if mixed ns (a+2) 3=0 then 1 else 0))),none,none,none,none]
      =.nx [some (ao ns),some (.int a),some (.int top),some (.bool tools),some (.int ev),some (.int (iE ns a ev)),none,none,none,none]:=by
     rw [gw,if_pos (by simp)];simp only [fH,ay,aF,bK,aC (show 4∉[7] by decide),aC (show 5∉[7] by decide),ak,ar,cF,Rs.ag,nv,Rs.ai,yo,av];rfl
    generalize hla:iE ns a ev=la at *;have s4:aL [7] 6 (g2 gj (af 4) (af 5)) [some (ao ns),some (.int a),some (.int top),some (.bool tools),some (.int ev),some (.int la),none,none,none,none]
      =.nx [some (ao ns),some (.int a),some (.int top),some (.bool tools),some (.int ev),some (.int la),some (.int (ev-la)),none,none,none]:=by
     rw [gw,if_pos (by simp)];simp only [bK,aC (show 4∉[7] by decide),aC (show 5∉[7] by decide),ak,ar,Rs.ag,nv,Rs.ai,av];rfl
    have s5:sIf (gT (g2 dEq (aq aj (ae (af 0) (ae (g2 ba (af 1) (gC (.int 1))) (ae (gC (.int 3)) ah)))) (gC (.int 0)))) (aL [7] 6 (g2 gj (af 6) (aq aj (ae (af 0) (ae (g2 ba (af 1) (gC (.int 2))) (ae (af 6) ah)))))) aY
        [some (ao ns),some (.int a),some (.int top),some (.bool tools),some (.int ev),some (.int la),some (.int (ev-la)),none,none,none]
      =.nx [some (ao ns),some (.int a),some (.int top),some (.bool tools),some (.int ev),some (.int la),some (.int (nj ns a (ev-la))),none,none,none]:=by
     rw [cJ];simp only [dH,bK,bh,ay,aF,ak,ar,cF,Rs.ag,d6,Rs.ai,hm (a+1) 3 (by omega) (by decide),jq,aX,av];by_cases z:mixed ns (a+1) 3=0
     · rw [if_pos (by simp [z]),gw,if_pos (by simp)];simp only [bh,ay,aF,bK,aC (show 0∉[7] by decide),aC (show 1∉[7] by decide),aC (show 6∉[7] by decide),ak,ar,cF,Rs.ag,d6,Rs.ai,hm (a+2) (ev-la) (by omega) (by omega),nv,av];unfold nj;rw [if_pos z];rfl
     · rw [if_neg (by simp [z])];unfold nj;rw [if_neg z];rfl
    generalize hdu:nj ns a (ev-la)=du at *;have s6:eU [7] 7 ah [some (ao ns),some (.int a),some (.int top),some (.bool tools),some (.int ev),some (.int la),some (.int du),none,none,none]
      =.nx [some (ao ns),some (.int a),some (.int top),some (.bool tools),some (.int ev),some (.int la),some (.int du),some (.list []),none,none]:=rfl
    have src:fX (ae (aq aj (ae (af 0) (ae (g2 ba (af 1) (gC (.int 3))) (ae (gC (.int 3)) ah)))) ah) (mask [7] [some (ao ns),some (.int a),some (.int top),some (.bool tools),some (.int ev),some (.int la),some (.int du),some (.list []),none,none])=.ok (bX 0 (mixed ns (a+3) 3).toNat):=by simp only [kj,bh,ay,aF,bK,aC (show 0∉[7] by decide),aC (show 1∉[7] by decide),ak,ar,cF,Rs.ag,d6,Rs.ai,hm (a+3) 3 (by omega) (by decide)];exact j8 n1 (by omega)
    obtain ⟨δ',e,x8,x9,hδ⟩:=jj (β:=Unit) (tgt:=bw 8) (body:=az (aL [7] 9 (aq aj (ae (af 0) (ae (g2 ba (g2 ba (af 1) (gC (.int 4))) (af 8)) (ae (gC (.int 40)) ah)))))
  (az (gK [7] 7 (fD (ae (g2 ba (gC (.int 1)) (g2 eK (af 9) (gC (.int 4)))) (ae (g2 dIx (qB (ae (gC (.int 0)) (ae (gC (.int 1)) (ae (gC (.int 1)) (ae (gC (.int 0)) (ae (gC .none) ah)))))) (g2 eK (g2 iJ (af 9) (gC (.int 4))) (gC (.int 5)))) ah))))
  (sIf (gG (gT (af 3))) (qL 7 (g1 mP (gC (.int 1))) (fD (ae (g2 dIx (g2 dIx (af 7) (g1 mP (gC (.int 1)))) (gC (.int 0))) (ae (gC .none) ah)))) aY)))
     (fun i δ=>∃ x8 x9,δ=[some (ao ns),some (.int a),some (.int top),some (.bool tools),some (.int ev),some (.int la),some (.int du),some (.list ((List.range i).map fun (k:Nat)=>aJ (eS ns (a+4+(k:Int)) tools))),x8,x9])
     (bX 0 (mixed ns (a+3) 3).toNat) 0 (fun i d δ hi pz4=>by obtain ⟨x8,x9,hx⟩:=pz4;subst hx;rw [MT] at *;obtain ⟨hil,rfl⟩:=gZ hi;refine ⟨[some (ao ns),some (.int a),some (.int top),some (.bool tools),some (.int ev),some (.int la),some (.int du),some (.list ((List.range i).map fun (k:Nat)=>aJ (eS ns (a+4+(k:Int)) tools))),some (.int (0+(i:Int))),x9],_,rfl,uY ns a top tools (.int ev) (.int la) (.int du) ha _ (by simp;omega) i none x9,some (.int (0+(i:Int))),some (.int (mixed ns (a+4+(0+(i:Int))) 40)),?_⟩;rw [qu]) [some (ao ns),some (.int a),some (.int top),some (.bool tools),some (.int ev),some (.int la),some (.int du),some (.list []),none,none] ⟨none,none,rfl⟩
    subst hδ;rw [MT,dq] at e;have hd:(mkE ns a top tools).d=.tuple [.int ev,.int du,.int la,.tuple (((List.range (mixed ns (a+3) 3).toNat).map fun (k:Nat)=>aJ (eS ns (a+4+(k:Int)) tools))++[aJ (1+mixed ns (a+6) 3,none)])]:=by simp only [mkE,Er.d,Mm,LW,hev,hla,hdu];rfl
    rw [hd];simp only [gJ];rw [aN,s1];simp only;rw [aN,s2];simp only;rw [aN,s3];simp only;rw [aN,s4];simp only;rw [aN,s5];simp only;rw [aN,s6];simp only;rw [aN,kF,src,av,e];simp only;simp only [bW,jz,wU,ay,aF,bK,fH,bh,ak,ar,cF,Rs.ag,d6,Rs.ai,hm (a+6) 3 (by omega) (by decide)];have hcat:ba (.list ((List.range (mixed ns (a+3) 3).toNat).map fun (k:Nat)=>aJ (eS ns (a+4+(k:Int)) tools))) (.list [.tuple [.int (1+mixed ns (a+6) 3),.none]])=some (.list (((List.range (mixed ns (a+3) 3).toNat).map fun (k:Nat)=>aJ (eS ns (a+4+(k:Int)) tools))++[aJ (1+mixed ns (a+6) 3,none)])):=by show (if _ then _ else _)=_;rw [if_pos (by simp;omega)];rfl
    rw [hcat];simp
   ·exact absurd rfl hne
  ·exact absurd rfl hne
def bp:Gf
 | [s,.int a,.int most,.int top,.bool tools]=>(match fA s with
  | some ns=>if 0<=a/\0<most/\most<=6/\0<top/\top<=58 then .ok (aw (nP ns a most top tools)) else .no
  | none=>.no)
 | _=>.no
theorem ig {most top:Int} {tools:Bool} (h1:0<=a) (h2:0<most) (h3:most<=6) (h4:0<top) (h5:top<=58):bp [ao ns,.int a,.int most,.int top,.bool tools]=.ok (aw (nP ns a most top tools)):=by unfold bp;simp [fM,h1,h2,h3,h4,h5]
theorem iq {s:PyData} (hs:fA s=some ns):s=ao ns:=by
 unfold fA at hs;split at hs
 ·rename_i l;rw [dW hs];rfl
 ·cases hs
theorem Bd {f:PyData->Int->Int->Int->Bool->Rs PyData} (h:(match ds with | [x0,.int x1,.int x2,.int x3,.bool x4]=>f x0 x1 x2 x3 x4 | _=>.no)≠.no):∃ x0 x1 x2 x3 x4,ds=[x0,.int x1,.int x2,.int x3,.bool x4]/\f x0 x1 x2 x3 x4≠.no:=by
 rcases ds with _ | ⟨x0,_ | ⟨x1,_ | ⟨x2,_ | ⟨x3,_ | ⟨x4,_ | ⟨y,ys⟩⟩⟩⟩⟩⟩
 ·exact absurd rfl h
 ·exact absurd rfl h
 ·first | exact absurd rfl h | (cases x1 <;> exact absurd rfl h)
 ·first | exact absurd rfl h | (cases x1 <;> first | exact absurd rfl h | (cases x2 <;> exact absurd rfl h))
 ·first | exact absurd rfl h | (cases x1 <;> first | exact absurd rfl h | (cases x2 <;> first | exact absurd rfl h | (cases x3 <;> exact absurd rfl h)))
 ·skip
  cases x1 with
  | int x1 =>
   cases x2 with
   | int x2 =>
    cases x3 with
    | int x3 =>
     cases x4 with
     | bool x4 =>exact ⟨_,_,_,_,_,rfl,h⟩
     | _=>exact absurd rfl h
    | _=>first | exact absurd rfl h | (cases x4 <;> exact absurd rfl h)
   | _=>first | exact absurd rfl h | (cases x3 <;> first | exact absurd rfl h | (cases x4 <;> exact absurd rfl h))
  | _=>first | exact absurd rfl h | (cases x2 <;> first | exact absurd rfl h | (cases x3 <;> first | exact absurd rfl h | (cases x4 <;> exact absurd rfl h)))
 ·first | exact absurd rfl h | (cases x1 <;> first | exact absurd rfl h | (cases x2 <;> first | exact absurd rfl h | (cases x3 <;> first | exact absurd rfl h | (cases x4 <;> exact absurd rfl h))))
theorem qN (cs:Cs):LLq (fQ cs ck aj) 5 1 bp:=by
 intro ds hl hne;obtain ⟨s,a,most,top,tools,ez,hz⟩:=Bd hne;clear hne;subst ez;have hne:=hz;clear hz
 ·skip
  split at hne
  ·rename_i ns hs;have es:=iq hs;subst es;split at hne
   ·rename_i hc;obtain ⟨ha,hm1,hm2,ht,ht2⟩:=hc;rw [ig ha hm1 hm2 ht ht2];have hm:=cw (ns:=ns) ha hm1;have m1:=cz ns a hm1;have m2:=cy ns a hm1;have hcm:a8 6 (fX (ae (af 5) ah)) bA (aq ck (ae (af 0) (ae (g2 ba (g2 ba (af 1) (gC (.int 1))) (g2 bY (gC (.int 7)) (af 6))) (ae (af 3) (ae (af 4) ah))))) aI
      [some (ao ns),some (.int a),some (.int most),some (.int top),some (.bool tools),some (.int (1+mixed ns a most))]=.ok ((bX 0 (1+mixed ns a most).toNat).map fun d=>(mkE ns (a+1+7*deI d) top tools).d) :=
     cu rfl (by simp only [kj,ay,aF,ak,ar,Rs.ag];exact j8 (by omega) (by omega)) (by rw [dq];omega) fun d hd=>by obtain ⟨i,hi⟩:=List.getElem?_of_mem hd;obtain ⟨_,rfl⟩:=gZ hi;simp only [Mc,Ma,bh,ay,aF,bK,ak,ar,cF,Rs.ag,d6,Rs.ai];rw [qh (by decide) (by decide)];simp only [Rs.ai,Rs.ag,d6];exact iP (by omega) ht ht2
    have hds:aw (nP ns a most top tools)=.tuple ((bX 0 (1+mixed ns a most).toNat).map fun d=>(mkE ns (a+1+7*deI d) top tools).d):=by
     unfold aw nP bX;rw [LW,LW];congr 1;refine LY fun k _=>?_
     simp [deI]
    rw [hds];show bc (fQ cs ck aj [some (ao ns),some (.int a),some (.int most),some (.int top),some (.bool tools),none])=_;simp only [fQ,aN,ik,LS,ME,Nat.reduceAdd,Nat.reduceLT,if_true,bh,ay,aF,bK,ak,ar,cF,Rs.ag,hm,d6,Rs.ai,av,MY,MZ,bW,fH,nQ,hcm,uf,aU]
   ·exact absurd rfl hne
  ·exact absurd rfl hne
def cC:Gf
 | [d,.int t]=>if t9 d then .ok (.bool ((deE d).has t)) else .no
 | _=>.no
theorem jY (h:e.Sh):cC [e.d,.int t]=.ok (.bool (e.has t)):=by unfold cC;simp [lE h,vz]
theorem wc (t:Int):∀ ps:List (Int×Option Int),inD (.int t) ((ps.map aJ).map fun d=>bg (bQ d).2)=ps.any fun p=>p.2==some t
 | []=>rfl
 | p::r=>by
  have h1:eqV (toV (bg p.2)) (.int t)=(p.2==some t):=by
   rcases hp:p.2 with _ | z
   ·rfl
   ·show (z==t)=(some z==some t)
    simp
  have:=wc t r;unfold inD inV at this ⊢;rw [L5,L5,L5,MW,MW,this,ft];show (eqV (toV (bg p.2)) (.int t) || _)=_;rw [h1]
theorem Ac (ps:List (Int×Option Int)):((ps.map aJ).map fun d=>bg (bQ d).2).all gx=true:=by rw [LU];intro d hd;obtain ⟨n,_,rfl⟩:=L9.mp hd;cases (bQ n).2 <;> rfl
theorem IJ {f:PyData->Int->Rs PyData} (h:(match ds with | [x0,.int x1]=>f x0 x1 | _=>.no)≠.no):∃ x0 x1,ds=[x0,.int x1]/\f x0 x1≠.no:=by
 rcases ds with _ | ⟨x0,_ | ⟨x1,_ | ⟨y,ys⟩⟩⟩
 ·exact absurd rfl h
 ·exact absurd rfl h
 ·skip
  cases x1 with
  | int x1 =>exact ⟨_,_,rfl,h⟩
  | _=>exact absurd rfl h
 ·first | exact absurd rfl h | (cases x1 <;> exact absurd rfl h)
theorem yn (cs:Cs):LLq (jh cs) 2 0 cC:=by
 intro ds hl hne;obtain ⟨d,t,ez,hz⟩:=IJ hne;clear hne;subst ez;have hne:=hz;clear hz
 ·skip
  split at hne
  ·rename_i hd;obtain ⟨e1,sh⟩:=sE hd;rw [<-e1];generalize deE d=e at sh;rw [jY sh];have hc:a8 2 (bG (g2 dIx (af 0) (gC (.int 3)))) bA (g2 dIx (af 2) (gC (.int 1))) aI [some e.d,some (.int t)]=.ok ((e.parts.map aJ).map fun d=>bg (bQ d).2) :=
    cu rfl (by simp [FO]) (by have:=sh.pn;simp;omega) fun d hd'=>by obtain ⟨p,hp,rfl⟩:=L9.mp hd';simp [BN,ft]
   have hi:B8 false (.int t) (.list ((e.parts.map aJ).map fun d=>bg (bQ d).2))=some (.bool (e.has t)):=by show (if (gx (.int t)&&_)=true then some (PyData.bool (if false=true then _ else inD _ _)) else none)=_;rw [Ac,wc];rfl
   show bc (jh cs [some e.d,some (.int t)])=_;simp only [jh,bW,bK,ak,ar,nQ,hc,Rs.ag,hi,Rs.ai,av,aU]
  ·exact absurd rfl hne
def dF:Gf
 | [d,r,.int t]=>if pG d&&dR (cQ d).length r then .ok (bg (bE (cQ d) (cq r) t)) else .no
 | _=>.no
theorem lr (h1:es.length<=100) (h:∀ e∈es,e.Sh) (hr:cf es.length rs):dF [aw es,au rs,.int t]=.ok (bg (bE es rs t)):=by unfold dF;simp [oK h1 h,eW,gY hr,dY]
theorem nu (es:List Er) (hsh:∀ e∈es,e.Sh) (R:PyData) (t:Int):∀ (rs:List Int) (k:Nat) (x3 x4:Option PyData),(∀ m∈rs,0<=m/\m<es.length) ->
   (∃ i,hts es rs k t=some i/\forL (fV [3,4]) (sIf (gT (aq cC (ae (g2 dIx (af 0) (af 4)) (ae (af 2) ah)))) (bj (af 3)) aY) ((rs.map PyData.int).mapIdx fun i d=>.tuple [.int ((k+i:Nat):Int),d]) [some (aw es),some R,some (.int t),x3,x4]=.rt (.int i))
  \/(hts es rs k t=none/\∃ δ,forL (fV [3,4]) (sIf (gT (aq cC (ae (g2 dIx (af 0) (af 4)) (ae (af 2) ah)))) (bj (af 3)) aY) ((rs.map PyData.int).mapIdx fun i d=>.tuple [.int ((k+i:Nat):Int),d]) [some (aw es),some R,some (.int t),x3,x4]=.nx δ)
 | [],k,x3,x4,_=>.inr ⟨rfl,_,rfl⟩
 | m::r,k,x3,x4,hm=>by
   have h0:=hm m L6;have a2:atI (es.map Er.d) m=some (aS es m).d:=ij h0.1 h0.2;have ht:=jY (t:=t) (hsh _ (bV h0.1 h0.2));rw [L5,NL];unfold forL;have e1:fV [3,4] (PyData.tuple [.int ((k+0:Nat):Int),.int m]) [some (aw es),some R,some (.int t),x3,x4]=some [some (aw es),some R,some (.int t),some (.int (k:Int)),some (.int m)]:=rfl;rw [e1];simp only [cJ,dH,bh,ay,aF,bK,ak,ar,Rs.ag,aw,vK,a2,Rs.ai,ht,aX,av,bW,eM];unfold hts;cases hh:(aS es m).has t with
   | true=>exact .inl ⟨k,rfl,rfl⟩
   | false =>
    simp only [M0,if_false];have ih:=nu es hsh R t r (k+1) (some (.int (k:Int))) (some (.int m)) (fun x hx=>hm x (L4 _ hx));rw [show ((k+1:Nat):Int)=(k:Int)+1 by omega] at ih;have ef:(fun (i:Nat) (d:PyData)=>PyData.tuple [.int ((k+(i+1):Nat):Int),d])=fun i d=>.tuple [.int ((k+1+i:Nat):Int),d]:=by funext i d;rw [show k+(i+1)=k+1+i by omega]
    rw [ef];exact ih
theorem i8 {f:PyData->PyData->Int->Rs PyData} (h:(match ds with | [x0,x1,.int x2]=>f x0 x1 x2 | _=>.no)≠.no):∃ x0 x1 x2,ds=[x0,x1,.int x2]/\f x0 x1 x2≠.no:=by
 rcases ds with _ | ⟨x0,_ | ⟨x1,_ | ⟨x2,_ | ⟨y,ys⟩⟩⟩⟩
 ·exact absurd rfl h
 ·exact absurd rfl h
 ·exact absurd rfl h
 ·skip
  cases x2 with
  | int x2 =>exact ⟨_,_,_,rfl,h⟩
  | _=>exact absurd rfl h
 ·first | exact absurd rfl h | (cases x2 <;> exact absurd rfl h)
theorem Dp (cs:Cs):LLq (lI cs cC) 3 2 dF:=by
 intro ds hl hne;obtain ⟨d,r,t,ez,hz⟩:=i8 hne;clear hne;subst ez;have hne:=hz;clear hz
 ·skip
  split at hne
  ·rename_i hc;simp only [L8] at hc;obtain ⟨c1,c2⟩:=hc;obtain ⟨e1,hlen,hsh⟩:=wK c1;obtain ⟨e2,hr⟩:=lY c2;rw [<-e1,<-e2];generalize cQ d=es at *;generalize cq r=rs at *;rw [lr hlen hsh hr];have loop:=nu es hsh (au rs) t rs 0 none none hr.rng;show bc (lI cs cC [some (aw es),some (au rs),some (.int t),none,none])=_;have src:iG (ae (af 1) ah) [some (aw es),some (au rs),some (.int t),none,none]=.ok ((rs.map PyData.int).mapIdx fun i d=>.tuple [.int ((0+i:Nat):Int),d]):=by simp only [zB,ay,aF,ak,ar,Rs.ag,au,yZ,iw,MT]
   simp only [lI];rw [aN,kF,lW,src,av];unfold bE;rcases loop with ⟨i,q1,q2⟩ | ⟨q1,δ,q2⟩
   ·rw [q2];have q1:hts es rs 0 t=some i:=q1;rw [q1];rfl
   ·rw [q2];have q1:hts es rs 0 t=none:=q1;rw [q1];rfl
  ·exact absurd rfl hne
def aZ (es:List Er) (rs:List Int):PyData:=.list ((List.range 4).map fun (t:Nat)=>bg (bE es rs t))
def aR:Gf
 | [d,r]=>if pG d&&dR (cQ d).length r then .ok (aZ (cQ d) (cq r)) else .no
 | _=>.no
theorem fK (h1:es.length<=100) (h:∀ e∈es,e.Sh) (hr:cf es.length rs):aR [aw es,au rs]=.ok (aZ es rs):=by unfold aR;simp [oK h1 h,eW,gY hr,dY]
theorem Je {f:PyData->PyData->Rs PyData} (h:(match ds with | [x0,x1]=>f x0 x1 | _=>.no)≠.no):∃ x0 x1,ds=[x0,x1]/\f x0 x1≠.no:=by
 rcases ds with _ | ⟨x0,_ | ⟨x1,_ | ⟨y,ys⟩⟩⟩
 ·exact absurd rfl h
 ·exact absurd rfl h
 ·skip
  exact ⟨_,_,rfl,h⟩
 ·exact absurd rfl h
theorem uD (cs:Cs):LLq (gN cs dF) 2 0 aR:=by
 intro ds hl hne;obtain ⟨d,r,ez,hz⟩:=Je hne;clear hne;subst ez;have hne:=hz;clear hz
 ·skip
  split at hne
  ·rename_i hc;simp only [L8] at hc;obtain ⟨c1,c2⟩:=hc;obtain ⟨e1,hlen,hsh⟩:=wK c1;obtain ⟨e2,hr⟩:=lY c2;rw [<-e1,<-e2];generalize cQ d=es at *;generalize cq r=rs at *;rw [fK hlen hsh hr];have hh:∀ t:Int,dF [aw es,au rs,.int t]=.ok (bg (bE es rs t)):=fun t=>lr hlen hsh hr
   have hcm:a8 2 (fX (ae (gC (.int 4)) ah)) bA (aq dF (ae (af 0) (ae (af 1) (ae (af 2) ah)))) aI [some (aw es),some (au rs)]=.ok ((bX 0 (4:Int).toNat).map fun x=>bg (bE es rs (deI x))) :=
    cu rfl (by simp only [kj,ay,aF,cF,Rs.ag];exact j8 (by decide) (by decide)) (by rw [dq];decide) fun x hx=>by obtain ⟨i,hi⟩:=List.getElem?_of_mem hx;obtain ⟨_,rfl⟩:=gZ hi;simp only [Mc,Ma,bh,ay,aF,ak,ar,Rs.ag,hh];rfl
   have hd:aZ es rs=.list ((bX 0 (4:Int).toNat).map fun x=>bg (bE es rs (deI x))):=by
    unfold aZ bX;rw [LW];congr 1
    try exact LY fun k _=>by simp [deI]
   rw [hd];show bc (gN cs dF [some (aw es),some (au rs)])=_;simp only [gN,bW,nQ,hcm,Rs.ag,av,aU]
  ·exact absurd rfl hne
def dN (ns:List Int) (a:Int) (many:Nat):Nat->List Int×List Int
 | 0=>((List.range many).map fun (i:Nat)=>(i:Int),[])
 | i+1=>((dN ns a many i).1.eraseIdx (mixed ns (a+(i:Int)) ((dN ns a many i).1.length:Int)).toNat,(dN ns a many i).2++[(dN ns a many i).1.getD (mixed ns (a+(i:Int)) ((dN ns a many i).1.length:Int)).toNat 0])
def nY (ns:List Int) (a:Int) (many:Nat):List Int:=(dN ns a many many).2
theorem pR {α:Type}:∀ (l:List α) (j:Nat) (h:j<l.length),(l[j]::l.eraseIdx j).Perm l
 | [],j,h=>by simp at h
 | x::r,0,h=>by simp
 | x::r,j+1,h=>by
  simp only [List.getElem_cons_succ,List.eraseIdx_cons_succ];have h':j<r.length:=by simpa using h
  exact (List.Perm.swap _ _ _).trans ((pR r j h').cons x)
theorem rq {α β:Type} (f:α->β):∀ (l:List α) (j:Nat),(l.map f).eraseIdx j=(l.eraseIdx j).map f
 | [],j=>by simp
 | x::r,0=>by simp
 | x::r,j+1=>by simp [rq f r j]
theorem qm (ns:List Int) (a:Int) (many:Nat):∀ i,i<=many->(dN ns a many i).1.length=many-i/\(dN ns a many i).2.length=i/\((dN ns a many i).1++(dN ns a many i).2).Perm ((List.range many).map fun (i:Nat)=>(i:Int))
 | 0,_=>⟨by simp [dN],rfl,by simp [dN]⟩
 | i+1,h=>by
  obtain ⟨h1,h2,h3⟩:=qm ns a many i (by omega);simp only [dN];generalize (dN ns a many i).1=L at *;generalize (dN ns a many i).2=M at *;have hL:0<(L.length:Int):=by omega
  have m0:=cz ns (a+(i:Int)) hL;have m1:=cy ns (a+(i:Int)) hL;generalize mixed ns (a+(i:Int)) (L.length:Int)=z at *;have hz:z.toNat<L.length:=by omega
  refine ⟨by rw [List.length_eraseIdx_of_lt hz];omega,by simp [h2],?_⟩;refine List.Perm.trans ?_ h3;rw [M1,L1 hz,Option.getD_some];have p1:(L[z.toNat]::L.eraseIdx z.toNat).Perm L:=pR L z.toNat hz;have p2:(L.eraseIdx z.toNat++(M++[L[z.toNat]])).Perm ((L[z.toNat]::L.eraseIdx z.toNat)++M):=by rw [<-Mp];exact (List.perm_append_singleton _ _)
  exact p2.trans (p1.append_right M)
theorem xq (ns:List Int) (a:Int) (many:Nat):cf many (nY ns a many):=by
 obtain ⟨h1,h2,h3⟩:=qm ns a many many (LK _);unfold nY;have e:(dN ns a many many).1=[]:=MV.mp (by omega);rw [e,Ma] at h3;refine ⟨h2,fun r hr=>?_,h3.nodup_iff.mpr ?_⟩
 ·obtain ⟨k,hk,rfl⟩:=L9.mp (h3.mem_iff.mp hr);have:=MS.mp hk;omega
 ·exact (List.nodup_range).map (f:=fun (i:Nat)=>(i:Int)) fun x y h=>by intro q;have q:(x:Int)=(y:Int):=q;exact h (by omega)
def bT:Gf
 | [s,.int a,.int many]=>(match fA s with
  | some ns=>if 0<=a/\0<=many/\many<=100 then .ok (au (nY ns a many.toNat)) else .no
  | none=>.no)
 | _=>.no
theorem jk (h1:0<=a) (h2:0<=many) (h3:many<=100):bT [ao ns,.int a,.int many]=.ok (au (nY ns a many.toNat)):=by unfold bT;simp [fM,h1,h2,h3]
theorem Aq (ns:List Int) (a:Int) (n i:Nat) (L M:List Int) (ha:0<=a) (hL:0<(L.length:Int)) (hL2:L.length<=100) (hM:M.length<=100) :
   iW 4 3 (aq aj (ae (af 0) (ae (g2 ba (af 1) (af 5)) (ae (gF b8 (ae (af 3) ah)) ah)))) [some (ao ns),some (.int a),some (.int (n:Int)),some (.list (L.map .int)),some (.list (M.map .int)),some (.int (0+(i:Int)))]
  =.nx [some (ao ns),some (.int a),some (.int (n:Int)),some (.list ((L.eraseIdx (mixed ns (a+(i:Int)) (L.length:Int)).toNat).map .int)),some (.list ((M++[L.getD (mixed ns (a+(i:Int)) (L.length:Int)).toNat 0]).map .int)),some (.int (0+(i:Int)))]:=by
 have hm':=cw (ns:=ns) (k:=a+(0+(i:Int))) (many:=(L.length:Int)) (by omega) hL;have m0:=cz ns (a+(i:Int)) hL;have m1:=cy ns (a+(i:Int)) hL;rw [show a+(0+(i:Int))=a+(i:Int) by omega] at hm';generalize mixed ns (a+(i:Int)) (L.length:Int)=z at *;have hz:z.toNat<L.length:=by omega
 have hg:aq aj (ae (af 0) (ae (g2 ba (af 1) (af 5)) (ae (gF b8 (ae (af 3) ah)) ah))) [some (ao ns),some (.int a),some (.int (n:Int)),some (.list (L.map .int)),some (.list (M.map .int)),some (.int (0+(i:Int)))]=.ok (.int z):=by simp only [bh,ay,aF,bK,fH,ak,ar,Rs.ag,d6,Rs.ai,jI,L3];rw [show a+(0+(i:Int))=a+(i:Int) by omega];exact hm'
 have hix:ixN (L.map PyData.int).length z=some z.toNat:=by unfold ixN;rw [if_pos m0,if_pos (by rw [L3];omega)]
 have hat:(L.map PyData.int)[z.toNat]?=some (.int (L.getD z.toNat 0)):=by rw [LQ,L1 hz,M1,L1 hz];rfl
 unfold iW;simp only [MC,MD,hg,av];rw [if_pos (by refine ⟨by omega,by omega,?_⟩;rw [L3];omega)];simp only [hix,hat,MY,MZ,Mm,L5,Mr];rw [rq]
theorem Ak (ns:List Int) (a:Int) (n i:Nat) (ha:0<=a) (hi:i<n) (hn:n<=100) :
   iW 4 3 (aq aj (ae (af 0) (ae (g2 ba (af 1) (af 5)) (ae (gF b8 (ae (af 3) ah)) ah)))) [some (ao ns),some (.int a),some (.int (n:Int)),some (.list ((dN ns a n i).1.map .int)),some (.list ((dN ns a n i).2.map .int)),some (.int (0+(i:Int)))]
  =.nx [some (ao ns),some (.int a),some (.int (n:Int)),some (.list ((dN ns a n (i+1)).1.map .int)),some (.list ((dN ns a n (i+1)).2.map .int)),some (.int (0+(i:Int)))]:=by
 obtain ⟨h1,h2,h3⟩:=qm ns a n i (by omega);simp only [dN];exact Aq ns a n i _ _ ha (by omega) (by omega) (by omega)
theorem rk1 (ns:List Int) (a:Int) (n:Nat) (hm2:(n:Int)<=100):eU [3,4] 3 (gLR (ae (af 2) ah)) [some (ao ns),some (.int a),some (.int (n:Int)),none,none,none]=.nx [some (ao ns),some (.int a),some (.int (n:Int)),some (.list ((dN ns a n 0).1.map .int)),none,none]:=by
 have hg:gLR (ae (af 2) ah) (mask [3,4] [some (ao ns),some (.int a),some (.int (n:Int)),none,none,none])=.ok (bX 0 n):=by simp only [KL,ay,aF,aC (show 2∉[3,4] by decide),ak,ar,Rs.ag];unfold uc;simp only;rw [if_pos (by omega),Mb]
 have he:(dN ns a n 0).1.map PyData.int=bX 0 n:=by
  simp only [dN,bX,LW];refine LY fun k _=>?_
  simp
 rw [he];unfold eU;rw [hg,if_pos (by simp)];simp only [av,MY,MZ]
theorem rk2 (ns:List Int) (a:Int) (n:Nat):eU [3,4] 4 ah [some (ao ns),some (.int a),some (.int (n:Int)),some (.list ((dN ns a n 0).1.map .int)),none,none]=.nx [some (ao ns),some (.int a),some (.int (n:Int)),some (.list ((dN ns a n 0).1.map .int)),some (.list ((dN ns a n 0).2.map .int)),none]:=by unfold eU;rw [if_pos (by simp)];simp only [aF,av,MY,MZ];rfl
theorem rk3 (ns:List Int) (a:Int) (n:Nat) (hm2:(n:Int)<=100):fX (ae (af 2) ah) (mask [3,4] [some (ao ns),some (.int a),some (.int (n:Int)),some (.list ((dN ns a n 0).1.map .int)),some (.list ((dN ns a n 0).2.map .int)),none])=.ok (bX 0 n):=by have hv:ae (af 2) ah (mask [3,4] [some (ao ns),some (.int a),some (.int (n:Int)),some (.list ((dN ns a n 0).1.map .int)),some (.list ((dN ns a n 0).2.map .int)),none])=.ok [.int (n:Int)]:=rfl;have hr:=j8 (j:=(n:Int)) (Ml n) (by omega);rw [Mb] at hr;rw [kj,hv,Rs.ag,hr]
theorem wz (cs:Cs):LLq (ib cs aj) 3 3 bT:=by
 intro ds hl hne;obtain ⟨s,a,many,ez,hz⟩:=n8 hne;clear hne;subst ez;have hne:=hz;clear hz
 ·skip
  split at hne
  ·rename_i ns hs;have es:=iq hs;subst es;split at hne
   ·rename_i hc;obtain ⟨ha,hm,hm2⟩:=hc;rw [jk ha hm hm2];obtain ⟨n,rfl⟩:∃ n:Nat,many=(n:Int):=⟨many.toNat,by omega⟩
    rw [Mb];show bc (ib cs aj [some (ao ns),some (.int a),some (.int (n:Int)),none,none,none])=_;have s1:=rk1 ns a n hm2;have s2:=rk2 ns a n;have src:=rk3 ns a n hm2;obtain ⟨δ',e,x5,hδ⟩:=jj (β:=Unit) (tgt:=bw 5) (body:=iW 4 3 (aq aj (ae (af 0) (ae (g2 ba (af 1) (af 5)) (ae (gF b8 (ae (af 3) ah)) ah)))))
     (fun i δ=>∃ x5,δ=[some (ao ns),some (.int a),some (.int (n:Int)),some (.list ((dN ns a n i).1.map .int)),some (.list ((dN ns a n i).2.map .int)),x5])
     (bX 0 n) 0 (fun i d δ hi pz4=>by obtain ⟨x5,hx⟩:=pz4;subst hx;rw [MT] at *;obtain ⟨hil,rfl⟩:=gZ hi;refine ⟨[some (ao ns),some (.int a),some (.int (n:Int)),some (.list ((dN ns a n i).1.map .int)),some (.list ((dN ns a n i).2.map .int)),some (.int (0+(i:Int)))],_,rfl,?_,some (.int (0+(i:Int))),rfl⟩;exact Ak ns a n i ha hil (by omega)) [some (ao ns),some (.int a),some (.int (n:Int)),some (.list ((dN ns a n 0).1.map .int)),some (.list ((dN ns a n 0).2.map .int)),none] ⟨none,rfl⟩
    subst hδ;rw [MT,dq] at e;simp only [ib];rw [aN,s1];simp only;rw [aN,s2];simp only;rw [aN,kF,src,av,e];simp only;simp only [bW,fH,ay,aF,ak,ar,Rs.ag,uf,Rs.ai,av,aU];rfl
   ·exact absurd rfl hne
  ·exact absurd rfl hne
end RS
namespace RS
open PySem PySem.Spec PyProof.Rows L2
section
theorem yu {k:Nat} {G:Ds->Sr} (F:Fun K x qual st f fd) (S:cX N ps (aE st)) (hO:∀ i∈O,ps.length<=i)
  (body:∀ (cdv:Value) (A:Around) (outer:List Env) (s:Shared) (H:Hp) (E:XK),cx k (A.deeper (envOfC qual (aE st) s.heap.objs.size f cdv))->PBD (cZ (CXW P w) P w K mg base N qual (aE st) f cdv A outer s H E) E O (cm st) G)
  (hg:∀ ds,ds.length=ps.length->gf ds≠.no->bc (G (ds.map some++List.replicate (N.length-ps.length) none))=gf ds):gM P w K mg base (CXW P w) (k+1) f fd ps (spD K ps.length gf):=by
 refine lz F S (fun vs H Q E h=>?_) (fun cdv A outer s H vs Q E hr h=>?_)
 ·obtain ⟨A,ds,hA,hi,hl,o⟩:=h;rw [hi.length,hl]
 ·obtain ⟨A0,ds,hA,hi,hl,o⟩:=h;refine ⟨_,body cdv A outer s H E hr,H,A0,[],_,b0.start hA hi hl hO,?_⟩;have hg':=hg ds hl (fun z=>by rw [z] at o;exact o);cases q:G (ds.map some++List.replicate (N.length-ps.length) none) with
  | rt d=>rw [q] at hg';rw [<-hg'] at o;exact fun v H' s' hv=>o v H' s' hv
  | nx δ=>rw [q] at hg';rw [<-hg'] at o;exact fun A' σ H' R'=>o .non H' R'.same is_none
  | rz C=>rw [q] at hg';rw [<-hg'] at o;exact fun H' s'=>o H' s'
  | bk δ=>rw [q] at hg';rw [<-hg'] at o;exact o.elim
  | ct δ=>rw [q] at hg';rw [<-hg'] at o;exact o.elim
  | no=>rw [q] at hg';rw [<-hg'] at o;exact o.elim
theorem Bu {kV:Value} (X:K.In h) (G:h.Ns mainGlobals mg)
  (hb:∀ (kV doc pm:Value) (an:Option Addr) (cdv ct:Value) (us:List Value),us.length=ps.length->bindArgs (PySem.W.fnOf x x (fk st) (cm st) (aE st) .none kV doc pm an cdv ct) ⟨us,[]⟩=pure (ps.zip us))
  (a:PySem.W.nsIn K mainGlobals x=some (some (.ref f)))
  (l:K.lookup f=some ⟨oc,od,.func (PySem.W.fnOf x x (fk st) (cm st) (aE st) .none kV dc pm an cd ct),sl⟩)
  (c:PySem.W.codeIn K cd x=true) (k:PySem.W.keepIn K (.ref f)=true):bM K mg x st ps :=
 have F:=xW (st:=st) l c k
 ⟨f,_,F,F.binds hb,PySem.W.mg_of X G a⟩
theorem yy (X:K.In h) (G:h.Ns mainGlobals mg) (a:PySem.W.nsIn K mainGlobals x=some (some (.ref C)))
 (e:PySem.W.excIn K C [.type "ValueError",.type "Exception",.type "BaseException",.type "object"] "ValueError.__new__"=true):qM K mg x C:=⟨PySem.W.mg_of X G a,e⟩
theorem Ew {t:_} (X:K.In h) (G:h.Ns mainGlobals mg) (a:PySem.W.nsIn K mainGlobals x=some (some (.int n t))):∃ t,mg x=some (.int n t):=⟨t,PySem.W.mg_of X G a⟩
end
def fO (n:Nat):Gf
 | [s]=>(match fA s with
  | some ns=>if ns.length<=n then .ok (.bool true) else .no
  | none=>.no)
 | _=>.no
theorem J9 {l:PySem.W.OpenLaw} {n k:Nat} {d:DefRec} {K:Params->PySem.W.Frag}
  (hn:l.most=some n) (hn2:n<=sizeLine) (hdf:d.params.defaults=[]) (hr:cx k callerA)
  (hY:∀ (w:World) (h:Heap),YP w h->(K w.params).In h)
  (hb:∀ (kV doc pm:Value) (an:Option Addr) (cdv ct:Value) (us:List Value),us.length=1->bindArgs (PySem.W.fnOf d.name d.name (fk st) (cm st) (aE st) .none kV doc pm an cdv ct) ⟨us,[]⟩=pure ([x].zip us))
  (F:∀ (w:World) (mg:Str->Option Value) (h:Heap),(K w.params).In h->h.Ns mainGlobals mg->
   bM (K w.params) mg d.name st [x]/\∀ f fd,Fun (K w.params) d.name d.name st f fd->∀ base:Heap,(K w.params).In base->base.Ns mainGlobals mg->L2.nM mg base->gM l.prog w (K w.params) mg base (CXW l.prog w) k f fd [x] (spD (K w.params) 1 (fO n)))
  (hTb:∀ (w:World) (h:Heap) (loose':List Str) (mean:ExcName->Option Value) (mg mb:Str->Option Value),PyProof.Rows.Top q loose' mean mg mb h->(K w.params).In h->L2.mJ (K w.params) h:=by exact fun _ _ _ _ _ _ _ _=>L2.tabsIn_nil rfl) :
  PySem.W.WalkO q loose XP YP l.row.toRowW d [] (fun f vs=>PySem.call f vs) :=
 L2.zM (n:=n) (k:=k) (x:=x) (CX:=fun w=>CXW l.prog w) (sp:=fun w=>spD (K w.params) 1 (fO n)) hn hn2 hdf hr hY
  (fun w mg fa h X G hfa=>by obtain ⟨⟨f,fd,F1,b,m⟩,hF⟩:=F w mg h X G;have e:=hfa.symm.trans m;cases e;refine ⟨fd,fun s u=>?_,hF fa fd F1⟩;obtain ⟨oc,od,kV,doc,pm,an,cdv,ct,osl,rfl,lk,hcd⟩:=F1.ex;exact .of_eq (hb kV doc pm an cdv ct [u] rfl))
  (fun w H a ns hl hO hS=>by
   refine ⟨[],[ao ns],?_,?_,rfl,?_⟩
   ·exact Ls.nil
   ·rw [zN];exact ⟨_,[],rfl,AI hS,rfl⟩
   ·have eg:fO n [ao ns]=.ok (.bool true):=by unfold fO;simp [fM,hl]
    rw [eg];intro v H' _ hv;rw [zN] at hv;unfold Is at hv;exact hv)
  (fun w H s e s' qz5=>(by obtain ⟨_,_,_,_,_,_,z,_⟩:=qz5;exact z)) hTb
end RS
namespace RS
open PySem L2
theorem mf:∀ {ds:List PyData},(∀ d∈ds,aH d=true)->dm ds=true
 | [],_=>by unfold dm;rfl
 | d::r,h=>by unfold dm;rw [h d L6,mf fun e he=>h e (L4 _ he)];rfl
theorem g9 (h:∀ d∈ds,aH d=true):aH (.tuple ds)=true:=by unfold aH;exact mf h
theorem eR (h:∀ d∈ds,aH d=true):aH (.list ds)=true:=by unfold aH;exact mf h
theorem gO (i:Int):aH (.int i)=true:=by unfold aH;rfl
theorem sF (o:Option Int):aH (bg o)=true:=by cases o <;> (unfold bg aH;rfl)
theorem w6 (p:Int×Option Int):aH (aJ p)=true:=g9 fun d hd=>by
 rcases L7.mp hd with rfl | hd
 ·exact gO _
 ·cases LM.mp hd;exact sF _
theorem DG (e:Er):aH e.d=true:=g9 fun d hd=>by
 rcases L7.mp hd with rfl | hd
 ·exact gO _
 ·rcases L7.mp hd with rfl | hd
  ·exact gO _
  ·rcases L7.mp hd with rfl | hd
   ·exact gO _
   ·cases LM.mp hd;exact g9 fun d hd=>by obtain ⟨p,_,rfl⟩:=L9.mp hd;exact w6 p
theorem rC (es:List Er):aH (aw es)=true:=g9 fun d hd=>by obtain ⟨p,_,rfl⟩:=L9.mp hd;exact DG p
theorem kP (rs:List Int):∀ d∈rs.map PyData.int,aH d=true:=fun d hd=>by obtain ⟨p,_,rfl⟩:=L9.mp hd;exact gO p
theorem oF (rs:List Int):aH (au rs)=true:=g9 (kP rs)
end RS
namespace RS
open PySem PySem.Spec PyProof.Rows L2
section
theorem tU {xs:List α} {k:Int} {v:α} (h0:0<=k) (h:xs[k.toNat]?=some v):atI xs k=some v:=by
 have:=oh h
 rwa [MK h0] at this
theorem depthAll_ints:∀ ns:List Int,PyData.depthAll (ns.map PyData.int)<=1
 | []=>by simp [PyData.depthAll]
 | n::r=>by have:=depthAll_ints r;simp only [L5,PyData.depthAll,PyData.depth];omega
theorem nA:∀ ns:List Int,PyData.canLayAll0 (ns.map PyData.int)=true
 | []=>by simp [PyData.canLayAll0]
 | n::r=>by simp [PyData.canLayAll0,PyData.canLay0,nA r]
theorem shaped_ints (ns:List Int):SeqAt.shaped (.list (ns.map PyData.int))=true:=by
 have:=depthAll_ints ns;have h2:(PyData.list (ns.map PyData.int)).depth<=64:=by simp only [PyData.depth];omega
 simp [SeqAt.shaped,PyData.canLay0,nA,h2]
theorem w5:SeqAt.shaped (.list [])=true:=shaped_ints []
theorem Dn:∀ ns:List Int,PyData.eqv (.list (ns.map PyData.int)) (.list [])=decide (ns=[])
 | []=>by simp [PyData.eqv,PyData.eqvAll]
 | _::_=>by simp [PyData.eqv,PyData.eqvAll]
def Dl (K:PySem.W.Frag):Sp:=fun vs H Q _=>∃ (a:Addr) (ns:List Int) (k:Int),vs=[.ref a,.int k]/\SqL K H a (ns.map V.int)/\0<=k/\∀ H',ax H H'->Q (.int (cellAt ns k)) H'
def GQ (K:PySem.W.Frag):Sp:=fun vs H Q _=>∃ (a:Addr) (ns:List Int) (k many:Int),vs=[.ref a,.int k,.int many]/\SqL K H a (ns.map V.int)/\0<=k/\0<many/\∀ H',ax H H'->Q (.int (mixed ns k many)) H'
theorem FI (ds:List PyData) (hl:ds.length=3) (hne:aj ds≠.no):∃ d,aj ds=.ok d/\gx d=true/\∀ vs H Q,Iss K H ds vs->(∀ v H',ax H H'->IsD K H' d v->Q v H')->GQ K vs H Q E0:=by
 obtain ⟨s,k,many,ez,hz⟩:=n8 hne;clear hne;subst ez;have hne:=hz;clear hz
 ·skip
  split at hne
  ·rename_i ns hs;have es:=iq hs;subst es;split at hne
   ·rename_i hc;refine ⟨_,cw hc.1 hc.2,rfl,fun vs H Q hi ho=>?_⟩;obtain ⟨v0,r0,rfl,h0,v1,r1,rfl,h1,v2,r2,rfl,h2,rfl⟩:=hi;obtain ⟨a,rfl,hS⟩:=h0.ofScript;rw [h1.ofInt,h2.ofInt];exact ⟨a,ns,k,many,rfl,hS,hc.1,hc.2,fun H' s'=>ho _ _ s' tN⟩
   ·exact absurd rfl hne
  ·exact absurd rfl hne
end
end RS
namespace RS
open PySem L2
variable {h:Int}
def okIn (d r:PyData):Bool:=c7 d&&dR (cQ d).length r
def okN (d r:PyData) (n:Int):Bool:=okIn d r&&decide (0<=n)&&decide (n<(cQ d).length)
def ej:Gf
 | [d,r,.int n]=>if okN d r n then .ok (.int (gp (cQ d) (cq r) n)) else .no
 | _=>.no
def bJ:Gf
 | [d,r,.int n]=>if okN d r n then .ok (bg (e9 (cQ d) (cq r) n)) else .no
 | _=>.no
section
theorem Fo (h1:1<=es.length) (h2:es.length<=6) (h:∀ e∈es,e.Ok) (hr:cf es.length rs):okIn (aw es) (au rs)=true:=by unfold okIn;rw [lh h1 h2 h,eW,gY hr];rfl
theorem wJ (h1:1<=es.length) (h2:es.length<=6) (h:∀ e∈es,e.Ok) (hr:cf es.length rs) (n0:0<=n) (n1:n<es.length):okN (aw es) (au rs) n=true:=by unfold okN;rw [Fo h1 h2 h hr,eW];simp [n0,n1]
theorem pB (h1:1<=es.length) (h2:es.length<=6) (h:∀ e∈es,e.Ok) (hr:cf es.length rs) (n0:0<=n) (n1:n<es.length):ej [aw es,au rs,.int n]=.ok (.int (gp es rs n)):=by unfold ej;simp only [wJ h1 h2 h hr n0 n1,if_true,eW,dY]
theorem iz (h1:1<=es.length) (h2:es.length<=6) (h:∀ e∈es,e.Ok) (hr:cf es.length rs) (n0:0<=n) (n1:n<es.length):bJ [aw es,au rs,.int n]=.ok (bg (e9 es rs n)):=by unfold bJ;simp only [wJ h1 h2 h hr n0 n1,if_true,eW,dY]
end
theorem Du (o:Option Int):dNe (bg o) (bg o)=some (.bool false):=by
 cases o with
 | none =>
  have h:PySem.SeqAt.shaped .none=true:=by simp [PySem.SeqAt.shaped,PyData.canLay0,PyData.depth]
  show dNe .none .none=_;unfold dNe;rw [h];simp [aH,PyData.eqv]
 | some i=>show dNe (.int i) (.int i)=_;simp
theorem nJ {cond:Ds->Rs Bool} {elt:Ds->Rs PyData} {δ:Ds} {p:PyData->Bool}:∀ (ds:List PyData),(∀ d∈ds,cond (δ++[some d])=.ok (p d)/\elt (δ++[some d])=.ok d)->eZ cond elt aI δ ds=.ok (ds.filter p)
 | [],_=>rfl
 | d::r,h=>by
  obtain ⟨h1,h2⟩:=h d L6;have ih:=nJ r fun e he=>h e (L4 _ he)
  unfold eZ;cases hp:p d with
  | true=>simp only [aI,h1,hp,Rs.dk,Rs.ag,if_true,h2,ih,MU]
  | false=>simp only [aI,h1,hp,Rs.dk,Rs.ag,if_false,M0,ih,MU]
theorem lM {elt:Ds->Rs PyData} {p:PyData->Bool} (hn:δ.length=n0) (hs:src δ=.ok ds) (hl:ds.length<=1000000) (h:∀ d∈ds,cond (δ++[some d])=.ok (p d)/\elt (δ++[some d])=.ok d) :
  a8 n0 src cond elt aI δ=.ok (ds.filter p):=by
 unfold a8;rw [if_pos hn,hs];simp only [Rs.ag,if_pos hl];exact nJ ds h
theorem Ie (es:List Er):b8 [aw es]=some (.int (es.length:Int)):=by unfold aw;rw [Cv,L3]
theorem lawT_of {n:Nat} {G:Ds->Sr} {k:Nat} (h:∀ ns:List Int,G (some (ao ns)::List.replicate k none)=.rt (.bool true)):∀ ds,ds.length=1->fO n ds≠.no->bc (G (ds.map some++List.replicate k none))=fO n ds:=by
 intro ds hl hne
 match ds,hl with
 | [s],_ =>
  unfold fO at hne ⊢;simp only at hne ⊢;split at hne
  ·rename_i ns hs;have es:=iq hs;subst es;split at hne
   ·rename_i hc;simp only [fM,if_pos hc];show bc (G (some (ao ns)::List.replicate k none))=_;rw [h];rfl
   ·exact absurd rfl hne
  ·exact absurd rfl hne
theorem Ad (cs:Cs):LLq (qZ cs) 1 0 cn:=xT cs
def bD (cs:Cs):Gf
 | [.tuple es,x]=>if aH x then (if isWhole x 0 ((es.length:Int)-1) then .ok x else .rz cs.NoErrand) else .no
 | _=>.no
theorem mE (cs:Cs):LLq (en cs aO) 2 0 (bD cs):=by
 intro ds hl hne;obtain ⟨es,x,ez,hz⟩:=CI hne;clear hne;subst ez;have hne:=hz;clear hz;unfold bD
 ·skip
  split at hne
  ·rename_i hd;simp only [hd,if_true];cases e:isWhole x 0 ((es.length:Int)-1) with
   | true=>simp [en,hd,e]
   | false=>simp [en,hd,e]
  ·exact absurd rfl hne
theorem mY {d r:PyData} (h:okN d r n=true):∃ es rs,d=aw es/\r=au rs/\cQ d=es/\cq r=rs/\1<=es.length/\es.length<=6/\(∀ e∈es,e.Ok)/\cf es.length rs/\0<=n/\n<es.length:=by unfold okN okIn at h;simp only [L8,decide_eq_true_eq] at h;obtain ⟨⟨⟨c1,c2⟩,n0⟩,n1⟩:=h;obtain ⟨e1,l1,l6,hok⟩:=xC c1;obtain ⟨e2,hr⟩:=lY c2;exact ⟨cQ d,cq r,e1.symm,e2.symm,rfl,rfl,l1,l6,hok,hr,n0,n1⟩
theorem iA (cs:Cs) (h1:1<=es.length) (h2:es.length<=6) (h:∀ e∈es,e.Ok):br cs [aw es]=.ok (aw es):=by unfold br;simp [rC,lh h1 h2 h]
theorem gA (cs:Cs) (h2:es.length<=6) (hr:cf es.length rs):aW cs [aw es,au rs]=.ok (au rs):=by unfold aw aW;simp only [L3,oF,gY hr,Nm,if_true];rw [if_pos (by simp;omega)]
theorem jU (cs:Cs) (n0:0<=n) (n1:n<es.length):bD cs [aw es,.int n]=.ok (.int n):=by unfold aw bD;simp only [gO,if_true,L3,isWhole];rw [if_pos (by simp;omega)]
def bz:Gf
 | [d,r,.int n]=>if okN d r n then .ok .none else .no
 | _=>.no
theorem fm (h1:1<=es.length) (h2:es.length<=6) (h:∀ e∈es,e.Ok) (hr:cf es.length rs) (n0:0<=n) (n1:n<es.length):bz [aw es,au rs,.int n]=.ok .none:=by unfold bz;simp only [wJ h1 h2 h hr n0 n1,if_true]
theorem qO (cs:Cs):LLq (fP cs (bD cs) (aW cs) (br cs)) 3 0 bz:=by
 intro ds hl hne;obtain ⟨d,r,n,ez,hz⟩:=i8 hne;clear hne;subst ez;have hne:=hz;clear hz
 ·skip
  split at hne
  ·rename_i hc;obtain ⟨es,rs,rfl,rfl,_,_,l1,l6,hok,hr,n0,n1⟩:=mY hc;rw [fm l1 l6 hok hr n0 n1];show bc (fP cs (bD cs) (aW cs) (br cs) [some (aw es),some (au rs),some (.int n)])=_;simp [fP,iA cs l1 l6 hok,gA cs l6 hr,jU cs n0 n1]
  ·exact absurd rfl hne
structure Er.Wk (e:Er):Prop where
 sh:e.Sh
 e2:e.every<=60
 l1:0<=e.late
 p2:e.parts.length<=4
 pl:∀ p∈e.parts,1<=p.1/\p.1<=1000000
 p1:e.parts≠[]
theorem Er.Ok.wk (h:e.Ok):e.Wk:=⟨h.sh,h.e2,h.l1,h.p2,fun p hp=>by have:=h.pl p hp;exact ⟨this.1,by omega⟩,h.p1⟩
theorem Er.Wk.work1 (h:e.Wk):1<=e.work:=by obtain ⟨p,hp⟩:=List.exists_mem_of_ne_nil _ h.p1;have h1:=h.sh.part_le hp;have h2:=(h.pl p hp).1;omega
def wkB (e:Er):Bool:=decide (e.every<=60)&&decide (0<=e.late)&&decide (e.parts.length<=4)&&e.parts.all (fun p=>decide (1<=p.1))&&decide (e.parts≠[])
theorem Jo (h:e.Wk):wkB e=true:=by unfold wkB;simp only [L8,decide_eq_true_eq,LU];exact ⟨⟨⟨⟨h.e2,h.l1⟩,h.p2⟩,fun p hp=>(h.pl p hp).1⟩,h.p1⟩
theorem Jt (h:wkB e=true) (hs:e.Sh):e.Wk:=by unfold wkB at h;simp only [L8,decide_eq_true_eq,LU] at h;obtain ⟨⟨⟨⟨a,b⟩,c⟩,d⟩,f⟩:=h;exact ⟨hs,a,b,c,fun p hp=>⟨d p hp,(hs.pl p hp).2.1⟩,f⟩
def wD (d:PyData):Bool:=pG d&&decide (1<=(cQ d).length)&&decide ((cQ d).length<=6)&&(cQ d).all wkB
theorem Br (h1:1<=es.length) (h2:es.length<=6) (h:∀ e∈es,e.Wk):wD (aw es)=true:=by unfold wD;rw [oK (by omega) fun e he=>(h e he).sh,eW];simp only [L8,decide_eq_true_eq,LU];exact ⟨⟨⟨trivial,h1⟩,h2⟩,fun e he=>Jo (h e he)⟩
theorem Hz {d:PyData} (h:wD d=true):aw (cQ d)=d/\1<=(cQ d).length/\(cQ d).length<=6/\∀ e∈cQ d,e.Wk:=by unfold wD at h;simp only [L8,decide_eq_true_eq,LU] at h;obtain ⟨⟨⟨a,b⟩,c⟩,f⟩:=h;obtain ⟨e1,_,hs⟩:=wK a;exact ⟨e1,b,c,fun e he=>Jt (f e he) (hs e he)⟩
def okW (d r:PyData) (n:Int):Bool:=wD d&&dR (cQ d).length r&&decide (0<=n)&&decide (n<(cQ d).length)
theorem mD (h1:1<=es.length) (h2:es.length<=6) (h:∀ e∈es,e.Wk) (hr:cf es.length rs) (n0:0<=n) (n1:n<es.length):okW (aw es) (au rs) n=true:=by unfold okW;rw [Br h1 h2 h,eW,gY hr];simp only [L8,decide_eq_true_eq];exact ⟨⟨⟨trivial,trivial⟩,n0⟩,n1⟩
theorem gQ {d r:PyData} (h:okW d r n=true):∃ es rs,d=aw es/\r=au rs/\cQ d=es/\cq r=rs/\1<=es.length/\es.length<=6/\(∀ e∈es,e.Wk)/\cf es.length rs/\0<=n/\n<es.length:=by unfold okW at h;simp only [L8,decide_eq_true_eq] at h;obtain ⟨⟨⟨c1,c2⟩,n0⟩,n1⟩:=h;obtain ⟨e1,l1,l6,hok⟩:=Hz c1;obtain ⟨e2,hr⟩:=lY c2;exact ⟨cQ d,cq r,e1.symm,e2.symm,rfl,rfl,l1,l6,hok,hr,n0,n1⟩
def hdD (C:Addr) (m k t l:Int):PyData:=Cq C [("number",.int m),("part",.int k),("tool",.int t),("times",.int l)]
def iF (C:Addr) (es:List Er) (rs:List Int) (pl m k:Int) (p:Int×Option Int):List PyData:=match p.2 with
 | some t=>(match bE es rs t with
  | some h=>if h<=pl then [hdD C m k t (p.1-1)] else []
  | none=>[])
 | none=>[]
def hdM (C:Addr) (es:List Er) (rs:List Int) (pl m:Int):Nat->List (Int×Option Int)->List PyData
 | _,[]=>[]
 | k,p::r=>iF C es rs pl m k p++hdM C es rs pl m (k+1) r
def hU (C:Addr) (es:List Er) (rs:List Int) (pl:Int):List Int->List PyData
 | []=>[]
 | m::r=>hdM C es rs pl m 0 (aS es m).parts++hU C es rs pl r
theorem rH (C:Addr) (es:List Er) (rs:List Int) (pl m k:Int) (p:Int×Option Int):(iF C es rs pl m k p).length<=1:=by
 unfold iF;split
 ·split
  ·split <;> simp
  ·simp
 ·simp
theorem tV (C:Addr) (es:List Er) (rs:List Int) (pl m:Int):∀ (ps:List (Int×Option Int)) (k:Nat),(hdM C es rs pl m k ps).length<=ps.length
 | [],_=>by simp [hdM]
 | p::r,k=>by have h1:=rH C es rs pl m k p;have h2:=tV C es rs pl m r (k+1);unfold hdM;rw [LL,LS];omega
abbrev Dw (cs:Cs):Ds->Sr:=gK [5] 5 (aq (sj cs.Holding ["number", "part", "tool", "times"]) (ae (af 6) (ae (af 7) (ae (g2 dIx (af 8) (gC (.int 1))) (ae (g2 gj (g2 dIx (af 8) (gC (.int 0))) (gC (.int 1))) ah)))))
abbrev kS (cs:Cs):Ds->Sr:=sIf (AG (gT (g1 hZ (g2 dIx (af 8) (gC (.int 1))))) (gT (g2 dLe (g2 dIx (af 4) (g2 dIx (af 8) (gC (.int 1)))) (af 3)))) (Dw cs) aY
theorem E3 (cs:Cs) (es:List Er) (rs:List Int) (E R n:PyData) (pl:Nat) (m:Int) (HL:List PyData) (hHL:∀ t:Int,0<=t->t<=3->atI HL t=some (bg (bE es rs t))) (p:Int×Option Int) (k:Nat) (acc:List PyData) (hl:acc.length<1000000) (h:∀ t,p.2=some t->0<=t/\t<=3/\∃ h,bE es rs t=some h) :
  kS cs [some E,some R,some n,some (.int pl),some (.list HL),some (.list acc),some (.int m),some (.int k),some (aJ p)]
   =.nx [some E,some R,some n,some (.int pl),some (.list HL),some (.list (acc++iF cs.Holding es rs pl m k p)),some (.int m),some (.int k),some (aJ p)]:=by
 obtain ⟨l,o⟩:=p;cases o with
 | none=>simp [kS,BN,bg,iF]
 | some t =>
  obtain ⟨h0,h3,hh,ht⟩:=h t rfl;have ha:=hHL t h0 h3;rw [ht] at ha;have e1:dIx (aJ (l,some t)) (.int 1)=some (.int t):=rfl;have e0:dIx (aJ (l,some t)) (.int 0)=some (.int l):=rfl;have hix:dIx (.list HL) (.int t)=some (.int hh):=ha;have add:Dw cs [some E,some R,some n,some (.int pl),some (.list HL),some (.list acc),some (.int m),some (.int k),some (aJ (l,some t))]=.nx [some E,some R,some n,some (.int pl),some (.list HL),some (.list (acc++[hdD cs.Holding m k t (l-1)])),some (.int m),some (.int k),some (aJ (l,some t))]:=by unfold Dw gK;simp only [MC,MD];simp only [bh,ay,aF,bK,aC (show 6∉[5] by decide),aC (show 7∉[5] by decide),aC (show 8∉[5] by decide),ak,ar,cF,Rs.ag,e1,e0,nv,Rs.ai];have hm:sj cs.Holding ["number", "part", "tool", "times"] [.int m,.int (k:Int),.int t,.int (l-1)]=.ok (hdD cs.Holding m k t (l-1)):=rfl;rw [hm,av,if_pos hl];rfl
  have hst:iF cs.Holding es rs pl m k (l,some t)=if hh<=(pl:Int) then [hdD cs.Holding m k t (l-1)] else []:=by unfold iF;simp only [ht]
  rw [hst];by_cases hle:hh<=(pl:Int)
  · rw [if_pos hle,<-add];simp [kS,e1,hix,hle]
  · rw [if_neg hle,Mn];simp [kS,e1,hix,hle]
theorem wF (cs:Cs) (es:List Er) (rs:List Int) (E R n:PyData) (pl:Nat) (m:Int) (HL:List PyData) (hHL:∀ t:Int,0<=t->t<=3->atI HL t=some (bg (bE es rs t))):∀ (ps:List (Int×Option Int)) (k:Nat) (acc:List PyData) (x7 x8:Option PyData),acc.length+ps.length<1000000->(∀ p∈ps,∀ t,p.2=some t->0<=t/\t<=3/\∃ h,bE es rs t=some h) ->
  ∃ y7 y8,forL (fV [7,8]) (kS cs) ((ps.map aJ).mapIdx fun i d=>.tuple [.int ((k+i:Nat):Int),d])
    [some E,some R,some n,some (.int pl),some (.list HL),some (.list acc),some (.int m),x7,x8]
   =.nx [some E,some R,some n,some (.int pl),some (.list HL),some (.list (acc++hdM cs.Holding es rs pl m k ps)),some (.int m),y7,y8]
 | [],k,acc,x7,x8,_,_=>⟨x7,x8,by simp [forL,hdM]⟩
 | p::r,k,acc,x7,x8,hz,h=>by
  have hz':acc.length+(r.length+1)<1000000:=hz;have hl1:=rH cs.Holding es rs pl m k p;obtain ⟨y7,y8,e⟩:=wF cs es rs E R n pl m HL hHL r (k+1) (acc++iF cs.Holding es rs pl m k p) (some (.int (k:Int))) (some (aJ p)) (by rw [LL];omega) (fun q hq=>h q (L4 _ hq));refine ⟨y7,y8,?_⟩;rw [L5,NL];unfold forL;have e1:fV [7,8] (PyData.tuple [.int ((k+0:Nat):Int),aJ p]) [some E,some R,some n,some (.int pl),some (.list HL),some (.list acc),some (.int m),x7,x8]=some [some E,some R,some n,some (.int pl),some (.list HL),some (.list acc),some (.int m),some (.int (k:Int)),some (aJ p)]:=rfl;rw [e1];simp only [E3 cs es rs E R n pl m HL hHL p k acc (by omega) (h p L6)];have ef:(fun (i:Nat) (d:PyData)=>PyData.tuple [.int ((k+(i+1):Nat):Int),d])=fun i d=>.tuple [.int ((k+1+i:Nat):Int),d]:=by funext i d;rw [show k+(i+1)=k+1+i by omega]
  rw [ef,e];rw [show hdM cs.Holding es rs pl m k (p::r)=iF cs.Holding es rs pl m k p++hdM cs.Holding es rs pl m (k+1) r from rfl,Mp]
theorem vG {es:List Er} {rs:List Int} (cs:Cs) (hsh:∀ e∈es,e.Sh) (hr:cf es.length rs) (n:PyData) (pl:Nat):∀ (ms:List Int) (acc:List PyData) (x6 x7 x8:Option PyData),acc.length+1000*ms.length<1000000->(∀ m∈ms,m∈rs) ->
  ∃ y6 y7 y8,forL (bw 6) (fz [5] (iG (ae (g2 dIx (g2 dIx (af 0) (af 6)) (gC (.int 3))) ah)) (fV [7,8]) (kS cs)) (ms.map PyData.int)
    [some (aw es),some (au rs),some n,some (.int pl),some (aZ es rs),some (.list acc),x6,x7,x8]
   =.nx [some (aw es),some (au rs),some n,some (.int pl),some (aZ es rs),some (.list (acc++hU cs.Holding es rs pl ms)),y6,y7,y8]
 | [],acc,x6,x7,x8,_,_=>⟨x6,x7,x8,by simp [forL,hU]⟩
 | m::r,acc,x6,x7,x8,hz,h=>by
  have hz':acc.length+1000*(r.length+1)<1000000:=hz;have hm:=h m L6;have hrg:=hr.rng m hm;have hsm:=hsh _ (bV hrg.1 (by omega));have hpn:=hsm.pn;have hml:=tV cs.Holding es rs pl m (aS es m).parts 0;obtain ⟨z7,z8,e1⟩:=wF cs es rs (aw es) (au rs) n pl m ((List.range 4).map fun (t:Nat)=>bg (bE es rs t)) (fun t a b=>wX a b) (aS es m).parts 0 acc x7 x8 (by omega) fun p hp t ht=>by obtain ⟨_,_,c⟩:=hsm.pl p hp;have:=c t ht;exact ⟨this.1,this.2,oV es t rs 0 m hm (JA hp ht)⟩
  obtain ⟨y6,y7,y8,e2⟩:=vG cs hsh hr n pl r (acc++hdM cs.Holding es rs pl m 0 (aS es m).parts) (some (.int m)) z7 z8 (by rw [LL];omega) fun x hx=>h x (L4 _ hx)
  refine ⟨y6,y7,y8,?_⟩;rw [L5];unfold forL;have a2:atI (es.map Er.d) m=some (aS es m).d:=ij hrg.1 (by omega);have src:iG (ae (g2 dIx (g2 dIx (af 0) (af 6)) (gC (.int 3))) ah) (mask [5] [some (aw es),some (au rs),some n,some (.int pl),some (aZ es rs),some (.list acc),some (.int m),x7,x8])=.ok (((aS es m).parts.map aJ).mapIdx fun i d=>.tuple [.int ((0+i:Nat):Int),d]):=by simp only [zB,ay,aF,bK,aC (show 0∉[5] by decide),aC (show 6∉[5] by decide),ak,ar,cF,Rs.ag,aw,vK,a2,Rs.ai,FO,yZ,iw,MT]
  have ht:bw 6 (.int m) [some (aw es),some (au rs),some n,some (.int pl),some (aZ es rs),some (.list acc),x6,x7,x8]=some [some (aw es),some (au rs),some n,some (.int pl),some (aZ es rs),some (.list acc),some (.int m),x7,x8]:=rfl;have e1':forL (fV [7,8]) (kS cs) (((aS es m).parts.map aJ).mapIdx fun i d=>.tuple [.int ((0+i:Nat):Int),d]) [some (aw es),some (au rs),some n,some (.int pl),some (aZ es rs),some (.list acc),some (.int m),x7,x8]=.nx [some (aw es),some (au rs),some n,some (.int pl),some (aZ es rs),some (.list (acc++hdM cs.Holding es rs pl m 0 (aS es m).parts)),some (.int m),z7,z8]:=e1;rw [ht];simp only [kF,src,av,e1',e2];rw [show hU cs.Holding es rs pl (m::r)=hdM cs.Holding es rs pl m 0 (aS es m).parts++hU cs.Holding es rs pl r from rfl,Mp]
def cT (cs:Cs):Gf
 | [d,r,.int n]=>if okW d r n then .ok (.list (hU cs.Holding (cQ d) (cq r) (placeOf (cq r) n) ((cq r).drop (placeOf (cq r) n+1)))) else .no
 | _=>.no
theorem jw (cs:Cs) (h1:1<=es.length) (h2:es.length<=6) (h:∀ e∈es,e.Wk) (hr:cf es.length rs) (n0:0<=n) (n1:n<es.length):cT cs [aw es,au rs,.int n]=.ok (.list (hU cs.Holding es rs (placeOf rs n) (rs.drop (placeOf rs n+1)))):=by unfold cT;simp only [mD h1 h2 h hr n0 n1,if_true,eW,dY]
theorem xF (cs:Cs):LLq (je cs aR) 3 6 (cT cs):=by
 intro ds hl hne;obtain ⟨d,r,n,ez,hz⟩:=i8 hne;clear hne;subst ez;have hne:=hz;clear hz
 ·skip
  split at hne
  ·rename_i hc;obtain ⟨es,rs,rfl,rfl,_,_,l1,l6,hok,hr,n0,n1⟩:=gQ hc;rw [jw cs l1 l6 hok hr n0 n1];have hsh:∀ e∈es,e.Sh:=fun e he=>(hok e he).sh
   have hmem:=hr.mem n0 (by omega);have hix:=iu hmem;have hh:=fK (by omega) hsh hr;have hrl:=hr.len;obtain ⟨y6,y7,y8,e⟩:=vG cs hsh hr (.int n) (placeOf rs n) (rs.drop (placeOf rs n+1)) [] none none none (by rw [Np];simp;omega) (fun m hm=>N5 hm);have src:bG (g0 (af 1) (jO (g2 ba (af 3) (gC (.int 1)))) fN) (mask [5] [some (aw es),some (au rs),some (.int n),some (.int (placeOf rs n)),some (aZ es rs),some (.list []),none,none,none])=.ok ((rs.drop (placeOf rs n+1)).map PyData.int):=by simp only [mF,p5,uH,mz,bK,aC (show 1∉[5] by decide),aC (show 3∉[5] by decide),ak,ar,cF,Rs.ag,d6,Rs.ai,uz,au,xa,tG];rw [show (placeOf rs n:Int)+1=((placeOf rs n+1:Nat):Int) by omega,CU,List.map_drop]
   have s1:aL [5] 3 (kI (af 1) (af 2)) [some (aw es),some (au rs),some (.int n),none,none,none,none,none,none]=.nx [some (aw es),some (au rs),some (.int n),some (.int (placeOf rs n)),none,none,none,none,none]:=by rw [gw,if_pos (by simp)];simp only [tO,aC (show 1∉[5] by decide),aC (show 2∉[5] by decide),ak,ar,Rs.ag,au,hix,Rs.ai,av];rfl
   have s2:aL [5] 4 (aq aR (ae (af 0) (ae (af 1) ah))) [some (aw es),some (au rs),some (.int n),some (.int (placeOf rs n)),none,none,none,none,none]=.nx [some (aw es),some (au rs),some (.int n),some (.int (placeOf rs n)),some (aZ es rs),none,none,none,none]:=by rw [gw,if_pos (by simp)];simp only [bh,ay,aF,aC (show 0∉[5] by decide),aC (show 1∉[5] by decide),ak,ar,Rs.ag,hh,av];rfl
   have s3:eU [5] 5 ah [some (aw es),some (au rs),some (.int n),some (.int (placeOf rs n)),some (aZ es rs),none,none,none,none]=.nx [some (aw es),some (au rs),some (.int n),some (.int (placeOf rs n)),some (aZ es rs),some (.list []),none,none,none]:=rfl;show bc (je cs aR [some (aw es),some (au rs),some (.int n),none,none,none,none,none,none])=_;simp only [je];rw [aN,s1];simp only;rw [aN,s2];simp only;rw [aN,s3];simp only;rw [aN,kF,src,av,e];rfl
  ·exact absurd rfl hne
def kz (es:List Er) (rs:List Int) (pl:Int) (p:Int×Option Int):List Int:=match p.2 with
 | some t=>(match bE es rs t with
  | some h=>if h<=pl then [p.1-1] else []
  | none=>[])
 | none=>[]
def tms (es:List Er) (rs:List Int) (pl:Int):List (Int×Option Int)->List Int
 | []=>[]
 | p::r=>kz es rs pl p++tms es rs pl r
theorem yJ (es:List Er) (rs:List Int) (pl:Int) (b:List (Int×Option Int)):∀ a,tms es rs pl (a++b)=tms es rs pl a++tms es rs pl b
 | []=>rfl
 | p::r=>by show kz es rs pl p++tms es rs pl (r++b)=(kz es rs pl p++tms es rs pl r)++_;rw [yJ es rs pl b r,Mp]
theorem uN (es:List Er) (rs:List Int) (pl:Int):∀ (ps:List (Int×Option Int)) (acc:Int),ps.foldl (iV es rs pl) acc=(tms es rs pl ps).foldl max acc
 | [],_=>rfl
 | p::r,acc=>by
  rw [MX,uN es rs pl r];show _=(kz es rs pl p++tms es rs pl r).foldl max acc;rw [List.foldl_append];have e:iV es rs pl acc p=(kz es rs pl p).foldl max acc:=by
   unfold iV kz;cases p.2 with
   | none=>rfl
   | some t =>
    simp only;cases bE es rs t with
    | none=>rfl
    | some h=>simp only;split <;> rfl
  rw [e]
theorem pN (es:List Er) (rs:List Int) (pl:Int):∀ (ps:List (Int×Option Int)),(∀ p∈ps,1<=p.1)->∀ a∈tms es rs pl ps,0<=a
 | [],_,a,h=>by cases h
 | p::r,hp,a,h=>by
  have h1:=hp p L6;unfold tms at h;rcases M4.mp h with h | h
  ·unfold kz at h;split at h
   ·split at h
    ·split at h
     ·cases LM.mp h;omega
     ·cases h
    ·cases h
   ·cases h
  ·exact pN es rs pl r (fun q hq=>hp q (L4 _ hq)) a h
theorem Bb (h:∀ a∈ns,0<=a):(vC ns).getD 0=ns.foldl max 0:=by
 have hf:(fun a b:Int=>if b>a then b else a)=max:=by funext a b;split <;> omega
 cases ns with
 | nil=>rfl
 | cons x r =>have hx:=h x L6;show r.foldl (fun a b:Int=>if b>a then b else a) x=r.foldl max (max 0 x);rw [hf,show max 0 x=x by omega]
def tmD (C:Addr) (d:PyData):PyData:=(bB C "times" d).getD .none
theorem wH (C:Addr) (m k t l:Int):bB C "times" (hdD C m k t l)=some (.int l):=by
 have n1:¬ (("number":Str)="times"):=by decide +kernel
 have n2:¬ (("part":Str)="times"):=by decide +kernel
 have n3:¬ (("tool":Str)="times"):=by decide +kernel
 simp only [hdD,Cq,L5,Mr,bB,and_self,if_true,jl,n1,n2,n3,if_false]
theorem Bi (C:Addr) (es:List Er) (rs:List Int) (pl m k:Int) (p:Int×Option Int):(iF C es rs pl m k p).map (tmD C)=(kz es rs pl p).map PyData.int/\∀ d∈iF C es rs pl m k p,bB C "times" d=some (tmD C d):=by
 unfold iF kz;cases p.2 with
 | none=>exact ⟨rfl,fun d hd=>by cases hd⟩
 | some t =>
  simp only;cases bE es rs t with
  | none=>exact ⟨rfl,fun d hd=>by cases hd⟩
  | some h =>
   simp only;split
   ·rw [L5,Mr];refine ⟨by unfold tmD;rw [wH];rfl,fun d hd=>?_⟩;cases LM.mp hd;unfold tmD;rw [wH];rfl
   ·exact ⟨rfl,fun d hd=>by cases hd⟩
theorem yw (C:Addr) (es:List Er) (rs:List Int) (pl m:Int):∀ (ps:List (Int×Option Int)) (k:Nat),(hdM C es rs pl m k ps).map (tmD C)=(tms es rs pl ps).map PyData.int/\∀ d∈hdM C es rs pl m k ps,bB C "times" d=some (tmD C d)
 | [],_=>⟨rfl,fun d hd=>by cases hd⟩
 | p::r,k=>by
  obtain ⟨a1,a2⟩:=Bi C es rs pl m k p;obtain ⟨b1,b2⟩:=yw C es rs pl m r (k+1);rw [show hdM C es rs pl m k (p::r)=iF C es rs pl m k p++hdM C es rs pl m (k+1) r from rfl,show tms es rs pl (p::r)=kz es rs pl p++tms es rs pl r from rfl];refine ⟨by rw [Mm,Mm,a1,b1],fun d hd=>?_⟩;rcases M4.mp hd with h | h
  ·exact a2 d h
  ·exact b2 d h
theorem rn (C:Addr) (es:List Er) (rs:List Int) (pl:Int):∀ (ms:List Int),(hU C es rs pl ms).map (tmD C)=(tms es rs pl ((ms.map fun m=>(aS es m).parts).flatten)).map PyData.int/\∀ d∈hU C es rs pl ms,bB C "times" d=some (tmD C d)
 | []=>⟨rfl,fun d hd=>by cases hd⟩
 | m::r=>by
  obtain ⟨a1,a2⟩:=yw C es rs pl m (aS es m).parts 0;obtain ⟨b1,b2⟩:=rn C es rs pl r;unfold hU;refine ⟨by rw [Mm,L5,MN,yJ,Mm,a1,b1],fun d hd=>?_⟩;rcases M4.mp hd with h | h
  ·exact a2 d h
  ·exact b2 d h
theorem rp (C:Addr) (es:List Er) (rs:List Int) (pl:Int) (b:Nat):∀ (ms:List Int),(∀ m∈ms,(aS es m).parts.length<=b)->(hU C es rs pl ms).length<=b*ms.length
 | [],_=>by simp [hU]
 | m::r,h=>by
  have h1:=h m L6;have h2:=tV C es rs pl m (aS es m).parts 0;have h3:=rp C es rs pl b r fun x hx=>h x (L4 _ hx)
  unfold hU;rw [LL,LS,Nat.mul_succ];omega
def bo:Gf
 | [d,r,.int n]=>if okW d r n then .ok (.int (gp (cQ d) (cq r) n)) else .no
 | _=>.no
theorem eQ (h1:1<=es.length) (h2:es.length<=6) (h:∀ e∈es,e.Wk) (hr:cf es.length rs) (n0:0<=n) (n1:n<es.length):bo [aw es,au rs,.int n]=.ok (.int (gp es rs n)):=by unfold bo;simp only [mD h1 h2 h hr n0 n1,if_true,eW,dY]
theorem oN (cs:Cs):LLq (fh cs (cT cs)) 3 0 bo:=by
 intro ds hl hne;obtain ⟨d,r,n,ez,hz⟩:=i8 hne;clear hne;subst ez;have hne:=hz;clear hz
 ·skip
  split at hne
  ·rename_i hc;obtain ⟨es,rs,rfl,rfl,_,_,l1,l6,hok,hr,n0,n1⟩:=gQ hc;rw [eQ l1 l6 hok hr n0 n1];have hg:=jw cs l1 l6 hok hr n0 n1;obtain ⟨m1,m2⟩:=rn cs.Holding es rs (placeOf rs n) (rs.drop (placeOf rs n+1));have hrl:=hr.len;have hol:∀ m∈rs.drop (placeOf rs n+1),(aS es m).Wk:=fun m hm=>by have:=hr.rng m (N5 hm);exact hok _ (bV this.1 (by omega))
   have hln:=rp cs.Holding es rs (placeOf rs n) 4 (rs.drop (placeOf rs n+1)) fun m hm=>(hol m hm).p2
   have hdl:(rs.drop (placeOf rs n+1)).length<=6:=by rw [Np];omega
   have hcm:a8 3 (bG (aq (cT cs) (ae (af 0) (ae (af 1) (ae (af 2) ah))))) bA (g1 (bB cs.Holding "times") (af 3)) aI [some (aw es),some (au rs),some (.int n)]=.ok ((hU cs.Holding es rs (placeOf rs n) (rs.drop (placeOf rs n+1))).map (tmD cs.Holding)) :=
    cu rfl (by simp only [mF,bh,ay,aF,ak,ar,Rs.ag,hg];rfl) (by omega) fun x hx=>by simp only [Mc,Ma,f9,ak,ar,Rs.ag,m2 x hx,Rs.ai]
   have hmx:u9 (.list ((hU cs.Holding es rs (placeOf rs n) (rs.drop (placeOf rs n+1))).map (tmD cs.Holding))) (.int 0)=some (.int (gp es rs n)):=by
    unfold u9;simp only;rw [m1,eX,MF,Bb (pN _ _ _ _ fun p hp=>?_),<-uN]
    ·rfl
    ·obtain ⟨l,hl,hpl⟩:=List.mem_flatten.mp hp;obtain ⟨m,hm,rfl⟩:=L9.mp hl;exact ((hol m hm).pl p hpl).1
   show bc (fh cs (cT cs) [some (aw es),some (au rs),some (.int n)])=_;simp only [fh,bW,bK,nQ,hcm,Rs.ag,cF,hmx,Rs.ai,av,aU]
  ·exact absurd rfl hne
theorem HW (cs:Cs):LLq (ud cs bo bz) 3 0 ej:=by
 intro ds hl hne;obtain ⟨d,r,n,ez,hz⟩:=i8 hne;clear hne;subst ez;have hne:=hz;clear hz
 ·skip
  split at hne
  ·rename_i hc;obtain ⟨es,rs,rfl,rfl,_,_,l1,l6,hok,hr,n0,n1⟩:=mY hc;have h1:=pB l1 l6 hok hr n0 n1;have h3:=eQ l1 l6 (fun e he=>(hok e he).wk) hr n0 n1;have h2:=fm l1 l6 hok hr n0 n1;show bc (ud cs bo bz [some (aw es),some (au rs),some (.int n)])=_;simp only [ud,aN,om,bh,ay,aF,ak,ar,Rs.ag,h2,av,bW,h3,aU,h1]
  ·exact absurd rfl hne
def nC (f:Int->Int) (T:Int):Nat->Int->List Int
 | 0,l=>[l]
 | m+1,l=>if l=T then [l] else l::nC f T m (f l)
def As:Option (List Int)->PyData
 | some l=>.list (l.map .int)
 | none=>.none
structure Top (f:Int->Int) (T:Int):Prop where
 fix:f T=T
 one:1<=T
 low:∀ s,1<=s->s<T->¬ f s<=s
theorem qa {f:Int->Int} {T:Int} (R:kJ f) (P:Top f T):∀ (m:Nat) (l:Int),1<=l->l<=T->T-l<=m->(nC f T m l).getLast?=some T
 | 0,l,h1,h2,h3=>by
  have:l=T:=by omega
  rw [this];rfl
 | m+1,l,h1,h2,h3=>by
  unfold nC;by_cases z:l=T
  ·rw [if_pos z,z];rfl
  ·rw [if_neg z,List.getLast?_cons];have hf:=P.low l h1 (by omega);have hT:=R.mono l T h1 h2;rw [P.fix] at hT;rw [qa R P m (f l) (by omega) hT (by omega)];rfl
def bR:Gf
 | [.int t,.int e]=>if 0<e/\e<1073741824 then .ok (.int ((t+e-1) / e)) else .no
 | _=>.no
theorem HG {f:Int->Int->Rs PyData} (h:(match ds with | [.int x0,.int x1]=>f x0 x1 | _=>.no)≠.no):∃ x0 x1,ds=[.int x0,.int x1]/\f x0 x1≠.no:=by
 rcases ds with _ | ⟨x0,_ | ⟨x1,_ | ⟨y,ys⟩⟩⟩
 ·exact absurd rfl h
 ·first | exact absurd rfl h | (cases x0 <;> exact absurd rfl h)
 ·skip
  cases x0 with
  | int x0 =>
   cases x1 with
   | int x1 =>exact ⟨_,_,rfl,h⟩
   | _=>exact absurd rfl h
  | _=>first | exact absurd rfl h | (cases x1 <;> exact absurd rfl h)
 ·first | exact absurd rfl h | (cases x0 <;> first | exact absurd rfl h | (cases x1 <;> exact absurd rfl h))
theorem tX (cs:Cs):LLq (gB cs) 2 0 bR:=by
 intro ds hl hne;obtain ⟨t,e,ez,hz⟩:=HG hne;clear hne;subst ez;have hne:=hz;clear hz;unfold bR
 ·skip
  split at hne
  ·rename_i hc;simp only [if_pos hc];show bc (gB cs [some (.int t),some (.int e)])=_;simp only [gB,bW,bK,ak,ar,cF,Rs.ag,d6,nv,Rs.ai,v5,if_pos hc,av,aU]
  ·exact absurd rfl hne
theorem sR {x e:Int} (h:0<e):(x+e-1) / e=x / e+(if x % e>0 then 1 else 0):=by
 have h1:=Nv x e;have h2:=Mt x (show e≠0 by omega);have h3:=MM x h;generalize x / e=q at *;generalize x % e=r at *;have ex:x+e-1=r+e-1+e*q:=by omega
 rw [ex,Int.add_mul_ediv_left _ _ (by omega)];by_cases z:r>0
 ·rw [if_pos z,show r+e-1=(r-1)+e*1 by omega,Int.add_mul_ediv_left _ _ (by omega),Nl (by omega) (by omega)];omega
 ·rw [if_neg z,Nl (by omega) (by omega)];omega
theorem qF (h:e.Sh):bR [.int (t+e.late),.int e.every]=.ok (.int (e.times t)):=by have h1:=h.e1;have h2:=h.e2;unfold bR;simp only [if_pos (show 0<e.every/\e.every<1073741824 from ⟨by omega,h2⟩)];rw [sR (by omega)];rfl
def d7 (es:List Er) (rs:List Int) (n h t:Int):Int:=h+(aS es n).work+((rs.take (placeOf rs n)).map fun m=>(aS es m).times t*(aS es m).work).sum
theorem k7 (hok:∀ e∈es,e.Wk) (hr:cf es.length rs) (n0:0<=n) (n1:n<es.length) (h0:0<=h):kJ (d7 es rs n h) where
 mono:=fun t u _ ht=>by have:=nh (n:=n) (fun e he=>(hok e he).sh) hr ht;unfold eV at this;unfold d7;omega
 one:=fun t ht=>by
  unfold d7;have h2:=(hok _ (bV n0 n1)).work1;have h3:=i6 (fun m=>(aS es m).times t*(aS es m).work) (rs.take (placeOf rs n)) fun m hm=>by have hm':=hr.rng m (MB hm);have ho:=hok _ (bV hm'.1 hm'.2);have l0:=ho.l1;exact Nx (Er.times_pos ho.sh.e1 (by omega)) ho.sh.work_b.1
  omega
def cW:Gf
 | [d,r,.int n,.int h,.int t]=>if okW d r n then .ok (.int (d7 (cQ d) (cq r) n h t)) else .no
 | _=>.no
theorem pQ (h1:1<=es.length) (h2:es.length<=6) (hk:∀ e∈es,e.Wk) (hr:cf es.length rs) (n0:0<=n) (n1:n<es.length):cW [aw es,au rs,.int n,.int h,.int t]=.ok (.int (d7 es rs n h t)):=by unfold cW;simp only [mD h1 h2 hk hr n0 n1,if_true,eW,dY]
theorem Eh {g:Ds->Rs PyData} {a b:Int} (h:δ[i]?=some (some (.int a))) (hg:g δ=.ok (.int b)):xu [] i g δ=.nx (δ.set i (some (.int (a+b)))):=by unfold xu;rw [lW,h];simp only [hg,av]
abbrev D3:Ds->Sr:=az (aL [] 7 (g2 dIx (af 0) (af 6)))
 (xu [] 5 (g2 bY (aq cn (ae (af 7) ah)) (aq bR (ae (g2 ba (af 4) (g2 dIx (af 7) (gC (.int 2)))) (ae (g2 dIx (af 7) (gC (.int 0))) ah)))))
theorem yQ {es:List Er} {rs:List Int} (hsh:∀ e∈es,e.Sh) (hr:cf es.length rs) (n h:PyData) (t:Int):∀ (ms:List Int) (acc:Int) (x6 x7:Option PyData),(∀ m∈ms,m∈rs) ->
  ∃ y6 y7,forL (bw 6) D3 (ms.map PyData.int) [some (aw es),some (au rs),some n,some h,some (.int t),some (.int acc),x6,x7]
   =.nx [some (aw es),some (au rs),some n,some h,some (.int t),some (.int (acc+(ms.map fun m=>(aS es m).times t*(aS es m).work).sum)),y6,y7]
 | [],acc,x6,x7,_=>⟨x6,x7,by simp [forL]⟩
 | m::r,acc,x6,x7,hm'=>by
  have hm:=hm' m L6;have hrg:=hr.rng m hm;have hsm:=hsh _ (bV hrg.1 (by omega));have a2:atI (es.map Er.d) m=some (aS es m).d:=ij hrg.1 (by omega);obtain ⟨y6,y7,e2⟩:=yQ hsh hr n h t r (acc+(aS es m).times t*(aS es m).work) (some (.int m)) (some (aS es m).d) fun x hx=>hm' x (L4 _ hx)
  refine ⟨y6,y7,?_⟩;have hw:=hsm.work_b;have hgw:=gW hsm;have hgr:=qF (t:=t) hsm;rw [L5,L5,Mq,<-Int.add_assoc];unfold forL;generalize hE:aS es m=e at *;have i2:dIx e.d (.int 2)=some (.int e.late):=rfl;have i0:dIx e.d (.int 0)=some (.int e.every):=rfl;have st1:aL [] 7 (g2 dIx (af 0) (af 6)) [some (aw es),some (au rs),some n,some h,some (.int t),some (.int acc),some (.int m),x7]=.nx [some (aw es),some (au rs),some n,some h,some (.int t),some (.int acc),some (.int m),some e.d]:=by rw [ik,if_pos (by simp)];simp only [bK,ak,ar,Rs.ag,aw,vK,a2,Rs.ai,av];rfl
  have st2:xu [] 5 (g2 bY (aq cn (ae (af 7) ah)) (aq bR (ae (g2 ba (af 4) (g2 dIx (af 7) (gC (.int 2)))) (ae (g2 dIx (af 7) (gC (.int 0))) ah)))) [some (aw es),some (au rs),some n,some h,some (.int t),some (.int acc),some (.int m),some e.d]=.nx [some (aw es),some (au rs),some n,some h,some (.int t),some (.int (acc+e.times t*e.work)),some (.int m),some e.d]:=by
    rw [Eh (a:=acc) (b:=e.times t*e.work) rfl]
    ·rfl
    ·simp only [bK,bh,ay,aF,ak,ar,cF,Rs.ag,i2,i0,Rs.ai,d6,hgw,hgr,qh (b:=e.times t) (show -(2 ^ 64)<e.work by omega) (show e.work<2 ^ 64 by omega)];rw [Int.mul_comm e.work]
  have ht:bw 6 (.int m) [some (aw es),some (au rs),some n,some h,some (.int t),some (.int acc),x6,x7]=some [some (aw es),some (au rs),some n,some h,some (.int t),some (.int acc),some (.int m),x7]:=rfl;rw [ht];simp only [D3,aN,st1,st2];exact e2
theorem AW {f:PyData->PyData->Int->Int->Int->Rs PyData} (h:(match ds with | [x0,x1,.int x2,.int x3,.int x4]=>f x0 x1 x2 x3 x4 | _=>.no)≠.no):∃ x0 x1 x2 x3 x4,ds=[x0,x1,.int x2,.int x3,.int x4]/\f x0 x1 x2 x3 x4≠.no:=by
 rcases ds with _ | ⟨x0,_ | ⟨x1,_ | ⟨x2,_ | ⟨x3,_ | ⟨x4,_ | ⟨y,ys⟩⟩⟩⟩⟩⟩
 ·exact absurd rfl h
 ·exact absurd rfl h
 ·exact absurd rfl h
 ·first | exact absurd rfl h | (cases x2 <;> exact absurd rfl h)
 ·first | exact absurd rfl h | (cases x2 <;> first | exact absurd rfl h | (cases x3 <;> exact absurd rfl h))
 ·skip
  cases x2 with
  | int x2 =>
   cases x3 with
   | int x3 =>
    cases x4 with
    | int x4 =>exact ⟨_,_,_,_,_,rfl,h⟩
    | _=>exact absurd rfl h
   | _=>first | exact absurd rfl h | (cases x4 <;> exact absurd rfl h)
  | _=>first | exact absurd rfl h | (cases x3 <;> first | exact absurd rfl h | (cases x4 <;> exact absurd rfl h))
 ·first | exact absurd rfl h | (cases x2 <;> first | exact absurd rfl h | (cases x3 <;> first | exact absurd rfl h | (cases x4 <;> exact absurd rfl h)))
theorem HM (cs:Cs):LLq (tF cs cn bR) 5 3 cW:=by
 intro ds hl hne;obtain ⟨d,r,n,h,t,ez,hz⟩:=AW hne;clear hne;subst ez;have hne:=hz;clear hz
 ·skip
  split at hne
  ·rename_i hc;obtain ⟨es,rs,rfl,rfl,_,_,l1,l6,hok,hr,n0,n1⟩:=gQ hc;rw [pQ l1 l6 hok hr n0 n1];have hsh:∀ e∈es,e.Sh:=fun e he=>(hok e he).sh
   have hmem:=hr.mem n0 (by omega);have hix:=iu hmem;have hsn:=hsh _ (bV n0 n1);have a2:atI (es.map Er.d) n=some (aS es n).d:=ij n0 n1;have hgw:=gW hsn;obtain ⟨y6,y7,e⟩:=yQ hsh hr (.int n) (.int h) t (rs.take (placeOf rs n)) (h+(aS es n).work) none none (fun m hm=>MB hm);have src:bG (g0 (af 1) fN (jO (kI (af 1) (af 2)))) [some (aw es),some (au rs),some (.int n),some (.int h),some (.int t),some (.int (h+(aS es n).work)),none,none]=.ok ((rs.take (placeOf rs n)).map PyData.int):=by simp only [mF,p5,uH,mz,tO,ak,ar,Rs.ag,au,hix,Rs.ai,uz,xa,tG];rw [CJ,List.map_take]
   have st0:aL [] 5 (g2 ba (af 3) (aq cn (ae (g2 dIx (af 0) (af 2)) ah))) [some (aw es),some (au rs),some (.int n),some (.int h),some (.int t),none,none,none]=.nx [some (aw es),some (au rs),some (.int n),some (.int h),some (.int t),some (.int (h+(aS es n).work)),none,none]:=by rw [ik,if_pos (by simp)];simp only [bK,bh,ay,aF,ak,ar,Rs.ag,aw,vK,a2,Rs.ai,hgw,d6,av];rfl
   show bc (tF cs cn bR [some (aw es),some (au rs),some (.int n),some (.int h),some (.int t),none,none,none])=_;simp only [tF];rw [aN,st0];simp only;rw [aN,kF,lW,src,av,e];rfl
  ·exact absurd rfl hne
def pM (es:List Er) (rs:List Int) (n h:Int):Option Int:=dB ((aS es n).every-(aS es n).late).toNat fun t=>decide (d7 es rs n h t<=t)
theorem yh (es:List Er) (rs:List Int) (n:Int):pM es rs n (gp es rs n)=e9 es rs n:=rfl
def ip (es:List Er) (rs:List Int) (n h:Int):Option (List Int):=(pM es rs n h).map fun T=>nC (d7 es rs n h) T T.toNat (d7 es rs n h 1)
abbrev ui:Ds->Rs Bool:=gT (g2 dLe (af 6) (af 4))
abbrev uA:Ds->Sr:=az (gK [5] 5 (af 6))
 (az (aL [5] 7 (aq cW (ae (af 0) (ae (af 1) (ae (af 2) (ae (af 3) (ae (af 6) ah)))))))
 (az (sIf (gT (g2 dEq (af 7) (af 6))) (bj (af 5)) aY)
 (aL [5] 6 (af 7))))
section
variable {E Rr N h:PyData} {f:Int->Int} {most:Int}
theorem tm (gfn:∀ t,cW [E,Rr,N,h,.int t]=.ok (.int (f t))) (l:Int) (acc:List PyData) (hl:acc.length<1000000) (x7:Option PyData) :
  uA [some E,some Rr,some N,some h,some (.int most),some (.list acc),some (.int l),x7]
   =if f l=l then .rt (.list (acc++[.int l])) else .nx [some E,some Rr,some N,some h,some (.int most),some (.list (acc++[.int l])),some (.int (f l)),some (.int (f l))]:=by
 have s1:gK [5] 5 (af 6) [some E,some Rr,some N,some h,some (.int most),some (.list acc),some (.int l),x7]=.nx [some E,some Rr,some N,some h,some (.int most),some (.list (acc++[.int l])),some (.int l),x7]:=by unfold gK;simp only [MC,MD,aC (show 6∉[5] by decide),ak,ar,av,if_pos hl];rfl
 have s2:aL [5] 7 (aq cW (ae (af 0) (ae (af 1) (ae (af 2) (ae (af 3) (ae (af 6) ah)))))) [some E,some Rr,some N,some h,some (.int most),some (.list (acc++[.int l])),some (.int l),x7]=.nx [some E,some Rr,some N,some h,some (.int most),some (.list (acc++[.int l])),some (.int l),some (.int (f l))]:=by rw [gw,if_pos (by simp)];simp only [bh,ay,aF,aC (show 0∉[5] by decide),aC (show 1∉[5] by decide),aC (show 2∉[5] by decide),aC (show 3∉[5] by decide),aC (show 6∉[5] by decide),ak,ar,Rs.ag,gfn,av];rfl
 have s3:aL [5] 6 (af 7) [some E,some Rr,some N,some h,some (.int most),some (.list (acc++[.int l])),some (.int l),some (.int (f l))]=.nx [some E,some Rr,some N,some h,some (.int most),some (.list (acc++[.int l])),some (.int (f l)),some (.int (f l))]:=by rw [gw,if_pos (by simp)];simp only [aC (show 7∉[5] by decide),ak,ar,av];rfl
 unfold uA;rw [aN,s1];simp only;rw [aN,s2];simp only;rw [aN];by_cases z:f l=l
 ·rw [if_pos z];have q:(f l==l)=true:=by simpa using z
  simp only [cJ,dH,bK,ak,ar,Rs.ag,jq,q,Rs.ai,aX,if_true,av,bW]
 ·rw [if_neg z];have q:(f l==l)=false:=by simpa using z
  simp only [cJ,dH,bK,ak,ar,Rs.ag,jq,q,Rs.ai,aX,if_false,M0,av,eM,s3]
theorem nZ (l:Int) (a x7:Option PyData):ui [some E,some Rr,some N,some h,some (.int most),a,some (.int l),x7]=.ok (decide (l<=most)):=by simp only [ui,dH,bK,ak,ar,Rs.ag,Hw,Rs.ai,aX]
theorem zC (gfn:∀ t,cW [E,Rr,N,h,.int t]=.ok (.int (f t))) (R:kJ f) {T:Int} (P:Top f T) (hT:T<=most):∀ (j fuel:Nat) (l:Int) (acc:List PyData) (x7:Option PyData),1<=l->l<=T->T-l<=j->j<fuel->acc.length+j<1000000 ->
  bU ui uA fuel [some E,some Rr,some N,some h,some (.int most),some (.list acc),some (.int l),x7]=.rt (.list (acc++(nC f T j l).map PyData.int))
 | j,0,l,acc,x7,_,_,_,hf,_=>absurd hf (Nat.not_lt_zero _)
 | 0,fuel+1,l,acc,x7,h1,h2,h3,hf,hc=>by
  have e:l=T:=by omega
  have ef:f l=l:=by rw [e];exact P.fix
  unfold bU;rw [nZ,av,decide_eq_true (show l<=most by omega),if_pos rfl,tm gfn l acc (by omega),if_pos ef];rfl
 | j+1,fuel+1,l,acc,x7,h1,h2,h3,hf,hc=>by
  unfold bU;rw [nZ,av,decide_eq_true (show l<=most by omega),if_pos rfl,tm gfn l acc (by omega)];unfold nC;by_cases e:l=T
  ·have ef:f l=l:=by rw [e];exact P.fix
   rw [if_pos ef,if_pos e];rfl
  ·have hl:=P.low l h1 (by omega);have hm:=R.mono l T h1 h2;rw [P.fix] at hm;rw [if_neg (show ¬ f l=l by omega),if_neg e];simp only;rw [zC gfn R P hT j fuel (f l) (acc++[PyData.int l]) _ (by omega) hm (by omega) (by omega) (by rw [LL,M9];omega)];rw [L5,Mp];rfl
theorem zy (gfn:∀ t,cW [E,Rr,N,h,.int t]=.ok (.int (f t))) (no:∀ s,1<=s->s<=most->¬ f s<=s):∀ (j fuel:Nat) (l:Int) (acc:List PyData) (x7:Option PyData),1<=l->most-l<j->j<fuel->acc.length+j<1000000 ->
  ∃ δ,bU ui uA fuel [some E,some Rr,some N,some h,some (.int most),some (.list acc),some (.int l),x7]=.nx δ
 | j,0,l,acc,x7,_,_,hf,_=>absurd hf (Nat.not_lt_zero _)
 | 0,fuel+1,l,acc,x7,h1,h3,hf,hc=>by unfold bU;rw [nZ,av,decide_eq_false (show ¬ l<=most by omega),if_neg (by decide)];exact ⟨_,rfl⟩
 | j+1,fuel+1,l,acc,x7,h1,h3,hf,hc=>by
  unfold bU;rw [nZ,av];by_cases e:l<=most
  ·rw [decide_eq_true e,if_pos rfl,tm gfn l acc (by omega)];have hl:=no l h1 e;rw [if_neg (show ¬ f l=l by omega)];simp only;exact zy gfn no j fuel (f l) (acc++[PyData.int l]) _ (by omega) (by omega) (by omega) (by rw [LL,M9];omega)
  ·rw [decide_eq_false e,if_neg (by decide)];exact ⟨_,rfl⟩
end
def cU:Gf
 | [d,r,.int n,.int h]=>if okW d r n&&decide (0<=h) then .ok (As (ip (cQ d) (cq r) n h)) else .no
 | _=>.no
theorem jv (h1:1<=es.length) (h2:es.length<=6) (hk:∀ e∈es,e.Wk) (hr:cf es.length rs) (n0:0<=n) (n1:n<es.length) (h0:0<=h):cU [aw es,au rs,.int n,.int h]=.ok (As (ip es rs n h)):=by unfold cU;simp only [mD h1 h2 hk hr n0 n1,decide_eq_true h0,NB,if_true,eW,dY]
theorem zX {T:Int} (R:kJ (d7 es rs n h)) (e:pM es rs n h=some T):Top (d7 es rs n h) T/\T<=(aS es n).every-(aS es n).late:=by
 obtain ⟨h1,h2,h3,h4⟩:=fj e;have h4':∀ s,1<=s->s<T->¬ d7 es rs n h s<=s:=fun s a b=>of_decide_eq_false (h4 s a b)
 exact ⟨⟨R.fix h1 (of_decide_eq_true h3) h4',h1,h4'⟩,by omega⟩
theorem uO {f:PyData->PyData->Int->Int->Rs PyData} (h:(match ds with | [x0,x1,.int x2,.int x3]=>f x0 x1 x2 x3 | _=>.no)≠.no):∃ x0 x1 x2 x3,ds=[x0,x1,.int x2,.int x3]/\f x0 x1 x2 x3≠.no:=by
 rcases ds with _ | ⟨x0,_ | ⟨x1,_ | ⟨x2,_ | ⟨x3,_ | ⟨y,ys⟩⟩⟩⟩⟩
 ·exact absurd rfl h
 ·exact absurd rfl h
 ·exact absurd rfl h
 ·first | exact absurd rfl h | (cases x2 <;> exact absurd rfl h)
 ·skip
  cases x2 with
  | int x2 =>
   cases x3 with
   | int x3 =>exact ⟨_,_,_,_,rfl,h⟩
   | _=>exact absurd rfl h
  | _=>first | exact absurd rfl h | (cases x3 <;> exact absurd rfl h)
 ·first | exact absurd rfl h | (cases x2 <;> first | exact absurd rfl h | (cases x3 <;> exact absurd rfl h))
theorem uJ (cs:Cs):LLq (ia cs cW) 4 4 cU:=by
 intro ds hl hne;obtain ⟨d,r,n,h,ez,hz⟩:=uO hne;clear hne;subst ez;have hne:=hz;clear hz
 ·skip
  split at hne
  ·rename_i hc;simp only [L8,decide_eq_true_eq] at hc;obtain ⟨hc,h0⟩:=hc;obtain ⟨es,rs,rfl,rfl,_,_,l1,l6,hok,hr,n0,n1⟩:=gQ hc;rw [jv l1 l6 hok hr n0 n1 h0];have gfn:∀ t,cW [aw es,au rs,.int n,.int h,.int t]=.ok (.int (d7 es rs n h t)):=fun t=>pQ l1 l6 hok hr n0 n1
   have R:=k7 (h:=h) hok hr n0 n1 h0;have hon:=hok _ (bV n0 n1);have a2:atI (es.map Er.d) n=some (aS es n).d:=ij n0 n1;have a3:dIx (aw es) (.int n)=some (aS es n).d:=a2;have i2:dIx (aS es n).d (.int 2)=some (.int (aS es n).late):=rfl;have i0:dIx (aS es n).d (.int 0)=some (.int (aS es n).every):=rfl;have e60:=hon.e2;have la0:=hon.l1;have f1:=R.one 1 (by decide);generalize hM:(aS es n).every-(aS es n).late=M at *;have s1:aL [5] 4 (g2 gj (g2 dIx (g2 dIx (af 0) (af 2)) (gC (.int 0))) (g2 dIx (g2 dIx (af 0) (af 2)) (gC (.int 2)))) [some (aw es),some (au rs),some (.int n),some (.int h),none,none,none,none]=.nx [some (aw es),some (au rs),some (.int n),some (.int h),some (.int M),none,none,none]:=by rw [gw,if_pos (by simp)];simp only [bK,aC (show 0∉[5] by decide),aC (show 2∉[5] by decide),ak,ar,cF,Rs.ag,a3,i2,i0,Rs.ai,nv,av,hM];rfl
   have s2:eU [5] 5 ah [some (aw es),some (au rs),some (.int n),some (.int h),some (.int M),none,none,none]=.nx [some (aw es),some (au rs),some (.int n),some (.int h),some (.int M),some (.list []),none,none]:=rfl;have s3:aL [5] 6 (aq cW (ae (af 0) (ae (af 1) (ae (af 2) (ae (af 3) (ae (gC (.int 1)) ah)))))) [some (aw es),some (au rs),some (.int n),some (.int h),some (.int M),some (.list []),none,none]=.nx [some (aw es),some (au rs),some (.int n),some (.int h),some (.int M),some (.list []),some (.int (d7 es rs n h 1)),none]:=by rw [gw,if_pos (by simp)];simp only [bh,ay,aF,aC (show 0∉[5] by decide),aC (show 1∉[5] by decide),aC (show 2∉[5] by decide),aC (show 3∉[5] by decide),ak,ar,cF,Rs.ag,gfn,av];rfl
   show bc (ia cs cW [some (aw es),some (au rs),some (.int n),some (.int h),none,none,none,none])=_;simp only [ia];rw [aN,s1];simp only;rw [aN,s2];simp only;rw [aN,s3];simp only;rw [aN];cases q:pM es rs n h with
   | some T =>
    obtain ⟨P,hT⟩:=zX R q;rw [hM] at hT;have hle:d7 es rs n h 1<=T:=by have:=R.mono 1 T (by decide) P.one;rw [P.fix] at this;exact this
    have w:=zC gfn R P hT T.toNat 1000000 (d7 es rs n h 1) [] none f1 hle (by omega) (by omega) (by simp;omega);rw [w];simp only [ip,q,MF,As,Ma,aU]
   | none =>
    have no:∀ s,1<=s->s<=M->¬ d7 es rs n h s<=s:=fun s a b=>by have:=iX q s a (by omega);exact of_decide_eq_false this
    obtain ⟨δ,w⟩:=zy gfn no 100 1000000 (d7 es rs n h 1) [] none f1 (by omega) (by decide) (by decide);rw [w];simp only [ip,q,Option.map_none,As,bW,cF,av,aU]
  ·exact absurd rfl hne
def cB:Gf
 | [d,r,.int n,.int h]=>if okW d r n&&decide (0<=h) then .ok (bg (pM (cQ d) (cq r) n h)) else .no
 | _=>.no
theorem iQ (h1:1<=es.length) (h2:es.length<=6) (hk:∀ e∈es,e.Wk) (hr:cf es.length rs) (n0:0<=n) (n1:n<es.length) (h0:0<=h):cB [aw es,au rs,.int n,.int h]=.ok (bg (pM es rs n h)):=by unfold cB;simp only [mD h1 h2 hk hr n0 n1,decide_eq_true h0,NB,if_true,eW,dY]
theorem sZ (cs:Cs):LLq (fu cs cU) 4 1 cB:=by
 intro ds hl hne;obtain ⟨d,r,n,h,ez,hz⟩:=uO hne;clear hne;subst ez;have hne:=hz;clear hz
 ·skip
  split at hne
  ·rename_i hc;simp only [L8,decide_eq_true_eq] at hc;obtain ⟨hc,h0⟩:=hc;obtain ⟨es,rs,rfl,rfl,_,_,l1,l6,hok,hr,n0,n1⟩:=gQ hc;rw [iQ l1 l6 hok hr n0 n1 h0];have hg:=jv l1 l6 hok hr n0 n1 h0;have R:=k7 (h:=h) hok hr n0 n1 h0;show bc (fu cs cU [some (aw es),some (au rs),some (.int n),some (.int h),none])=_;cases q:pM es rs n h with
   | none =>
    have e:ip es rs n h=none:=by unfold ip;rw [q];rfl
    rw [e] at hg;simp [fu,hg,As,bg,gIf]
   | some T =>
    obtain ⟨P,hT⟩:=zX R q;have hle:d7 es rs n h 1<=T:=by have:=R.mono 1 T (by decide) P.one;rw [P.fix] at this;exact this
    have f1:=R.one 1 (by decide);have e:ip es rs n h=some (nC (d7 es rs n h) T T.toNat (d7 es rs n h 1)):=by unfold ip;rw [q];rfl
    rw [e] at hg;have hlast:=qa R P T.toNat (d7 es rs n h 1) f1 hle (by omega);have hx:dIx (.list ((nC (d7 es rs n h) T T.toNat (d7 es rs n h 1)).map PyData.int)) (.int (-1))=some (.int T):=by show atI _ (-1)=_;rw [j9,Nk,hlast];rfl
    simp [fu,hg,As,bg,hx,gIf];rfl
  ·exact absurd rfl hne
def bI:Gf
 | [d,r,.int n]=>if okW d r n then .ok (bg (e9 (cQ d) (cq r) n)) else .no
 | _=>.no
theorem fF (h1:1<=es.length) (h2:es.length<=6) (h:∀ e∈es,e.Wk) (hr:cf es.length rs) (n0:0<=n) (n1:n<es.length):bI [aw es,au rs,.int n]=.ok (bg (e9 es rs n)):=by unfold bI;simp only [mD h1 h2 h hr n0 n1,if_true,eW,dY]
theorem lU (cs:Cs):LLq (dQ cs bo cB) 3 0 bI:=by
 intro ds hl hne;obtain ⟨d,r,n,ez,hz⟩:=i8 hne;clear hne;subst ez;have hne:=hz;clear hz
 ·skip
  split at hne
  ·rename_i hc;obtain ⟨es,rs,rfl,rfl,_,_,l1,l6,hok,hr,n0,n1⟩:=gQ hc;rw [fF l1 l6 hok hr n0 n1];have h1:=eQ l1 l6 hok hr n0 n1;have h2:=iQ l1 l6 hok hr n0 n1 (kN es rs n);rw [yh] at h2;show bc (dQ cs bo cB [some (aw es),some (au rs),some (.int n)])=_;simp only [dQ,bW,bh,ay,aF,ak,ar,Rs.ag,h1,h2,av,aU]
  ·exact absurd rfl hne
theorem AA (cs:Cs):LLq (kl cs bI bz) 3 0 bJ:=by
 intro ds hl hne;obtain ⟨d,r,n,ez,hz⟩:=i8 hne;clear hne;subst ez;have hne:=hz;clear hz
 ·skip
  split at hne
  ·rename_i hc;obtain ⟨es,rs,rfl,rfl,_,_,l1,l6,hok,hr,n0,n1⟩:=mY hc;have h1:=iz l1 l6 hok hr n0 n1;have h3:=fF l1 l6 (fun e he=>(hok e he).wk) hr n0 n1;have h2:=fm l1 l6 hok hr n0 n1;show bc (kl cs bI bz [some (aw es),some (au rs),some (.int n)])=_;simp only [kl,aN,om,bh,ay,aF,ak,ar,Rs.ag,h2,av,bW,h3,h1,aU]
  ·exact absurd rfl hne
structure Er.Sm (e:Er):Prop where
 ev:e.every<=19
 la:e.late<=3
 pl:∀ p∈e.parts,p.1<=4
 nt:∀ p∈e.parts,p.2=none
theorem Ju (ns:List Int) (a:Int):(mkE ns a 17 false).Sm:=by
 have h1:=cy ns a (many:=17) (by decide);have h2:=cz ns a (many:=17) (by decide);refine ⟨by show 3+mixed ns a 17<=19;omega,(pA ns a (3+mixed ns a 17) (by omega)).2.1,fun p hp=>?_,fun p hp=>?_⟩
 ·rcases M4.mp hp with hp | hp
  ·obtain ⟨k,_,rfl⟩:=L9.mp hp;show 1+mixed ns (a+4+(k:Int)) 40 % 4<=4;omega
  ·rw [LM] at hp;subst hp;have:=cy ns (a+6) (many:=3) (by decide);show 1+mixed ns (a+6) 3<=4;omega
 ·rcases M4.mp hp with hp | hp
  ·obtain ⟨k,_,rfl⟩:=L9.mp hp;rfl
  ·rw [LM] at hp;subst hp;rfl
theorem D5 (ns:List Int) (a:Int):∀ e∈nP ns a 4 17 false,e.Sm:=fun e he=>by obtain ⟨k,_,rfl⟩:=L9.mp he;exact Ju ns _
theorem Co (ns:List Int):∃ es rs,1<=es.length/\es.length<=4/\(∀ e∈es,e.Ok)/\(∀ e∈es,e.Sm)/\cf es.length rs/\bp [ao ns,.int 12,.int 4,.int 17,.bool false]=.ok (aw es)/\bT [ao ns,.int 0,.int (es.length:Int)]=.ok (au rs):=by have hl:=DC ns 12 4 17 false (by decide);have hok:=FF ns 12 4 17 false (by decide) (by decide);have hsm:=D5 ns 12;have hes:bp [ao ns,.int 12,.int 4,.int 17,.bool false]=.ok (aw (nP ns 12 4 17 false)):=ig (by decide) (by decide) (by decide) (by decide) (by decide);generalize nP ns 12 4 17 false=es at *;have hrs:=jk (ns:=ns) (a:=0) (many:=(es.length:Int)) (by decide) (by omega) (by omega);rw [Mb] at hrs;exact ⟨es,_,hl.1,by omega,hok,hsm,xq ns 0 es.length,hes,hrs⟩
theorem ur (h:∀ e∈es,∀ p∈e.parts,p.2=none) (hr:cf es.length rs):gp es rs n=0:=by
 have h0:=kN es rs n;have h1:gp es rs n<=0:=sA.mpr ⟨MQ _,fun m hm p hp t ht=>by have hm':=hr.rng m (N5 hm);rw [h _ (bV hm'.1 hm'.2) p hp] at ht;cases ht⟩
 omega
def Er.tk (k:Int) (e:Er):Er:=⟨e.every*k,e.due*k,e.late*k,e.parts.map fun p=>(p.1*k,none)⟩
theorem JV {k:Int} (h:e.Ok) (s:e.Sm) (k2:2<=k) (k3:k<=3):(e.tk k).Ok:=by
 have e1:=h.e1;have e2:=s.ev;have a1:=h.l1;have a2:=s.la;have a3:=h.l3;have d1:=h.d1;have d2:=h.d2;obtain rfl | rfl:k=2\/k=3:=by omega
 ·refine ⟨by show 2<=e.every*2;omega,by show e.every*2<=60;omega,by show 0<=e.late*2;omega,by show e.late*2<=20;omega,by show e.late*2<e.every*2;omega,by show 1<=e.due*2;omega,by show e.due*2<=e.every*2-e.late*2;omega,fun q=>h.p1 (Nw.mp q),by show (e.parts.map _).length<=4;rw [L3];exact h.p2,fun p hp=>?_,fun p hp=>?_⟩
  ·obtain ⟨q,hq,rfl⟩:=L9.mp hp;have:=h.pl q hq;have:=s.pl q hq;exact ⟨by show 1<=q.1*2;omega,by show q.1*2<=20;omega,fun t ht=>by cases ht⟩
  ·obtain ⟨q,_,rfl⟩:=L9.mp (List.mem_of_getLast? hp);rfl
 ·refine ⟨by show 2<=e.every*3;omega,by show e.every*3<=60;omega,by show 0<=e.late*3;omega,by show e.late*3<=20;omega,by show e.late*3<e.every*3;omega,by show 1<=e.due*3;omega,by show e.due*3<=e.every*3-e.late*3;omega,fun q=>h.p1 (Nw.mp q),by show (e.parts.map _).length<=4;rw [L3];exact h.p2,fun p hp=>?_,fun p hp=>?_⟩
  ·obtain ⟨q,hq,rfl⟩:=L9.mp hp;have:=h.pl q hq;have:=s.pl q hq;exact ⟨by show 1<=q.1*3;omega,by show q.1*3<=20;omega,fun t ht=>by cases ht⟩
  ·obtain ⟨q,_,rfl⟩:=L9.mp (List.mem_of_getLast? hp);rfl
theorem sY (k:Int):∀ l:List Int,(l.map (· * k)).sum=l.sum*k
 | []=>by simp
 | a::r=>by rw [L5,Mq,Mq,sY k r,N0]
theorem yT (k:Int) (e:Er):(e.tk k).work=e.work*k:=by unfold Er.work Er.tk;rw [<-sY,LW,LW];rfl
theorem BG {k:Int} (h:1<=e.every) (hk:1<=k):(e.tk k).times t=e.times ((t+k-1) / k):=by
 have c1:=sR (x:=t+e.late*k) (e:=e.every*k) (Int.mul_pos (by omega) (by omega));have c2:=sR (x:=(t+k-1) / k+e.late) (e:=e.every) (by omega);show (t+e.late*k) / (e.every*k)+(if (t+e.late*k) % (e.every*k)>0 then 1 else 0)=((t+k-1) / k+e.late) / e.every+(if ((t+k-1) / k+e.late) % e.every>0 then 1 else 0);rw [<-c1,<-c2];have q:(t+k-1) / k+e.late+e.every-1=(t+k-1+(e.late+e.every-1)*k) / k:=by rw [Int.add_mul_ediv_right _ _ (by omega)];omega
 rw [q,Int.ediv_ediv_of_nonneg (by omega)];have r:t+k-1+(e.late+e.every-1)*k=t+e.late*k+e.every*k-1:=by rw [Int.sub_mul,N0,Int.one_mul];omega
 rw [r,Int.mul_comm k]
theorem t8 {k:Int} (h0:0<=n) (h1:n<es.length):aS (es.map (Er.tk k)) n=(aS es n).tk k:=by have a:=jT h0 h1;have b:=jT (es:=es.map (Er.tk k)) h0 (by rw [L3];exact h1);rw [LQ,a] at b;exact (Option.some.inj b).symm
theorem tj {k:Int} (hok:∀ e∈es,e.Ok) (hnt:∀ e∈es,∀ p∈e.parts,p.2=none) (hr:cf es.length rs) (n0:0<=n) (n1:n<es.length) (hk:1<=k):eV (es.map (Er.tk k)) rs n t=eV es rs n ((t+k-1) / k)*k:=by
 have hr':cf (es.map (Er.tk k)).length rs:=by rw [L3];exact hr
 have nt':∀ e∈es.map (Er.tk k),∀ p∈e.parts,p.2=none:=fun e he p hp=>by obtain ⟨x,_,rfl⟩:=L9.mp he;obtain ⟨q,_,rfl⟩:=L9.mp hp;rfl
 unfold eV;rw [ur nt' hr',ur hnt hr,t8 n0 n1,yT];have e:((rs.take (placeOf rs n)).map fun m=>(aS (es.map (Er.tk k)) m).times t*(aS (es.map (Er.tk k)) m).work)=((rs.take (placeOf rs n)).map fun m=>(aS es m).times ((t+k-1) / k)*(aS es m).work).map (· * k):=by
  rw [LW];refine LY fun m hm=>?_
  have hm':=hr.rng m (MB hm);show _=(aS es m).times ((t+k-1) / k)*(aS es m).work*k;rw [t8 hm'.1 hm'.2,yT,BG (by have:=(hok _ (bV hm'.1 hm'.2)).e1;omega) hk,Int.mul_assoc]
 rw [e,sY,N0,N0];omega
theorem wY {k:Int} (hok:∀ e∈es,e.Ok) (hnt:∀ e∈es,∀ p∈e.parts,p.2=none) (hr:cf es.length rs) (n0:0<=n) (n1:n<es.length) (hk:1<=k):e9 (es.map (Er.tk k)) rs n=(e9 es rs n).map (· * k):=by
 have R:=qI hok hr n0 n1;have on:=hok _ (bV n0 n1);have hM:((aS es n).tk k).every-((aS es n).tk k).late=((aS es n).every-(aS es n).late)*k:=by rw [Int.sub_mul];rfl
 have l3:=on.l3;have hB:(((((aS es n).every-(aS es n).late)*k).toNat:Nat):Int)=((aS es n).every-(aS es n).late)*k:=MK (Nx (by omega) (by omega));have hB1:((((aS es n).every-(aS es n).late).toNat:Nat):Int)=(aS es n).every-(aS es n).late:=MK (by omega);have cl:∀ s:Int,1<=s->1<=(s+k-1) / k/\s<=(s+k-1) / k*k/\(s+k-1) / k*k<=s+k-1:=fun s hs=>by have h1:=Int.ediv_mul_le (s+k-1) (b:=k) (by omega);have h2:=Int.lt_ediv_add_one_mul_self (s+k-1) (b:=k) (by omega);rw [N0,Int.one_mul] at h2;refine ⟨?_,by omega,h1⟩;exact (Int.le_ediv_iff_mul_le (by omega)).mpr (by omega)
 rw [lL,lL,t8 n0 n1,hM];cases q:dB ((aS es n).every-(aS es n).late).toNat fun t=>decide (eV es rs n t<=t) with
 | some T =>
  obtain ⟨t1,t2,t3,t4⟩:=fj q;have t3:=of_decide_eq_true t3;have t4':∀ s,1<=s->s<T->¬ eV es rs n s<=s:=fun s a b=>of_decide_eq_false (t4 s a b)
  have fx:=R.fix t1 t3 t4';rw [hB1] at t2;have hT:(T*k+k-1) / k=T:=by rw [show T*k+k-1=k-1+T*k by omega,Int.add_mul_ediv_right _ _ (by omega),Nl (by omega) (by omega),Int.zero_add]
  refine wN (t:=T*k) ?_ ?_ (decide_eq_true ?_) fun s s1 s2=>decide_eq_false fun hs=>?_
  ·have:=Mg (a:=1) (b:=T) (c:=k) t1 (by omega);omega
  ·rw [hB];exact Mg t2 (by omega)
  ·rw [tj hok hnt hr n0 n1 hk,hT,fx];exact MQ _
  ·rw [tj hok hnt hr n0 n1 hk] at hs;obtain ⟨c1,c2,c3⟩:=cl s s1;have hq:eV es rs n ((s+k-1) / k)<=(s+k-1) / k:=Int.le_of_mul_le_mul_right (NK hs c2) (by omega);by_cases z:(s+k-1) / k<T
   ·exact t4' _ c1 z hq
   ·have h1:T<=(s+k-1) / k:=by omega
    have h2:=R.mono T _ t1 h1;rw [fx] at h2;have h3:=Mg h2 (show 0<=k by omega);omega
 | none =>
  refine yl fun s s1 s2=>decide_eq_false fun hs=>?_
  rw [tj hok hnt hr n0 n1 hk] at hs;rw [hB] at s2;obtain ⟨c1,c2,c3⟩:=cl s s1;have hq:eV es rs n ((s+k-1) / k)<=(s+k-1) / k:=Int.le_of_mul_le_mul_right (NK hs c2) (by omega);have hb:(s+k-1) / k<=(aS es n).every-(aS es n).late:=by have:(s+k-1) / k<(aS es n).every-(aS es n).late+1:=Int.ediv_lt_of_lt_mul (by omega) (by rw [N0];omega);omega
  have:=iX q _ c1 (by rw [hB1];exact hb);exact of_decide_eq_false this hq
end RS
set_option maxHeartbeats 4000000
namespace L2
open PySem PySem.Spec PyProof.Rows
variable {ge:Ds->Rs PyData} {xs:List (List Key×Addr×Value)} {G:List Addr->Ds->Sr}
def sC (CX:CXT) (P:Program) (w:World) (K:PySem.W.Frag) (mg:Str->Option Value) (base:Heap) (N:List Str) (qual:Str) (scope:Scope) (f:Addr) (cd:Value) (cl:List (Str×Addr)) (A:Around) (outer:List Env) (s:Shared) (H:Hp) (E:XK):Cx where
 prog:=P
 w:=w
 K:=K
 mg:=mg
 base:=base
 A:=A.deeper (PySem.W.envX qual scope s.heap.objs.size f cd cl)
 N:=N
 s₀:=s
 H₀:=H
 env:=PySem.W.envX qual scope s.heap.objs.size f cd cl
 outer:=outer
 stack:=PySem.W.envX qual scope s.heap.objs.size f cd cl::outer
 ex:=[]
 calm:=true
 fn:=fun _=>false
 pn:=[]
 xe:=fun e s'=>wpAny (model P w) (A.deeper (PySem.W.envX qual scope s.heap.objs.size f cd cl)) (leaving (PySem.W.envX qual scope s.heap.objs.size f cd cl) e) (fun _ s''=>CX outer H s E e s'') (fun e' s''=>CX outer H s E e' s'') s'
theorem r8 {α:Type} {y:Str} {u:α}:∀ {l:List (Str×α)},(l.map (·.1)).Nodup->(y,u)∈l->l.lookup y=some u
 | [],_,h=>by cases h
 | (z,w)::l,nd,h=>by
  rw [M5];rw [L5,Mf] at nd;rcases L7.mp h with h | h
  ·cases h;simp
  ·have m:y∈l.map (·.1):=List.mem_map_of_mem (f:=(·.1)) h;have:y≠z:=fun q=>nd.1 (by subst q;exact m)
   rw [show (y==z)=false by simpa using this];exact r8 nd.2 h
theorem Bh {y:Str} {u:α} {us:List α} (nd:ps.Nodup) (hl:us.length=ps.length) (h1:ps[i]?=some y) (h2:us[i]?=some u):(ps.zip us).reverse.lookup y=some u:=by
 refine r8 ?_ ?_
 ·rw [List.map_reverse,List.map_fst_zip (by omega)];exact (List.reverse_perm ps).symm.nodup nd
 ·rw [List.mem_reverse];refine Mi (i:=i) ?_;rw [List.getElem?_zip_eq_some];exact ⟨h1,h2⟩
structure ll (N ps:List Str) (sc:Scope):Prop where
 kind:sc.kind=.function
 co:sc.isCoroutine=false
 gen:sc.isGenerator=false
 nd:N.Nodup
 pre:N.take ps.length=ps
 par:∀ x∈ps,sc.names.lookup x=some .local
 nocell:∀ x∈sc.names,x.2≠.cell
structure HJ (s:Shared) (H:Hp) (cl:List (Str×Addr)) (sc:Scope) (N:List Str) (n:Nat) (ws:List (Option V)):Prop where
 inj:∀ x y c,cl.lookup x=some c->cl.lookup y=some c->x=y
 has:∀ x,sc.names.lookup x=some .free->∃ c,cl.lookup x=some c
 cell:∀ x c,cl.lookup x=some c->∃ v,s.heap.IsCell c v
 free:∀ x c,cl.lookup x=some c->H c=none
 len:N.length=n+ws.length
 val:∀ (i:Nat) (x:Str) (v:V),N[n+i]?=some x->ws[i]?=some (some v)->∃ u c,RelV v u/\sc.names.lookup x=some .free/\cl.lookup x=some c/\s.heap.IsCell c (some u)
theorem D8 {A:Around} {E:XK} {h1:Heap} {tk:Nat}
  (S:ll N ps scope) (hd:A.handled=none) (e0:uu P w K mg base A outer s H) (hl:vs.length=ps.length) (r:Vals vs us) (C:HJ s H cl scope N ps.length ws)
  (hns:h1.Ns s.heap.objs.size (fun x=>(ps.zip us).reverse.lookup x)) (hk:∀ b o,s.heap.get? b=some o->h1.get? b=some o) :
  Inv (sC CX P w K mg base N qual scope f cd cl A outer s H E) [] (vs.map some++ws) H { s with heap:=h1,toks:=tk }:=by
 have noA:∀ b:Addr,b∉(sC CX P w K mg base N qual scope f cd cl A outer s H E).ex:=fun b z=>absurd (show b∈([]:List Addr) from z) (by simp)
 have kc:∀ c v,s.heap.IsCell c v->h1.IsCell c v:=fun c v q=>by obtain ⟨o,e,d⟩:=q;exact ⟨o,hk _ _ e,d⟩
 refine ⟨⟨e0.mod,S.kind,rfl,rfl,LK _,fun y z c h1 h2=>C.inj y z c h1 h2,fun y hy=>?_,fun y c z _=>(by cases z),fun _=>hd,Around.frames_deeper e0.frames,.inr ⟨rfl,rfl⟩,fun b z=>absurd z (noA b),e0.bs,e0.bsz,fun b _ _=>noA b,fun b z=>absurd z (noA b),e0.funs,e0.frf⟩,
  rfl,e0.bare,Un.kept hk,⟨_,hns,fun i y v h1 h2 h3=>?_⟩,fun y c h=>?_,e0.hok.fresh (LK _),fun y c h=>C.free y c h,fun p hp=>absurd (show p∈([]:List (Addr×Obj)) from hp) (by simp),e0.hok.kept hk,?_,e0.tab⟩
 ·have hy:scope.names.lookup y=some .cell\/scope.names.lookup y=some .free:=hy;rcases hy with hy | hy
  ·exact absurd rfl (S.nocell _ (PySem.mem_of_lookup hy))
  ·exact C.has y hy
 ·have h1:N[i]?=some y:=h1;by_cases hi:i<vs.length
  ·have ha:vs[i]?=some v:=by
    rw [M3 (by simpa using hi),LQ] at h2;cases e:vs[i]? with
    | none=>rw [e] at h2;cases h2
    | some a=>rw [e] at h2;cases h2;rfl
   obtain ⟨u,hu,rv⟩:=r.get ha;have hp:ps[i]?=some y:=by rw [<-S.pre,List.getElem?_take_of_lt (by omega)];exact h1
   have ndP:ps.Nodup:=by rw [<-S.pre];exact S.nd.sublist (List.take_sublist _ _)
   refine ⟨u,rv,.inl ⟨S.par y (Mi hp),?_⟩⟩;exact Bh ndP (by rw [<-r.length,hl]) hp hu
  ·rw [M6 (by simpa using hi),L3] at h2;have e:N[ps.length+(i-vs.length)]?=some y:=by rw [<-hl,Nat.add_sub_cancel' (by omega)];exact h1
   obtain ⟨u,c,rv,k,l,q⟩:=C.val _ _ _ e h2;exact ⟨u,rv,.inr ⟨.inr k,c,l,kc _ _ q⟩⟩
 ·obtain ⟨v,q⟩:=C.cell y c h;exact ⟨v,kc _ _ q⟩
 ·show _=N.length;rw [LL,L3,hl,C.len]
theorem Fn {k:Nat} {name:Str} {c':Addr} {ctv:Value} {A:Around} {Q:VK} {E:XK} {t:TE}
  (S:ll N ps scope) (hr:cx (k+1) A) (e0:uu P w K mg base A outer s H) (hl:vs.length=ps.length) (r:Vals vs us) (C:HJ s H cl scope N ps.length ws)
  (ho:s.heap.get? f=some (PySem.W.kla_obj name qual params body scope cl pm c' ctv)) (hcd:s.heap.CodeRec (.ref c') qual)
  (hb:bindArgs (PySem.W.kla_fn name qual params body scope cl pm (.ref c') ctv) ⟨us,[]⟩=pure (ps.zip us))
  (hbody:PE (sC CX P w K mg base N qual scope f (.ref c') cl A outer s H E) body t) (hq:t (vs.map some++ws) H Q) :
  codeAny (model P w) A (.call (.ref f) ⟨us,[]⟩) (CR CX outer P w H s Q E) s:=by
 have lim:s.heap.NoLimit:=e0.mod.nolimit.keeps fun b o e=>(e0.bs b o e).1
 refine PySem.W.kla_callFunE hr.depth ho rfl S.co S.gen rfl hcd ?_;rw [hb];refine wpAny_pure (wpAny_newFunctionEnv S.nocell (fun y hy=>S.par y.1 (Nc (a:=y.1) (b:=y.2) hy).1) (fun h₁ hns hsb=>⟨lim.fresh _ hsb,?_⟩) S.kind);have hk₁:∀ b o,s.heap.get? b=some o->h₁.get? b=some o:=fun b o e=>hsb.extBut b o (LR (LN e)) (L0 _ e)
 have I:=D8 (CX:=CX) (qual:=qual) (f:=f) (cd:=.ref c') (E:=E) (tk:=s.toks+(ps.zip us).length) S hr.hd e0 hl r C hns hk₁;exact PySem.W.kla_codeExpr (wpAny_mono (hbody [] _ _ H Q I hq) (fun u s' qz2=>(by obtain ⟨v,H',J,rv,q⟩:=qz2;exact ⟨v,H',J.os,J.bare,J.base,J.hok,rv,q⟩)) fun _ _ y=>y)
structure DD (X:Cx) (c P:Addr):Prop where
 tab:TabOf X.K P (X.env.qual++"<lambda>")
 code:X.env.code=.ref c
 hd:PySem.W.CodeHd X.base c P
 bl:∃ bm o,X.mg "__builtins__"=some (.ref bm)/\bm≠builtinsNs/\bm≠mainGlobals/\X.base.get? bm=some o/\o.cls=.type "module"/\o.dict=some builtinsNs/\o.data=.plain
theorem lR {a b:Int} {t u:Nat} {c:Value}:∀ {l:List Value},TriplesOk l->TriplesOk (l++[.int a t,.int b u,c])
 | [],_=>by simp [TriplesOk]
 | [_],h=>by simp [TriplesOk] at h
 | [x,y],h=>by cases x <;> cases y <;> (unfold TriplesOk at h;exact h.elim)
 | x::y::z::r,h=>by
  cases x <;> first | (unfold TriplesOk at h;exact h.elim) | skip
  cases y <;> first | (unfold TriplesOk at h;exact h.elim) | skip
  unfold TriplesOk at h;show TriplesOk (_::_::_::(r++_));unfold TriplesOk;exact lR h
theorem oC {pos:Pos} {a b:Int} {t u:Nat} {c cv:Value}:∀ {l:List Value},TriplesOk l->codeAmong pos (l++[.int a t,.int b u,c])=some cv->codeAmong pos l=some cv\/cv=c
 | [],_,e=>by
  simp only [Ma,codeAmong] at e;split at e
  ·cases e;exact .inr rfl
  ·cases e
 | [_],h,_=>by simp [TriplesOk] at h
 | [x,y],h,_=>by cases x <;> cases y <;> (unfold TriplesOk at h;exact h.elim)
 | x::y::z::r,h,e=>by
  cases x <;> first | (unfold TriplesOk at h;exact h.elim) | skip
  cases y <;> first | (unfold TriplesOk at h;exact h.elim) | skip
  unfold TriplesOk at h;simp only [Mc,codeAmong] at e ⊢;split at e
  ·rename_i q;rw [if_pos q];exact .inl e
  ·rename_i q;rw [if_neg q];exact oC h e
def Lz (qual:Str) (mk:Addr->Value->Obj):TE:=fun _ H Q=>∀ f c' ctv H',H f=none->H' f=some (.frz (mk c' ctv) (.own f))->ax H H' ->
 (∃ o vs t,H' c'=some (.frz o (.own c'))/\o.data=.fields vs/\vs[1]?=some (.str qual t))->Q (.ref f) H'
theorem Js {P:Addr} (T:DD X c P) (hcl:closureFor scope X.env=pure clos) (hdef:defaultsOf params X.env=([],[]):=by rfl) :
  PE X (.Lambda params body scope pos) (Lz (X.env.qual++"<lambda>") fun c' ctv=>PySem.W.kla_obj "<lambda>" (X.env.qual++"<lambda>") params body scope clos ((X.mg "__name__").getD .none) c' ctv):=by
 intro pins s σ H Q I h;have hP:=I.tab P _ T.tab;obtain ⟨ps,hPs,ht,hc⟩:=I.hok P _ hP;obtain ⟨bm,ob,b1,b2,b3,b4,b5,b6,b7⟩:=T.bl;have nb:∀ b o,X.base.get? b=some o->b≠P:=fun b o e z=>by have:=(I.bs b o e).2;rw [z,hP] at this;cases this
 have hbA:s.heap.BuiltinsAt X.mg P:=⟨bm,ob,b1,b2,b3,nb _ _ b4,I.bk _ _ b4,b5,b6,b7⟩
 have hg:s.heap.Ns mainGlobals X.mg:=I.mod.glob.keeps I.bk;have hgP:mainGlobals≠P:=by obtain ⟨o,es,ep,e,_⟩:=I.mod.glob;exact nb _ _ e
 have hC:=T.hd.keeps I.bk;have fin:∀ {H1:Hp} {h1:Heap} {tk:Nat} {o:Obj},Inv X pins σ H1 { s with heap:=h1,toks:=tk }->o.isFreed=false->Inv X pins σ (upd H1 h1.objs.size (.frz o (.own h1.objs.size))) { s with heap:=h1.push o,toks:=tk }:=fun {H1 h1 tk o} J hcls =>
  J.laid (h':=h1.push o) (t':=tk) (fun b u q=>L0 _ q) (LK _) ⟨LP _ hcls,o,LP _ hcls⟩
 refine PySem.W.kla_eval hdef ?_;cases hf:codeAmong pos ps.toList with
 | some cv =>
  obtain ⟨c',o,vs,t,rfl,hc',d1,d2⟩:=hc pos cv hf;refine PySem.W.kla_makeFunctionHit (mg:=X.mg) hcl I.ok.glob hg T.code hC hPs ht hf hbA fun ctv h' tk hk hsz=>?_
  have n:H h'.objs.size=none:=I.hok.fresh hsz;exact ⟨.ref _,_,fin (I.kept (h':=h') (t':=tk) hk) rfl,rfl,h _ c' ctv _ n aG (gU n) ⟨o,vs,t,by rw [aA (aK hc' n)];exact hc',d1,d2⟩⟩
 | none =>
  refine PySem.W.kla_makeFunction (mg:=X.mg) hcl I.ok.glob hg T.code hC hPs ht hf hgP hbA fun c' ctv h' tk hx hge hlt hrec htb=>?_
  obtain ⟨c₂,oc,vs,t,e2,hoc,hd,hv⟩:=hrec;cases e2;have hn:H c'=none:=I.hok.fresh hge;have cP:c'≠P:=fun z=>by rw [z,hP] at hn;cases hn
  have hne:∀ b u,H b=some u->b≠c':=fun b u e z=>by rw [z,hn] at e;cases e
  have J:Inv X pins σ (upd H c' (.frz oc (.own c'))) { s with heap:=h',toks:=tk }:=by
   refine I.step (g':=s.gens) (d':=s.drawn) (ch:=[]) (fun _ z=>nomatch z) (fun b o _ _ _ e n=>?_) (fun b o _ _ _ e n=>⟨o.slots,?_⟩) (fun b o _ e n=>?_) (fun b o _ e=>?_) (fun b xs e=>?_) (fun b o u e=>?_) (fun b qs e=>?_) (fun m hm=>?_) (fun b u e=>?_) I.bare
   ·exact hx b o (fun z=>by rw [z,hP] at n;cases n) e
   ·exact hx b o (fun z=>by rw [z,hP] at n;cases n) e
   ·rw [aA (LR (LV (LN e) hge))];exact n
   ·by_cases z:b=P
    ·subst z;exact ⟨_,htb⟩
    ·exact ⟨o,hx b o z e⟩
   ·rw [aA (hne b _ e)];exact e
   ·rw [aA (hne b _ e)];exact e
   ·rw [aA (hne b _ e)];exact e
   ·obtain ⟨o,es,ep,ho,r⟩:=hm;refine ⟨o,es,ep,hx _ o (fun z=>?_) ho,r⟩;have:=I.free;rw [z,hP] at this;cases this
   ·by_cases z:b=c'
    ·subst z;rw [aG] at e;cases e;exact ⟨hoc,oc,hoc⟩
    ·rw [aA z] at e;by_cases y:b=P
     ·subst y;rw [hP] at e;cases e;refine ⟨ps++#[rawInt pos.line,rawInt pos.col,.ref c'],htb,?_,fun pos' cv e=>?_⟩
      ·rw [Array.toList_append];exact lR ht
      ·rw [Array.toList_append] at e;rcases oC ht e with e | rfl
       ·obtain ⟨c2,o,vs,t,rfl,q,d⟩:=hc pos' cv e;exact ⟨c2,o,vs,t,rfl,by rw [aA (hne _ _ q)];exact q,d⟩
       ·exact ⟨c',oc,vs,t,rfl,aG,hd,hv⟩
     ·refine (I.hok b u e).stay (fun b' v hb q=>hx b' v (fun y'=>?_) q) (fun b' q=>?_) (fun b' xs q=>?_) fun b' o' u' q=>?_
      ·subst y';rcases hb with hb | hb
       ·exact y hb.symm
       ·rw [hP] at hb;cases hb
      ·rw [aA (hne b' _ q)];exact q
      ·rw [aA (hne b' _ q)];exact q
      ·rw [aA (hne b' _ q)];exact q
  have n:upd H c' (.frz oc (.own c')) h'.objs.size=none:=J.hok.fresh (LK _);have n0:H h'.objs.size=none:=I.hok.fresh (Mv hge (NH hlt));exact ⟨.ref _,_,fin J rfl,rfl,h _ c' ctv _ n0 aG ((gU hn).trans (gU n)) ⟨oc,vs,t,by rw [aA (aK aG n)];exact aG,hd,hv⟩⟩
abbrev Cx.in1 (X:Cx):Cx:={ X with A:=X.A.in1 }
section
theorem Inv.in1 (I:Inv X pins σ H s):Inv X.in1 pins σ H s :=
 ⟨⟨I.ok.mod,I.ok.kind,I.ok.glob,I.ok.blt,I.ok.above,I.ok.inj,I.ok.has,I.ok.cab,I.ok.hd,I.ok.frames,I.ok.stk,I.ok.exf,I.ok.bs,I.ok.bsz,I.ok.noex,I.ok.exfs,I.ok.funs,I.ok.frf⟩,I.os,I.bare,I.base,I.loc,I.cell,I.free,I.freeC,I.pin,I.hok,I.len,I.tab⟩
theorem Inv.of1 (I:Inv X.in1 pins σ H s):Inv X pins σ H s :=
 ⟨⟨I.ok.mod,I.ok.kind,I.ok.glob,I.ok.blt,I.ok.above,I.ok.inj,I.ok.has,I.ok.cab,I.ok.hd,I.ok.frames,I.ok.stk,I.ok.exf,I.ok.bs,I.ok.bsz,I.ok.noex,I.ok.exfs,I.ok.funs,I.ok.frf⟩,I.os,I.bare,I.base,I.loc,I.cell,I.free,I.freeC,I.pin,I.hok,I.len,I.tab⟩
end
def bst (lt:Nat->Nat->Bool):Nat->Nat
 | 0=>0
 | j+1=>if lt (j+1) (bst lt j) then j+1 else bst lt j
theorem qA (lt:Nat->Nat->Bool):∀ j,bst lt j<=j
 | 0=>LK _
 | j+1=>by
  unfold bst;split
  ·exact LK _
  ·exact Nat.le_succ_of_le (qA lt j)
structure lA (X:Cx) (σ:St) (pins:List (Addr×Obj)) (q l:Addr) (xs:List V) (Φ:Hp->Prop) (κ:Nat->V->Hp->Prop) (lt:Nat->Nat->Bool):Prop where
 lst:∀ H,Φ H->H l=some (.lst xs)
 turn:∀ (i:Nat) (x:V),xs[i]?=some x->∀ (pins':List (Addr×Obj)) (H:Hp) (s:Shared) (u:Value),(∀ p∈pins,p∈pins')->Inv X.in1 pins' σ H s->Φ H->RelV x u ->
  wpAny (model X.prog X.w) X.A.in1 (call (.ref q) [u]) (EP X.in1 pins' σ fun v H'=>Φ H'/\κ i v H'/\∀ j v',κ j v' H->κ j v' H') (fun _ _=>False) s
 cmp:∀ (i j:Nat) (x y:V) (pins':List (Addr×Obj)) (H:Hp) (s:Shared) (u v:Value),Inv X.in1 pins' σ H s->Φ H->κ i x H->κ j y H->RelV x u->RelV y v ->
  wpAny (model X.prog X.w) X.A.in1 (richCompare .Lt u v) (fun r s'=>r=.bool (lt i j)/\Inv X.in1 pins' σ H s') (fun _ _=>False) s
section
variable {q l:Addr} {xs:List V} {Φ:Hp->Prop} {lt:Nat->Nat->Bool} {R:Result->Shared->Prop}
theorem Inv.turnPin {ps:List (Addr×Obj)} {o o':Obj} (I:Inv X ((it,o)::ps) σ H s) (k:∀ b u,b≠it->s.heap.get? b=some u->h'.get? b=some u) (ho:h'.get? it=some o')
  (h1:X.s₀.heap.objs.size<=it) (h3:∀ p∈X.pn++ps,p.1≠it) (hc:∀ v,o'.data≠.cell v):Inv X ((it,o')::ps) σ H { s with heap:=h',toks:=t' }:=by
 obtain ⟨e,n,ne,nf,d⟩:=I.pin (it,o) (LJ _ (.head _));have I0:Inv X ps σ H s:=I.pins_of fun p hp=>I.pin p (LJ _ (.tail _ hp))
 have J:Inv X ps σ H { s with heap:=h',toks:=t' }:=I0.turned k n ne (.inr h1) (fun x c hl z=>by obtain ⟨v,o2,e2,d2⟩:=I.cell x c hl;subst z;rw [e] at e2;cases e2;exact d v d2) h3
 refine J.pins_of fun p hp=>?_
 rcases L7.mp hp with rfl | hp
 ·exact ⟨ho,n,ne,nf,hc⟩
 ·exact J.pin p (LJ _ hp)
theorem Inv.swap {ps:List (Addr×Obj)} {a b:Addr×Obj} (I:Inv X (a::b::ps) σ H s):Inv X (b::a::ps) σ H s:=I.pins_of fun p hp=>I.pin p (LJ _ (by
 rcases L7.mp hp with rfl | hp
 ·exact .tail _ (.head _)
 ·rcases L7.mp hp with rfl | hp
  ·exact .head _
  ·exact .tail _ (.tail _ hp)))
theorem Fu (KK:lA X σ pins q l xs Φ κ lt) (hh:X.A.handled=none)
  (hR:∀ H' s' x u,xs[bst lt (xs.length-1)]?=some x->RelV x u->Inv X pins σ H' s'->Φ H'->R (.ok (.ret u)) s') :
  ∀ (r j:Nat) (H:Hp) (s:Shared) (ub uk:Value) (xb kb:V) (c:Nat) (It S:Addr) (oI:Obj),xs.length-(j+1)=r->j+1<=xs.length->X.s₀.heap.objs.size<=It->X.s₀.heap.objs.size<=S->S≠It ->
   (∀ p∈X.pn++pins,p.1≠It)->(∀ p∈X.pn++pins,p.1≠S) ->
   Inv X.in1 ((S,seqObj "list" #[ub,uk] c)::(It,oI)::pins) σ H s->oI.cls=.type "list_iterator"->oI.data=.fields #[.ref l,.int ((j+1:Nat):Int) 0]->Φ H->xs[bst lt j]?=some xb->RelV xb ub->κ (bst lt j) kb H->RelV kb uk ->
   codeAny (model X.prog X.w) X.A (.builtin "min.loop" ⟨[.ref It,.ref q,.ref S],[]⟩) R s:=by
 have hname:(toString "min"++toString ".loop":String)="min.loop":=by decide
 intro r
 induction r with
 | zero =>
  intro j H s ub uk xb kb c It S oI hr hj zI zS hSI nI nS I hc1 hd1 hΦ hb rb hκ rk;have hin:j+1=xs.length:=by omega
  have pS:=I.pin (S,seqObj "list" #[ub,uk] c) (LJ _ (.head _));have pI:=I.pin (It,oI) (LJ _ (.tail _ (.head _)));have hl:=KK.lst H hΦ;obtain ⟨its,n,rv,eL,_⟩:=I.lst hl;have hlI:l≠It:=aK hl pI.2.1;have hsz:its.toArray.size=xs.length:=by rw [LO,<-rv.length]
  have W:=Walks.list (prog:=X.prog) (w:=X.w) (A:=X.A.in1) hh It l hlI its.toArray;refine codeAny_builtin PySem.F.entry_min_loop ?_;rw [Around.under_plainId PySem.F.plain_min_loop _];show wpAny _ X.A.in1 (seqItems? (.ref S) >>= _) _ _ _;refine wpAny_bind (wpAny_seqItems pS.1 rfl ?_);show wpAny _ X.A.in1 (tryCatch (pyNext (.ref It)) _ >>= _) _ _ _;refine wpAny_bind (wpAny_tryCatch (W.done _ _ _ ⟨by rw [hsz,<-hin];exact ⟨oI,pI.1,hc1,hd1⟩,⟨_,eL,rfl,n,rfl⟩⟩ fun h' tk' hk'=>?_));have I1:Inv X.in1 ((S,seqObj "list" #[ub,uk] c)::pins) σ H { s with heap:=h',toks:=tk' }:=by
   have I0:Inv X.in1 ((S,seqObj "list" #[ub,uk] c)::pins) σ H s:=I.pins_of fun p hp=>I.pin p (LJ _ (by
    rcases L7.mp hp with rfl | hp
    ·exact .head _
    ·exact .tail _ (.tail _ hp)))
   refine I0.turned (fun b o nb e=>hk' b o (by simpa using nb) e) pI.2.1 pI.2.2.1 (.inr zI) (fun x cc hcl z=>?_) fun p hp=>?_
   ·obtain ⟨v,o2,e2,d2⟩:=I.cell x cc hcl;subst z;rw [pI.1] at e2;cases e2;exact pI.2.2.2.2 v d2
   ·rcases M4.mp hp with hp | hp
    ·exact nI p (Me _ hp)
    ·rcases L7.mp hp with rfl | hp
     ·exact hSI
     ·exact nI p (LJ _ hp)
  have pS1:=I1.pin (S,seqObj "list" #[ub,uk] c) (LJ _ (.head _));have s1:=Heap.SameBut.update h' S (Obj.mapSeq fun _=>(#[]:Array Value));show wpAny _ X.A.in1 (updateSeq S (fun _=>#[]) >>= _) _ _ _;refine wpAny_bind ?_;refine wpAny_updateSeq pS1.1 rfl (wpAny_bind (wpAny_letGo (wpAny_pure ?_)));have I2:Inv X.in1 pins σ H { s with heap:=h'.update S (Obj.mapSeq fun _=>(#[]:Array Value)),toks:=tk' }:=by
   have I0:Inv X.in1 pins σ H { s with heap:=h',toks:=tk' }:=I1.pins_of fun p hp=>I1.pin p (LJ _ (.tail _ hp))
   refine I0.turned (h':=h'.update S (Obj.mapSeq fun _=>(#[]:Array Value))) (t':=tk') (fun b o nb e=>(s1.2 b nb).trans e) pS1.2.1 pS1.2.2.1 (.inr zS) (fun x cc hcl z=>?_) nS;obtain ⟨v,o2,e2,d2⟩:=I1.cell x cc hcl;subst z;rw [pS1.1] at e2;cases e2;exact pS1.2.2.2.2 v d2
  exact hR H _ xb ub (by rw [<-hin];exact hb) rb I2.of1 hΦ
 | succ r ih =>
  intro j H s ub uk xb kb c It S oI hr hj zI zS hSI nI nS I hc1 hd1 hΦ hb rb hκ rk;have hlt:j+1<xs.length:=by omega
  have pS:=I.pin (S,seqObj "list" #[ub,uk] c) (LJ _ (.head _));have pI:=I.pin (It,oI) (LJ _ (.tail _ (.head _)));have hl:=KK.lst H hΦ;obtain ⟨its,n,rv,eL,_⟩:=I.lst hl;have hlI:l≠It:=aK hl pI.2.1;have hsz:its.toArray.size=xs.length:=by rw [LO,<-rv.length]
  have W:=Walks.list (prog:=X.prog) (w:=X.w) (A:=X.A.in1) hh It l hlI its.toArray;refine codeAny_builtin PySem.F.entry_min_loop ?_;rw [Around.under_plainId PySem.F.plain_min_loop _];show wpAny _ X.A.in1 (seqItems? (.ref S) >>= _) _ _ _;refine wpAny_bind (wpAny_seqItems pS.1 rfl ?_);show wpAny _ X.A.in1 (tryCatch (pyNext (.ref It)) _ >>= _) _ _ _;refine wpAny_bind (wpAny_tryCatch (W.item (j+1) _ _ _ (by rw [hsz];exact hlt) ⟨⟨oI,pI.1,hc1,hd1⟩,⟨_,eL,rfl,n,rfl⟩⟩ fun v h' tk' hP hst' hk'=>?_));have hv:its[j+1]?=some v:=by simpa using hP
  obtain ⟨x,hx⟩:∃ x,xs[j+1]?=some x:=⟨_,L1 hlt⟩
  obtain ⟨v',hv',rx⟩:=rv.get hx;rw [hv] at hv';cases hv';obtain ⟨oI',hoI',hoc,hod⟩:=id hst'.1;have J:Inv X.in1 ((It,oI')::(S,seqObj "list" #[ub,uk] c)::pins) σ H { s with heap:=h',toks:=tk' } :=
   I.swap.turnPin (fun b o nb e=>hk' b o (by simpa using nb) e) hoI' zI (fun p hp=>by
    rcases M4.mp hp with hp | hp
    ·exact nI p (Me _ hp)
    ·rcases L7.mp hp with rfl | hp
     ·exact hSI
     ·exact nI p (LJ _ hp)) fun vv z=>by rw [hod] at z;cases z
  show wpAny _ X.A.in1 (tryCatch (holding [v] (call (.ref q) [v])) _ >>= _) _ _ _;refine wpAny_bind (wpAny_tryCatch (wpAny_holding (wpAny_mono (KK.turn (j+1) x hx _ H _ v (fun p hp=>.tail _ (.tail _ hp)) J hΦ rx) (fun uk2 s2 he=>?_) fun _ _ hF=>hF.elim)));obtain ⟨kv,H2,J2,rk2,hΦ2,hκ2,hst⟩:=he;show wpAny _ X.A.in1 (tryCatch (holding [v,uk2] (richCompare .Lt uk2 uk >>= _)) _ >>= _) _ _ _;refine wpAny_bind (wpAny_tryCatch (wpAny_holding (wpAny_bind (wpAny_mono (KK.cmp (j+1) (bst lt j) kv kb _ H2 s2 uk2 uk J2 hΦ2 hκ2 (hst _ _ hκ) rk2 rk) (fun rr s3 hc3=>?_) fun _ _ hF=>hF.elim))));obtain ⟨rfl,J3⟩:=hc3;refine wpAny_bind (wpAny_holding (wpAny_truthy_bool ?_));refine wpAny_bind (wpAny_letGo (wpAny_pure ?_));have pS3:=J3.pin (S,seqObj "list" #[ub,uk] c) (LJ _ (.tail _ (.head _)));cases hb':lt (j+1) (bst lt j) with
  | true =>
   have s1:=Heap.SameBut.update s3.heap S (Obj.mapSeq fun _=>#[v,uk2]);obtain ⟨c2,hc2⟩:∃ c2,(s3.heap.update S (Obj.mapSeq fun _=>#[v,uk2])).get? S=some (seqObj "list" #[v,uk2] c2):=⟨_,get?_update_seq pS3.1 fun _=>#[v,uk2]⟩
   simp only [if_true];refine wpAny_bind ?_;refine wpAny_updateSeq pS3.1 rfl (wpAny_bind (wpAny_letGo ?_));rw [hname];have J4:Inv X.in1 ((S,seqObj "list" #[v,uk2] c2)::(It,oI')::pins) σ H2 { s3 with heap:=s3.heap.update S (Obj.mapSeq fun _=>#[v,uk2]),toks:=s3.toks } :=
    J3.swap.turnPin (fun b o nb e=>(s1.2 b nb).trans e) hc2 zS (fun p hp=>by
     rcases M4.mp hp with hp | hp
     ·exact nS p (Me _ hp)
     ·rcases L7.mp hp with rfl | hp
      ·exact hSI.symm
      ·exact nS p (LJ _ hp)) fun vv z=>by cases z
   have eb:bst lt (j+1)=j+1:=by unfold bst;rw [if_pos hb']
   exact wpAny_pure ⟨plainId_quiet PySem.F.plain_min_loop _,ih (j+1) H2 _ v uk2 x kv c2 It S oI' (by omega) hlt zI zS hSI nI nS J4 hoc hod hΦ2 (by rw [eb];exact hx) rx (by rw [eb];exact hκ2) rk2⟩
  | false =>
   simp only [M0,if_false];refine wpAny_bind (wpAny_letGo ?_);rw [hname];have eb:bst lt (j+1)=bst lt j:=by rw [bst,if_neg (by rw [hb'];decide)]
   exact wpAny_pure ⟨plainId_quiet PySem.F.plain_min_loop _,ih (j+1) H2 _ ub uk xb kb c It S oI' (by omega) hlt zI zS hSI nI nS J3.swap hoc hod hΦ2 (by rw [eb];exact hb) rb (by rw [eb];exact hst _ _ hκ) rk⟩
theorem G4 (KK:lA X σ pins q l xs Φ κ lt) (hh:X.A.handled=none) (I:Inv X pins σ H s) (hΦ:Φ H) (hne:0<xs.length)
  (hQ:∀ H' s' x u,xs[bst lt (xs.length-1)]?=some x->RelV x u->Inv X pins σ H' s'->Φ H'->Q u s') :
  wpAny (model X.prog X.w) X.A (call (.builtin "min") [.ref l] [(Str.ofString "key",.ref q)]) Q E s:=by
 have hname:(toString "min"++toString ".loop":String)="min.loop":=by decide
 have hl:=KK.lst H hΦ;obtain ⟨its,n,rv,eL,_⟩:=I.lst hl;have hls:s.heap.IsList l its.toArray:=⟨_,eL,rfl,n,rfl⟩
 refine kmk_tree PySem.F.kind_min PySem.F.plain_min PySem.F.entry_min (kmk_min_key _ _) ?_;show wpAny _ X.A.in1 (Builtin.Builtins.bindParams "min" ["key", "default"] 0 ⟨[],[(Str.ofString "key",.ref q)]⟩ >>= _) _ _ s;refine wpAny_bind (wpAny_of_eq (show Builtin.Builtins.bindParams "min" ["key", "default"] 0 ⟨[],[(Str.ofString "key",.ref q)]⟩=pure [some (.ref q),none] from rfl) ?_);refine wpAny_bind (wpAny_pure ?_);refine wpAny_bind (wpAny_pyIter_list hls ?_);refine wpAny_bind (wpAny_newList ?_ (Mw _));rw [hname];have hS:(s.heap.push { cls:=.type "list_iterator",data:=.fields #[.ref l,.int 0 0] }).objs.size=s.heap.objs.size+1:=size_push' ..;have hll:l<s.heap.objs.size:=LN eL;have hlI:l≠s.heap.objs.size:=LR hll;have hSI:(s.heap.push { cls:=.type "list_iterator",data:=.fields #[.ref l,.int 0 0] }).objs.size≠s.heap.objs.size:=by rw [hS];exact My (MO _)
 have nI:∀ p∈X.pn++pins,p.1≠s.heap.objs.size:=fun p hp=>LR (LN (I.pin p hp).1)
 have nS:∀ p∈X.pn++pins,p.1≠(s.heap.push { cls:=.type "list_iterator",data:=.fields #[.ref l,.int 0 0] }).objs.size:=fun p hp=>by rw [hS];exact LR (Mx (LN (I.pin p hp).1))
 refine wpAny_pure ⟨plainId_quiet PySem.F.plain_min_loop _,?_⟩;have gI:((s.heap.push { cls:=.type "list_iterator",data:=.fields #[.ref l,.int 0 0] }).push (seqObj "list" #[] 0)).get? s.heap.objs.size=some { cls:=.type "list_iterator",data:=.fields #[.ref l,.int 0 0] } :=
  L0 _ (LP _ rfl)
 have gS:((s.heap.push { cls:=.type "list_iterator",data:=.fields #[.ref l,.int 0 0] }).push (seqObj "list" #[] 0)).get? (s.heap.push { cls:=.type "list_iterator",data:=.fields #[.ref l,.int 0 0] }).objs.size=some (seqObj "list" #[] 0):=LP _ rfl;have zI:X.s₀.heap.objs.size<=s.heap.objs.size:=I.sz;have zS:X.s₀.heap.objs.size<=(s.heap.push { cls:=.type "list_iterator",data:=.fields #[.ref l,.int 0 0] }).objs.size:=by rw [hS];exact Nat.le_succ_of_le zI
 generalize eSa:(s.heap.push { cls:=.type "list_iterator",data:=.fields #[.ref l,.int 0 0] }).objs.size=S at *;generalize eIa:s.heap.objs.size=It at *;have I0:Inv X.in1 pins σ H { s with heap:=(s.heap.push { cls:=.type "list_iterator",data:=.fields #[.ref l,.int 0 0] }).push (seqObj "list" #[] 0),toks:=s.toks }:=I.in1.kept fun b u e=>L0 _ (L0 _ e)
 have hfI:s.heap.objs.size<=It:=Nat.le_of_eq eIa;have hfS:s.heap.objs.size<=S:=by omega
 have I1:Inv X.in1 ((S,seqObj "list" #[] 0)::(It,{ cls:=.type "list_iterator",data:=.fields #[.ref l,.int 0 0] })::pins) σ H { s with heap:=(s.heap.push { cls:=.type "list_iterator",data:=.fields #[.ref l,.int 0 0] }).push (seqObj "list" #[] 0),toks:=s.toks }:=by
  refine I0.pins_of fun p hp=>?_
  rcases L7.mp hp with rfl | hp
  ·exact ⟨gS,I.hok.fresh hfS,My (LV I.lt hfS),I.nofs hfS,fun v z=>by cases z⟩
  ·rcases L7.mp hp with rfl | hp
   ·exact ⟨gI,I.hok.fresh hfI,My (LV I.lt hfI),I.nofs hfI,fun v z=>by cases z⟩
   ·exact I0.pin p (LJ _ hp)
 have hsz:its.toArray.size=xs.length:=by rw [LO,<-rv.length]
 have W:=Walks.list (prog:=X.prog) (w:=X.w) (A:=X.A.in1) hh It l hlI its.toArray;refine codeAny_builtin PySem.F.entry_min_loop ?_;rw [Around.under_plainId PySem.F.plain_min_loop _];show wpAny _ X.A.in1 (seqItems? (.ref _) >>= _) _ _ _;refine wpAny_bind (wpAny_seqItems gS rfl ?_);show wpAny _ X.A.in1 (tryCatch (pyNext (.ref It)) _ >>= _) _ _ _;refine wpAny_bind (wpAny_tryCatch (W.item 0 _ _ _ (by rw [hsz];exact hne) ⟨⟨_,gI,rfl,rfl⟩,⟨_,L0 _ (L0 _ eL),rfl,n,rfl⟩⟩ fun v h' tk' hP hst' hk'=>?_));have hv:its[0]?=some v:=by simpa using hP
 obtain ⟨x,hx⟩:∃ x,xs[0]?=some x:=⟨_,L1 hne⟩
 obtain ⟨v',hv',rx⟩:=rv.get hx;rw [hv] at hv';cases hv';obtain ⟨oI',hoI',hoc,hod⟩:=id hst'.1;have J:Inv X.in1 ((It,oI')::(S,seqObj "list" #[] 0)::pins) σ H { s with heap:=h',toks:=tk' } :=
  I1.swap.turnPin (fun b o nb e=>hk' b o (by simpa using nb) e) hoI' zI (fun p hp=>by
   rcases M4.mp hp with hp | hp
   ·exact nI p (Me _ hp)
   ·rcases L7.mp hp with rfl | hp
    ·exact hSI
    ·exact nI p (LJ _ hp)) fun vv z=>by rw [hod] at z;cases z
 show wpAny _ X.A.in1 (tryCatch (holding [v] (call (.ref q) [v])) _ >>= _) _ _ _;refine wpAny_bind (wpAny_tryCatch (wpAny_holding (wpAny_mono (KK.turn 0 x hx _ H _ v (fun p hp=>.tail _ (.tail _ hp)) J hΦ rx) (fun uk2 s2 he=>?_) fun _ _ hF=>hF.elim)));obtain ⟨kv,H2,J2,rk2,hΦ2,hκ2,_⟩:=he;have pS2:=J2.pin (S,seqObj "list" #[] 0) (LJ _ (.tail _ (.head _)));have s1:=Heap.SameBut.update s2.heap S (Obj.mapSeq fun _=>#[v,uk2]);obtain ⟨c2,hc2⟩:∃ c2,(s2.heap.update S (Obj.mapSeq fun _=>#[v,uk2])).get? S=some (seqObj "list" #[v,uk2] c2):=⟨_,get?_update_seq pS2.1 fun _=>#[v,uk2]⟩
 show wpAny _ X.A.in1 (updateSeq S (fun _=>#[v,uk2]) >>= _) _ _ _;refine wpAny_bind ?_;refine wpAny_updateSeq pS2.1 rfl ?_;rw [hname];have J4:Inv X.in1 ((S,seqObj "list" #[v,uk2] c2)::(It,oI')::pins) σ H2 { s2 with heap:=s2.heap.update S (Obj.mapSeq fun _=>#[v,uk2]),toks:=s2.toks } :=
  J2.swap.turnPin (fun b o nb e=>(s1.2 b nb).trans e) hc2 zS (fun p hp=>by
   rcases M4.mp hp with hp | hp
   ·exact nS p (Me _ hp)
   ·rcases L7.mp hp with rfl | hp
    ·exact hSI.symm
    ·exact nS p (LJ _ hp)) fun vv z=>by cases z
 exact wpAny_pure ⟨plainId_quiet PySem.F.plain_min_loop _,Fu KK hh (fun H' s' x u hx ru J hp=>hQ H' s' x u hx ru J hp) _ 0 H2 _ v uk2 x kv c2 It S oI' rfl hne zI zS hSI nI nS J4 hoc hod hΦ2 hx rx hκ2 rk2⟩
end
theorem lA.more {q l:Addr} {xs:List V} {Φ:Hp->Prop} {lt:Nat->Nat->Bool} (K:lA X σ [] q l xs Φ κ lt):lA X σ pins q l xs Φ κ lt :=
 ⟨K.lst,fun i x hx pins' H s u _=>K.turn i x hx pins' H s u (fun _ h=>nomatch h),K.cmp⟩
def Gz (X:Cx) (ta tb:TE):TE:=fun σ H Q=>ta σ H fun x H1=>tb σ H1 fun y H2=>∃ (l q:Addr) (xs:List V) (Φ:Hp->Prop) (κ:Nat->V->Hp->Prop) (lt:Nat->Nat->Bool),x=.ref l/\y=.ref q/\0<xs.length/\Φ H2/\lA X σ [] q l xs Φ κ lt /\
 ∀ H3 v,Φ H3->xs[bst lt (xs.length-1)]?=some v->Q v H3
section
variable {a b:Expr} {ta tb:TE}
theorem A1 (hc:X.calm=true) (hm:X.mg "min"=none) (ha:PE X a ta) (hb:PE X b tb) (hg:Gl X "min":=by rfl) (he:starEach [a] X.env=[(false,eval a X.env)]:=by rfl) (wk:∀ {σ H} {Q Q':VK},ta σ H Q->(∀ x H,Q x H->Q' x H)->ta σ H Q') (wk2:∀ {σ H} {Q Q':VK},tb σ H Q->(∀ x H,Q x H->Q' x H)->tb σ H Q') :
  PE X (.Call (.Name "min" p) [a] [⟨some "key",b,kp⟩] pos) (Gz X ta tb):=by
 intro pins s σ H Q I h;refine wpAny_Call_Name_kw (gr I hg hm FX ?_ (by decide) (by decide));refine callWith_kw ?_ (by rw [he];rfl) (by rw [he];rfl) rfl rfl;refine thn ((eo ha f7 he) pos pins s σ H (fun vs H1=>∃ x,vs=[x]/\tb σ H1 fun y H2=>∃ (l q:Addr) (xs:List V) (Φ:Hp->Prop) (κ:Nat->V->Hp->Prop) (lt:Nat->Nat->Bool),x=.ref l/\y=.ref q/\0<xs.length/\Φ H2/\lA X σ [] q l xs Φ κ lt /\
   ∀ H3 v,Φ H3->xs[bst lt (xs.length-1)]?=some v->Q v H3) I
  (wk h fun x H1 q=>⟨x,rfl,q⟩)) fun us s1 ⟨vs,H1,I1,r1,x,q0,q1⟩=>?_
 subst q0;obtain ⟨u,rfl,ru⟩:=vals1 r1;refine thn ((yU hb DI) pos pins s1 σ H1 (fun vs H2=>∃ y,vs=[y]/\∃ (l q:Addr) (xs:List V) (Φ:Hp->Prop) (κ:Nat->V->Hp->Prop) (lt:Nat->Nat->Bool),x=.ref l/\y=.ref q/\0<xs.length/\Φ H2/\lA X σ [] q l xs Φ κ lt /\
   ∀ H3 v,Φ H3->xs[bst lt (xs.length-1)]?=some v->Q v H3) I1
  (wk2 q1 fun y H2 q=>⟨y,rfl,q⟩)) fun ws s2 ⟨zs,H2,I2,r2,y,q2,l,q,xs,Φ,κ,lt,ex,ey,hn,hΦ,KK,hQ⟩=>?_
 subst q2;obtain ⟨v,rfl,rv⟩:=vals1 r2;subst ex ey;obtain rfl:u=Value.ref l:=ru;obtain rfl:v=Value.ref q:=rv;exact G4 KK.more (I2.ok.hd hc) I2 hΦ hn fun H' s' x u hx ru J hp=>⟨x,H',J,ru,hQ H' x hp hx⟩
theorem Bc {q l c':Addr} {xs:List V} {Φ:Hp->Prop} {lt:Nat->Nat->Bool} {k:Nat} {p:Str} {ctv:Value} {t:TE}
  (S:ll N [p] scope) (hr:cx (k+2) X.A) (hcl:∀ x c,cl.lookup x=some c->X.env.cells.lookup x=some c) (has:∀ x,scope.names.lookup x=some .free->∃ c,cl.lookup x=some c) (hN:N.length=1+cap.length)
  (hcap:∀ (i m:Nat) (x:Str),N[1+i]?=some x->cap[i]?=some m->X.N[m]?=some x/\scope.names.lookup x=some .free/\(X.env.kindOf x=some .cell\/X.env.kindOf x=some .free)/\Vis X.env.scope x)
  (hb:∀ u,bindArgs (PySem.W.kla_fn "<lambda>" qual params body scope cl pm (.ref c') ctv) ⟨[u],[]⟩=pure ([p].zip [u]))
  (hlst:∀ H,Φ H->H l=some (.lst xs)) (hfn:∀ H,Φ H->H q=some (.frz (PySem.W.kla_obj "<lambda>" qual params body scope cl pm c' ctv) (.own q))/\∃ o vs t,H c'=some (.frz o (.own c'))/\o.data=.fields vs/\vs[1]?=some (.str qual t))
  (hbody:∀ (s:Shared) (H:Hp),PE (sC (CXW X.prog X.w) X.prog X.w X.K X.mg X.base N qual scope q (.ref c') cl X.A.in1 X.stack s H E0) body t)
  (turn:∀ (i:Nat) (x:V) (H:Hp),xs[i]?=some x->Φ H->t (some x::cap.map fun m=>(σ[m]?).join) H fun v H'=>Φ H'/\κ i v H'/\∀ j v',κ j v' H->κ j v' H')
  (cmp:∀ (i j:Nat) (x y:V) (pins':List (Addr×Obj)) (H:Hp) (s:Shared) (u v:Value),Inv X.in1 pins' σ H s->Φ H->κ i x H->κ j y H->RelV x u->RelV y v ->
   wpAny (model X.prog X.w) X.A.in1 (richCompare .Lt u v) (fun r s'=>r=.bool (lt i j)/\Inv X.in1 pins' σ H s') (fun _ _=>False) s):lA X σ [] q l xs Φ κ lt:=by
 refine ⟨hlst,fun i x hx pins' H s u _ I hΦ ru=>?_,cmp⟩;obtain ⟨hq,oc,vs,tt,h1,h2,h3⟩:=hfn H hΦ;have C:HJ s H cl scope N [p].length (cap.map fun m=>(σ[m]?).join):=by
  refine ⟨fun a b c e1 e2=>I.ok.inj a b c (hcl a c e1) (hcl b c e2),has,fun a c e=>I.cell a c (hcl a c e),fun a c e=>I.freeC a c (hcl a c e),by rw [L3];exact hN,fun j y v e1 e2=>?_⟩;rw [LQ] at e2;cases hm:cap[j]? with
  | none=>rw [hm] at e2;cases e2
  | some m =>
   rw [hm] at e2;have e3:(σ[m]?).join=some v:=by simpa using e2
   obtain ⟨hX,hf,hk,hv⟩:=hcap j m y e1 hm;have e4:σ[m]?=some (some v):=by
    cases z:σ[m]? with
    | none=>rw [z] at e3;cases e3
    | some w=>rw [z] at e3;cases w with
     | none=>cases e3
     | some w=>cases e3;rfl
   obtain ⟨mm,hn,hl⟩:=I.loc;obtain ⟨u,rv,lk⟩:=hl m y v hX e4 hv;rcases lk with ⟨z,_⟩ | ⟨_,c,e5,e6⟩
   ·have z:X.env.kindOf y=some .local:=z;rcases hk with hk | hk <;> (rw [z] at hk;cases hk)
   ·obtain ⟨c2,e7⟩:=has y hf;have e8:=hcl y c2 e7;have e5:X.env.cells.lookup y=some c:=e5;rw [e5] at e8;cases e8;exact ⟨u,c,rv,hf,e7,e6⟩
 refine wpAny_call (codeAny_mono (Fn (CX:=CXW X.prog X.w) (E:=E0) S hr.in1 I.env0 rfl (.cons ru .nil) C (I.hok q _ hq).1 ⟨c',oc,vs,tt,rfl,(I.hok c' _ h1).1,h2,h3⟩ (hb u) (hbody s H) (turn i x H hx hΦ)) fun r s' hq=>?_);cases r with
 | error e=>obtain ⟨_,_,_,_,_,_,z,_⟩:=hq;exact z.elim
 | ok fl =>
  cases fl with
  | ret u=>exact I.after hq
  | next=>exact False.elim hq
  | brk=>exact False.elim hq
  | cont=>exact False.elim hq
end
section
variable {E:XK} {a b:Expr}
end
section
variable {E:XK}
end
structure iR (P:Program) (w:World) (K:PySem.W.Frag) (mg:Str->Option Value) (base:Heap) (k:Nat) (C:Addr) (m:Str) (n:Nat) (gf:List PyData->Rs PyData):Prop where
 ex:∃ f fd ps,Cls K C/\Meth K C m f/\gM P w K mg base (CXW P w) k f fd ps (spD K n gf)/\Binds K fd ps []
def jn (m:Str):List (PyData×PyData)->Bool
 | []=>true
 | (k,_)::r=>match k with
  | .str g=>decide (g≠m)&&jn m r
  | _=>false
def isC (C:Addr) (m:Str):PyData->Bool
 | .dict (k::r)=>match k with
  | (.str z,.int c)=>decide (z="")&&decide (c=(C:Int))&&jn m r
  | _=>false
 | _=>false
theorem Isk.jn {K:PySem.W.Frag} {H:Hp} {m:Str}:∀ {r:List (PyData×PyData)} {fs:List (Str×V)},Isk K H r fs->L2.jn m r=true->fs.lookup m=none
 | [],_,h,_=>by unfold Isk at h;rw [h];rfl
 | (k,d)::r,fs,h,n=>by unfold Isk at h;obtain ⟨f,v,fs',rfl,rfl,h1,h2⟩:=h;simp only [L2.jn,L8,decide_eq_true_eq] at n;rw [M5,show (m==f)=false by simpa using fun q=>n.1 q.symm];exact Isk.jn h2 n.2
theorem Hi {d:PyData} (e:isC C m d=true) (h:Is K H d v):∃ a dx fs,v=.ref a/\H a=some (.ins C dx fs)/\fs.lookup m=none:=by
 unfold isC at e;split at e
 ·rename_i k r;split at e
  ·rename_i z c;simp only [L8,decide_eq_true_eq] at e;obtain ⟨⟨rfl,rfl⟩,n⟩:=e;unfold Is at h;rcases h with (⟨a,ns,_,ek,_⟩ | ⟨a,l,_,ek,_⟩) | ⟨a,C',dx,fs,ev,h1,hn,h2 | h2⟩
   ·injection ek with ek _;cases ek
   ·cases l <;> simp at ek
   ·unfold Isk at h2;obtain ⟨g,u,fs',e1,e2,h3,h4⟩:=h2;cases e1;have e5:=h3.ofInt;injection e5 with e5
    obtain rfl:C'=C:=Int.ofNat.inj e5;exact ⟨a,dx,fs,ev,h1,h4.jn n⟩
   ·unfold Isk at h2;obtain ⟨g,u,fs',e1,e2,h3,h4⟩:=h2;cases e1;have e5:=h3.ofInt;injection e5 with e5
    obtain rfl:C'=C:=Int.ofNat.inj e5;have l:=h4.jn n;rw [M5] at l;cases q:(m==("@":Str)) with
    | true=>rw [q] at l;cases l
    | false=>rw [q] at l;exact ⟨a,dx,fs,ev,h1,l⟩
  ·cases e
 ·cases e
def bx (C:Addr) (m:Str) (gf:List PyData->Rs PyData) (ga:Ds->Rs PyData) (gs:Ds->Rs (List PyData)):Ds->Rs PyData:=fun δ=>(ga δ).bind fun d=>if isC C m d then (gs δ).bind fun ds=>gf (d::ds) else .no
section
variable {E:XK} {o e:Expr} {es:List Expr} {apos:Pos}
theorem bx.read {n:Nat} {Q:VK} (hn:∀ δ ds,gs δ=.ok ds->ds.length+1=n) (R:dw X.K H A δ σ) (ou:hW X.K E A H (bx C m gf ga gs δ) Q):zK C m (spD X.K n gf) [] E (eD X.K E ga) (aD X.K E gs) σ H Q:=by
 unfold bx at ou;refine eD.run R (fun d ed v H1 s1 R1 h1=>?_) (fun C et H' s'=>?_) (fun et=>?_)
 ·simp only [ed,Rs.ag] at ou;split at ou
  ·rename_i hc;obtain ⟨a,dx,fs,rfl,hp,l⟩:=Hi hc h1;refine ⟨a,dx,fs,rfl,aB _ _ hp,l,?_⟩;refine aD.run R1 (fun ds e2 vs H2 s2 R2 h2=>?_) (fun C et H' s'=>?_) (fun et=>?_)
   ·simp only [e2,Rs.ag] at ou;refine ⟨A,d::ds,R2.ls,?_,hn δ ds e2,ou.mono (s1.trans s2)⟩;rw [Mn];exact cG (h1.same s2.del) h2
   ·rw [et] at ou;exact ou H' (s1.trans s')
   ·rw [et] at ou;exact ou
  ·exact ou.elim
 ·rw [et] at ou;exact ou H' s'
 ·rw [et] at ou;exact ou
theorem Ej {k:Nat} {pl:Sem Bool} (D:iR X.prog X.w X.K X.mg X.base k C m (es.length+2) gf) (hr:cx j X.A) (hx:Passes (CXW X.prog X.w) X E) (ho:PD X E o ga) (ha:PAD X E (e::es) gs) (hk:k<=j)
  (hst:starEach (e::es) X.env=(false,eval e X.env)::starEach es X.env) (hpl:(backTo pos (starEach es X.env)).any (·.1)=false)
  (ht:eval (.Call (.Attribute o m apos) (e::es) [] pos) X.env=(do
   let ov <-eval o X.env
   standAt apos.atName
   let (f,first) <-holding [ov] (getMethod ov m pl)
   callWith pos f first (backTo pos (starEach (e::es) X.env)) (backToKw pos (keywordEach [] X.env)))) :
  PD X E (.Call (.Attribute o m apos) (e::es) [] pos) (bx C m gf ga gs):=by
 obtain ⟨f,fd,ps,cl,hm,F,hb⟩:=D.ex;exact (F7 ho cl hm F (hr.mono hk) hb .nil hx ha.1 hst hpl ht).imp fun σ H Q ⟨A,δ,R,ou⟩=>bx.read (fun δ ds e=>by rw [ha.2 δ ds e];rfl) R ou
theorem BK {k:Nat} {pl:Sem Bool} (D:iR X.prog X.w X.K X.mg X.base k C m 1 gf) (hr:cx j X.A) (hx:Passes (CXW X.prog X.w) X E) (ho:PD X E o ga) (hk:k<=j)
  (ht:eval (.Call (.Attribute o m apos) [] [] pos) X.env=(do
   let ov <-eval o X.env
   standAt apos.atName
   let (f,first) <-holding [ov] (getMethod ov m pl)
   callWith pos f first (backTo pos (starEach [] X.env)) (backToKw pos (keywordEach [] X.env)))) :
  PD X E (.Call (.Attribute o m apos) [] [] pos) (bx C m gf ga ah):=by
 obtain ⟨f,fd,ps,cl,hm,F,hb⟩:=D.ex;refine (v8 ho cl hm F (hr.mono hk) hb .nil hx ht).imp fun σ H Q rz3=>?_
 obtain ⟨A,δ,R,ou⟩:=rz3;have h:=bx.read (gs:=ah) (X:=X) (n:=1) (fun δ ds e=>by cases e;rfl) R ou;unfold zK at h ⊢;exact h.weak fun v H1 ⟨a,dx,fs,e,hp,l,q⟩=>⟨a,dx,fs,e,hp,l,by obtain ⟨A',δ',R',o'⟩:=q;exact o' [] H1 (ax.refl _) cO⟩
end
def intsOf:List PyData->Option (List Int)
 | []=>some []
 | .int a::r=>(intsOf r).map (a::·)
 | _::_=>none
def kQ:PyData->Option (Bool×List Int)
 | .int a=>some (false,[a])
 | .tuple ds=>(intsOf ds).map fun l=>(true,l)
 | _=>none
def ltD (a b:PyData):Bool:=match kQ a,kQ b with
 | some (_,l),some (_,m)=>HT.lexLt l m
 | _,_=>false
def keysOk (ks:List PyData):Bool:=ks.all (fun k=>match kQ k with | some (false,_)=>true | _=>false) || ks.all fun k=>match kQ k with | some (true,_)=>true | _=>false
def allR (g:PyData->Rs PyData):List PyData->Rs (List PyData)
 | []=>.ok []
 | d::r=>(g d).bind fun k=>(allR g r).bind fun ks=>.ok (k::ks)
theorem vp {g:PyData->Rs PyData}:∀ {ds ks:List PyData},allR g ds=.ok ks->ks.length=ds.length/\∀ (i:Nat) (d:PyData),ds[i]?=some d->∃ k,ks[i]?=some k/\g d=.ok k
 | [],ks,h=>by cases h;exact ⟨rfl,fun i d e=>by simp at e⟩
 | d::r,ks,h=>by
  unfold allR at h;cases e1:g d with
  | rz _=>rw [e1] at h;cases h
  | no=>rw [e1] at h;cases h
  | ok k =>
   rw [e1] at h;cases e2:allR g r with
   | rz _=>rw [Rs.ag,e2] at h;cases h
   | no=>rw [Rs.ag,e2] at h;cases h
   | ok t =>
    rw [Rs.ag,e2] at h;cases h;obtain ⟨hl,hg⟩:=vp e2;refine ⟨by simp [hl],fun i d' e=>?_⟩;cases i with
    | zero=>simp at e;subst e;exact ⟨k,rfl,e1⟩
    | succ i=>simpa using hg i d' (by simpa using e)
def sN (cap:List Nat) (δ:Ds):Ds:=cap.map fun m=>(δ[m]?).join
def okR:Rs (List PyData)->(List PyData->Rs PyData)->Rs PyData
 | .ok a,f=>f a
 | _,_=>.no
def i5 (cap:List Nat) (ga gb:Ds->Rs PyData):Ds->Rs PyData:=fun δ=>(ga δ).bind fun d=>match d with
 | .list ds=>if 0<ds.length then okR (allR (fun x=>gb (some x::sN cap δ)) ds) fun ks=>if keysOk ks then .fc (ds[bst (fun i j=>ltD (ks.getD i .none) (ks.getD j .none)) (ds.length-1)]?) else .no else .no
 | _=>.no
theorem zG {d:PyData} {l:List Int} (e:kQ d=some (false,l)) (h:Is K H d v):∃ n,l=[n]/\v=.int n:=by
 unfold kQ at e;split at e
 ·cases e;exact ⟨_,rfl,h.ofInt⟩
 ·rename_i ds;cases q:intsOf ds with
  | none=>rw [q] at e;cases e
  | some l=>rw [q] at e;cases e
 ·cases e
theorem qU:∀ {ds:List PyData} {l:List Int},intsOf ds=some l->ds=l.map PyData.int
 | [],l,e=>by cases e;rfl
 | d::r,l,e=>by
  cases d <;> first | (cases e;done) | skip
  rename_i a;unfold intsOf at e;cases q:intsOf r with
  | none=>rw [q] at e;cases e
  | some t=>rw [q] at e;cases e;rw [qU q];rfl
theorem vF {d:PyData} {l:List Int} (e:kQ d=some (true,l)) (h:Is K H d v):∃ a,v=.ref a/\H a=some (.tup (l.map V.int)):=by
 unfold kQ at e;split at e
 ·cases e
 ·rename_i ds;cases q:intsOf ds with
  | none=>rw [q] at e;cases e
  | some l' =>rw [q] at e;cases e;obtain ⟨a,xs,ev,hp,hx⟩:=h.ofTup;rw [qU q] at hx;exact ⟨a,ev,by rw [hp,hx.ofInts]⟩
 ·cases e
section
theorem Bt {ks:List PyData} (hu:X.A.in1.units<cLine) (hk:keysOk ks=true) {x:V} {v:Value} {a b:PyData} (I:Inv X.in1 pins σ H s)
  (ea:ks[i]?=some a) (eb:ks[j]?=some b) (hx:Is X.K (del H A) a x) (hy:Is X.K (del H A) b y) (rx:RelV x u) (ry:RelV y v) :
  wpAny (model X.prog X.w) X.A.in1 (richCompare .Lt u v) (fun r s'=>r=.bool (ltD a b)/\Inv X.in1 pins σ H s') (fun _ _=>False) s:=by
 have J:=I.wish fun _ _=>False
 have ma:a∈ks:=Mi ea;have mb:b∈ks:=Mi eb;unfold keysOk at hk;rcases Bool.or_eq_true_iff.mp hk with hk | hk
 ·have fa:=LU.mp hk a ma;have fb:=LU.mp hk b mb;cases ka:kQ a with
  | none=>rw [ka] at fa;cases fa
  | some p=>obtain ⟨pa,la⟩:=p;cases pa with
   | true=>rw [ka] at fa;cases fa
   | false=>cases kb:kQ b with
    | none=>rw [kb] at fb;cases fb
    | some p=>obtain ⟨pb,lb⟩:=p;cases pb with
     | true=>rw [kb] at fb;cases fb
     | false =>
      obtain ⟨n,rfl,rfl⟩:=zG ka hx;obtain ⟨m,rfl,rfl⟩:=zG kb hy;have e:ltD a b=decide (n<m):=by
       unfold ltD;rw [ka,kb];show HT.lexLt [n] [m]=_;rw [HT.pT,HT.kx];by_cases z:n=m
       ·subst z;simp
       ·simp [z]
      rw [e];refine thn (DA (X:=X.in1.wish fun _ _=>False) pins s σ H (.int n) (.int m) u v (fun r H'=>r=.bl (decide (n<m))/\H'=H) J rx ry ⟨n,m,rfl,rfl,rfl,rfl⟩) fun r s' rz2=>?_
      obtain ⟨v',H',J',rr,q1,q2⟩:=rz2;subst q1 q2;exact ⟨rr,J'.unwish⟩
 ·have fa:=LU.mp hk a ma;have fb:=LU.mp hk b mb;cases ka:kQ a with
  | none=>rw [ka] at fa;cases fa
  | some p=>obtain ⟨pa,la⟩:=p;cases pa with
   | false=>rw [ka] at fa;cases fa
   | true=>cases kb:kQ b with
    | none=>rw [kb] at fb;cases fb
    | some p=>obtain ⟨pb,lb⟩:=p;cases pb with
     | false=>rw [kb] at fb;cases fb
     | true =>
      obtain ⟨p,rfl,hp⟩:=vF ka hx;obtain ⟨q,rfl,hq⟩:=vF kb hy;have e:ltD a b=HT.lexLt la lb:=by unfold ltD;rw [ka,kb]
      rw [e];refine thn (Jz (X:=X.in1.wish fun _ _=>False) hu pins s σ H (.ref p) (.ref q) u v (fun r H'=>r=.bl (HT.lexLt la lb)/\H'=H) J rx ry ⟨p,q,la,lb,rfl,rfl,SqT.of (aB _ _ hp),SqT.of (aB _ _ hq),rfl,rfl⟩) fun r s' rz2=>?_
      obtain ⟨v',H',J',rr,q1,q2⟩:=rz2;subst q1 q2;exact ⟨rr,J'.unwish⟩
theorem AK {E:XK} {a:Expr} {lpos p0:Pos} {P:Addr} {k:Nat} {p:Str}
  (hc:X.calm=true) (hm:X.mg "min"=none) (hr:cx (k+2) X.A) (ha:PD X E a ga) (T:DD X c P) (hcl:closureFor scope X.env=pure clos) (S:ll N [p] scope)
  (hcl2:∀ x c,clos.lookup x=some c->X.env.cells.lookup x=some c) (has:∀ x,scope.names.lookup x=some .free->∃ c,clos.lookup x=some c) (hN:N.length=1+cap.length)
  (hcap:∀ (i m:Nat) (x:Str),N[1+i]?=some x->cap[i]?=some m->X.N[m]?=some x/\scope.names.lookup x=some .free/\(X.env.kindOf x=some .cell\/X.env.kindOf x=some .free)/\Vis X.env.scope x)
  (hb:∀ (c':Addr) (pm ctv u:Value),bindArgs (PySem.W.kla_fn "<lambda>" (X.env.qual++"<lambda>") params body scope clos pm (.ref c') ctv) ⟨[u],[]⟩=pure ([p].zip [u]))
  (hbody:∀ (q c':Addr) (s:Shared) (H:Hp),PD (sC (CXW X.prog X.w) X.prog X.w X.K X.mg X.base N (X.env.qual++"<lambda>") scope q (.ref c') clos X.A.in1 X.stack s H E0) E0 body gb)
  (hg:Gl X "min":=by rfl) (he:starEach [a] X.env=[(false,eval a X.env)]:=by rfl) (hdef:defaultsOf params X.env=([],[]):=by rfl) :
  PD X E (.Call (.Name "min" p0) [a] [⟨some "key",.Lambda params body scope lpos,kp⟩] pos) (i5 cap ga gb):=by
 refine (A1 hc hm ha (Js T hcl hdef) hg he (fun h k=>eD.weak h k) (fun h k f c' ctv H' n e s c=>k _ _ (h f c' ctv H' n e s c))).imp fun σ H Q rz3=>?_
 obtain ⟨A,δ,R,ou⟩:=rz3;unfold i5 at ou;refine eD.run R (fun d ed v H1 s1 R1 h1=>?_) (fun C et H' s'=>?_) (fun et=>?_)
 ·rw [ed,Rs.ag] at ou;cases d with
  | list ds =>
   by_cases hpos:0<ds.length
   case neg=>simp only [if_neg hpos] at ou;exact ou.elim
   simp only [if_pos hpos] at ou;cases ek:allR (fun x=>gb (some x::sN cap δ)) ds with
   | rz _=>rw [ek] at ou;exact ou.elim
   | no=>rw [ek] at ou;exact ou.elim
   | ok ks =>
    rw [ek] at ou;cases hko:keysOk ks with
    | false=>simp only [okR,hko] at ou;exact ou.elim
    | true =>
     simp only [okR,hko,if_true] at ou;intro f c' ctv H2 hn hf s2 hcode;obtain ⟨l,xs,rfl,hl,hx⟩:=h1.ofLst;have hlen:=hx.length;obtain ⟨hkl,hkg⟩:=vp ek;refine ⟨l,f,xs,fun H=>ax H2 H,fun i v H=>∃ kd,ks[i]?=some kd/\Is X.K (del H A) kd v,fun i j=>ltD (ks.getD i .none) (ks.getD j .none),rfl,rfl,by omega,ax.refl _,?_,fun H3 v s3 ev=>?_⟩
     ·refine Bc (t:=eD X.K E0 gb) (c':=c') (cap:=cap) S hr hcl2 has hN hcap (hb c' _ ctv) (fun H s=>s _ _ (s2 _ _ (aB _ _ hl))) (fun H s=>⟨s _ _ hf,?_⟩) (fun s H=>hbody f c' s H) (fun i x H ex s=>?_) (fun i j x y pins' H s u v I sΦ hx' hy' rx ry=>?_)
      ·obtain ⟨o,vs,t,e1,e2,e3⟩:=hcode;exact ⟨o,vs,t,s _ _ e1,e2,e3⟩
      ·obtain ⟨d,e1,hd⟩:=hx.get ex;obtain ⟨kd,e2,gk⟩:=hkg i d e1;have R':dw X.K H A δ σ:=R.same (s1.trans (s2.trans s));refine ⟨A,some d::sN cap δ,⟨R'.ls,by simp [sN],fun n d' e=>?_⟩,?_⟩
       ·cases n with
        | zero =>have e:some (some d)=some (some d'):=e;cases e;exact ⟨x,rfl,hd.same (ax.del (s2.trans s))⟩
        | succ n =>
         have e:(sN cap δ)[n]?=some (some d'):=by simpa using e
         unfold sN at e;rw [LQ] at e;cases hm':cap[n]? with
         | none=>rw [hm'] at e;cases e
         | some m =>
          rw [hm'] at e;have e3:(δ[m]?).join=some d':=by simpa using e
          have e4:δ[m]?=some (some d'):=by
           cases z:δ[m]? with
           | none=>rw [z] at e3;cases e3
           | some w=>rw [z] at e3;cases w with
            | none=>cases e3
            | some w=>cases e3;rfl
          obtain ⟨v',e5,h5⟩:=R'.get m d' e4;exact ⟨v',by simp [hm',e5],h5⟩
       ·have gk':gb (some d::sN cap δ)=.ok kd:=gk;rw [gk'];exact fun v H' s' q=>⟨s.trans s',⟨kd,e2,q⟩,fun j v' qz2=>(by obtain ⟨kd',e3,e4⟩:=qz2;exact ⟨kd',e3,e4.same s'.del⟩)⟩
      ·obtain ⟨ka,e1,h1'⟩:=hx';obtain ⟨kb,e2,h2'⟩:=hy';have:=Bt (X:=X) (by have:=hr.un;show X.A.units+1<_;omega) hko I e1 e2 h1' h2' rx ry;rw [M1,M1,e1,e2];exact this
     ·rw [hlen] at ev;obtain ⟨d,e1,hd⟩:=hx.get ev;rw [e1] at ou;exact ou v H3 (s1.trans (s2.trans s3)) (hd.same (ax.del (s2.trans s3)))
  | _=>exact ou.elim
 ·rw [et] at ou;exact ou H' s'
 ·rw [et] at ou;exact ou
end
section
mutual
theorem Is.off {C dx:Addr} {fs:List (Str×V)} (ha:H a=some (.ins C dx fs)):∀ {d:PyData} {v:V},aH d=true->Is K H d v->Is K (del H [a]) d v
 | .none,_,_,h=>by unfold Is at h ⊢;exact h
 | .bool _,_,_,h=>by unfold Is at h ⊢;exact h
 | .int _,_,_,h=>by unfold Is at h ⊢;exact h
 | .str _,_,_,h=>by unfold Is at h ⊢;exact h
 | .dict _,_,n,_=>by unfold aH at n;cases n
 | .list ds,_,n,h=>by unfold aH at n;obtain ⟨b,xs,e,h1,h2⟩:=h.ofLst;subst e;exact jV (by rw [aP (fun z=>by rw [LM.mp z,ha] at h1;cases h1)];exact h1) (Iss.off ha n h2)
 | .tuple ds,_,n,h=>by unfold aH at n;obtain ⟨b,xs,e,h1,h2⟩:=h.ofTup;subst e;exact iy (by rw [aP (fun z=>by rw [LM.mp z,ha] at h1;cases h1)];exact h1) (Iss.off ha n h2)
theorem Iss.off {C dx:Addr} {fs:List (Str×V)} (ha:H a=some (.ins C dx fs)):∀ {ds:List PyData} {vs:List V},dm ds=true->Iss K H ds vs->Iss K (del H [a]) ds vs
 | [],_,_,h=>by rw [h.nil_of];exact cO
 | d::ds,_,n,h=>by unfold dm at n;obtain ⟨n1,n2⟩:=Mu.mp n;obtain ⟨v,r,e,h1,h2⟩:=h.cons_of;subst e;exact cG (Is.off ha n1 h1) (Iss.off ha n2 h2)
end
def kL:List (PyData×PyData)->Bool
 | []=>true
 | (_,d)::r=>aH d&&kL r
theorem Isk.off {C dx:Addr} {fs:List (Str×V)} (ha:H a=some (.ins C dx fs)):∀ {ds:List (PyData×PyData)} {gs:List (Str×V)},kL ds=true->Isk K H ds gs->Isk K (del H [a]) ds gs
 | [],_,_,h=>by unfold Isk at h ⊢;exact h
 | (k,d)::ds,_,n,h=>by unfold kL at n;obtain ⟨n1,n2⟩:=Mu.mp n;unfold Isk at h ⊢;obtain ⟨f,v,r,e1,e2,h1,h2⟩:=h;exact ⟨f,v,r,e1,e2,Is.off ha n1 h1,Isk.off ha n2 h2⟩
def jG:List (PyData×PyData)->Option Int
 | (.str x,.int _)::(.str y,.int b)::r=>if x=""/\y="@"/\kL r then some b else none
 | _=>none
mutual
def objs:PyData->Bool
 | .list ds=>jK ds
 | .tuple ds=>jK ds
 | .dict kvs=>(jG kvs).isSome
 | _=>true
def jK:List PyData->Bool
 | []=>true
 | d::ds=>objs d&&jK ds
end
mutual
def fB (a:Addr) (nd:PyData):PyData->PyData
 | .list ds=>.list (jr a nd ds)
 | .tuple ds=>.tuple (jr a nd ds)
 | .dict kvs=>if jG kvs=some (a:Int) then nd else .dict kvs
 | d=>d
def jr (a:Addr) (nd:PyData):List PyData->List PyData
 | []=>[]
 | d::ds=>fB a nd d::jr a nd ds
end
end
def kT (a:Addr) (nd:PyData) (δ:Ds):Ds:=δ.map fun d=>d.map (fB a nd)
theorem lO {d:PyData} (h:(kT a nd δ)[i]?=some (some d)):∃ d0,δ[i]?=some (some d0)/\d=fB a nd d0:=by
 unfold kT at h;rw [LQ] at h;cases e:δ[i]? with
 | none=>rw [e] at h;cases h
 | some x=>cases x with
  | none=>rw [e] at h;cases h
  | some d0=>rw [e] at h;cases h;exact ⟨d0,rfl,rfl⟩
theorem vQ (h:a∉B):del (upd H a o) B=upd (del H B) a o:=by
 funext b;by_cases z:b=a
 ·subst z;rw [aP h,aG,aG]
 ·rw [aA z];by_cases y:b∈B
  ·rw [gR y,gR y]
  ·rw [aP y,aP y,aA z]
section
theorem iT {fs:List (Str×V)} (hS:ax (del H [a]) H') (ha:H a=some (.ins C dx fs)) (hb:H b=some o) (hne:b≠a):H' b=some o :=
 hS _ _ (by rw [aP (fun z=>hne (LM.mp z))];exact hb)
mutual
theorem Is.mutH {C dx:Addr} {fs:List (Str×V)} {nd:PyData} (ha:H a=some (.ins C dx fs)) (hS:ax (del H [a]) H') (hn:Is K H' nd (.ref a)):∀ {d:PyData} {v:V},objs d=true->Is K H d v->Is K H' (fB a nd d) v
 | .none,_,_,h=>by unfold fB;unfold Is at h ⊢;exact h
 | .bool _,_,_,h=>by unfold fB;unfold Is at h ⊢;exact h
 | .int _,_,_,h=>by unfold fB;unfold Is at h ⊢;exact h
 | .str _,_,_,h=>by unfold fB;unfold Is at h ⊢;exact h
 | .list ds,_,n,h=>by unfold objs at n;obtain ⟨b,xs,e,h1,h2⟩:=h.ofLst;subst e;unfold fB;exact jV (iT hS ha h1 (fun z=>by rw [z,ha] at h1;cases h1)) (Iss.mutH ha hS hn n h2)
 | .tuple ds,_,n,h=>by unfold objs at n;obtain ⟨b,xs,e,h1,h2⟩:=h.ofTup;subst e;unfold fB;exact iy (iT hS ha h1 (fun z=>by rw [z,ha] at h1;cases h1)) (Iss.mutH ha hS hn n h2)
 | .dict kvs,v,n,h=>by
  unfold objs at n;unfold fB;unfold jG at n ⊢;split at n
  case h_2=>cases n
  rename_i x cI y b r;split at n
  case isFalse=>cases n
  rename_i hh;obtain ⟨rfl,rfl,hr⟩:=hh;have hb:∃ (b':Addr) (C' dx':Addr) (gs:List (Str×V)),v=.ref b'/\b=(b':Int)/\cI=(C':Int)/\H b'=some (.ins C' dx' gs)/\gs.lookup ("@":Str)=none/\Isk K H r gs:=by
   unfold Is at h;rcases h with (⟨a',ns,_,e,_⟩ | ⟨a',l,_,e,_⟩) | ⟨a',C',dx',gs,e,h1,hn',h2 | h2⟩
   ·cases e
   ·cases l <;> cases e
   ·unfold Isk at h2;obtain ⟨f,u,r',e1,e2,h3,h4⟩:=h2;cases e1;unfold Isk at h4;obtain ⟨f,u,r',e1,e2,h5,h6⟩:=h4;injection e2 with e2
    subst e2 e1;rw [M5] at hn';simp at hn'
   ·unfold Isk at h2;obtain ⟨f,u,r',e1,e2,h3,h4⟩:=h2;cases e1;have e5:=h3.ofInt;injection e5 with e5
    unfold Isk at h4;obtain ⟨f,u,r',e1,e2,h5,h6⟩:=h4;cases e1;have e7:=h5.ofInt;injection e7 with e7
    exact ⟨a',C',dx',gs,e,e7.symm,e5.symm,h1,hn',h6⟩
  obtain ⟨b',C',dx',gs,rfl,rfl,rfl,h1,hl,h2⟩:=hb;simp only [hr,and_self,if_true];by_cases z:b'=a
  ·subst z;rw [if_pos rfl];exact hn
  ·have zz:¬ (some (b':Int)=some (a:Int)):=fun q=>z (Int.ofNat.inj (Option.some.inj q))
   rw [if_neg zz];unfold Is;refine .inr ⟨b',C',dx',gs,rfl,iT hS ha h1 z,hl,.inr (dZ bO (dZ bO ?_))⟩;exact (Isk.off ha hr h2).same hS
theorem Iss.mutH {C dx:Addr} {fs:List (Str×V)} {nd:PyData} (ha:H a=some (.ins C dx fs)) (hS:ax (del H [a]) H') (hn:Is K H' nd (.ref a)):∀ {ds:List PyData} {vs:List V},jK ds=true->Iss K H ds vs->Iss K H' (jr a nd ds) vs
 | [],_,_,h=>by rw [h.nil_of];unfold jr;exact cO
 | d::ds,_,n,h=>by unfold jK at n;obtain ⟨n1,n2⟩:=Mu.mp n;obtain ⟨v,r,e,h1,h2⟩:=h.cons_of;subst e;unfold jr;exact cG (Is.mutH ha hS hn n1 h1) (Iss.mutH ha hS hn n2 h2)
end
theorem Ex:ax (del H [a]) H'->ax (del (del H B) [a]) (del H' B):=fun hS b o e=>by obtain ⟨e1,e2⟩:=bf e;obtain ⟨e3,e4⟩:=bf e2;rw [aP e3];exact hS b o (by rw [aP e1];exact e4)
theorem b0.mutH {fs:List (Str×V)} (R:b0 K H0 A0 H A O δ σ)
  (ha:H a=some (.ins C dx fs)) (h0:H0 a=none) (ho:∀ (i:Nat) d,δ[i]?=some (some d)->objs d=true) (hS:ax (del H [a]) H') (hn:Is K (del H' (A++A0)) nd (.ref a)):b0 K H0 A0 H' A O (kT a nd δ) σ:=by
 have hl0:Ls H A0:=R.ls0.same R.same;have na:a∉A++A0:=fun z=>by
  rcases M4.mp z with z | z
  ·obtain ⟨xs,e,q⟩:=R.ls a z;rw [ha] at e;cases e;cases q
  ·obtain ⟨xs,e,q⟩:=hl0 a z;rw [ha] at e;cases e;cases q
 have hd:del H (A++A0) a=some (.ins C dx fs):=by rw [aP na];exact ha
 have hS2:ax (del (del H (A++A0)) [a]) (del H' (A++A0)):=Ex hS;refine ⟨fun b u e=>?_,R.ls0,R.new,fun b hb=>?_,?_,fun i d hi e=>?_,fun i d hi e=>?_,fun i j d e b hi hj e1 e2 e3 e4=>?_⟩
 ·exact iT hS ha (R.same b u e) (fun z=>by rw [z,h0] at e;cases e)
 ·obtain ⟨xs,e,q⟩:=R.ls b hb;exact ⟨xs,iT hS ha e (fun z=>by rw [z,ha] at e;cases e;cases q),q⟩
 ·unfold kT;rw [L3];exact R.len
 ·obtain ⟨d0,e0,rfl⟩:=lO e;obtain ⟨v,e1,h1⟩:=R.pl i d0 hi e0;exact ⟨v,e1,Is.mutH hd hS2 hn (ho i d0 e0) h1⟩
 ·obtain ⟨d0,e0,rfl⟩:=lO e;obtain ⟨b,o',d1,e1,hb,hp,rfl,h1⟩:=R.own i d0 hi e0;have hoo:=ho i _ e0;obtain ⟨ds,xs,rfl,rfl⟩:∃ ds xs,d0=.list ds/\o'=.lst xs:=by
   unfold gX at h1;split at h1
   ·exact ⟨_,_,rfl,rfl⟩
   ·obtain ⟨m,rfl,_⟩:=h1;exfalso;unfold objs jG at hoo;cases m <;> simp at hoo
   ·exact h1.elim
  have h1:Iss K _ ds xs:=h1;have:=ho i _ e0;unfold objs at this;exact ⟨b,.lst xs,.list (jr a nd ds),e1,hb,iT hS ha hp (fun z=>by rw [z,ha] at hp;cases hp),by unfold fB;rfl,Iss.mutH hd hS2 hn this h1⟩
 ·obtain ⟨d0,q1,_⟩:=lO e1;obtain ⟨d1,q2,_⟩:=lO e2;exact R.inj i j d0 d1 b hi hj q1 q2 e3 e4
end
def sDN (as:List Addr) (K:PySem.W.Frag) (E:XK) (O:List Nat) (G:Ds->Sr):TS:=fun D σ H=>∃ H0 A0 A δ,(∀ a∈as,H0 a=none)/\b0 K H0 A0 H A O δ σ/\l5 K E H0 A0 O (G δ) D
def PSN (as:List Addr) (X:Cx) (E:XK) (O:List Nat) (s:Stmt) (G:Ds->Sr):Prop:=PS X s (sDN as X.K E O G)
def PBN (as:List Addr) (X:Cx) (E:XK) (O:List Nat) (ss:List Stmt) (G:Ds->Sr):Prop:=PSs X ss (sDN as X.K E O G)
section
variable {E:XK} {ss:List Stmt} {G G':Ds->Sr} {c:Expr} {ca:Ds->Rs Bool}
theorem Im (h:PSD X E O st G):PSN as X E O st G:=h.imp fun D σ H qz3=>(by obtain ⟨H0,A0,A,δ,_,R,o⟩:=qz3;exact ⟨H0,A0,A,δ,R,o⟩)
theorem HU (h:PBD X E O ss G):PBN as X E O ss G:=h.imp fun D σ H qz3=>(by obtain ⟨H0,A0,A,δ,_,R,o⟩:=qz3;exact ⟨H0,A0,A,δ,R,o⟩)
theorem EH:PBN as X E O [] aY:=HU tL
theorem vV (h1:PSN as X E O st G) (h2:PBN as X E O ss G'):PBN as X E O (st::ss) (az G G'):=(cH h1 h2).imp fun D σ H ⟨H0,A0,A,δ,hn,R,o⟩=>⟨H0,A0,A,δ,hn,R,by
 unfold az at o;cases q:G δ with
 | nx δ'=>rw [q] at o;exact fun A' σ' H' R'=>⟨H0,A0,A',δ',hn,R',o⟩
 | rt d=>rw [q] at o;exact o
 | rz C=>rw [q] at o;exact o
 | bk d=>rw [q] at o;exact o
 | ct d=>rw [q] at o;exact o
 | no=>rw [q] at o;exact o⟩
theorem zO (h1:PSN as X E O st G):PBN as X E O [st] G:=(ic h1).imp fun D σ H h=>h
theorem HR (hc:PCD X E c ca) (h1:PBN as X E O ss G) (h2:PBN as X E O ss' G'):PSN as X E O (.If c ss ss' pos) (sIf ca G G'):=(zA hc h1 h2).imp fun D σ H pz3=>by
 obtain ⟨H0,A0,A,δ,hn,R,o⟩:=pz3;unfold sIf at o;refine cD.run R.full (fun t et H1 s1 R1=>?_) (fun C et H' s'=>?_) (fun et=>?_)
 ·rw [et] at o;cases t with
  | true=>exact ⟨H0,A0,A,δ,hn,R.step s1,o⟩
  | false=>exact ⟨H0,A0,A,δ,hn,R.step s1,o⟩
 ·rw [et] at o;exact o H' (R.same.trans s')
 ·rw [et] at o;exact o
theorem Ay (fuel:Nat) (hp:PassesOwn (model X.prog X.w) X.A X.env X.xe) (hc:PCD X E c ca) (hb:PBN as X E O ss G):PSN as X E O (.While c ss [] pos) (fun δ=>bU ca G fuel δ):=(vI hp hc hb).imp fun D σ H pz3=>by
 obtain ⟨H0,A0,A,δ,hn,R,o⟩:=pz3;refine ⟨fun m σ H=>∃ A δ,b0 X.K H0 A0 H A O δ σ/\l5 X.K E H0 A0 O (bU ca G m δ) D,⟨fuel,A,δ,R,o⟩,?_⟩
 rintro m σ H ⟨A,δ,R,o⟩
 cases m with
 | zero=>exact o.elim
 | succ m =>
  unfold bU at o;refine cD.run R.full (fun t et H1 s1 R1=>?_) (fun C et H' s'=>?_) (fun et=>?_)
  ·rw [et] at o;cases t with
   | false=>exact o A σ H1 (R.step s1)
   | true =>
    refine ⟨fun σ' H'=>∃ A δ,b0 X.K H0 A0 H' A O δ σ'/\l5 X.K E H0 A0 O (bU ca G m δ) D,fun σ' H' q=>⟨m,MO m,q⟩,H0,A0,A,δ,hn,R.step s1,?_⟩;have o:l5 X.K E H0 A0 O (match G δ with
     | .nx δ2=>bU ca G m δ2
     | .ct δ2=>bU ca G m δ2
     | .bk δ2=>.nx δ2
     | .rt v=>.rt v
     | .rz C=>.rz C
     | .no=>.no) D:=o
    cases eb:G δ with
    | nx δ2=>rw [eb] at o;exact fun A4 σ4 H4 R4=>⟨A4,δ2,R4,o⟩
    | ct δ2=>rw [eb] at o;exact fun A4 σ4 H4 R4=>⟨A4,δ2,R4,o⟩
    | bk δ2=>rw [eb] at o;exact o
    | rt v=>rw [eb] at o;exact o
    | rz C=>rw [eb] at o;exact o
    | no=>rw [eb] at o;exact o.elim
  ·rw [et] at o;exact o H' (R.same.trans s')
  ·rw [et] at o;exact o
end
def kU:List (PyData×PyData)->Option (List (Str×PyData))
 | []=>some []
 | (.str f,d)::r=>(kU r).map fun l=>(f,d)::l
 | _=>none
theorem su:∀ {r:List (PyData×PyData)} {fds:List (Str×PyData)},kU r=some fds->r=fds.map fun p=>(.str p.1,p.2)
 | [],fds,e=>by cases e;rfl
 | (k,d)::r,fds,e=>by
  cases k <;> first | (cases e;done) | skip
  rename_i f;unfold kU at e;cases q:kU r with
  | none=>rw [q] at e;cases e
  | some l=>rw [q] at e;cases e;rw [su q];rfl
theorem oH:∀ fds:List (Str×PyData),kU (fds.map fun p=>(.str p.1,p.2))=some fds
 | []=>rfl
 | p::r=>by rw [L5];unfold kU;rw [oH r];rfl
def objOf:PyData->Option (Addr×Addr×List (Str×PyData))
 | .dict ((.str x,.int c)::(.str y,.int b)::r)=>if x=""/\y="@"/\0<=c/\0<=b then (kU r).map fun l=>(c.toNat,b.toNat,l) else none
 | _=>none
theorem B1 {d:PyData} {fds:List (Str×PyData)} (e:objOf d=some (C,a,fds)):d=cA C a fds:=by
 unfold objOf at e;split at e
 ·rename_i x c y b r;split at e
  ·rename_i h;obtain ⟨rfl,rfl,h0,h1⟩:=h;obtain ⟨l,q,e⟩:=MP.mp e;cases e;rw [su q];unfold cA;rw [MK h0,MK h1]
  ·cases e
 ·cases e
theorem rP (C a:Addr) (fds:List (Str×PyData)):objOf (cA C a fds)=some (C,a,fds):=by unfold cA objOf;simp only [Ml,and_self,if_true,oH,MF,Mb]
def ng (f:Str):List (Str×PyData)->Option PyData
 | []=>none
 | (g,d)::r=>if g=f then some d else ng f r
def oY (f:Str) (v:PyData):List (Str×PyData)->List (Str×PyData)
 | []=>[(f,v)]
 | (g,x)::r=>if g=f then (g,v)::r else (g,x)::oY f v r
theorem Isk.put {K:PySem.W.Frag} {H:Hp} {f:Str} {d:PyData} {v:V} (hv:Is K H d v):∀ {fds:List (Str×PyData)} {gs:List (Str×V)},Isk K H (fds.map fun p=>(.str p.1,p.2)) gs->Isk K H ((oY f d fds).map fun p=>(.str p.1,p.2)) (ix f v gs)
 | [],gs,h=>by rw [Mr] at h;unfold Isk at h;subst h;exact dZ hv nW
 | (g,x)::r,gs,h=>by
  rw [L5] at h;unfold Isk at h;obtain ⟨g',u,gs',rfl,e,h1,h2⟩:=h;injection e with e
  subst e;show Isk K H ((if g=f then (g,d)::r else (g,x)::oY f d r).map _) (if g=f then (g,v)::gs' else (g,u)::ix f v gs');by_cases z:g=f
  ·rw [if_pos z,if_pos z];exact dZ hv h2
  ·rw [if_neg z,if_neg z];exact dZ h1 (Isk.put hv h2)
theorem Isk.look {K:PySem.W.Frag} {H:Hp} {f:Str} {d:PyData}:∀ {fds:List (Str×PyData)} {gs:List (Str×V)},Isk K H (fds.map fun p=>(.str p.1,p.2)) gs->ng f fds=some d->∃ v,gs.lookup f=some v/\Is K H d v
 | [],gs,h,e=>by cases e
 | (g,x)::r,gs,h,e=>by
  rw [L5] at h;unfold Isk at h;obtain ⟨g',u,gs',rfl,e2,h1,h2⟩:=h;injection e2 with e2
  subst e2;unfold ng at e;rw [M5];by_cases z:g=f
  ·rw [if_pos z] at e;cases e;subst z;simp only [beq_self_eq_true];exact ⟨u,rfl,h1⟩
  ·rw [if_neg z] at e;rw [show (f==g)=false by simpa using fun q=>z q.symm];exact Isk.look h2 e
theorem Isk.len {K:PySem.W.Frag} {H:Hp}:∀ {fds:List (PyData×PyData)} {gs:List (Str×V)},Isk K H fds gs->gs.length=fds.length
 | [],_,h=>by unfold Isk at h;rw [h];rfl
 | (k,d)::r,_,h=>by unfold Isk at h;obtain ⟨_,_,_,rfl,_,_,h2⟩:=h;rw [LS,LS,Isk.len h2]
theorem Is.atObj {fds:List (Str×PyData)} (h:Is K H (cA C a fds) v):v=.ref a/\∃ dx gs,H a=some (.ins C dx gs)/\gs.lookup ("@":Str)=none/\Isk K H (fds.map fun p=>(.str p.1,p.2)) gs:=by
 unfold cA at h;unfold Is at h;rcases h with (⟨a',ns,_,e,_⟩ | ⟨a',l,_,e,_⟩) | ⟨a',C',dx',gs,e,h1,hn',h2 | h2⟩
 ·cases e
 ·cases l <;> cases e
 ·unfold Isk at h2;obtain ⟨f,u,r',e1,e2,h3,h4⟩:=h2;cases e1;unfold Isk at h4;obtain ⟨f,u,r',e1,e2,h5,h6⟩:=h4;injection e2 with e2
  subst e2 e1;rw [M5] at hn';simp at hn'
 ·unfold Isk at h2;obtain ⟨f,u,r',e1,e2,h3,h4⟩:=h2;cases e1;have e5:=h3.ofInt;injection e5 with e5
  obtain rfl:C'=C:=Int.ofNat.inj e5;unfold Isk at h4;obtain ⟨f,u,r',e1,e2,h5,h6⟩:=h4;cases e1;have e7:=h5.ofInt;injection e7 with e7
  obtain rfl:a'=a:=Int.ofNat.inj e7;exact ⟨e,dx',gs,h1,hn',h6⟩
def gz (fds:List (Str×PyData)):Bool:=kL (fds.map fun p=>(.str p.1,p.2))
theorem uU (C a:Addr) (fds:List (Str×PyData)):objs (cA C a fds)=gz fds:=by unfold cA objs jG gz;cases h:kL (fds.map fun p=>(PyData.str p.1,p.2)) <;> simp [h]
def gH (δ:Ds):Bool:=δ.all fun o=>match o with | some d=>objs d | none=>true
theorem jS (h:gH δ=true) (i:Nat) (d:PyData) (e:δ[i]?=some (some d)):objs d=true:=by have:=LU.mp h _ (Mi e);exact this
theorem BY {fds:List (Str×PyData)} {gs:List (Str×V)} {f:Str} {z:Int} (hB:a∉B) (ha:H a=some (.ins C dx gs)) (hl:gs.lookup ("@":Str)=none) (hf:f≠"@") (hk:gz fds=true) (h:Isk K (del H B) (fds.map fun p=>(.str p.1,p.2)) gs) :
  Is K (del (upd H a (.ins C dx (ix f (.int z) gs))) B) (cA C a (oY f (.int z) fds)) (.ref a):=by
 rw [vQ hB];refine Bx (dx:=dx) (fs:=ix f (.int z) gs) (aG) (by rw [jC,if_neg (fun q=>hf q.symm)];exact hl) (Isk.put bO ?_);have hd:del H B a=some (.ins C dx gs):=by rw [aP hB];exact ha
 refine (Isk.off hd hk h).same fun b o e=>?_
 obtain ⟨e1,e2⟩:=bf e;rw [aA (fun q=>e1 (by rw [q];exact LM.mpr rfl))];exact e2
theorem uX:ax (del H [a]) (upd H a o):=fun b u e=>by obtain ⟨e1,e2⟩:=bf e;rw [aA (fun q=>e1 (by rw [q];exact LM.mpr rfl))];exact e2
def nK (as:List Addr) (C:Addr) (i:Nat) (δ:Ds):Option (Addr×List (Str×PyData)):=match δ[i]? with
 | some (some d)=>(match objOf d with
  | some (C',a,fds)=>if C'=C/\a∈as/\gH δ=true/\gz fds=true/\fds.length<1000 then some (a,fds) else none
  | none=>none)
 | _=>none
theorem l7 {fds:List (Str×PyData)} (h:nK as C i δ=some (a,fds)):δ[i]?=some (some (cA C a fds))/\a∈as/\gH δ=true/\gz fds=true/\fds.length<1000:=by
 unfold nK at h;split at h
 ·rename_i d e;split at h
  ·rename_i C' a' fds' q;split at h
   ·rename_i c;cases h;obtain ⟨rfl,c1,c2,c3,c4⟩:=c;rw [e,B1 q];exact ⟨rfl,c1,c2,c3,c4⟩
   ·cases h
  ·cases h
 ·cases h
def lT (as:List Addr) (C:Addr) (i:Nat) (f:Str) (g:Ds->Rs PyData):Ds->Sr:=fun δ=>match nK as C i δ with
 | some (a,fds)=>ofR (g δ) fun d=>match d with
  | .int z=>.nx (kT a (cA C a (oY f (.int z) fds)) δ)
  | _=>.no
 | none=>.no
def eP (as:List Addr) (C:Addr) (i:Nat) (f:Str) (g:Ds->Rs PyData):Ds->Sr:=fun δ=>match nK as C i δ with
 | some (a,fds)=>(match ng f fds with
  | some (.int n)=>ofR (g δ) fun d=>match d with
   | .int z=>.nx (kT a (cA C a (oY f (.int (n+z)) fds)) δ)
   | _=>.no
  | _=>.no)
 | none=>.no
section
variable {E:XK} {o value:Expr} {g:Ds->Rs PyData} {tpos:Pos} {f:Str}
theorem FJ (ho:PD X E o (af i)) (hv:PD X E value g) (cl:Cls X.K C) (na:fw X.K C f) (hi:i∉O) (hf:f≠"@") (hs:swapsWith value (some (.Attribute o f pos')) pos.line X.env=pure false):PSN as X E O (.Assign [.Attribute o f pos'] value pos) (lT as C i f g):=(gm ho hv hs).imp fun D σ H pz3=>by
 obtain ⟨H0,A0,A,δ,hn,R,ou⟩:=pz3;unfold lT at ou;split at ou
 case h_2=>exact ou.elim
 rename_i a fds q;obtain ⟨e,ha,hob,hfl,hln⟩:=l7 q;refine eD.run R.full (fun d ed v H1 s1 R1 hv=>?_) (fun C et H' s'=>?_) (fun et=>?_)
 ·rw [ed] at ou;cases d with
  | int z =>
   have hv':=hv.ofInt;subst hv';have e2:af i δ=.ok (cA C a fds):=by unfold af;rw [e]
   refine eD.run (R.step s1).full (fun d2 ed2 v2 H2 s2 R2 hv2=>?_) (fun C et H' s'=>?_) (fun et=>?_)
   ·rw [e2] at ed2;cases ed2;obtain ⟨rfl,dx,gs,hp,hl,hk⟩:=hv2.atObj;have R2':=R.step (s1.trans s2);obtain ⟨v3,e3,h3⟩:=R2'.pl i _ hi e;obtain ⟨rfl,dx',gs',hp',hl',hk'⟩:=h3.atObj;have hpH:H2 a=some (.ins C dx' gs'):=(bf hp').2;have hpA:a∉A++A0:=(bf hp').1;refine ⟨a,C,dx',gs',rfl,hpH,cl,na,by rw [hk'.len,L3];exact hln,?_⟩;exact ou A σ _ (R2'.mutH hpH (hn a ha) (jS hob) uX (BY hpA hpH hl' hf hfl hk'))
   ·rw [e2] at et;cases et
   ·rw [e2] at et;cases et
  | _=>exact ou.elim
 ·rw [et] at ou;exact ou H' (R.same.trans s')
 ·rw [et] at ou;exact ou
theorem ym (ho:PD X E o (af i)) (hv:PD X E value g) (cl:Cls X.K C) (na:fw X.K C f) (hi:i∉O) (hf:f≠"@"):PSN as X E O (.AugAssign (.Attribute o f tpos) .Add value pos) (eP as C i f g):=(Au ho hv Ic).imp fun D σ H pz3=>by
 obtain ⟨H0,A0,A,δ,hn,R,ou⟩:=pz3;unfold eP at ou;split at ou
 case h_2=>exact ou.elim
 rename_i a fds q;obtain ⟨e,ha,hob,hfl,hln⟩:=l7 q;split at ou
 case h_2=>exact ou.elim
 rename_i n hlk;have e2:af i δ=.ok (cA C a fds):=by unfold af;rw [e]
 refine eD.run R.full (fun d2 ed2 v2 H1 s1 R1 hv2=>?_) (fun C et H' s'=>?_) (fun et=>?_)
 ·rw [e2] at ed2;cases ed2;obtain ⟨rfl,dx,gs,hp,hl,hk⟩:=hv2.atObj;obtain ⟨v,ev,hvi⟩:=hk.look hlk;have hv':=hvi.ofInt;subst hv';refine ⟨a,C,dx,gs,.int n,rfl,(bf hp).2,cl,na,ev,?_⟩;refine eD.run (R.step s1).full (fun d ed w H2 s2 R2 hw=>?_) (fun C et H' s'=>?_) (fun et=>?_)
  ·rw [ed] at ou;cases d with
   | int z =>have hw':=hw.ofInt;subst hw';refine ⟨n,z,rfl,rfl,?_⟩;have R2':=R.step (s1.trans s2);obtain ⟨v3,e3,h3⟩:=R2'.pl i _ hi e;obtain ⟨rfl,dx',gs',hp',hl',hk'⟩:=h3.atObj;have hpH:H2 a=some (.ins C dx' gs'):=(bf hp').2;have hpA:a∉A++A0:=(bf hp').1;refine ⟨dx',gs',hpH,by rw [hk'.len,L3];exact hln,?_⟩;exact ou A σ _ (R2'.mutH hpH (hn a ha) (jS hob) uX (BY hpA hpH hl' hf hfl hk'))
   | _=>exact ou.elim
  ·rw [et] at ou;exact ou H' (R.same.trans (s1.trans s'))
  ·rw [et] at ou;exact ou
 ·rw [e2] at et;cases et
 ·rw [e2] at et;cases et
end
def spM (K:PySem.W.Frag) (C:Addr) (g:List (Str×PyData)->Option (List (Str×PyData))):Sp:=fun vs H Q E=>∃ A a fds fds',vs=[.ref a]/\Ls H A/\Is K (del H A) (cA C a fds) (.ref a)/\gz fds=true/\fds.length<1000/\g fds=some fds' /\
 ∀ H',ax (del H [a]) H'->Is K (del H' A) (cA C a fds') (.ref a)->Q .non H'
structure jZ (P:Program) (w:World) (K:PySem.W.Frag) (mg:Str->Option Value) (base:Heap) (k:Nat) (C:Addr) (m:Str) (g:List (Str×PyData)->Option (List (Str×PyData))):Prop where
 ex:∃ f fd ps,Cls K C/\Meth K C m f/\gM P w K mg base (CXW P w) k f fd ps (spM K C g)/\Binds K fd ps []
theorem qv {K:PySem.W.Frag} {H:Hp} {f:Str}:∀ {fds:List (Str×PyData)} {gs:List (Str×V)},Isk K H (fds.map fun p=>(.str p.1,p.2)) gs->ng f fds=none->gs.lookup f=none
 | [],gs,h,_=>by rw [Mr] at h;unfold Isk at h;rw [h];rfl
 | (g,x)::r,gs,h,e=>by
  rw [L5] at h;unfold Isk at h;obtain ⟨g',u,gs',rfl,e2,h1,h2⟩:=h;injection e2 with e2
  subst e2;unfold ng at e;rw [M5];by_cases z:g=f
  ·rw [if_pos z] at e;cases e
  ·rw [if_neg z] at e;rw [show (f==g)=false by simpa using fun q=>z q.symm];exact qv h2 e
def kR (as:List Addr) (C:Addr) (m:Str) (i:Nat) (g:List (Str×PyData)->Option (List (Str×PyData))):Ds->Sr:=fun δ=>match nK as C i δ with
 | some (a,fds)=>if ng m fds=none then (match g fds with
  | some fds'=>.nx (kT a (cA C a fds') δ)
  | none=>.no) else .no
 | none=>.no
section
variable {E:XK} {o:Expr} {apos:Pos}
theorem C1 {k:Nat} {pl:Sem Bool} (D:jZ X.prog X.w X.K X.mg X.base k C m g) (hr:cx j X.A) (hx:Passes (CXW X.prog X.w) X E) (ho:PD X E o (af i)) (hk:k<=j) (hi:i∉O)
  (ht:eval (.Call (.Attribute o m apos) [] [] pos) X.env=(do
   let ov <-eval o X.env
   standAt apos.atName
   let (f,first) <-holding [ov] (getMethod ov m pl)
   callWith pos f first (backTo pos (starEach [] X.env)) (backToKw pos (keywordEach [] X.env))))
  (hs:swapsWith (.Call (.Attribute o m apos) [] [] pos) none spos.line X.env=pure false) :
  PSN as X E O (.Expr (.Call (.Attribute o m apos) [] [] pos) spos) (kR as C m i g):=by
 obtain ⟨f,fd,ps,cl,hm,F,hb⟩:=D.ex;refine (n6 (v8 ho cl hm F (hr.mono hk) hb .nil hx ht) hs).imp fun D σ H rz3=>?_
 obtain ⟨H0,A0,A,δ,hn,R,ou⟩:=rz3;unfold kR at ou;split at ou
 case h_2=>exact ou.elim
 rename_i a fds q;obtain ⟨e,ha,hob,hfl,hln⟩:=l7 q;split at ou
 case isFalse=>exact ou.elim
 rename_i hlm;split at ou
 case h_2=>exact ou.elim
 rename_i fds' hg;have e2:af i δ=.ok (cA C a fds):=by unfold af;rw [e]
 refine eD.run R.full (fun d2 ed2 v2 H1 s1 R1 hv2=>?_) (fun C et H' s'=>?_) (fun et=>?_)
 ·rw [e2] at ed2;cases ed2;obtain ⟨rfl,dx,gs,hp,hl,hk⟩:=hv2.atObj;have R1':=R.step s1;obtain ⟨v3,e3,h3⟩:=R1'.pl i _ hi e;obtain ⟨rfl,dx',gs',hp',hl',hk'⟩:=h3.atObj;refine ⟨a,dx,gs,rfl,(bf hp).2,qv hk hlm,?_⟩;refine ⟨A++A0,a,fds,fds',rfl,R1'.lsA,h3,hfl,hln,hg,fun H' hS hn'=>?_⟩;exact ou A σ H' (R1'.mutH (bf hp').2 (hn a ha) (jS hob) hS hn')
 ·rw [e2] at et;cases et
 ·rw [e2] at et;cases et
end
theorem jZ.of {p:Str} {k:Nat} (F:Fun K m qual st f fd) (S:cX N [p] (aE st)) (b:Binds K fd [p] []) (cl:Cls K C) (hm:Meth K C m f)
  (body:∀ (as:List Addr) (cdv:Value) (A:Around) (outer:List Env) (s:Shared) (H:Hp) (E:XK),cx k (A.deeper (envOfC qual (aE st) s.heap.objs.size f cdv))->PBN as (cZ (CXW P w) P w K mg base N qual (aE st) f cdv A outer s H E) E [] (cm st) (G as))
  (hg:∀ a fds fds',gz fds=true->fds.length<1000->g fds=some fds'->∃ δ,G [a] (some (cA C a fds)::List.replicate (N.length-1) none)=.nx δ/\δ[0]?=some (some (cA C a fds'))):jZ P w K mg base (k+1) C m g:=by
 refine ⟨f,fd,[p],cl,hm,lz F S (fun vs H Q E h=>?_) (fun cdv A outer s H vs Q E hr h=>?_),b⟩
 ·obtain ⟨A,a,fds,fds',rfl,_⟩:=h;rfl
 ·obtain ⟨A0,a,fds,fds',rfl,hA,hi,hfl,hln,hgf,o⟩:=h;obtain ⟨_,dx,gs,hp,hl,hk⟩:=hi.atObj;have ha:=bf hp;obtain ⟨δ,e1,e2⟩:=hg a fds fds' hfl hln hgf;have R0:b0 K H A0 H [] [] (some (cA C a fds)::List.replicate (N.length-1) none) (L2.start N [.ref a]):=b0.start (ps:=[p]) (ds:=[cA C a fds]) hA (cG hi cO) rfl (fun i h=>by cases h);have hA':Ls (del H [a]) A0:=fun b hb=>by
   obtain ⟨xs,e,q⟩:=hA b hb;exact ⟨xs,by
    have hne:b∉[a]:=fun z=>ha.1 (by rw [<-LM.mp z];exact hb)
    rw [aP hne];exact e,q⟩
  refine ⟨_,body [a] cdv A outer s H E hr,del H [a],A0,[],_,fun b hb=>by rw [LM.mp hb];exact gR (LM.mpr rfl),⟨aB,hA',fun b hb=>(LZ hb).elim,R0.ls,R0.len,R0.pl,R0.own,R0.inj⟩,?_⟩;rw [e1];intro A' σ' H' R';refine o H' R'.same ?_;obtain ⟨v,_,h2⟩:=R'.pl 0 _ (by simp) e2;have h3:=h2.same (H':=del H' A0) (fun b u e=>by obtain ⟨q1,q2⟩:=bf e;rw [aP (fun z=>q1 (LJ _ z))];exact q2)
  rw [h3.atObj.1] at h3;exact h3
def Lw (C:Addr) (names:List Str) (tl:List (Str×Int)):Sp:=fun vs H Q _=>∃ (x dx:Addr) (args:List V),vs=.ref x::args/\args.length=names.length/\H x=some (.ins C dx []) /\
 ∀ H':Hp,(∀ b,b≠x->H' b=H b)->H' x=some (.ins C dx (names.zip args++tl.map fun p=>(p.1,.int p.2)))->Q .non H'
structure MkD (P:Program) (w:World) (K:PySem.W.Frag) (mg:Str->Option Value) (base:Heap) (k:Nat) (x:Str) (C:Addr) (names:List Str) (tl:List (Str×Int)):Prop where
 ex:∃ f fd ps,Mk K C f/\gM P w K mg base (CXW P w) k f fd ps (Lw C names tl)/\Binds K fd ps []/\mg x=some (.ref C)
def tlD (tl:List (Str×Int)):List (Str×PyData):=tl.map fun p=>(p.1,.int p.2)
theorem C9 {K:PySem.W.Frag} {H:Hp}:∀ tl:List (Str×Int),Isk K H ((tlD tl).map fun p=>(.str p.1,p.2)) (tl.map fun p=>(p.1,.int p.2))
 | []=>nW
 | p::r=>dZ bO (C9 r)
theorem zt {K:PySem.W.Frag} {H:Hp} {e:List (PyData×PyData)} {gs:List (Str×V)} (h2:Isk K H e gs):∀ {d:List (PyData×PyData)} {fs:List (Str×V)},Isk K H d fs->Isk K H (d++e) (fs++gs)
 | [],fs,h=>by unfold Isk at h;subst h;exact h2
 | (k,x)::r,fs,h=>by unfold Isk at h;obtain ⟨f,v,fs',rfl,rfl,h1,h3⟩:=h;exact dZ h1 (zt h2 h3)
theorem pF {f:Str} {b:List (Str×V)} (hb:b.lookup f=none):∀ {a:List (Str×V)},a.lookup f=none->(a++b).lookup f=none
 | [],_=>hb
 | (g,x)::r,h=>by
  rw [Mc,M5];rw [M5] at h;cases q:(f==g) with
  | true=>rw [q] at h;cases h
  | false=>rw [q] at h;exact pF hb h
theorem GK {f:Str}:∀ {tl:List (Str×Int)},(f∉tl.map (·.1))->(tl.map fun p=>((p.1,V.int p.2):Str×V)).lookup f=none
 | [],_=>rfl
 | p::r,h=>by rw [L5,M5,show (f==p.1)=false by simpa using fun q=>h (by rw [q];exact L6)];exact GK fun q=>h (L4 _ q)
def eMk (K:PySem.W.Frag) (E:XK) (C:Addr) (names:List Str) (tl:List (Str×Int)) (gs:Ds->Rs (List PyData)):TE:=fun σ H Q=>∃ A δ,dw K H A δ σ/\(match gs δ with
 | .ok ds=>ds.length=names.length/\∀ x H',H x=none->ax H H'->Is K (del H' A) (cA C x (names.zip ds++tlD tl)) (.ref x)->Q (.ref x) H'
 | .rz C'=>∀ H',ax H H'->E (.ref C') none H'
 | .no=>False)
section
variable {E:XK} {e:Expr} {es:List Expr}
theorem Kj {k:Nat} (D:MkD X.prog X.w X.K X.mg X.base k x C names tl) (hr:cx j X.A) (hx:Passes (CXW X.prog X.w) X E) (ha:PAD X E (e::es) gs) (hk:k+1<=j:=by decide) (hg:Gl X x:=by rfl)
  (hdb:(x==("__debug__":Str))=false:=by decide) (he:starEach (e::es) X.env=(false,eval e X.env)::starEach es X.env:=by rfl) (hpl:(backTo pos (starEach es X.env)).any (·.1)=false:=by rfl) (hn:("@":Str)∉names:=by decide) (hn2:("@":Str)∉tl.map (·.1):=by decide) :
  PE X (.Call (.Name x p) (e::es) [] pos) (eMk X.K E C names tl gs):=by
 obtain ⟨f,fd,ps,M,F,hb,hm⟩:=D.ex;refine (zQ M F (hr.mono hk) hg hm hb .nil hx ha.1 hdb he hpl).imp fun σ H Q rz3=>?_
 obtain ⟨A,δ,R,o⟩:=rz3;refine aD.run R (fun ds e1 vs H1 s1 R1 h1=>?_) (fun C et H' s'=>?_) (fun et=>?_)
 ·rw [e1] at o;obtain ⟨hl,o⟩:=o;intro x dx nx ndx ne;refine ⟨x,dx,vs++[],rfl,by rw [Mn,h1.length,hl],aG,fun H' k1 k2=>⟨rfl,?_⟩⟩;rw [Mn] at k2;have sm:ax H1 H':=fun b q eb=>by have n1:b≠x:=aK eb nx;rw [k1 b n1,aA n1,aA (aK eb ndx)];exact eb
  refine o x H' (s1.free nx) (s1.trans sm) (Bx (dx:=dx) (fs:=names.zip vs++tl.map fun p=>(p.1,.int p.2)) ?_ (pF (GK hn2) (yk hn)) ?_)
  ·rw [aP (R1.ls.new nx)];exact k2
  ·rw [Mm];exact zt (C9 tl) (sQ (h1.same sm.del))
 ·rw [et] at o;exact o H' s'
 ·rw [et] at o;exact o
end
def kB (C:Addr) (names:List Str) (tl:List (Str×Int)) (as:List Addr) (fss:List (List PyData)):List PyData:=(as.zip fss).map fun p=>cA C p.1 (names.zip p.2++tlD tl)
def lJ (K:PySem.W.Frag) (E:XK) (C:Addr) (names:List Str) (tl:List (Str×Int)) (n0:Nat) (gi gs:Ds->Rs (List PyData)) (tgt:PyData->Option Ds):TE:=fun σ H Q=>∃ A δ,dw K H A δ σ/\δ.length=n0/\∃ ds fss,gi δ=.ok ds/\ds.length<=1000000/\fss.length=ds.length /\
 (∀ (i:Nat) d,ds[i]?=some d->∃ ow fs,tgt d=some ow/\fss[i]?=some fs/\gs (δ++ow)=.ok fs/\fs.length=names.length) /\
 ∀ (as:List Addr) (D:Addr) (H':Hp),as.length=ds.length->as.Nodup->(∀ a∈as,H a=none)->ax H H'->Is K (del H' A) (.list (kB C names tl as fss)) (.ref D)->Q (.ref D) H'
theorem IY {E:XK} {g:TG} (hT:TgD K n0 own.length tgt g) :
  ∀ σ H Q,lJ K E C names tl n0 gi gs tgt σ H Q->tLC own.length (iD K E gi) g vn (eMk K E0 C names tl gs) σ H Q:=by
 intro σ H Q ⟨A,δ,R,hn0,ds,fss,q,hz,hfl,hel,o⟩;have hσ:σ.length=n0:=by rw [<-R.len];exact hn0
 refine ⟨A,δ,R,?_⟩;rw [q];intro J H1 s1 hJ D hD;have R1:=R.same s1;have nD:D∉A:=R1.ls.new hD;refine ⟨fun i m ys H'=>m=ds.length-i/\i<=ds.length/\ax H1 H'/\H' D=some (.lst ys)/\∃ as:List Addr,as.length=i/\ys=as.map V.ref/\as.Nodup/\(∀ a∈as,H1 a=none/\a≠D/\∃ u,H' a=some u)/\Iss K (del H' (D::A)) (kB C names tl as (fss.take i)) ys,
  ⟨ds.length,by simp,Mw _,bL hD,aG,[],rfl,rfl,List.nodup_nil,fun a h=>(LZ h).elim,cO⟩,?_⟩
 rintro i m ys H' ⟨rfl,hi,sm,hl,as,hal,rfl,nd,hnew,c3⟩
 refine ⟨hl,?_⟩;have sG:ax (del H1 A) H':=aB.trans sm;have hBn:∀ b∈D::A,(del H1 A) b=none:=fun b hb=>by
  rcases L7.mp hb with z | z
  ·rw [z,aP nD];exact hD
  ·exact gR z
 obtain ⟨jg,js,jy⟩:=hJ H' (D::A) sG (fun b hb=>by
  rcases L7.mp hb with z | z
  ·exact ⟨_,by rw [z];exact hl,rfl⟩
  ·exact (R1.ls.same sm) b z) hBn
 by_cases hlt:i<ds.length
 ·refine .inr ⟨jg i hlt,fun x H2 σ' hσ' y=>?_⟩;obtain ⟨s2,d,ed,hd⟩:=jy i x H2 hlt y;obtain ⟨ow,fs,et,ef,eg,hfs⟩:=hel i d ed;have l2:H2 D=some (.lst (as.map V.ref)):=s2 _ _ hl;have LsD:Ls H2 (D::A):=fun b hb=>by
   rcases L7.mp hb with z | z
   ·exact ⟨_,by rw [z];exact l2,rfl⟩
   ·exact (R1.ls.same (sm.trans s2)) b z
  obtain ⟨hol,hgo⟩:=hT d x σ σ' H2 (D::A) (fun σ2 H2=>vn σ2 H2 fun b H3 =>
   if b=true then eMk K E0 C names tl gs σ2 H3 fun v H4=>H4 D=some (.lst (as.map V.ref))/\(as.map V.ref).length<sizeLine/\(∃ σ'',σ2=σ++σ''/\σ''.length=own.length)/\∃ m',m' < ds.length-i/\_
   else (∃ σ'',σ2=σ++σ''/\σ''.length=own.length)/\∃ m',m' < ds.length-i/\_) ow hσ hσ' LsD hd et
  refine hgo fun vs hvs hown=>?_
  have sAll:ax (del H1 A) (del H2 (D::A)):=lV (sG.trans s2) hBn;have RE:dw K H2 (D::A) (δ++ow) (σ++vs):=by
   refine ⟨LsD,by rw [LL,LL,R.len,hvs,hol],fun k e ek=>?_⟩;by_cases hk:k<δ.length
   ·rw [M3 hk] at ek;obtain ⟨u,e1,hu⟩:=R1.get k e ek;exact ⟨u,by rw [M3 (by rw [<-R.len];exact hk)];exact e1,hu.same sAll⟩
   ·rw [M6 (by omega)] at ek;obtain ⟨u,e1,hu⟩:=hown _ e ek;exact ⟨u,by rw [M6 (by rw [<-R.len];omega),<-R.len];exact e1,hu⟩
  unfold vn;have hI:∀ {p q:Prop},p->(if true=true then p else q):=fun h=>by rw [if_pos rfl];exact h
  refine hI ?_;refine ⟨D::A,δ++ow,RE,?_⟩;rw [eg];refine ⟨hfs,fun a H4 na s4 ha=>?_⟩;have l4:H4 D=some (.lst (as.map V.ref)):=s4 _ _ l2;have naD:a≠D:=fun z=>by rw [z,l2] at na;cases na
  have naA:a∉as:=fun z=>by obtain ⟨_,_,u,hu⟩:=hnew a z;rw [s2 _ _ hu] at na;cases na
  have dU:del (upd H4 D (.lst (as.map V.ref++[.ref a]))) (D::A)=del H4 (D::A):=ke (L6);have h4a:∃ u,H4 a=some u:=by obtain ⟨_,dx,gs',hp,_⟩:=ha.atObj;exact ⟨_,(bf hp).2⟩
  have hex:kB C names tl (as++[a]) (fss.take (i+1))=kB C names tl as (fss.take i)++[cA C a (names.zip fs++tlD tl)]:=by
   have ht:fss.take (i+1)=fss.take i++[fs]:=by rw [List.take_add_one,ef];rfl
   unfold kB;rw [ht,List.zip_append (by rw [hal,N3];omega),Mm];rfl
  refine ⟨l4,by rw [sizeLine_eq,L3,hal];omega,⟨vs,rfl,hvs⟩,ds.length-(i+1),by omega,rfl,hlt,?_,aG,as++[a],by rw [LL,hal];rfl,by rw [Mm];rfl,?_,fun b hb=>?_,?_⟩
  ·exact ax.put ((sm.trans s2).trans s4) hD
  ·exact NF.mpr ⟨nd,by simp,fun b hb c hc e=>by rw [LM.mp hc] at e;exact naA (e▸hb)⟩
  ·rcases M4.mp hb with z | z
   ·obtain ⟨h1,h2,u,hu⟩:=hnew b z;refine ⟨h1,h2,u,?_⟩;rw [aA h2];exact s4 _ _ (s2 _ _ hu)
   ·cases LM.mp z;obtain ⟨u,hu⟩:=h4a;refine ⟨(sm.trans s2).free na,naD,u,?_⟩;rw [aA naD];exact hu
  ·rw [dU,hex];exact (c3.same (ax.del (s2.trans s4))).append (ja ha)
 ·have e:i=ds.length:=by omega
  subst e;rw [<-hfl,List.take_length] at c3;refine .inl ⟨js,o as D H' (by rw [hal]) nd (fun a ha=>s1.free (hnew a ha).1) (s1.trans sm) ?_⟩;have hs:ax (del H' (D::A)) (del H' A):=fun b u eb=>by obtain ⟨q1,q2⟩:=bf eb;rw [aP (fun z=>q1 (L4 _ z))];exact q2
  exact jV (by rw [aP nD];exact hl) (c3.same hs)
section
variable {E:XK} {ss:List Stmt}
theorem Fm {Gt:Ds->Sr} (hS:PS X st (BX (lJ X.K E C names tl n0 gi gs tgt) (jB i))) (hss:∀ as,PBN as X E O ss (G as)) (hi:i∉O)
  (hGt:∀ δ,Gt δ≠.no->∃ d ds fss,Gt δ=.rt d/\i<δ.length/\δ.length=n0/\gi (mask O δ)=.ok ds/\ds.length<=1000000/\fss.length=ds.length/\(∀ (i:Nat) d,ds[i]?=some d->∃ ow fs,tgt d=some ow/\fss[i]?=some fs/\gs (mask O δ++ow)=.ok fs/\fs.length=names.length) /\
   ∀ as:List Addr,as.length=ds.length->as.Nodup->G as (δ.set i (some (.list (kB C names tl as fss))))=.rt d):PBD X E O (st::ss) Gt:=by
 have h2:PSs X ss (fun D σ H=>∃ as,sDN as X.K E O (G as) D σ H):=fun pins s σ H D I qz6=>(by obtain ⟨as,h⟩:=qz6;exact hss as pins s σ H D I h)
 refine (cH hS h2).imp fun D σ H rz3=>?_
 obtain ⟨H0,A0,A,δ,R,o⟩:=rz3;by_cases z:Gt δ=.no
 ·rw [z] at o;exact o.elim
 obtain ⟨d,ds,fss,e1,hl,hn,e2,hz,hf,hel,hG⟩:=hGt δ z;rw [e1] at o;have hml:(mask O δ).length=n0:=by rw [wt];exact hn
 refine ⟨A++A0,mask O δ,R.part,hml,ds,fss,e2,hz,hf,hel,fun as Dd H' hal nd hnew s1 hIs=>?_⟩;refine ⟨as,H0,A0,A,_,fun a ha=>R.same.free (hnew a ha),(R.step s1).set hi hl hIs,?_⟩;rw [hG as hal nd];exact o
end
section
variable {κ:Type} [DecidableEq κ]
def mL (kvs:List (κ×V)) (k:κ):Option V:=(kvs.find? fun kv=>decide (kv.1=k)).map (·.2)
def putK (kvs:List (κ×V)) (k:κ) (v:V):List (κ×V) :=
 if (kvs.any fun kv=>decide (kv.1=k))=true then kvs.map (fun kv=>if kv.1=k then (kv.1,v) else kv) else kvs++[(k,v)]
theorem pj {p:κ×V} {r:List (κ×V)} {k:κ} (e:p.1=k):mL (p::r) k=some p.2:=by simp [mL,MG,e]
theorem oG {p:κ×V} {r:List (κ×V)} {k:κ} (e:¬ p.1=k):mL (p::r) k=mL r k:=by simp [mL,MG,e]
theorem vP (k:κ):∀ kvs:List (κ×V),(kvs.any fun kv=>decide (kv.1=k))=(mL kvs k).isSome
 | []=>rfl
 | p::r=>by
  rw [MW];by_cases e:p.1=k
  ·simp only [pj e,decide_eq_true e,Bool.true_or,Option.isSome_some]
  ·rw [oG e,decide_eq_false e,Bool.false_or];exact vP k r
theorem nB (kvs:List (κ×V)) (k:κ) (v:V):(putK kvs k v).length<=kvs.length+1:=by
 unfold putK;split
 ·rw [L3];omega
 ·rw [LL,LS,ME];omega
theorem kr.isSome_eq {o:Option V} {u:Option Value} (r:kr o u):o.isSome=u.isSome:=by
 cases o with
 | none=>cases u with
  | none=>rfl
  | some _=>exact (show False from r).elim
 | some _=>cases u with
  | none=>exact (show False from r).elim
  | some _=>rfl
theorem kr.getD {o:Option V} {u:Option Value} {d:V} {d':Value} (r:kr o u) (rd:RelV d d'):RelV (o.getD d) (u.getD d'):=by
 cases o with
 | none=>cases u with
  | none=>exact rd
  | some _=>exact (show False from r).elim
 | some _=>cases u with
  | none=>exact (show False from r).elim
  | some _=>exact r
theorem KV.val {kvs:List (κ×V)} {vs:List (κ×Value)} (r:KV kvs vs) (k:κ):kr (mL kvs k) (valueAt vs k):=by
 unfold KV at r
 induction r with
 | nil=>exact True.intro
 | @cons p q ps qs h t ih =>
  obtain ⟨h1,h2⟩:=h;by_cases e:p.1=k
  ·have e':q.1=k:=h1.symm.trans e;have b:valueAt (q::qs) k=some q.2:=by simp [valueAt,MG,e']
   rw [pj e,b];exact h2
  ·have e':¬ q.1=k:=fun z=>e (h1.trans z)
   have b:valueAt (q::qs) k=valueAt qs k:=by simp [valueAt,MG,e']
   rw [oG e,b];exact ih
theorem KV.any {kvs:List (κ×V)} {vs:List (κ×Value)} (r:KV kvs vs) (k:κ):(kvs.any fun kv=>decide (kv.1=k))=vs.any fun kv=>decide (kv.1=k):=by
 unfold KV at r
 induction r with
 | nil=>rfl
 | cons h t ih=>rw [MW,MW,ih,h.1]
theorem KV.repl {kvs:List (κ×V)} {vs:List (κ×Value)} (r:KV kvs vs) (k:κ) (ry:RelV y u) :
  KV (kvs.map fun kv=>if kv.1=k then (kv.1,y) else kv) (vs.map fun kv=>if kv.1=k then (kv.1,u) else kv):=by
 unfold KV at r ⊢
 induction r with
 | nil=>exact .nil
 | @cons p q ps qs h t ih =>
  rw [L5,L5];refine .cons ?_ ih;obtain ⟨h1,h2⟩:=h;by_cases e:p.1=k
  ·rw [if_pos e,if_pos (h1.symm.trans e)];exact ⟨h1,ry⟩
  ·rw [if_neg e,if_neg (fun z=>e (h1.trans z))];exact ⟨h1,h2⟩
theorem KV.put {kvs:List (κ×V)} {vs:List (κ×Value)} (r:KV kvs vs) (k:κ) (ry:RelV y u):KV (putK kvs k y) (stored vs k u):=by
 unfold putK stored;rw [r.any k];by_cases e:(vs.any fun kv=>decide (kv.1=k))=true
 ·rw [if_pos e,if_pos e];exact r.repl k ry
 ·rw [if_neg e,if_neg e];exact Paired.snoc r ⟨rfl,ry⟩
theorem KV.length {kvs:List (κ×V)} {vs:List (κ×Value)} (r:KV kvs vs):kvs.length=vs.length:=Paired.length r
end
theorem BH {k:Key} (r:RelV (kV k) u):(dC P w).is k u=true:=by
 cases k with
 | inl i=>obtain ⟨t,e⟩:=(show ∃ t,u=Value.int i t from r);subst e;exact uS P w i t
 | inr x=>obtain ⟨t,e⟩:=(show ∃ t,u=Value.str x t from r);subst e;exact vh P w x t
theorem rY {P:Program} {w:World}:∀ {ks:List Key} {us:List Value},Vals (ks.map kV) us->ItemsAre (dC P w) ks us
 | [],_,r=>by rw [Mr] at r;cases r;exact .nil
 | k::ks,_,r=>by
  rw [L5] at r;cases r with
  | cons h t=>exact .cons (BH h) (rY t)
abbrev KT (H:Hp):List (List Key×V)->List (List Key×Addr×Value)->Prop:=Paired fun p q=>p.1=q.1/\H q.2.1=some (.tup (p.1.map kV))/\RelV p.2 q.2.2
theorem KT.val (r:KT H kvs xs) (k:List Key):kr (mL kvs k) ((atKey xs k).map (·.2)):=by
 induction r with
 | nil=>exact True.intro
 | @cons p q ps qs h t ih =>
  obtain ⟨h1,_,h2⟩:=h;by_cases e:p.1=k
  ·have e':q.1=k:=h1.symm.trans e;have b:atKey (q::qs) k=some q.2:=by simp [atKey,MG,e']
   rw [pj e,b];exact h2
  ·have e':¬ q.1=k:=fun z=>e (h1.trans z)
   have b:atKey (q::qs) k=atKey qs k:=by simp [atKey,MG,e']
   rw [oG e,b];exact ih
theorem KT.repl (r:KT H kvs xs) (k:List Key) (ry:RelV y u) :
  KT H (kvs.map fun kv=>if kv.1=k then (kv.1,y) else kv) (xs.map (putAt k u)):=by
 induction r with
 | nil=>exact .nil
 | @cons p q ps qs h t ih =>
  rw [L5,L5];refine .cons ?_ ih;obtain ⟨h1,h2,h3⟩:=h;unfold putAt;by_cases e:p.1=k
  ·rw [if_pos e,if_pos (h1.symm.trans e)];exact ⟨h1,h2,ry⟩
  ·rw [if_neg e,if_neg (fun z=>e (h1.trans z))];exact ⟨h1,h2,h3⟩
theorem KT.put (r:KT H kvs xs) (k:List Key) (hb:H b=some (.tup (k.map kV))) (ry:RelV y u) :
  KT H (putK kvs k y) (storedH xs k b u):=by
 have e:(kvs.any fun kv=>decide (kv.1=k))=(atKey xs k).isSome:=by rw [vP,(r.val k).isSome_eq,Option.isSome_map]
 unfold putK storedH;rw [e];by_cases q:(atKey xs k).isSome=true
 ·rw [if_pos q,if_pos q];exact r.repl k ry
 ·rw [if_neg q,if_neg q];exact Paired.snoc r ⟨rfl,hb,ry⟩
theorem KT.keeps (r:KT H kvs xs) (ht:∀ b ys,H b=some (.tup ys)->H' b=some (.tup ys)):KT H' kvs xs :=
 Paired.mapP r fun _ _ z=>⟨z.1,ht _ _ z.2.1,z.2.2⟩
section
theorem GB {u:HO} (ok:HOk P w H h) (e:Rd H a u):dg P w H h a u:=e.ok ok
theorem DK {kvs:List (Key×V)} (ok:HOk P w H h) (e:Rd H a (.dK kvs)):kvs.length<=sizeLine/\(a==sysModules)=false/\∃ vs,KV kvs vs/\h.DictOf (dC P w) a vs :=
 show dg P w H h a (.dK kvs) from GB ok e
theorem JI {kvs:List (Key×V)} (ok:HOk P w H h) (e:H a=some (.dK kvs)):kvs.length<=sizeLine/\(a==sysModules)=false/\∃ vs,KV kvs vs/\h.DictOf (dC P w) a vs:=DK ok (.inl e)
theorem xH {ks:List Key} (ok:HOk P w H h) (e:H a=some (.tup (ks.map kV))):(tupleKind (dC P w)).is h ks a:=by
 obtain ⟨_,its,r,o,h1,h2,_,n,h3⟩:=(show dg P w H h a (.tup (ks.map kV)) from ok a _ e)
 exact ⟨o,its.toArray,n,h1,h2,h3,by simpa using rY r⟩
theorem BF (ok:HOk P w H h) (e:Rd H a (.dT kvs)):kvs.length<=sizeLine/\(a==sysModules)=false /\
  ∃ xs,KT H kvs xs/\h.DictOfH (tupleKind (dC P w)) a xs:=by
 obtain ⟨z,y,xs,r,o,es,ep,h1,h2,h3,h4,h5⟩:=(show dg P w H h a (.dT kvs) from GB ok e)
 refine ⟨z,y,xs,r,o,es,ep,h1,h2,h3,h4,fun x hx=>?_,h5⟩;have all:∀ {l:List (List Key×V)} {m:List (List Key×Addr×Value)},KT H l m->∀ x∈m,(tupleKind (dC P w)).is h x.1 x.2.1:=by
  intro l m q
  induction q with
  | nil=>intro x hx;exact nomatch hx
  | @cons p q ps qs hq t ih =>
   intro x hx;rcases L7.mp hx with e | hx
   ·subst e;exact xH ok (by rw [<-hq.1];exact hq.2.1)
   ·exact ih x hx
 exact all r x hx
theorem KJ (ok:HOk P w H h) (e:H a=some (.dT kvs)):kvs.length<=sizeLine/\(a==sysModules)=false /\
 ∃ xs,KT H kvs xs/\h.DictOfH (tupleKind (dC P w)) a xs:=BF ok (.inl e)
end
def C3 (H:Hp) (a:Addr) (y:V) (r:Option V):Prop :=
 (∃ kvs k,Rd H a (.dK kvs)/\y=kV k/\r=mL kvs k)\/∃ kvs k b,Rd H a (.dT kvs)/\y=.ref b/\H b=some (.tup (k.map kV))/\r=mL kvs k
def DZ (H:Hp) (a:Addr) (y v:V) (H':Hp):Prop :=
 (∃ kvs k,H a=some (.dK kvs)/\y=kV k/\kvs.length<sizeLine/\H'=upd H a (.dK (putK kvs k v))) \/
 ∃ kvs k b,H a=some (.dT kvs)/\y=.ref b/\H b=some (.tup (k.map kV))/\kvs.length<sizeLine/\H'=upd H a (.dT (putK kvs k v))
theorem C3.k {kvs:List (Key×V)} {k:Key} (e:H a=some (.dK kvs)):C3 H a (kV k) (mL kvs k):=.inl ⟨kvs,k,.inl e,rfl,rfl⟩
theorem DZ.k {kvs:List (Key×V)} {k:Key} (e:H a=some (.dK kvs)) (hl:kvs.length<sizeLine):DZ H a (kV k) v (upd H a (.dK (putK kvs k v))):=.inl ⟨kvs,k,e,rfl,hl,rfl⟩
section
variable {r:Value} {o:Option V} {A:Around}
theorem Inv.big (I:Inv X pins σ H s):sysModules<s.heap.objs.size:=by have h:mainGlobals<s.heap.objs.size:=(I.mod.glob.keeps I.bk).lt;exact Nat.lt_trans (by decide) h
theorem yO {ob:HO} (I:Inv X pins σ H s) (mu:Mut (H a)) (hs:Heap.SameBut a s.heap h') (he:∃ q,h'.get? a=some q) (new:dg X.prog X.w (upd H a ob) h' a ob) :
  Inv X pins σ (upd H a ob) { s with heap:=h',toks:=t' } :=
 I.write (x:=a) (e:=a) mu (.inl rfl) (fun b q hb z=>(hs.2 b hb).trans z) he new
theorem Hq {kvs:List (Key×V)} {vs:List (Key×Value)} (z:kvs.length<=sizeLine) (hd:(a==sysModules)=false) (rel:KV kvs vs) (dd:h'.DictOf (dC P w) a vs) :
 dg P w H' h' a (.dK kvs):=⟨z,hd,vs,rel,dd⟩
theorem Bj {Q:Unit->Shared->Prop} (hu:A.units+1<cLine) (I:Inv X pins σ H s) (g:DZ H a y v H') (ry:RelV y u) (rv:RelV v r) (h:∀ s',Inv X pins σ H' s'->Q () s') :
  wpAny (model X.prog X.w) A (setItem (.ref a) u r) Q E s:=by
 rcases g with ⟨kvs,k,e,ey,l,eH⟩ | ⟨kvs,k,b,e,ey,eb,l,eH⟩
 ·subst ey eH;obtain ⟨z,hd,vs,rel,dd⟩:=JI I.hok e;have hz:vs.length<=sizeLine:=by rw [<-rel.length];exact z
  have hl:(putK kvs k v).length<=sizeLine:=by have:=nB kvs k v;omega
  refine wpAny_setItem_pairs (hsz:=hz) (BH ry) dd fun h' dd' hs=>h _ ?_
  have he:∃ q,h'.get? a=some q:=let ⟨q,_,_,hq,_⟩:=dd';⟨q,hq⟩;exact yO I (by rw [e];exact True.intro) hs he (Hq hl hd (rel.put k rv) dd')
 ·subst ey eH;cases (show u=Value.ref b from ry);obtain ⟨z,hd,xs,rel,dd⟩:=KJ I.hok e;have hz:xs.length<=sizeLine:=by rw [<-Paired.length rel];exact z
  have hl:(putK kvs k v).length<=sizeLine:=by have:=nB kvs k v;omega
  refine wpAny_setItem_heap (hsz:=hz) (tupleKind_room_in1 hu) (xH I.hok eb) dd fun h' dd' hs=>h _ ?_
  obtain ⟨q,es,ep,hq,h2,h3,h4,_,h5⟩:=dd';refine yO I (by rw [e];exact True.intro) hs ⟨q,hq⟩ ⟨hl,hd,_,(rel.put k eb rv).keeps fun c ys ec=>?_,q,es,ep,hq,h2,h3,h4,h5⟩;rw [aA (KU ec e (fun z=>nomatch z))];exact ec
end
section
variable {kvs:List (Key×V)} {k:Key} {A:Around}
end
def JZ (td ty tv:TE):TS:=fun D σ H=>tv σ H fun v H1=>td σ H1 fun x H2=>ty σ H2 fun y H3=>∃ a H4,x=.ref a/\DZ H3 a y v H4/\D.nx σ H4
section
variable {o i e value:Expr} {tpos:Pos} {td ty tv:TE}
theorem Ey (hu:X.A.units+1<cLine) (ho:PE X o td) (hi:PE X i ty) (hv:PE X value tv) (hs:swapsWith value (some (.Subscript o i pos')) pos.line X.env=pure false) :
  PS X (.Assign [.Subscript o i pos'] value pos) (JZ td ty tv):=by
 intro pins s σ H D I h;refine wpAny_Assign_Subscript (thn (hv pins s σ H _ I h) fun r s1 rz2=>?_) hs;obtain ⟨v,H1,I1,rv,q1⟩:=rz2;refine thn (ho pins s1 σ H1 _ I1 q1) fun u s2 rz2=>?_
 obtain ⟨x,H2,I2,rx,q2⟩:=rz2;refine thn (hi pins s2 σ H2 _ I2 q2) fun iv s3 rz2=>?_
 obtain ⟨y,H3,I3,ry,a,H4,ex,g,q3⟩:=rz2;subst ex;obtain rfl:u=Value.ref a:=rx;exact Bj hu I3 g ry rv fun s4 I4=>⟨σ,H4,I4,q3⟩
end
theorem DJ (h:Heap) (hb:sysModules<h.objs.size):dg P w H (h.push { cls:=.type "dict",data:=.dict #[] }) h.objs.size (.dK []) :=
 ⟨Mw _,beq_eq_false_iff_ne.mpr (Ne.symm (LR hb)),[],.nil,Heap.DictOf.new h⟩
def IL:TE:=fun _ H Q=>∀ p,H p=none->Q (.ref p) (upd H p (.dK []))
section
theorem wx:PE X (.Dict [] [] pos) IL:=fun pins s σ H Q I h =>
 wpAny_Dict_empty ⟨.ref s.heap.objs.size,_,I.laid (a:=s.heap.objs.size) (o:=.dK []) (t':=s.toks) (fun _ _ q=>L0 _ q) (LK _) (DJ s.heap I.big),rfl,h _ (I.hok.fresh (LK _))⟩
end
structure M2 (X:Cx) (o:Expr) (m:Str) (apos:Pos) (e f:Expr) (cpos:Pos):Prop where
 base:attributeBase o m X.env (eval o X.env)=eval o X.env
 few:((backTo cpos (starEach [e,f] X.env)).all (fun x=>!x.1)&&(backToKw cpos (keywordEach [] X.env)).all (fun x=>x.1.isSome)
 &&decide (([e,f]:List Expr).length+([]:List Keyword).length+(if ([]:List Keyword).isEmpty then 0 else 1)<30))=true
 line:(apos.endLine==cpos.line)=true
 trees:backTo cpos (starEach [e,f] X.env)=[(false,eval e X.env),(false,eval f X.env)]
def J1 (H:Hp) (a:Addr):Prop:=(∃ kvs,Rd H a (.dK kvs))\/∃ kvs,Rd H a (.dT kvs)
theorem Ij (I:Inv X pins σ H s) (d:J1 H a) :
  s.TypeIs (.ref a) "dict"/\(∀ b,Value.ref a=.ref b->∃ ob,s.heap.get? b=some ob/\ob.dict=none)/\(a==sysModules)=false:=by
 rcases d with ⟨kvs,e⟩ | ⟨kvs,e⟩
 ·obtain ⟨_,hd,vs,_,dd⟩:=DK I.hok e;refine ⟨dd.typeIs,fun b q=>?_,hd⟩;cases q;obtain ⟨ob,_,_,h1,h2,_⟩:=dd;exact ⟨ob,h1,h2.2.1⟩
 ·obtain ⟨_,hd,xs,_,dd⟩:=BF I.hok e;refine ⟨dd.typeIs,fun b q=>?_,hd⟩;cases q;obtain ⟨ob,_,_,h1,h2,_⟩:=dd;exact ⟨ob,h1,h2.2.1⟩
section
variable {d:V} {r:Value} {o:Option V} {A:Around}
theorem Jn (hu:A.units+1<cLine) (I:Inv X pins σ H s) (g:C3 H a y o) (ry:RelV y u) (rd:RelV d r) (h:∀ w' s',Inv X pins σ H s'->RelV (o.getD d) w'->Q w' s') :
  wpAny (model X.prog X.w) A (call (.builtin "dict.get") [.ref a,u,r]) Q E s:=by
 rcases g with ⟨kvs,k,e,ey,l⟩ | ⟨kvs,k,b,e,ey,eb,l⟩
 ·subst ey;obtain ⟨z,hd,vs,rel,dd⟩:=DK I.hok e;refine call_meetsIn PySem.F.slot_dict_get dd.typeIs PySem.F.entry_dict_get (PySem.F.args_dict_get_3 _ _ _) (meets_dict_get_default (dC X.prog X.w) a (BH ry) hd r) ⟨_,dd.mapOf,h _ _ (I.tok _) ?_⟩;rw [l];exact (rel.val k).getD rd
 ·subst ey;cases (show u=Value.ref b from ry);obtain ⟨z,hd,xs,rel,dd⟩:=BF I.hok e;refine call_meetsIn PySem.F.slot_dict_get dd.typeIs PySem.F.entry_dict_get (PySem.F.args_dict_get_3 _ _ _) (meetsH_dict_get_default (tupleKind (dC X.prog X.w)) a b hd r) ⟨tupleKind_room_in1 hu,k,xs,xH I.hok eb,dd,h _ _ (I.tok _) ?_⟩;rw [l];exact (rel.val k).getD rd
end
def IG (td ty tx:TE):TE:=fun σ H Q=>td σ H fun x H1=>∃ a,x=.ref a/\J1 H1 a/\ty σ H1 fun y H2=>tx σ H2 fun z H3=>∃ o,C3 H3 a y o/\Q (o.getD z) H3
section
variable {o e f:Expr} {apos:Pos} {td ty tx:TE}
theorem Cz (hu:X.A.units+1<cLine) (ho:PE X o td) (he:PE X e ty) (hf:PE X f tx) (m:M2 X o "get" apos e f cpos):PE X (.Call (.Attribute o "get" apos) [e,f] [] cpos) (IG td ty tx):=by intro pins s σ H Q I h;refine wpAny_Call_method m.base m.few m.line PySem.F.plainAttrs_dict PySem.F.slot_dict_get PySem.F.type_dict_get (thn (ho pins s σ H _ I h) fun u s1 rz2=>?_);obtain ⟨x,H1,I1,rx,a,ex,d,q1⟩:=rz2;subst ex;obtain rfl:u=Value.ref a:=rx;obtain ⟨t1,t2,_⟩:=Ij I1 d;refine ⟨t1,t2,?_⟩;rw [m.trees];refine Calls.callWith_builtin rfl (Calls.evalArgs_plain (Calls.spliced_cons (thn (he pins s1 σ H1 _ I1 q1) fun iv s2 rz2=>?_)));obtain ⟨y,H2,I2,ry,q2⟩:=rz2;refine Calls.spliced_cons (thn (hf pins s2 σ H2 _ I2 q2) fun fv s3 rz2=>?_);obtain ⟨z,H3,I3,rz,ov,g,q3⟩:=rz2;refine Calls.spliced_nil ?_;exact Jn hu I3 g ry rz fun w' s4 I4 rw'=>⟨_,H3,I4,rw',q3⟩
end
section
variable {kvs:List (Key×V)} {A:Around}
end
section
variable {A:Around}
end
section
theorem b0.setOwnO (R:b0 K H0 A0 H A O δ σ) (hi:i∈O) (hl:i<δ.length) (hn:H a=none) (s:ax H H1) (ha:H1 a=some o) (hoo:HZ o=true) (h:gX K (del H1 (a::(A++A0))) d0 o) :
  b0 K H0 A0 H1 (a::A) O (δ.set i (some d0)) (σ.set i (some (.ref a))) where
 same:=R.same.trans s
 ls0:=R.ls0
 new:=fun b hb=>by
  rcases L7.mp hb with z | z
  ·rw [z];exact R.same.free hn
  ·exact R.new b z
 ls:=fun b hb=>by
  rcases L7.mp hb with z | z
  ·exact ⟨_,by rw [z];exact ha,hoo⟩
  ·exact (R.ls.same s) b z
 len:=by simp [R.len]
 pl:=fun j e hj q=>by
  rcases get_set q with ⟨z,q⟩ | ⟨z,q⟩
  ·subst z;exact absurd hi hj
  ·obtain ⟨u,e1,h1⟩:=R.pl j e hj q;refine ⟨u,km z e1,h1.same fun b o e=>?_⟩;obtain ⟨y,e⟩:=bf e;have nb:b≠a:=aK e hn;rw [aP (by simpa [nb] using y)];exact s _ _ e
 own:=fun j e hj q=>by
  have kk:∀ b o,del H (A++A0) b=some o->del H1 (a::A++A0) b=some o:=fun b o e=>by obtain ⟨y,e⟩:=bf e;have nb:b≠a:=aK e hn;rw [aP (by simpa [nb] using y)];exact s _ _ e
  rcases get_set q with ⟨z,q⟩ | ⟨z,q⟩
  ·cases q;subst z;exact ⟨a,_,_,by rw [Mj (by rw [<-R.len];exact hl)],L6,ha,rfl,h⟩
  ·obtain ⟨b,ys,es,e1,h1,h2,h3,h4⟩:=R.own j e hj q;exact ⟨b,ys,es,km z e1,L4 _ h1,s _ _ h2,h3,h4.same kk⟩
 inj:=fun j k d' e b hj hk q1 q2 p1 p2=>by
  have old:∀ k,k∈O->i≠k->∀ e,δ[k]?=some (some e)->σ[k]?=some (some (.ref a))->False:=fun k hk _ e q p=>by obtain ⟨b,ys,es,e1,h1,h2,_⟩:=R.own k e hk q;rw [p] at e1;cases e1;rw [hn] at h2;cases h2
  by_cases z1:i=j
  ·by_cases z2:i=k
   ·rw [<-z1,z2]
   ·subst z1;rw [Mj (by rw [<-R.len];exact hl)] at p1;cases p1;rw [M7 z2] at q2 p2;exact (old k hk z2 e q2 p2).elim
  ·by_cases z2:i=k
   ·subst z2;rw [Mj (by rw [<-R.len];exact hl)] at p2;cases p2;rw [M7 z1] at q1 p1;exact (old j hj z1 d' q1 p1).elim
   ·rw [M7 z1] at q1 p1;rw [M7 z2] at q2 p2;exact R.inj j k d' e b hj hk q1 q2 p1 p2
theorem b0.putO {d1:PyData} (R:b0 K H0 A0 H A O δ σ) (hi:i∈O) (hd:δ[i]?=some (some d0)) (hs:σ[i]?=some (some (.ref a))) (ha:a∈A) (hoo:HZ o=true) (h:gX K (del H (A++A0)) d1 o) :
  b0 K H0 A0 (upd H a o) A O (δ.set i (some d1)) σ:=by
 have dU:del (upd H a (o)) (A++A0)=del H (A++A0):=ke (Me _ ha);have hl:i<δ.length:=(M8.mp hd).1;refine ⟨fun b o e=>?_,R.ls0,R.new,fun b hb=>?_,by simp [R.len],fun j e hj q=>?_,fun j e hj q=>?_,fun j k d' e b hj hk q1 q2 p1 p2=>?_⟩
 ·have nb:b≠a:=fun z=>by rw [z,R.new a ha] at e;cases e
  rw [aA nb];exact R.same b o e
 ·by_cases z:b=a
  ·exact ⟨_,by rw [z,aG],hoo⟩
  ·rw [aA z];exact R.ls b hb
 ·rcases get_set q with ⟨z,q⟩ | ⟨z,q⟩
  ·subst z;exact absurd hi hj
  ·rw [dU];exact R.pl j e hj q
 ·rcases get_set q with ⟨z,q⟩ | ⟨z,q⟩
  ·cases q;subst z;exact ⟨a,_,_,hs,ha,aG,rfl,by rw [dU];exact h⟩
  ·obtain ⟨b,zs,es,e1,h1,h2,h3,h4⟩:=R.own j e hj q;have nb:b≠a:=fun w=>z (R.inj i j _ _ a hi hj hd q hs (by rw [<-w];exact e1))
   exact ⟨b,zs,es,e1,h1,by rw [aA nb];exact h2,h3,by rw [dU];exact h4⟩
 ·rcases get_set q1 with ⟨z1,q1⟩ | ⟨z1,q1⟩ <;> rcases get_set q2 with ⟨z2,q2⟩ | ⟨z2,q2⟩
  ·rw [<-z1,z2]
  ·subst z1;exact R.inj i k d0 e b hi hk hd q2 p1 p2
  ·subst z2;exact R.inj j i d' d0 b hj hi q1 hd p1 p2
  ·exact R.inj j k d' e b hj hk q1 q2 p1 p2
end
def cK (l:List (Int×Int)):PyData:=.dict (l.map fun p=>(PyData.int p.1,PyData.int p.2))
def dkO (l:List (Int×Int)):HO:=.dK (l.map fun p=>(.inl p.1,V.int p.2))
theorem oT:∀ {l m:List (Int×Int)},l.map (fun p=>(PyData.int p.1,PyData.int p.2))=m.map (fun p=>(PyData.int p.1,PyData.int p.2))->l=m
 | [],[],_=>rfl
 | [],_::_,h=>by simp at h
 | _::_,[],h=>by simp at h
 | (a,b)::l,(c,d)::m,h=>by simp only [L5,List.cons.injEq,Prod.mk.injEq,PyData.int.injEq] at h;obtain ⟨⟨rfl,rfl⟩,h⟩:=h;rw [oT h]
theorem Is.ofDic (h:Is K H (cK l) v):∃ a,v=.ref a/\H a=some (dkO l):=by
 unfold cK Is at h;rcases h with (⟨a,ns,_,e,_⟩ | ⟨a,m,e1,e,h2⟩) | ⟨a,C,dx,fs,_,_,_,h | h⟩
 ·cases l with
  | nil=>simp at e
  | cons p l=>simp at e
 ·rw [oT e];exact ⟨a,e1,h2⟩
 ·cases l with
  | nil=>unfold Isk at h;simp at h
  | cons p l=>rw [L5] at h;unfold Isk at h;obtain ⟨f,_,_,_,q,_⟩:=h;cases q
 ·cases l with
  | nil=>unfold Isk at h;simp at h
  | cons p l=>rw [L5] at h;unfold Isk at h;obtain ⟨f,_,_,_,q,_⟩:=h;cases q
theorem Jr (h:H a=some (dkO l)):Is K H (cK l) (.ref a):=by unfold cK Is;exact .inl (.inr ⟨a,l,rfl,rfl,h⟩)
def kK:List (PyData×PyData)->Option (List (Int×Int))
 | []=>some []
 | (.int a,.int b)::r=>(kK r).map fun l=>(a,b)::l
 | _=>none
theorem rL:∀ {r:List (PyData×PyData)} {l:List (Int×Int)},kK r=some l->r=l.map fun p=>(PyData.int p.1,PyData.int p.2)
 | [],l,e=>by cases e;rfl
 | (a,b)::r,l,e=>by
  cases a <;> cases b <;> first | (cases e;done) | skip
  unfold kK at e;cases q:kK r with
  | none=>rw [q] at e;cases e
  | some m=>rw [q] at e;cases e;rw [rL q];rfl
theorem pJ:∀ l:List (Int×Int),kK (l.map fun p=>(PyData.int p.1,PyData.int p.2))=some l
 | []=>rfl
 | p::r=>by rw [L5];unfold kK;rw [pJ r];rfl
def wj:PyData->Option (List (Int×Int))
 | .dict kvs=>kK kvs
 | _=>none
theorem vX {d:PyData} (h:wj d=some l):d=cK l:=by
 unfold wj at h;split at h
 ·unfold cK;rw [rL h]
 ·cases h
theorem qT (l:List (Int×Int)):wj (cK l)=some l:=pJ l
def lg (l:List (Int×Int)) (k:Int):Option Int:=(l.find? fun p=>decide (p.1=k)).map (·.2)
def xA (l:List (Int×Int)) (k v:Int):List (Int×Int):=if (l.any fun p=>decide (p.1=k))=true then l.map (fun p=>if p.1=k then (p.1,v) else p) else l++[(k,v)]
theorem Bw (l:List (Int×Int)) (k:Int):mL (l.map fun p=>((.inl p.1,V.int p.2):Key×V)) (.inl k)=(lg l k).map V.int:=by
 unfold mL lg
 induction l with
 | nil=>rfl
 | cons p r ih =>
  rw [L5,MG,MG];by_cases z:p.1=k
  ·have h1:decide ((Sum.inl p.1:Key)=.inl k)=true:=decide_eq_true (by rw [z]);simp only [h1,decide_eq_true z];rfl
  ·have h1:decide ((Sum.inl p.1:Key)=.inl k)=false:=decide_eq_false fun q=>z (Sum.inl.inj q)
   simp only [h1,decide_eq_false z];exact ih
theorem Fq (l:List (Int×Int)) (k v:Int):putK (l.map fun p=>((.inl p.1,V.int p.2):Key×V)) (.inl k) (.int v)=(xA l k v).map fun p=>(.inl p.1,V.int p.2):=by
 have ha:((l.map fun p=>((.inl p.1,V.int p.2):Key×V)).any fun kv=>decide (kv.1=.inl k))=l.any fun p=>decide (p.1=k):=by
  rw [List.any_map];congr 1;funext p;by_cases z:p.1=k
  ·simp [z]
  ·have:¬ ((Sum.inl p.1:Key)=.inl k):=fun q=>z (Sum.inl.inj q)
   simp [z,this]
 unfold putK xA;rw [ha];split
 ·rw [LW,LW];refine LY fun p _=>?_
  by_cases z:p.1=k
  ·simp [z]
  ·have:¬ ((Sum.inl p.1:Key)=.inl k):=fun q=>z (Sum.inl.inj q)
   simp [z,this]
 ·rw [Mm];rfl
section
variable {E:XK} {o e f i' value:Expr} {go gf:Ds->Rs PyData} {apos:Pos}
theorem E6:PD X E (.Dict [] [] pos) (gC (cK [])):=(wx).imp fun σ H Q ⟨A,δ,R,o⟩=>fun p hp=>o (.ref p) _ (bL hp) (Jr (l:=[]) (by rw [aP (R.ls.new hp)];exact aG))
def lP (go ge gf:Ds->Rs PyData):Ds->Rs PyData:=fun δ=>(go δ).bind fun d=>match wj d with
 | some l=>(ge δ).bind fun k=>(gf δ).bind fun z=>(match k,z with
  | .int k,.int z=>.ok (.int ((lg l k).getD z))
  | _,_=>.no)
 | none=>.no
end
section
variable {E:XK} {o e f k value:Expr} {go gf gk gv:Ds->Rs PyData} {apos:Pos}
theorem E5 (hu:X.A.units+1<cLine) (ho:PD X E o go) (he:PD X E e ge) (hf:PD X E f gf) (m:M2 X o "get" apos e f cpos):PD X E (.Call (.Attribute o "get" apos) [e,f] [] cpos) (lP go ge gf) :=
 (Cz hu ho he hf m).imp fun σ H Q pz3=>by
  obtain ⟨A,δ,R,ou⟩:=pz3;unfold lP at ou;refine eD.run R (fun d ed v H1 s1 R1 h1=>?_) (fun C et H' s'=>?_) (fun et=>?_)
  ·simp only [ed,Rs.ag] at ou;split at ou
   ·rename_i l hl;rw [vX hl] at h1;obtain ⟨a,rfl,ha⟩:=h1.ofDic;have ha1:H1 a=some (dkO l):=aB _ _ ha;refine ⟨a,rfl,.inl ⟨_,.inl ha1⟩,?_⟩;refine eD.run R1 (fun kd ek u H2 s2 R2 hu2=>?_) (fun C et H' s'=>?_) (fun et=>?_)
    ·simp only [ek,Rs.ag] at ou;refine eD.run R2 (fun zd ez z H3 s3 R3 hz=>?_) (fun C et H' s'=>?_) (fun et=>?_)
     ·simp only [ez,Rs.ag] at ou;split at ou
      ·rename_i kk zz;have e1:=hu2.ofInt;have e2:=hz.ofInt;subst e1 e2;refine ⟨_,C3.k (k:=.inl kk) (s3 _ _ (s2 _ _ ha1)),?_⟩;rw [Bw];have:((lg l kk).map V.int).getD (.int zz)=.int ((lg l kk).getD zz):=by cases lg l kk <;> rfl
       rw [this];exact ou _ H3 (s1.trans (s2.trans s3)) bO
      ·exact ou.elim
     ·simp only [et,Rs.eO] at ou;exact ou H' (s1.trans (s2.trans s'))
     ·simp only [et,Rs.bH] at ou;exact ou
    ·simp only [et,Rs.eO] at ou;exact ou H' (s1.trans s')
    ·simp only [et,Rs.bH] at ou;exact ou
   ·exact ou.elim
  ·simp only [et,Rs.eO] at ou;exact ou H' s'
  ·simp only [et,Rs.bH] at ou;exact ou
def vR (i:Nat):Ds->Sr:=fun δ=>if i<δ.length then .nx (δ.set i (some (cK []))) else .no
theorem C4 (hN:X.N.Nodup) (hO:i∈O) (hi:X.N[i]?=some x) (hx:Loc X.env.scope x) (hs:swapsWith (.Dict [] [] pos') (some (.Name x apos)) pos.line X.env=pure false)
  (hf:X.fn x=true\/X.env.scope.names.lookup x=some .local):PSD X E O (.Assign [.Name x apos] (.Dict [] [] pos') pos) (vR i):=(qw hN hi hx wx hs hf).imp fun D σ H pz3=>by
 obtain ⟨H0,A0,A,δ,R,o⟩:=pz3;unfold vR at o;split at o
 ·rename_i hl;intro p hp;exact o (p::A) _ _ (R.setOwnO (o:=dkO []) hO hl hp (bL hp) aG rfl ⟨[],rfl,rfl⟩)
 ·exact o.elim
def oX (i:Nat) (gk gv:Ds->Rs PyData):Ds->Sr:=fun δ=>match δ[i]? with
 | some (some d)=>(match wj d with
  | some l=>ofR (gv δ) fun v=>ofR (gk δ) fun k=>(match k,v with
   | .int k,.int v=>if l.length<1000000 then .nx (δ.set i (some (cK (xA l k v)))) else .no
   | _,_=>.no)
  | none=>.no)
 | _=>.no
theorem D0 (hu:X.A.units+1<cLine) (h:PD X E value gv) (hk:PD X E k gk) (hO:i∈O) (hi:X.N[i]?=some x) (hv:Vis X.env.scope x)
  (hd:(x==("__debug__":Str))=false) (hcd:(x==("__classdict__":Str))=false) (hs:swapsWith value (some (.Subscript (.Name x pn) k pos')) pos.line X.env=pure false):PSD X E O (.Assign [.Subscript (.Name x pn) k pos'] value pos) (oX i gk gv) :=
 (Ey hu (kG hi hv hd hcd) hk h hs).imp fun D σ H pz3=>by
  obtain ⟨H0,A0,A,δ,R,ou⟩:=pz3;unfold oX at ou;split at ou
  ·rename_i d q;split at ou
   ·rename_i l hl;rw [vX hl] at q;obtain ⟨p,o',d',e1,hp,hpl,e2,hx⟩:=R.own i _ hO q;subst e2;have ho':o'=dkO l:=by
     unfold cK gX at hx;split at hx
     ·rename_i e;cases e
     ·rename_i e;injection e with e
      obtain ⟨m,e3,rfl⟩:=hx;rw [<-e] at e3;rw [oT e3];rfl
     ·exact hx.elim
    subst ho';refine eD.run R.full (fun vd ed v H1 s1 R1 hv1=>?_) (fun C et H' s'=>?_) (fun et=>?_)
    ·simp only [ed,av] at ou;refine ⟨_,e1,?_⟩;refine eD.run R1 (fun kd ek u H2 s2 R2 hu2=>?_) (fun C et H' s'=>?_) (fun et=>?_)
     ·simp only [ek,av] at ou;split at ou
      ·rename_i kk vv;split at ou
       ·rename_i hlen;have e3:=hu2.ofInt;have e4:=hv1.ofInt;subst e3 e4;have s12:=s1.trans s2;refine ⟨p,_,rfl,DZ.k (k:=.inl kk) (s12 _ _ hpl) (by rw [L3,sizeLine_eq];omega),?_⟩;rw [Fq];exact ou A _ _ ((R.step s12).putO (o:=dkO (xA l kk vv)) hO q e1 hp rfl ⟨_,rfl,rfl⟩)
       ·exact ou.elim
      ·exact ou.elim
     ·simp only [et,mW] at ou;exact ou H' (R.same.trans (s1.trans s'))
     ·simp only [et,mR] at ou;exact ou
    ·simp only [et,mW] at ou;exact ou H' (R.same.trans s')
    ·simp only [et,mR] at ou;exact ou
   ·exact ou.elim
  ·exact ou.elim
end
theorem cx.u1 {k:Nat} {A:Around} (r:cx k A):A.units+1<cLine:=by have:=r.un;omega
def GL (XN N:List Str) (p:Str) (cap:List Nat) (osc sc:Scope):Bool :=
 (sc.kind==.function)&&!sc.isCoroutine&&!sc.isGenerator&&decide N.Nodup&&decide (N.take 1=[p])&&(sc.names.lookup p==some .local)&&sc.names.all (fun x=>x.2 != .cell) &&
 sc.names.all (fun y=>y.2 != .free || osc.names.lookup y.1==some .cell)&&decide (N.length=1+cap.length) &&
 (List.range cap.length).all (fun i=>match N[1+i]?,cap[i]? with
  | some x,some m=>(XN[m]?==some x)&&(sc.names.lookup x==some .free)&&(osc.names.lookup x==some .cell)
  | _,_=>false)
theorem nL {α:Type} {x:Str} {k:α}:∀ {l:List (Str×α)},l.lookup x=some k->(x,k)∈l
 | [],h=>by cases h
 | (y,j)::r,h=>by
  rw [M5] at h;cases q:(x==y) with
  | true=>rw [q] at h;cases h;rw [eq_of_beq q];exact L6
  | false=>rw [q] at h;exact L4 _ (nL h)
theorem qe {XN:List Str} {osc:Scope} {fa:Addr} {A:Around} {E:XK}
  {E':XK} {a:Expr} {lpos p0:Pos} {Pt:Addr} {k:Nat} {p:Str}
  (hm:mg "min"=none) (hr:cx (k+2) (cZ CX P w K mg base XN qual osc fa cd A outer s H E).A) (ha:PD (cZ CX P w K mg base XN qual osc fa cd A outer s H E) E' a ga) (T:DD (cZ CX P w K mg base XN qual osc fa cd A outer s H E) c Pt)
  (hbody:∀ (q c':Addr) (s':Shared) (H':Hp),PD (sC (CXW P w) P w K mg base N ((cZ CX P w K mg base XN qual osc fa cd A outer s H E).env.qual++"<lambda>") scope q (.ref c') (m9 scope.names (cZ CX P w K mg base XN qual osc fa cd A outer s H E).env.cells []) (cZ CX P w K mg base XN qual osc fa cd A outer s H E).A.in1 (cZ CX P w K mg base XN qual osc fa cd A outer s H E).stack s' H' E0) E0 body gb)
  (hok:GL XN N p cap osc scope=true:=by decide +kernel)
  (hb:∀ (q:Str) (cl:List (Str×Addr)) (c':Addr) (pm ctv u:Value),bindArgs (PySem.W.kla_fn "<lambda>" q params body scope cl pm (.ref c') ctv) ⟨[u],[]⟩=pure ([p].zip [u]):=by intro _ _ _ _ _ _;rfl)
  (hg:Gl (cZ CX P w K mg base XN qual osc fa cd A outer s H E) "min":=by rfl) (he:starEach [a] (cZ CX P w K mg base XN qual osc fa cd A outer s H E).env=[(false,eval a (cZ CX P w K mg base XN qual osc fa cd A outer s H E).env)]:=by rfl) (hdef:defaultsOf params (cZ CX P w K mg base XN qual osc fa cd A outer s H E).env=([],[]):=by rfl) :
  PD (cZ CX P w K mg base XN qual osc fa cd A outer s H E) E' (.Call (.Name "min" p0) [a] [⟨some "key",.Lambda params body scope lpos,kp⟩] pos) (i5 cap ga gb):=by
 unfold GL at hok;simp only [L8,LU,decide_eq_true_eq,beq_iff_eq,bne_iff_ne,Bool.or_eq_true,NC] at hok;obtain ⟨⟨⟨⟨⟨⟨⟨⟨⟨o1,o2⟩,o3⟩,o4⟩,o5⟩,o6⟩,o7⟩,o8⟩,o9⟩,o10⟩:=hok;have hcell:∀ x,osc.names.lookup x=some .cell->∃ c,(cZ CX P w K mg base XN qual osc fa cd A outer s H E).env.cells.lookup x=some c:=fun x hx=>pE hx
 refine AK (cap:=cap) rfl hm hr ha T (jt fun y hy hf=>?_) ⟨o1,o2,o3,o4,o5,fun x hx=>by rw [LM.mp hx];exact o6,o7⟩ (fun x c h=>pC _ _ _ x c (fun _ _ z=>by cases z) h) (fun x hx=>?_) o9 (fun i m x h1 h2=>?_) (hb _ _) (fun q c' s' H'=>hbody q c' s' H') hg he hdef
 ·rcases o8 y hy with z | z
  ·exact absurd hf z
  ·exact hcell y.1 z
 ·have hmem:=nL hx;rcases o8 (x,.free) hmem with z | z
  ·exact absurd rfl z
  ·obtain ⟨c,hc⟩:=hcell x z;exact lq _ _ _ x c hmem hc
 ·have hlt:i<cap.length:=(M8.mp h2).1;have:=o10 i (MS.mpr hlt);rw [h1,h2] at this;simp only [L8,beq_iff_eq] at this;obtain ⟨⟨q1,q2⟩,q3⟩:=this;exact ⟨q1,q2,.inl q3,.inr (.inl q3)⟩
def E1 (K:PySem.W.Frag) (x:Str):Prop:=∃ f oc od fd sl c P o vs,PySem.W.nsIn K mainGlobals x=some (some (.ref f))/\K.lookup f=some ⟨oc,od,.func fd,sl⟩/\fd.code=.ref c/\K.lookup c=some o/\o.data=.fields vs/\vs[11]?=some (.ref P)/\PySem.W.codeHdIn K c P=true
section
theorem iC.ofL {k:Nat} {G:Ds->Sr} (F:Fun K x x st f fd) (S:cX N ps (aE st)) (b:Binds K fd ps []) (m:mg x=some (.ref f)) (hO:∀ i∈O,ps.length<=i)
  (hx:x∈lN) (hm:∀ g,PySem.W.nsIn K mainGlobals x=some (some (.ref g))->mg x=some (.ref g)) (hT:E1 K x) (hB:nM mg base) (hK:K.In base) (hq:∀ (L:Addr) (cdv:Value),(envOfC x (aE st) L f cdv).qual++"<lambda>"=x++".<locals>.<lambda>")
  (body:∀ (cdv:Value) (A:Around) (outer:List Env) (s:Shared) (H:Hp) (E:XK),cx k (A.deeper (envOfC x (aE st) s.heap.objs.size f cdv))->∀ c Pt,DD (cZ (CXW P w) P w K mg base N x (aE st) f cdv A outer s H E) c Pt->PBD (cZ (CXW P w) P w K mg base N x (aE st) f cdv A outer s H E) E O (cm st) G)
  (hg:∀ ds,ds.length=ps.length->gf ds≠.no->bc (G (ds.map some++List.replicate (N.length-ps.length) none))=gf ds):iC P w K mg base (k+1) x ps.length gf:=by
 obtain ⟨oc,od,kV,doc,pm,an,cdv,ct,osl,rfl,lk,hcd⟩:=F.ex;obtain ⟨f',oc',od',fd',sl',c,Pt,o,vs,t1,t2,t3,t4,t5,t6,t7⟩:=hT;have hf:f'=f:=by have:=hm f' t1;rw [m] at this;cases this;rfl
 subst hf;rw [lk] at t2;have hcc:cdv=.ref c:=by cases t2;exact t3
 subst hcc;obtain ⟨bm,ob,b1,b2,b3,b4,b5,b6,b7⟩:=hB;refine ⟨f',_,ps,Bz lk hcd S (fun vs H Q E h=>?_) (fun A outer s H vs' Q E hr h=>?_),m,F.kp,b⟩
 ·obtain ⟨A,ds,hA,hi,hl,o⟩:=h;rw [hi.length,hl]
 ·obtain ⟨A0,ds,hA,hi,hl,ou⟩:=h;refine ⟨_,body (.ref c) A outer s H E hr c Pt ⟨?_,rfl,PySem.W.codeHd_of_K hK t7,bm,ob,b1,b2,b3,b4,b5,b6,b7⟩,H,A0,[],_,b0.start hA hi hl hO,?_⟩
  ·exact ⟨x,hx,f',_,_,_,_,c,t1,lk,rfl,⟨o,vs,t4,t5,t6⟩,hq _ _⟩
  ·have hg':=hg ds hl (fun z=>by rw [z] at ou;exact ou);cases q:G (ds.map some++List.replicate (N.length-ps.length) none) with
   | rt d=>rw [q] at hg';rw [<-hg'] at ou;exact fun v H' s' hv=>ou v H' s' hv
   | nx δ=>rw [q] at hg';rw [<-hg'] at ou;exact fun A' σ H' R'=>ou .non H' R'.same is_none
   | rz C=>rw [q] at hg';rw [<-hg'] at ou;exact fun H' s'=>ou H' s'
   | bk δ=>rw [q] at hg';rw [<-hg'] at ou;exact ou.elim
   | ct δ=>rw [q] at hg';rw [<-hg'] at ou;exact ou.elim
   | no=>rw [q] at hg';rw [<-hg'] at ou;exact ou.elim
end
def fL (cond:Ds->Rs Bool) (elt:Ds->Rs PyData) (tgt:PyData->Option Ds) (δ δ2:Ds):List PyData->Rs (List PyData)
 | []=>.ok []
 | d::r=>match tgt d with
  | none=>.no
  | some own=>(cond (δ2++own)).calm.bind fun b=>if b=true then (elt (δ++own)).calm.bind fun x=>(fL cond elt tgt δ δ2 r).bind fun xs=>.ok (x::xs) else fL cond elt tgt δ δ2 r
def my (n0:Nat) (src:Ds->Rs (List PyData)) (cond:Ds->Rs Bool) (elt:Ds->Rs PyData) (tgt:PyData->Option Ds):Ds->Ds->Rs (List PyData):=fun δ δ2=>if δ.length=n0 then (src δ).bind fun ds=>if ds.length<=1000000 then fL cond elt tgt δ δ2 ds else .no else .no
theorem Et {E:XK} {g:TG} {tt:TT} (hT:TgD K n0 own.length tgt g) (htt:∀ σ H Q,cD K E0 cond σ H Q->tt σ H Q) {Q:VK} {A2:List Addr} {δ2:Ds} (R:dw K H A δ σ) (Rf:dw K H A2 δ2 σ) (hAA:∀ a∈A2,a∈A) (o:Gn K E A H (my n0 gi cond ge tgt δ δ2) Q) :
  tLC own.length (iD K E gi) g tt (eD K E0 ge) σ H Q:=by
 unfold my at o;by_cases hn0:δ.length=n0
 case neg=>rw [if_neg hn0] at o;exact o.elim
 rw [if_pos hn0] at o;have hσ:σ.length=n0:=by rw [<-R.len];exact hn0
 refine ⟨A,δ,R,?_⟩;cases q:gi δ with
 | no=>rw [q] at o;exact o
 | rz C=>rw [q] at o;exact o
 | ok ds =>
  rw [q] at o;have o:Gn K E A H (if ds.length<=1000000 then fL cond ge tgt δ δ2 ds else .no) Q:=o;by_cases hz:ds.length<=1000000
  case neg=>rw [if_neg hz] at o;exact o.elim
  rw [if_pos hz] at o;intro J H1 s1 hJ D hD;have R1:=R.same s1;have nD:D∉A:=R1.ls.new hD;cases qo:fL cond ge tgt δ δ2 ds with
  | rz C =>
   exfalso;have:∀ l,fL cond ge tgt δ δ2 l≠.rz C:=by
    intro l
    induction l with
    | nil=>intro z;cases z
    | cons d r ih =>
     intro z;unfold fL at z;split at z
     ·cases z
     ·rename_i own' _;cases c1:cond (δ2++own') with
      | ok b =>
       simp only [c1,Rs.dk,Rs.ag] at z;split at z
       ·cases c2:ge (δ++own') with
        | ok x =>
         simp only [c2,Rs.dk,Rs.ag] at z;cases c3:fL cond ge tgt δ δ2 r with
         | ok l=>simp only [c3,Rs.ag] at z;cases z
         | rz C'=>simp only [c3,Rs.eO] at z;cases z;exact ih c3
         | no=>simp only [c3,Rs.bH] at z;cases z
        | rz C'=>simp only [c2,Rs.calm,Rs.bH] at z;cases z
        | no=>simp only [c2,Rs.calm,Rs.bH] at z;cases z
       ·exact ih z
      | rz C'=>simp only [c1,Rs.calm,Rs.bH] at z;cases z
      | no=>simp only [c1,Rs.calm,Rs.bH] at z;cases z
   exact this ds qo
  | no=>rw [qo] at o;exact o.elim
  | ok out =>
   rw [qo] at o;have base:ax (del H1 A) (del (upd H1 D (.lst [])) (D::A)):=fun b o e=>by obtain ⟨z,e⟩:=bf e;have nb:b≠D:=aK e hD;rw [aP (by simp [nb,z]),aA nb];exact e
   refine ⟨fun i m ys H'=>m=ds.length-i/\i<=ds.length/\ax H1 H'/\H' D=some (.lst ys)/\ys.length<=i/\∃ dn rest,fL cond ge tgt δ δ2 (ds.drop i)=.ok rest/\out=dn++rest/\Iss K (del H' (D::A)) dn ys,
    ⟨ds.length,by simp,Mw _,bL hD,aG,LK _,[],out,qo,rfl,cO⟩,?_⟩
   rintro i m ys H' ⟨rfl,hi,sm,hl,hy,dn,rest,c1,c2,c3⟩
   refine ⟨hl,?_⟩;have sG:ax (del H1 A) H':=aB.trans sm;have hBn:∀ b∈D::A,(del H1 A) b=none:=fun b hb=>by
    rcases L7.mp hb with z | z
    ·rw [z,aP nD];exact hD
    ·exact gR z
   obtain ⟨jg,js,jy⟩:=hJ H' (D::A) sG (fun b hb=>by
    rcases L7.mp hb with z | z
    ·exact ⟨_,by rw [z];exact hl,rfl⟩
    ·exact (R1.ls.same sm) b z) hBn
   by_cases hlt:i<ds.length
   ·refine .inr ⟨jg i hlt,fun x H2 σ' hσ' y=>?_⟩;obtain ⟨s2,d,ed,hd⟩:=jy i x H2 hlt y;have edr:ds.drop i=d::ds.drop (i+1):=by
     rw [Nf hlt];have:ds[i]=d:=by have:=L1 hlt;rw [this] at ed;exact Option.some.inj ed
     rw [this]
    rw [edr] at c1;unfold fL at c1;cases et:tgt d with
    | none=>rw [et] at c1;cases c1
    | some ow =>
     rw [et] at c1;have l2:H2 D=some (.lst ys):=s2 _ _ hl;have LsD:Ls H2 (D::A):=fun b hb=>by
      rcases L7.mp hb with z | z
      ·exact ⟨_,by rw [z];exact l2,rfl⟩
      ·exact (R1.ls.same (sm.trans s2)) b z
     obtain ⟨hol,hgo⟩:=hT d x σ σ' H2 (D::A) (fun σ2 H2=>tt σ2 H2 fun b H3 =>
      if b=true then eD K E0 ge σ2 H3 fun v H4=>H4 D=some (.lst ys)/\ys.length<sizeLine/\(∃ σ'',σ2=σ++σ''/\σ''.length=own.length)/\∃ m',m' < ds.length-i/\_
      else (∃ σ'',σ2=σ++σ''/\σ''.length=own.length)/\∃ m',m' < ds.length-i/\_) ow hσ hσ' LsD hd et
     refine hgo fun vs hvs hown=>?_
     have sAll:ax (del H1 A) (del H2 (D::A)):=lV (sG.trans s2) hBn;have RE:dw K H2 (D::A) (δ++ow) (σ++vs):=by
      refine ⟨LsD,by rw [LL,LL,R.len,hvs,hol],fun k e ek=>?_⟩;by_cases hk:k<δ.length
      ·rw [M3 hk] at ek;obtain ⟨u,e1,hu⟩:=R1.get k e ek;exact ⟨u,by rw [M3 (by rw [<-R.len];exact hk)];exact e1,hu.same sAll⟩
      ·rw [M6 (by omega)] at ek;obtain ⟨u,e1,hu⟩:=hown _ e ek;exact ⟨u,by rw [M6 (by rw [<-R.len];omega),<-R.len];exact e1,hu⟩
     have RE2:dw K H2 (D::A2) (δ2++ow) (σ++vs):=by
      have hsub:ax (del H2 (D::A)) (del H2 (D::A2)):=fun b u eb=>by
       obtain ⟨q1,q2⟩:=bf eb;rw [aP (fun z=>q1 (by
        rcases L7.mp z with z | z
        ·rw [z];exact L6
        ·exact L4 _ (hAA b z)))];exact q2
      have Rf1:=Rf.same (s1.trans (sm.trans s2));have nD2:D∉A2:=fun z=>nD (hAA D z)
      have hD0:H D=none:=s1.free hD;refine ⟨fun b hb=>?_,by rw [LL,LL,Rf.len,hvs,hol],fun k e ek=>?_⟩
      ·rcases L7.mp hb with z | z
       ·exact LsD b (by rw [z];exact L6)
       ·exact LsD b (L4 _ (hAA b z))
      ·by_cases hk:k<δ2.length
       ·rw [M3 hk] at ek;obtain ⟨u,e1,hu⟩:=Rf.get k e ek;refine ⟨u,by rw [M3 (by rw [<-Rf.len];exact hk)];exact e1,hu.same fun b u eb=>?_⟩;obtain ⟨q1,q2⟩:=bf eb;have nb:b≠D:=fun z=>by rw [z,hD0] at q2;cases q2
        rw [aP (by simp [nb,q1])];exact (s1.trans (sm.trans s2)) _ _ q2
       ·rw [M6 (by omega)] at ek;obtain ⟨u,e1,hu⟩:=hown _ e ek;exact ⟨u,by rw [M6 (by rw [<-Rf.len];omega),<-Rf.len];exact e1,hu.same hsub⟩
     have bad:∀ r:Rs Bool,r=.rz 0->r.calm=.no:=fun r e=>by rw [e];rfl
     refine htt _ _ _ (cD.run RE2 (fun b eb H3 s3 R3f=>?_) (fun C eb=>?_) (fun eb=>?_))
     ·simp only [eb,Rs.dk,Rs.ag] at c1;cases b with
      | true =>
       simp only [if_true] at c1;refine eD.run (RE.same s3) (fun xd ex v H4 s4 R4 hv=>?_) (fun C ex=>?_) (fun ex=>?_)
       ·simp only [ex,Rs.dk,Rs.ag] at c1;cases cr:fL cond ge tgt δ δ2 (ds.drop (i+1)) with
        | ok rs =>
         simp only [cr,Rs.ag] at c1;cases c1;have l4:H4 D=some (.lst ys):=s4 _ _ (s3 _ _ l2);have dU:del (upd H4 D (.lst (ys++[v]))) (D::A)=del H4 (D::A):=ke (L6);refine ⟨l4,by rw [sizeLine_eq];omega,⟨vs,rfl,hvs⟩,ds.length-(i+1),by omega,rfl,hlt,?_,aG,by simp;omega,dn++[xd],rs,cr,by rw [c2];simp,?_⟩
         ·exact ax.put (((sm.trans s2).trans s3).trans s4) hD
         ·rw [dU];exact (c3.same (ax.del (s2.trans (s3.trans s4)))).append (ja hv)
        | rz C=>simp only [cr,Rs.eO] at c1;cases c1
        | no=>simp only [cr,Rs.bH] at c1;cases c1
       ·simp only [ex,Rs.calm,Rs.bH] at c1;cases c1
       ·simp only [ex,Rs.calm,Rs.bH] at c1;cases c1
      | false =>simp only [M0,if_false] at c1;exact ⟨⟨vs,rfl,hvs⟩,ds.length-(i+1),by omega,rfl,hlt,(sm.trans s2).trans s3,s3 _ _ l2,by omega,dn,rest,c1,c2,c3.same (ax.del (s2.trans s3))⟩
     ·simp only [eb,Rs.calm,Rs.bH] at c1;cases c1
     ·simp only [eb,Rs.calm,Rs.bH] at c1;cases c1
   ·have e:i=ds.length:=by omega
    subst e;rw [NI] at c1;cases c1;rw [Mn] at c2;subst c2;exact .inl ⟨js,o D ys H' (s1.free hD) (s1.trans sm) hl c3⟩
def ql (O:List Nat) (i n0:Nat) (gi:Ds->Rs (List PyData)) (cond:Ds->Rs Bool) (ge:Ds->Rs PyData) (tgt:PyData->Option Ds):Ds->Sr:=fun δ=>if i<δ.length then ofR (my n0 gi cond ge tgt (mask O δ) δ) fun ds=>.nx (δ.set i (some (.list ds))) else .no
section
variable {E:XK}
theorem Bq {g:TG} (hc:X.calm=true) (hN:X.N.Nodup) (hi:PID X E tg iter gi)
  (hT:TgD X.K n0 (fR tg).length tgt g) (hg:∀ C s2 H2 fp,PG (bk X tg scope C s2 H2 fp) tg g) (ht:∀ C s2 H2 fp,PIf (bk X tg scope C s2 H2 fp) ifs cond) (he:∀ C s2 H2 fp,PD (bk X tg scope C s2 H2 fp) E0 elt ge) (hO:i∉O)
  (hxi:X.N[i]?=some x) (hx:Loc X.env.scope x) (hsw:swapsWith (.ListComp elt [⟨tg,iter,ifs,0⟩] scope pos) (some (.Name x pos')) spos.line X.env=pure true)
  (hB:Jf X tg scope=true) (hs:∀ x,foldedSetIterable iter X.env x=pure x) (hf:X.fn x=true\/X.env.scope.names.lookup x=some .local) :
  PSD X E O (.Assign [.Name x pos'] (.ListComp elt [⟨tg,iter,ifs,0⟩] scope pos) spos) (ql O i n0 gi cond ge tgt) :=
 PS.imp (oZ (own:=fR tg) (te:=eD X.K E0 ge) hc hN hxi hx hsw hi hg (fun C s2 H2 fp=>(ht C s2 H2 fp).pts) (fun C s2 H2 fp=>he C s2 H2 fp) hB hs hf) fun D σ H pz3=>by
  obtain ⟨H0,A0,A,δ,R,o⟩:=pz3;unfold ql at o;split at o
  ·rename_i hl;have R1:=R.part;refine Et hT (PIf.tt (ht 0 X.s₀ X.H₀ [])) R1 R.full (fun a ha=>LJ _ ha) ?_;cases q:my n0 gi cond ge tgt (mask O δ) δ with
   | ok ds =>rw [q] at o;intro p xs H' hn s hp hi';exact o A _ H' ((R.step s).set hO hl (jV (by rw [aP (R1.ls.new hn)];exact hp) (hi'.same mB)))
   | rz C=>rw [q] at o;exact fun H' s'=>o H' (R.same.trans s')
   | no=>rw [q] at o;exact o
  ·exact o.elim
end
theorem iR.of {k:Nat} {G:Ds->Sr} (F:Fun K m qual st f fd) (S:cX N ps (aE st)) (b:Binds K fd ps []) (cl:Cls K C) (hm:Meth K C m f) (hO:∀ i∈O,ps.length<=i)
  (body:∀ (cdv:Value) (A:Around) (outer:List Env) (s:Shared) (H:Hp) (E:XK),cx k (A.deeper (envOfC qual (aE st) s.heap.objs.size f cdv))->PBD (cZ (CXW P w) P w K mg base N qual (aE st) f cdv A outer s H E) E O (cm st) G)
  (hg:∀ ds,ds.length=ps.length->gf ds≠.no->bc (G (ds.map some++List.replicate (N.length-ps.length) none))=gf ds):iR P w K mg base (k+1) C m ps.length gf :=
 ⟨f,fd,ps,cl,hm,RS.yu F S hO body hg,b⟩
def qQ (xs ys:List PyData):List PyData:=List.zipWith (fun a b=>PyData.tuple [a,b]) xs ys
theorem CH {G:Hp} {xs:List V} {es:List PyData} (h1:Iss K G ds xs) (h2:Iss K G es ys) (hl:ys.length=xs.length) (hp:∀ H1,ax G H1->SqT K H1 a xs) (hq:∀ H1,ax G H1->SqL K H1 b ys):A8 K (Itz K a b xs.length) (qQ ds es) G:=fun H1 B s lB hB=>by
 have l1:=h1.length;have l2:=h2.length;have hz:(qQ ds es).length=xs.length:=by unfold qQ;rw [List.length_zipWith];omega
 rw [hz];refine ⟨fun i hi=>⟨hi,xs,ys,hp H1 s,hq H1 s,rfl,hl⟩,⟨rfl,xs,ys,hp H1 s,hq H1 s,rfl,hl⟩,fun i x H2 hi y=>?_⟩;obtain ⟨t,x0,y0,rfl,ht,rfl,hx,hy⟩:=y;obtain ⟨d,e,hd⟩:=h1.get (hx xs (hp H1 s));obtain ⟨d',e',hd'⟩:=h2.get (hy ys (hq H1 s));refine ⟨bL ht,.tuple [d,d'],by unfold qQ;rw [List.getElem?_zipWith,e,e'],?_⟩;have nb:t∉B:=lB.new ht;have sm:ax G (del (upd H1 t (.tup [x0,y0])) B):=fun b o q=>by have q1:=s b o q;have nt:b≠t:=aK q1 ht;rw [aP (fun z=>by rw [hB b z] at q;cases q),aA nt];exact q1
 exact iy (by rw [aP nb];exact aG) (cG (hd.same sm) (ja (hd'.same sm)))
section
variable {E:XK} {a b:Expr}
def GF:List PyData->Rs (List PyData)
 | [.tuple xs,.list ys]=>if ys.length=xs.length then .ok (qQ xs ys) else .no
 | _=>.no
def FD (g:Ds->Rs (List PyData)):Ds->Rs (List PyData):=fun δ=>(g δ).bind GF
theorem FZ (hm:X.mg "zip"=none) (ha:PAD X E [a,b] gs) (hg:Gl X "zip") (hs:starEach [a,b] X.env=[(false,eval a X.env),(false,eval b X.env)]) (hs2:starEach [b] X.env=[(false,eval b X.env)]) :
  PID X E (.Tuple elts x1 tp) (.Call (.Name "zip" p) [a,b] [] pos) (FD gs):=(Ih hg hm ha.1 hs hs2).imp fun σ H R ⟨A,δ,Rp,o⟩=>xR Rp o fun ds vs H1 e s1 R1 h1 o=>by
 unfold GF at o;split at o
 ·split at o
  ·rename_i hl;obtain ⟨v,u,rfl,h,h'⟩:=FW h1;obtain ⟨p,xs,rfl,hp,hx⟩:=h.ofTup;obtain ⟨q,ys,rfl,hq,hy⟩:=h'.ofLst;have l1:=hx.length;have l2:=hy.length;exact ⟨p,q,xs,ys,rfl,SqT.of (aB _ _ hp),SqL.of (aB _ _ hq),by omega,o _ H1 (ax.refl _) (CH hx hy (by omega) (fun H2 s2=>SqT.of (s2 _ _ hp)) fun H2 s2=>SqL.of (s2 _ _ hq))⟩
  ·exact o.elim
 ·exact o.elim
end
end L2
namespace RS
open PySem L2
abbrev JN:List Str:=["number", "parts", "rank", "row"]
abbrev JT:List (Str×Int):=[("job",0),("part",0),("spent",0)]
def fo (cs:Cs):Ds->Sr :=
 (az (aL [] 2 (g2 dIx (af 0) (gC (.int 0))))
  (az (aL [] 3 (g2 dIx (af 0) (gC (.int 2))))
  (az (aL [] 4 (g2 gj (gC (.int 0)) (af 3)))
  (az (fz [] (bG (af 1)) (bw 5) (az (aL [] 6 (gF iO (ae (af 4) (ae (g2 gj (af 5) (af 3)) ah))))
  (az (sIf (gT (g2 dGt (af 6) (af 5))) (bj (gC (.bool false))) aY)
  (aL [] 4 (g2 ba (af 6) (af 2))))))
  (bj (gC (.bool true)))))))
def k8 (cs:Cs) (aO b9:Gf):Ds->Sr :=
 (az (sIf (cOr (gG (gT (g1 (kM "list") (af 1)))) (gT (g2 dGt (gF b8 (ae (af 1) ah)) (gC (.int 60))))) (bj (gC (.bool false))) aY)
  (bj (AZ (gF nV (ae (gL (a8 2 (bG (af 1)) bA (aq aO (ae (af 2) (ae (gC (.int 0)) (ae (gC (.int 9999)) ah)))) aI)) ah)) (aq b9 (ae (af 0) (ae (af 1) ah))))))
def dO (cs:Cs) (cY br:Gf):Ds->Sr :=
 (az (jF (aq br (ae (af 0) ah)))
  (az (sIf (cOr (gG (gT (g1 (kM "list") (af 1)))) (gT (g2 dNe (gF b8 (ae (af 1) ah)) (gF b8 (ae (af 0) ah))))) (jd cs.NoComings (ae (gC (.str "comings are a list of one list for each errand")) ah)) aY)
  (az (sIf (gG (gT (gF nV (ae (gL (a8 2 (FD (ae (af 0) (ae (af 1) ah))) bA (aq cY (ae (af 2) (ae (af 3) ah))) jX)) ah)))) (jd cs.NoComings (ae (gC (.str "an errand can not come so")) ah)) aY)
  (bj (gL (a8 2 (bG (af 1)) bA (gF uZ (ae (af 2) ah)) aI))))))
def dD (cs:Cs):Ds->Sr :=
 (bj (g2 dEq (g1 (bB cs.Jobs "job") (af 0)) (gF b8 (ae (g1 (bB cs.Jobs "row") (af 0)) ah))))
def eJ (cs:Cs):Ds->Sr :=
 (bj (gIf (gT (g2 dEq (g1 (bB cs.Jobs "spent") (af 0)) (gC (.int 0)))) (g2 dIx (g2 dIx (g1 (bB cs.Jobs "parts") (af 0)) (g1 (bB cs.Jobs "part") (af 0))) (gC (.int 1))) (gC .none)))
def fT (cs:Cs):Ds->Sr :=
 (bj (gIf (gT (g2 dGt (g1 (bB cs.Jobs "spent") (af 0)) (gC (.int 0)))) (g2 dIx (g2 dIx (g1 (bB cs.Jobs "parts") (af 0)) (g1 (bB cs.Jobs "part") (af 0))) (gC (.int 1))) (gC .none)))
def jN (cs:Cs) (aT:Gf):Ds->Sr :=
 (az (sIf (gT (g1 mK (af 1))) (bj (gC .none)) aY)
  (az (fz [] (bG (af 0)) (bw 2) (sIf (gT (g2 dEq (bx cs.Jobs "held" aT (af 2) ah) (af 1))) (bj (af 2)) aY))
  (bj (gC .none))))
def gD (cs:Cs) (aM bN:Gf):Ds->Sr :=
 (az (vR 1)
  (az (fz [1] (bG (af 0)) (bw 2) (az (aL [1] 3 (aq bN (ae (af 0) (ae (bx cs.Jobs "wanted" aM (af 2) ah) ah))))
  (sIf (gT (g1 hZ (af 3))) (oX 1 (g1 (bB cs.Jobs "number") (af 3)) (gF kC (ae (g1 (bB cs.Jobs "rank") (af 2)) (ae (lP (af 1) (g1 (bB cs.Jobs "number") (af 3)) (g1 (bB cs.Jobs "rank") (af 3))) ah)))) aY)))
  (bj (af 1))))
def cg (cs:Cs) (aT:Gf):Ds->Sr :=
 (az (aL [] 2 (bx cs.Jobs "held" aT (af 0) ah))
  (az (sIf (gT (g1 mK (af 2))) (bj (fD (ae (g1 (bB cs.Jobs "rank") (af 0)) (ae (gC (.int 1)) ah)))) aY)
  (bj (fD (ae (gF kC (ae (g1 (bB cs.Jobs "rank") (af 0)) (ae (g2 dIx (af 1) (af 2)) ah))) (ae (gC (.int 0)) ah))))))
def dE (cs:Cs):Ds->Sr :=
 (bj (AZ (g2 dLt (g1 (bB cs.Jobs "job") (af 0)) (gF b8 (ae (g1 (bB cs.Jobs "row") (af 0)) ah))) (g2 dLe (g2 dIx (g1 (bB cs.Jobs "row") (af 0)) (g1 (bB cs.Jobs "job") (af 0))) (af 1))))
def yA (cs:Cs) (bu eC aW br:Gf):Ds->Sr :=
 (az (jF (aq br (ae (af 0) ah)))
  (az (jF (aq aW (ae (af 0) (ae (af 1) ah))))
  (bj (aq eC (ae (af 0) (ae (af 1) (ae (aq bu (ae (af 0) (ae (af 2) ah))) (ae (af 3) ah))))))))
def c9 (cs:Cs) (aj:Gf):Ds->Sr :=
 (az (aL [6] 4 (aq aj (ae (af 0) (ae (af 1) (ae (g2 Dk (gC (.int 10)) (gC (.int 9))) ah)))))
  (az (aL [6] 5 (g2 gj (g2 eK (af 4) (g2 ba (g2 dIx (af 2) (gC (.int 0))) (gC (.int 2)))) (g2 dIx (af 2) (gC (.int 2)))))
  (az (eU [6] 6 ah)
  (az (aL [6] 7 (gC (.int 0)))
  (az (fun δ=>bU (AG (gT (g2 dLt (g2 ba (af 5) (g2 dIx (af 2) (gC (.int 2)))) (af 3))) (gT (g2 dLt (gF b8 (ae (af 6) ah)) (gC (.int 60))))) (az (aL [6] 8 (g2 eK (g2 bY (g2 ba (g2 ba (af 4) (g2 bY (g2 bY (gC (.int 104729)) (af 7)) (af 7))) (g2 bY (gC (.int 7919)) (af 7))) (gC (.int 48271))) (gC (.int 2147483647))))
  (az (aL [6] 9 (gF iO (ae (gC (.int 0)) (ae (g2 ba (af 5) (g2 eK (g2 iJ (af 8) (gC (.int 7))) (g2 ba (g2 dIx (af 2) (gC (.int 2))) (gC (.int 1))))) ah))))
  (az (sIf (gT (g2 dNe (af 6) (qB ah))) (oJ 9 (gF iO (ae (af 9) (ae (g2 ba (g2 dIx (af 6) (g1 mP (gC (.int 1)))) (gC (.int 1))) ah)))) aY)
  (az (gK [6] 6 (af 9))
  (az (aL [6] 5 (g2 ba (af 5) (g2 dIx (af 2) (gC (.int 0)))))
  (az (sIf (gT (g2 dEq (g2 eK (g2 iJ (af 8) (gC (.int 61))) (gC (.int 3))) (gC (.int 0)))) (aL [6] 5 (g2 ba (af 5) (g2 eK (g2 iJ (af 8) (gC (.int 997))) (g2 dIx (af 2) (gC (.int 0)))))) aY)
  (aL [6] 7 (g2 ba (af 7) (gC (.int 1)))))))))) 1000000 δ)
  (bj (af 6)))))))
def eG (cs:Cs) (bq:Gf):Ds->Sr :=
 (bj (gL (a8 4 (fX (ae (gF b8 (ae (af 2) ah)) ah)) bA (aq bq (ae (af 0) (ae (g2 ba (af 1) (af 4)) (ae (g2 dIx (af 2) (af 4)) (ae (af 3) ah))))) aI)))
def iZ (cs:Cs) (aR aV cN aQ:Gf) (gm_Jobs_go_on:List (Str×PyData)->Option (List (Str×PyData))) (as:List Addr):Ds->Sr :=
 (az (eU [6] 6 ah)
  (az (fun δ=>bU (gG (gT (gF nV (ae (gL (a8 9 (bG (af 5)) bA (bx cs.Jobs "are_done" aV (af 9) ah) aI)) ah)))) (az (ql [6] 7 9 (bG (af 5)) (gT (bx cs.Jobs "is_there" aQ (af 9) (ae (gF b8 (ae (af 6) ah)) ah))) (af 9) aI)
  (sIf (gT (g2 dEq (gF b8 (ae (af 7) ah)) (gC (.int 0)))) (gK [6] 6 (gC .none)) (az (aL [6] 8 (aq cN (ae (af 7) (ae (af 4) (ae (af 3) ah)))))
  (az (gK [6] 6 (fD (ae (g1 (bB cs.Jobs "number") (af 8)) (ae (g1 (bB cs.Jobs "job") (af 8)) ah))))
  (kR as cs.Jobs "go_on" 8 gm_Jobs_go_on))))) 1000000 δ)
  (bj (af 6))))
def gE (cs:Cs) (as:List Addr):Ds->Sr :=
 (az (eP as cs.Jobs 0 "spent" (gC (.int 1)))
  (az (sIf (gT (g2 dEq (g1 (bB cs.Jobs "spent") (af 0)) (g2 dIx (g2 dIx (g1 (bB cs.Jobs "parts") (af 0)) (g1 (bB cs.Jobs "part") (af 0))) (gC (.int 0))))) (az (lT as cs.Jobs 0 "spent" (gC (.int 0)))
  (eP as cs.Jobs 0 "part" (gC (.int 1)))) aY)
  (sIf (gT (g2 dEq (g1 (bB cs.Jobs "part") (af 0)) (gF b8 (ae (g1 (bB cs.Jobs "parts") (af 0)) ah)))) (az (lT as cs.Jobs 0 "part" (gC (.int 0)))
  (eP as cs.Jobs 0 "job" (gC (.int 1)))) aY)))
def jx (cs:Cs) (cE aM bN bZ:Gf):Ds->Sr :=
 (az (sIf (gT (g2 dEq (af 2) (gC (.str "high")))) (bj (i5 [1] (af 0) (aq bZ (ae (af 0) (ae (af 1) ah))))) aY)
  (az (aL [] 3 (gL (a8 5 (bG (af 0)) (gT (g1 mK (aq bN (ae (af 0) (ae (bx cs.Jobs "wanted" aM (af 5) ah) ah))))) (af 5) aI)))
  (az (aL [] 4 (gIf (gT (g2 dEq (af 2) (gC (.str "asked")))) (aq cE (ae (af 0) ah)) (gC (cK []))))
  (bj (i5 [4] (af 3) (lP (af 1) (g1 (bB cs.Jobs "number") (af 0)) (g1 (bB cs.Jobs "rank") (af 0))))))))
end RS
set_option maxHeartbeats 1000000
namespace RS
open PySem L2
def hvM (every late:Int):Int->List Int->Bool
 | _,[]=>true
 | m,c::r=>if c<(if c-late>m then c-late else m) then false else hvM every late ((if c-late>m then c-late else m)+every) r
def hvE (e:Er) (ns:List Int):Bool:=hvM e.every e.late (0-e.late) ns
def b9:Gf
 | [d,.list xs]=>if t9 d then (match fG xs with | some ns=>.ok (.bool (hvE (deE d) ns)) | none=>.no) else .no
 | _=>.no
theorem g6 (h:e.Sh):b9 [e.d,.list (ns.map PyData.int)]=.ok (.bool (hvE e ns)):=by unfold b9;simp only [lE h,if_true,eX,vz]
def hvB:Ds->Sr:=(az (aL [] 6 (gF iO (ae (af 4) (ae (g2 gj (af 5) (af 3)) ah))))
 (az (sIf (gT (g2 dGt (af 6) (af 5))) (bj (gC (.bool false))) aY)
 (aL [] 4 (g2 ba (af 6) (af 2)))))
theorem yS (E L:PyData) (every late:Int):∀ (ns:List Int) (m:Int) (x5 x6:Option PyData),
   (hvM every late m ns=true/\∃ δ,forL (bw 5) hvB (ns.map PyData.int) [some E,some L,some (.int every),some (.int late),some (.int m),x5,x6]=.nx δ)
  \/(hvM every late m ns=false/\forL (bw 5) hvB (ns.map PyData.int) [some E,some L,some (.int every),some (.int late),some (.int m),x5,x6]=.rt (.bool false))
 | [],m,x5,x6=>.inl ⟨rfl,_,rfl⟩
 | c::r,m,x5,x6=>by
   have h1:bw 5 (.int c) [some E,some L,some (.int every),some (.int late),some (.int m),x5,x6]=some [some E,some L,some (.int every),some (.int late),some (.int m),some (.int c),x6]:=rfl;rw [L5];unfold forL;rw [h1];unfold hvM;by_cases hc:c<(if c-late>m then c-late else m)
   ·have hb:hvB [some E,some L,some (.int every),some (.int late),some (.int m),some (.int c),x6]=.rt (.bool false):=by simp [hvB,hc]
    refine .inr ⟨if_pos hc,?_⟩;simp only [hb]
   ·have hb:hvB [some E,some L,some (.int every),some (.int late),some (.int m),some (.int c),x6]=.nx [some E,some L,some (.int every),some (.int late),some (.int ((if c-late>m then c-late else m)+every)),some (.int c),some (.int (if c-late>m then c-late else m))]:=by simp [hvB,hc]
    rw [if_neg hc];simp only [hb];exact yS E L every late r _ _ _
theorem CC {f:PyData->List PyData->Rs PyData} (h:(match ds with | [x0,.list x1]=>f x0 x1 | _=>.no)≠.no):∃ x0 x1,ds=[x0,.list x1]/\f x0 x1≠.no:=by
 rcases ds with _ | ⟨x0,_ | ⟨x1,_ | ⟨y,ys⟩⟩⟩
 ·exact absurd rfl h
 ·exact absurd rfl h
 ·skip
  cases x1 with
  | list x1 =>exact ⟨_,_,rfl,h⟩
  | _=>exact absurd rfl h
 ·first | exact absurd rfl h | (cases x1 <;> exact absurd rfl h)
theorem pw (cs:Cs):LLq (fo cs) 2 5 b9:=by
 intro ds hl hne;obtain ⟨d,xs,ez,hz⟩:=CC hne;clear hne;subst ez;have hne:=hz;clear hz
 ·skip
  split at hne
  ·rename_i hd;split at hne
   ·rename_i ns hx;have hx':=dW hx;subst hx';obtain ⟨e1,sh⟩:=sE hd;rw [<-e1,g6 sh];generalize deE d=e at *;show bc (fo cs [some e.d,some (.list (ns.map PyData.int)),none,none,none,none,none])=_;unfold fo;have a0:dIx e.d (.int 0)=some (.int e.every):=rfl;have a2:dIx e.d (.int 2)=some (.int e.late):=rfl;simp only [aN,ik,bK,ak,ar,cF,Rs.ag,a0,a2,Rs.ai,av,nv];have hf:=yS e.d (.list (ns.map PyData.int)) e.every e.late ns (0-e.late) none none;have hs:fz [] (bG (af 1)) (bw 5) hvB [some e.d,some (.list (ns.map PyData.int)),some (.int e.every),some (.int e.late),some (.int (0-e.late)),none,none]=forL (bw 5) hvB (ns.map PyData.int) [some e.d,some (.list (ns.map PyData.int)),some (.int e.every),some (.int e.late),some (.int (0-e.late)),none,none]:=rfl;show bc (match fz [] (bG (af 1)) (bw 5) hvB [some e.d,some (.list (ns.map PyData.int)),some (.int e.every),some (.int e.late),some (.int (0-e.late)),none,none] with | .nx δ'=>bj (gC (.bool true)) δ' | r=>r)=_;rw [hs];rcases hf with ⟨h1,δ,h2⟩ | ⟨h1,h2⟩
    ·rw [h2];show Rs.ok _=_;unfold hvE;rw [h1]
    ·rw [h2];show Rs.ok _=_;unfold hvE;rw [h1]
   ·exact absurd rfl hne
  ·exact absurd rfl hne
structure pe (ns:List Int):Prop where
 few:ns.length<=60
 lo:∀ c∈ns,0<=c
 hi:∀ c∈ns,c<=9999
def rm (ns:List Int):Bool:=decide (ns.length<=60)&&ns.all fun c=>decide (0<=c)&&decide (c<=9999)
theorem rD:rm ns=true↔pe ns:=by
 unfold rm;rw [L8,decide_eq_true_eq,LU];constructor
 ·rintro ⟨h1,h2⟩
  refine ⟨h1,fun c hc=>?_,fun c hc=>?_⟩
  ·have:=h2 c hc;rw [L8,decide_eq_true_eq,decide_eq_true_eq] at this;exact this.1
  ·have:=h2 c hc;rw [L8,decide_eq_true_eq,decide_eq_true_eq] at this;exact this.2
 ·rintro ⟨h1,h2,h3⟩
  refine ⟨h1,fun c hc=>?_⟩;rw [L8,decide_eq_true_eq,decide_eq_true_eq];exact ⟨h2 c hc,h3 c hc⟩
def cY:Gf
 | [d,.list xs]=>if t9 d then (match fG xs with | some ns=>if rm ns then .ok (.bool (hvE (deE d) ns)) else .no | none=>.no) else .no
 | _=>.no
theorem lG (h:e.Sh) (hr:pe ns):cY [e.d,.list (ns.map PyData.int)]=.ok (.bool (hvE e ns)):=by unfold cY;simp only [lE h,if_true,eX,vz,rD.mpr hr]
theorem jR (ns:List Int):aH (.list (ns.map PyData.int))=true:=by
 induction ns with
 | nil=>rfl
 | cons a r ih =>
  have:aH (.list (PyData.int a::r.map PyData.int))=aH (.list (r.map PyData.int)):=by simp [aH,dm]
  rw [L5,this];exact ih
theorem DW (cs:Cs):LLq (k8 cs aO b9) 2 0 cY:=by
 intro ds hl hne;obtain ⟨d,xs,ez,hz⟩:=CC hne;clear hne;subst ez;have hne:=hz;clear hz
 ·skip
  split at hne
  ·rename_i hd;split at hne
   ·rename_i ns hx;split at hne
    ·rename_i hr;have hx':=dW hx;subst hx';obtain ⟨e1,sh⟩:=sE hd;have R:=rD.mp hr;rw [<-e1,lG sh R];generalize deE d=e at *;show bc (k8 cs aO b9 [some e.d,some (.list (ns.map PyData.int))])=_;have hI:kM "list" (.list (ns.map PyData.int))=some (.bool true):=by unfold kM;rw [if_pos (jR ns)];rfl
     have hc:a8 2 (bG (af 1)) bA (aq aO (ae (af 2) (ae (gC (.int 0)) (ae (gC (.int 9999)) ah)))) aI [some e.d,some (.list (ns.map PyData.int))]=.ok ((ns.map PyData.int).map fun d=>.bool (isWhole d 0 9999)) :=
      cu rfl rfl (by have:=R.few;rw [L3];omega) fun d hd'=>by obtain ⟨c,hc,rfl⟩:=L9.mp hd';simp only [bh,ay,aF,Mc,Ma,ak,ar,cF,Rs.ag];exact wd rfl
     have hf:=iH (fun d=>isWhole d 0 9999) (ns.map PyData.int);have ha:(ns.map PyData.int).all (fun d=>isWhole d 0 9999)=true:=by rw [LU];intro d hd';obtain ⟨c,hc,rfl⟩:=L9.mp hd';have h1:=R.lo c hc;have h2:=R.hi c hc;simp [isWhole,h1,h2]
     rw [ha] at hf;have hn:¬ ((60:Int)<((ns.map PyData.int).length:Int)):=by have:=R.few;rw [L3];omega
     unfold k8;simp only [aN,cJ,yY,tM,dH,f9,bK,fH,ay,aF,ak,ar,cF,Rs.ag,hI,Rs.ai,aX,jI,EN,Nn,M0,if_false,decide_eq_false hn,av,eM,bW,yi,nQ,hc,hf,bh,g6 sh,if_true,aU]
    ·exact absurd rfl hne
   ·exact absurd rfl hne
  ·exact absurd rfl hne
def df (r:List Int):PyData:=.list (r.map PyData.int)
def cmD (rows:List (List Int)):PyData:=.list (rows.map df)
inductive Cms:List Er->List (List Int)->Prop
 | nil:Cms [] []
 | cons {e:Er} {r:List Int} {es:List Er} {rows:List (List Int)}:pe r->hvE e r=true->Cms es rows->Cms (e::es) (r::rows)
theorem Cms.len (h:Cms es rows):rows.length=es.length:=by
 induction h with
 | nil=>rfl
 | cons _ _ _ ih=>simp [ih]
theorem Cms.rm (h:Cms es rows):∀ r∈rows,pe r:=by
 induction h with
 | nil=>intro r hr;cases hr
 | cons hr _ _ ih =>
  intro r' h';rcases L7.mp h' with rfl | h'
  ·exact hr
  ·exact ih r' h'
structure yd (es:List Er):Prop where
 l1:1<=es.length
 l6:es.length<=6
 ok:∀ e∈es,e.Ok
open Classical in
def bu (cs:Cs):Gf:=fun ds=>if ∃ es rows,yd es/\Cms es rows/\ds=[aw es,cmD rows] then .ok (ds.getD 1 .none) else .no
theorem fE (h:yd es) (c:Cms es rows):bu cs [aw es,cmD rows]=.ok (cmD rows):=by unfold bu;rw [if_pos ⟨es,rows,h,c,rfl⟩];rfl
theorem DO {δ:Ds} (hδ:δ.length=2):∀ {es:List Er} {rows:List (List Int)},Cms es rows->(∀ e∈es,e.Sh)->eZ bA (aq cY (ae (af 2) (ae (af 3) ah))) jX δ (qQ (es.map Er.d) (rows.map df))=.ok (rows.map fun _=>.bool true)
 | _,_,.nil,_=>rfl
 | _,_,.cons (e:=e) (r:=r) (es:=es) (rows:=rows) hr hv c,hs=>by
  obtain ⟨a,b,rfl⟩:∃ a b,δ=[a,b]:=by
   match δ,hδ with
   | [a,b],_=>exact ⟨a,b,rfl⟩
  have ih:=DO hδ c fun x hx=>hs x (L4 _ hx)
  show eZ _ _ _ _ (PyData.tuple [e.d,df r]::qQ (es.map Er.d) (rows.map df))=_;unfold eZ;rw [show jX (PyData.tuple [e.d,df r])=some [some e.d,some (df r)] from rfl];have hg:aq cY (ae (af 2) (ae (af 3) ah)) ([a,b]++[some e.d,some (df r)])=.ok (.bool true):=by simp only [bh,ay,aF,Mc,Ma,ak,ar,Rs.ag];rw [show df r=.list (r.map PyData.int) from rfl,lG (hs e L6) hr,hv]
  simp only [bA,Rs.dk,Rs.ag,if_true,hg,ih,L5]
theorem qt (rows:List (List Int)):aH (cmD rows)=true:=by
 unfold cmD
 induction rows with
 | nil=>rfl
 | cons a r ih =>
  have h1:=jR a;have:aH (.list (df a::r.map df))=(aH (df a)&&aH (.list (r.map df))):=by simp [aH,dm]
  rw [L5,this,ih];simp only [N7];exact h1
theorem lS (cs:Cs):LLq (dO cs cY (br cs)) 2 0 (bu cs):=by
 intro ds hl hne;by_cases h:∃ es rows,yd es/\Cms es rows/\ds=[aw es,cmD rows]
 ·obtain ⟨es,rows,ok,c,rfl⟩:=h;rw [fE ok c];have k1:=iA cs ok.l1 ok.l6 ok.ok;have hI:kM "list" (cmD rows)=some (.bool true):=by unfold kM;rw [if_pos (qt rows)];rfl
  have hn:dNe (.int ((rows.map df).length:Int)) (.int ((es.map Er.d).length:Int))=some (.bool false):=by have:=c.len;rw [L3,L3,this,KA];simp
  have hz:a8 2 (FD (ae (af 0) (ae (af 1) ah))) bA (aq cY (ae (af 2) (ae (af 3) ah))) jX [some (aw es),some (cmD rows)]=.ok (rows.map fun _=>.bool true):=by
   unfold a8;rw [if_pos (show [some (aw es),some (cmD rows)].length=2 from rfl)];have hs:FD (ae (af 0) (ae (af 1) ah)) [some (aw es),some (cmD rows)]=.ok (qQ (es.map Er.d) (rows.map df)):=by show (if (rows.map df).length=(es.map Er.d).length then Rs.ok (qQ (es.map Er.d) (rows.map df)) else Rs.no)=_;exact if_pos (by rw [L3,L3];exact c.len)
   rw [hs];simp only [Rs.ag];rw [if_pos (by unfold qQ;rw [List.length_zipWith,L3,L3];have:=ok.l6;omega)];exact DO rfl c fun e he=>(ok.ok e he).sh
  have hf:=iH (fun _:List Int=>true) rows;have ha:rows.all (fun _=>true)=true:=by rw [LU];intros;rfl
  rw [ha] at hf;have hl2:a8 2 (bG (af 1)) bA (gF uZ (ae (af 2) ah)) aI [some (aw es),some (cmD rows)]=.ok ((rows.map df).map id) :=
   cu rfl rfl (by have:=c.len;have:=ok.l6;rw [L3];omega) fun d hd'=>by obtain ⟨r,hr,rfl⟩:=L9.mp hd';rfl
  show bc (dO cs cY (br cs) [some (aw es),some (cmD rows)])=_;unfold dO;have hln:b8 [cmD rows]=some (.int ((rows.map df).length:Int)):=rfl;have hle:b8 [aw es]=some (.int ((es.map Er.d).length:Int)):=rfl;simp only [aN,om,bh,ay,aF,ak,ar,Rs.ag,k1,av,cJ,yY,tM,dH,f9,bK,fH,hI,Rs.ai,aX,hln,hle,hn,Nn,M0,if_false,eM,nQ,hz,hf,bW,hl2,MA,aU];rfl
 ·exfalso;apply hne;unfold bu;rw [if_neg h]
structure Jb where
 num:Int
 parts:List (Int×Option Int)
 rank:Int
 row:List Int
 job:Nat
 part:Nat
 spent:Nat
variable {p q:Addr×Jb} {key:Jb->PyData} {s:List Jb×List PyData} {j:Jb} {js:List Jb} {ts:List (Addr×Jb)}
def Jb.fds (j:Jb):List (Str×PyData):=[("number",.int j.num),("parts",.tuple (j.parts.map aJ)),("rank",.int j.rank),("row",df j.row),("job",.int j.job),("part",.int j.part),("spent",.int j.spent)]
def Jb.d (C a:Addr) (j:Jb):PyData:=cA C a j.fds
theorem kW {f:Str} {r:List (Str×PyData)} (h:("@":Str)≠f):bB C f (cA C a r)=jl f (r.map fun p=>(.str p.1,p.2)):=by show (if ("":Str)=""/\(C:Int)=(C:Int) then (if ("@":Str)=f then some (PyData.int (a:Int)) else jl f (r.map fun p=>(.str p.1,p.2))) else none)=_;rw [if_pos ⟨rfl,rfl⟩,if_neg h]
section
theorem xE:bB C "number" (j.d C a)=some (.int j.num):=by unfold Jb.d;rw [kW (by decide)];rfl
theorem kZ:bB C "parts" (j.d C a)=some (.tuple (j.parts.map aJ)):=by unfold Jb.d;rw [kW (by decide)];rfl
theorem oa:bB C "rank" (j.d C a)=some (.int j.rank):=by unfold Jb.d;rw [kW (by decide)];rfl
theorem yg:bB C "row" (j.d C a)=some (df j.row):=by unfold Jb.d;rw [kW (by decide)];rfl
theorem tP:bB C "job" (j.d C a)=some (.int j.job):=by unfold Jb.d;rw [kW (by decide)];rfl
theorem og:bB C "part" (j.d C a)=some (.int j.part):=by unfold Jb.d;rw [kW (by decide)];rfl
theorem jQ:bB C "spent" (j.d C a)=some (.int j.spent):=by unfold Jb.d;rw [kW (by decide)];rfl
end
def gfG (n k:Nat) (G:Ds->Sr):Gf:=fun ds=>if ds.length=n then bc (G (ds.map some++List.replicate k none)) else .no
theorem jW {n k:Nat} {G:Ds->Sr}:∀ ds,ds.length=n->gfG n k G ds≠.no->bc (G (ds.map some++List.replicate k none))=gfG n k G ds:=by intro ds hl _;unfold gfG;rw [if_pos hl]
def aV (cs:Cs):Gf:=gfG 1 0 (dD cs)
def aM (cs:Cs):Gf:=gfG 1 0 (eJ cs)
def aT (cs:Cs):Gf:=gfG 1 0 (fT cs)
def aQ (cs:Cs):Gf:=gfG 2 0 (dE cs)
theorem uW:aV cs [j.d cs.Jobs a]=.ok (.bool ((j.job:Int)==(j.row.length:Int))):=by
 have hl:b8 [df j.row]=some (.int (j.row.length:Int)):=by unfold df;rw [jI,L3]
 show bc (dD cs [some (j.d cs.Jobs a)])=_;unfold dD;simp only [bW,bK,f9,ak,Rs.ag,tP,yg,Rs.ai,fH,ay,aF,hl,jq,av,aU]
def Jb.tool (j:Jb):Option Int:=(j.parts[j.part]?.map (·.2)).getD none
theorem uB {p:Int×Option Int} (h:j.parts[j.part]?=some p):dIx (.tuple (j.parts.map aJ)) (.int (j.part:Int))=some (aJ p):=by rw [vK];exact oh (by rw [LQ,h];rfl)
theorem part1 (p:Int×Option Int):dIx (aJ p) (.int 1)=some (bg p.2):=rfl
theorem rf (h:j.part<j.parts.length):aM cs [j.d cs.Jobs a]=.ok (bg (if j.spent=0 then j.tool else none)):=by
 show bc (eJ cs [some (j.d cs.Jobs a)])=_;unfold eJ;have hp:j.parts[j.part]?=some j.parts[j.part]:=L1 h;have ht:j.tool=j.parts[j.part].2:=by unfold Jb.tool;rw [hp];rfl
 by_cases z:j.spent=0
 ·have e:((j.spent:Int)==0)=true:=by rw [z];rfl
  rw [if_pos z,ht];simp only [bW,gIf,dH,bK,f9,ak,cF,Rs.ag,jQ,kZ,og,Rs.ai,jq,e,aX,if_true,uB hp,part1,av,aU]
 ·have e:((j.spent:Int)==0)=false:=by rw [beq_eq_false_iff_ne];omega
  rw [if_neg z];simp only [bW,gIf,dH,bK,f9,ak,cF,Rs.ag,jQ,Rs.ai,jq,e,aX,M0,if_false,av,aU];rfl
theorem yx (h:j.part<j.parts.length):aT cs [j.d cs.Jobs a]=.ok (bg (if j.spent=0 then none else j.tool)):=by
 show bc (fT cs [some (j.d cs.Jobs a)])=_;unfold fT;have hp:j.parts[j.part]?=some j.parts[j.part]:=L1 h;have ht:j.tool=j.parts[j.part].2:=by unfold Jb.tool;rw [hp];rfl
 by_cases z:j.spent=0
 ·have e:decide ((0:Int)<(j.spent:Int))=false:=by rw [z];rfl
  rw [if_pos z];simp only [bW,gIf,dH,bK,f9,ak,cF,Rs.ag,jQ,Rs.ai,EN,e,aX,M0,if_false,av,aU];rfl
 ·have e:decide ((0:Int)<(j.spent:Int))=true:=by rw [decide_eq_true_eq];omega
  rw [if_neg z,ht];simp only [bW,gIf,dH,bK,f9,ak,cF,Rs.ag,jQ,kZ,og,Rs.ai,EN,e,aX,if_true,uB hp,part1,av,aU]
def Jb.there (j:Jb) (t:Int):Bool:=match j.row[j.job]? with
 | some c=>decide (c<=t)
 | none=>false
theorem vk (h:j.job<=j.row.length):aQ cs [j.d cs.Jobs a,.int t]=.ok (.bool (j.there t)):=by
 have hl:b8 [df j.row]=some (.int (j.row.length:Int)):=by unfold df;rw [jI,L3]
 show bc (dE cs [some (j.d cs.Jobs a),some (.int t)])=_;unfold dE Jb.there;by_cases z:j.job<j.row.length
 ·have hp:j.row[j.job]?=some j.row[j.job]:=L1 z;have e:decide ((j.job:Int)<(j.row.length:Int))=true:=by rw [decide_eq_true_eq];omega
  have hx:dIx (df j.row) (.int (j.job:Int))=some (.int j.row[j.job]):=by show atI (j.row.map PyData.int) _=_;exact oh (by rw [LQ,hp];rfl)
  rw [hp];simp only [bW,yi,bK,f9,ak,ar,Rs.ag,tP,yg,Rs.ai,fH,ay,aF,hl,G7,e,aX,if_true,hx,Hw,av,aU]
 ·have hp:j.row[j.job]?=none:=N2 (by omega);have e:decide ((j.job:Int)<(j.row.length:Int))=false:=by rw [decide_eq_false_iff_not];omega
  rw [hp];simp only [bW,yi,bK,f9,ak,ar,Rs.ag,tP,yg,Rs.ai,fH,ay,aF,hl,G7,e,aX,M0,if_false,av,aU]
def jD (C:Addr) (p:Addr×Jb):PyData:=p.2.d C p.1
def Jb.held (j:Jb):Option Int:=if j.spent=0 then none else j.tool
def Jb.wanted (j:Jb):Option Int:=if j.spent=0 then j.tool else none
def holdsT (t:Int) (p:Addr×Jb):Bool:=p.2.held==some t
theorem eq_none_int (x:Int):dEq .none (.int x)=some (.bool false):=by
 have h:PySem.SeqAt.shaped (.int x)=true:=by simp [PySem.SeqAt.shaped,PyData.canLay0,PyData.depth]
 unfold dEq;rw [h];simp [aH,PyData.eqv]
 first | done | rfl | decide
theorem IZ (o:Option Int) (t:Int):dEq (bg o) (.int t)=some (.bool (o==some t)):=by
 cases o with
 | none=>exact eq_none_int t
 | some i=>rw [show bg (some i)=.int i from rfl,jq];simp
theorem tY (h1:("@":Str)≠m) (h:jn m (j.fds.map fun p=>(.str p.1,p.2))=true):isC C m (j.d C a)=true:=by
 show (decide (("":Str)="")&&decide ((C:Int)=(C:Int))&&jn m ((.str "@",.int (a:Int))::(j.fds.map fun p=>(.str p.1,p.2))))=true;have:jn m ((.str "@",.int (a:Int))::(j.fds.map fun p=>(PyData.str p.1,p.2)))=true:=by unfold jn;simp only [h,N7];simpa using h1
 rw [this];simp
theorem wA:isC C "held" (j.d C a)=true:=tY (by decide) rfl
theorem qg:isC C "wanted" (j.d C a)=true:=tY (by decide) rfl
theorem sT:isC C "are_done" (j.d C a)=true:=tY (by decide) rfl
theorem ua:isC C "is_there" (j.d C a)=true:=tY (by decide) rfl
def bN (cs:Cs):Gf:=gfG 2 1 (jN cs (aT cs))
def jH (C:Addr) (ts:List (Addr×Jb)) (tool:Option Int):PyData:=match tool with
 | none=>.none
 | some t=>match ts.find? (holdsT t) with
  | none=>.none
  | some p=>jD C p
theorem nk {cs:Cs} {t:Int} {X:PyData}:∀ (ts:List (Addr×Jb)) (x2:Option PyData),(∀ p∈ts,p.2.part<p.2.parts.length) ->
   (∃ p,ts.find? (holdsT t)=some p/\forL (bw 2) (sIf (gT (g2 dEq (bx cs.Jobs "held" (aT cs) (af 2) ah) (af 1))) (bj (af 2)) aY) (ts.map (jD cs.Jobs)) [some X,some (.int t),x2]=.rt (jD cs.Jobs p))
  \/(ts.find? (holdsT t)=none/\∃ δ,forL (bw 2) (sIf (gT (g2 dEq (bx cs.Jobs "held" (aT cs) (af 2) ah) (af 1))) (bj (af 2)) aY) (ts.map (jD cs.Jobs)) [some X,some (.int t),x2]=.nx δ)
 | [],x2,_=>.inr ⟨rfl,_,rfl⟩
 | p::r,x2,h=>by
   have h1:bw 2 (jD cs.Jobs p) [some X,some (.int t),x2]=some [some X,some (.int t),some (jD cs.Jobs p)]:=rfl;have hm:bx cs.Jobs "held" (aT cs) (af 2) ah [some X,some (.int t),some (jD cs.Jobs p)]=.ok (bg p.2.held):=by unfold bx;simp only [ak,ar,Rs.ag];rw [if_pos (show isC cs.Jobs "held" (jD cs.Jobs p)=true from wA)];simp only [aF,Rs.ag];exact yx (h p L6)
   have hc:gT (g2 dEq (bx cs.Jobs "held" (aT cs) (af 2) ah) (af 1)) [some X,some (.int t),some (jD cs.Jobs p)]=.ok (holdsT t p):=by simp only [dH,bK,hm,ak,ar,Rs.ag,IZ,Rs.ai,aX];rfl
   rw [L5];unfold forL;rw [h1];cases z:holdsT t p with
   | true =>refine .inl ⟨p,by rw [List.find?_cons_of_pos z],?_⟩;simp only [cJ,hc,z,av,if_true,bW,ak,ar]
   | false =>simp only [cJ,hc,z,av,M0,if_false,eM];rw [List.find?_cons_of_neg (by rw [z];exact LX)];exact nk r _ fun q hq=>h q (L4 _ hq)
theorem rR {tool:Option Int} (h:∀ p∈ts,p.2.part<p.2.parts.length):bN cs [.list (ts.map (jD cs.Jobs)),bg tool]=.ok (jH cs.Jobs ts tool):=by
 show bc (jN cs (aT cs) [some (.list (ts.map (jD cs.Jobs))),some (bg tool),none])=_;unfold jN jH;cases tool with
 | none=>rfl
 | some t =>
  have hn:gT (g1 mK (af 1)) [some (.list (ts.map (jD cs.Jobs))),some (.int t),none]=.ok false:=rfl;show bc (az (sIf (gT (g1 mK (af 1))) (bj (gC .none)) aY) (az (fz [] (bG (af 0)) (bw 2) (sIf (gT (g2 dEq (bx cs.Jobs "held" (aT cs) (af 2) ah) (af 1))) (bj (af 2)) aY)) (bj (gC .none))) [some (.list (ts.map (jD cs.Jobs))),some (.int t),none])=_;have hs:fz [] (bG (af 0)) (bw 2) (sIf (gT (g2 dEq (bx cs.Jobs "held" (aT cs) (af 2) ah) (af 1))) (bj (af 2)) aY) [some (.list (ts.map (jD cs.Jobs))),some (.int t),none]=forL (bw 2) (sIf (gT (g2 dEq (bx cs.Jobs "held" (aT cs) (af 2) ah) (af 1))) (bj (af 2)) aY) (ts.map (jD cs.Jobs)) [some (.list (ts.map (jD cs.Jobs))),some (.int t),none]:=rfl;simp only [aN,cJ,hn,av,M0,if_false,eM,hs];rcases nk (cs:=cs) (t:=t) (X:=.list (ts.map (jD cs.Jobs))) ts none h with ⟨p,f1,f2⟩ | ⟨f1,δ,f2⟩
  ·rw [f1,f2];rfl
  ·rw [f1,f2];rfl
def cE (cs:Cs):Gf:=gfG 1 3 (gD cs (aM cs) (bN cs))
theorem ED:hZ (jD C q)=some (.bool true):=rfl
def lrB (cs:Cs):Ds->Sr:=(az (aL [1] 3 (aq (bN cs) (ae (af 0) (ae (bx cs.Jobs "wanted" (aM cs) (af 2) ah) ah))))
 (sIf (gT (g1 hZ (af 3))) (oX 1 (g1 (bB cs.Jobs "number") (af 3)) (gF kC (ae (g1 (bB cs.Jobs "rank") (af 2)) (ae (lP (af 1) (g1 (bB cs.Jobs "number") (af 3)) (g1 (bB cs.Jobs "rank") (af 3))) ah)))) aY))
theorem FT (l:List (Int×Int)) (k v:Int):(xA l k v).length<=l.length+1:=by unfold xA;split <;> simp
def bZ (cs:Cs):Gf:=gfG 2 1 (cg cs (aT cs))
theorem rS {x y:Option PyData} (h:p.2.part<p.2.parts.length):bx cs.Jobs "held" (aT cs) (af 0) ah [some (jD cs.Jobs p),x,y]=.ok (bg p.2.held):=by unfold bx;simp only [ak,Rs.ag];rw [if_pos (show isC cs.Jobs "held" (jD cs.Jobs p)=true from wA)];simp only [aF,Rs.ag];exact yx h
theorem Dg (h:ts≠[]):∃ p∈ts,jH C ts p.2.wanted=.none:=by
 by_cases z:∃ p∈ts,p.2.spent≠0
 ·obtain ⟨p,hp,hs⟩:=z;refine ⟨p,hp,?_⟩;unfold Jb.wanted;rw [if_neg hs];rfl
 ·have hz:∀ p∈ts,p.2.spent=0:=fun p hp=>by
   by_cases q:p.2.spent=0
   ·exact q
   ·exact absurd ⟨p,hp,q⟩ z
  obtain ⟨p,r,rfl⟩:=List.exists_cons_of_ne_nil h;refine ⟨p,L6,?_⟩;unfold jH;cases p.2.wanted with
  | none=>rfl
  | some t =>
   have:(p::r).find? (holdsT t)=none:=by rw [Nz];intro q hq;unfold holdsT Jb.held;rw [if_pos (hz q hq)];exact LX
   simp only [this]
def cN (cs:Cs):Gf:=gfG 3 2 (jx cs (cE cs) (aM cs) (bN cs) (bZ cs))
theorem eq_str {s t:Str} (h1:PySem.SeqAt.shaped (.str s)=true) (h2:PySem.SeqAt.shaped (.str t)=true):dEq (.str s) (.str t)=some (.bool (s==t)):=by unfold dEq;rw [h1,h2];simp [aH,PyData.eqv]
def CQ (cs:Cs) (δ:Ds) (d:PyData):Bool:=match aq (bN cs) (ae (af 0) (ae (bx cs.Jobs "wanted" (aM cs) (af 5) ah) ah)) (δ++[some d]) with
 | .ok x=>eN x
 | _=>false
theorem yR {x1 x2 x3 x4:Option PyData} (h:∀ p∈ts,p.2.part<p.2.parts.length) (hq:q∈ts) :
  aq (bN cs) (ae (af 0) (ae (bx cs.Jobs "wanted" (aM cs) (af 5) ah) ah)) [some (.list (ts.map (jD cs.Jobs))),x1,x2,x3,x4,some (jD cs.Jobs q)]=.ok (jH cs.Jobs ts q.2.wanted):=by
 have h2:bx cs.Jobs "wanted" (aM cs) (af 5) ah [some (.list (ts.map (jD cs.Jobs))),x1,x2,x3,x4,some (jD cs.Jobs q)]=.ok (bg q.2.wanted):=by unfold bx;simp only [ak,ar,Rs.ag];rw [if_pos (show isC cs.Jobs "wanted" (jD cs.Jobs q)=true from qg)];simp only [aF,Rs.ag];exact rf (h q hq)
 simp only [bh,ay,aF,ak,h2,Rs.ag];exact rR h
structure tQ (s:Str):Prop where
 sh:PySem.SeqAt.shaped (.str s)=true
theorem zu:PySem.SeqAt.shaped (.str "high")=true:=by decide +kernel
theorem vA:PySem.SeqAt.shaped (.str "asked")=true:=by decide +kernel
theorem tW (ps:List (Int×Option Int)):aH (.tuple (ps.map aJ))=true:=by
 induction ps with
 | nil=>rfl
 | cons a r ih =>
  have h1:aH (aJ a)=true:=by obtain ⟨x,o⟩:=a;cases o <;> rfl
  have:aH (.tuple (aJ a::r.map aJ))=(aH (aJ a)&&aH (.tuple (r.map aJ))):=by simp [aH,dm]
  rw [L5,this,h1,ih];rfl
theorem Jb.flat (j:Jb):gz j.fds=true:=by have h1:=tW j.parts;have h2:aH (df j.row)=true:=jR j.row;unfold gz Jb.fds;simp only [L5,Mr,kL,h1,h2,N7,Nm];rfl
theorem lK:nK [a] C 0 [some (j.d C a)]=some (a,j.fds):=by
 unfold nK;have h1:gH [some (j.d C a)]=true:=by unfold gH Jb.d;simp only [N6,List.all_nil,N7,uU];exact j.flat
 show (match objOf (j.d C a) with | some (C',a',fds)=>if C'=C/\a'∈[a]/\gH [some (j.d C a)]=true/\gz fds=true/\fds.length<1000 then some (a',fds) else none | none=>none)=_;unfold Jb.d at *;rw [rP];exact if_pos ⟨rfl,LM.mpr rfl,h1,j.flat,show 7<1000 by decide⟩
theorem jE {fds:List (Str×PyData)} (hf:gz fds=true):kT a nd [some (cA C a fds)]=[some nd]:=by show [some (fB a nd (cA C a fds))]=_;unfold cA fB;refine congrArg (fun x=>[some x]) (if_pos ?_);unfold jG;unfold gz at hf;simp [hf]
section
theorem qY:eP [a] C 0 "spent" (gC (.int 1)) [some (j.d C a)]=.nx [some (Jb.d C a { j with spent:=j.spent+1 })]:=by unfold eP;rw [lK];show Sr.nx (kT a (cA C a (oY "spent" (.int ((j.spent:Int)+1)) j.fds)) [some (cA C a j.fds)])=_;rw [jE j.flat];rfl
theorem DT:eP [a] C 0 "part" (gC (.int 1)) [some (j.d C a)]=.nx [some (Jb.d C a { j with part:=j.part+1 })]:=by unfold eP;rw [lK];show Sr.nx (kT a (cA C a (oY "part" (.int ((j.part:Int)+1)) j.fds)) [some (cA C a j.fds)])=_;rw [jE j.flat];rfl
theorem Gx:eP [a] C 0 "job" (gC (.int 1)) [some (j.d C a)]=.nx [some (Jb.d C a { j with job:=j.job+1 })]:=by unfold eP;rw [lK];show Sr.nx (kT a (cA C a (oY "job" (.int ((j.job:Int)+1)) j.fds)) [some (cA C a j.fds)])=_;rw [jE j.flat];rfl
theorem AM:lT [a] C 0 "spent" (gC (.int 0)) [some (j.d C a)]=.nx [some (Jb.d C a { j with spent:=0 })]:=by unfold lT;rw [lK];show Sr.nx (kT a (cA C a (oY "spent" (.int 0) j.fds)) [some (cA C a j.fds)])=_;rw [jE j.flat];rfl
theorem CM:lT [a] C 0 "part" (gC (.int 0)) [some (j.d C a)]=.nx [some (Jb.d C a { j with part:=0 })]:=by unfold lT;rw [lK];show Sr.nx (kT a (cA C a (oY "part" (.int 0) j.fds)) [some (cA C a j.fds)])=_;rw [jE j.flat];rfl
end
def Jb.step1 (j:Jb) (n:Int):Jb:=if (j.spent:Int)+1=n then { j with spent:=0,part:=j.part+1 } else { j with spent:=j.spent+1 }
def Jb.step2 (j:Jb):Jb:=if j.part=j.parts.length then { j with part:=0,job:=j.job+1 } else j
def Jb.len (j:Jb):Int:=(j.parts[j.part]?.map (·.1)).getD 0
def Jb.next (j:Jb):Jb:=(j.step1 j.len).step2
theorem F3 (h:j.part<j.parts.length):gE cs [a] [some (j.d cs.Jobs a)]=.nx [some (j.next.d cs.Jobs a)]:=by
 have hp:j.parts[j.part]?=some j.parts[j.part]:=L1 h;have hn:j.len=j.parts[j.part].1:=by unfold Jb.len;rw [hp];rfl
 have second:∀ k:Jb,sIf (gT (g2 dEq (g1 (bB cs.Jobs "part") (af 0)) (gF b8 (ae (g1 (bB cs.Jobs "parts") (af 0)) ah)))) (az (lT [a] cs.Jobs 0 "part" (gC (.int 0))) (eP [a] cs.Jobs 0 "job" (gC (.int 1)))) aY [some (k.d cs.Jobs a)]=.nx [some (k.step2.d cs.Jobs a)]:=by
  intro k;have hc:gT (g2 dEq (g1 (bB cs.Jobs "part") (af 0)) (gF b8 (ae (g1 (bB cs.Jobs "parts") (af 0)) ah))) [some (k.d cs.Jobs a)]=.ok ((k.part:Int)==(k.parts.length:Int)):=by simp only [dH,bK,f9,fH,ay,aF,ak,Rs.ag,og,kZ,Rs.ai,Cv,L3,jq,aX]
  unfold Jb.step2;by_cases z:k.part=k.parts.length
  ·have e:((k.part:Int)==(k.parts.length:Int))=true:=by rw [z];exact beq_self_eq_true _
   rw [if_pos z];simp only [cJ,hc,e,av,if_true,aN,CM,Gx]
  ·have e:((k.part:Int)==(k.parts.length:Int))=false:=by rw [beq_eq_false_iff_ne];omega
   rw [if_neg z];simp only [cJ,hc,e,av,M0,if_false,eM]
 have hc:gT (g2 dEq (g1 (bB cs.Jobs "spent") (af 0)) (g2 dIx (g2 dIx (g1 (bB cs.Jobs "parts") (af 0)) (g1 (bB cs.Jobs "part") (af 0))) (gC (.int 0)))) [some (Jb.d cs.Jobs a { j with spent:=j.spent+1 })]=.ok (((j.spent:Int)+1)==j.len):=by have q:=uB (j:={ j with spent:=j.spent+1 }) hp;have q0:dIx (aJ j.parts[j.part]) (.int 0)=some (.int j.parts[j.part].1):=rfl;simp only [dH,bK,f9,ak,cF,Rs.ag,jQ,kZ,og,Rs.ai,q,q0,jq,aX,hn];rfl
 unfold gE Jb.next Jb.step1;by_cases z:(j.spent:Int)+1=j.len
 ·have e:(((j.spent:Int)+1)==j.len)=true:=by rw [z];exact beq_self_eq_true _
  rw [if_pos z];simp only [aN,qY];rw [cJ,hc];simp only [e,av,if_true,aN,AM,DT];exact second _
 ·have e:(((j.spent:Int)+1)==j.len)=false:=by rw [beq_eq_false_iff_ne];exact z
  rw [if_neg z];simp only [aN,qY];rw [cJ,hc];simp only [e,av,M0,if_false,eM];exact second _
theorem CB {a b:Option Int} (h:bg a=bg b):a=b:=by cases a <;> cases b <;> first | rfl | (injection h with h;rw [h]) | cases h
theorem AL {p q:Int×Option Int} (h:aJ p=aJ q):p=q:=by
 obtain ⟨a,o⟩:=p;obtain ⟨b,u⟩:=q;unfold aJ at h;injection h with h
 injection h with h1 h2
 injection h1 with h1
 injection h2 with h2 _
 have h3:=CB h2;exact Prod.ext h1 h3
theorem p6 {α β:Type} {f:α->β} (hf:∀ x y,f x=f y->x=y):∀ {l m:List α},l.map f=m.map f->l=m
 | [],[],_=>rfl
 | [],_::_,h=>by cases h
 | _::_,[],h=>by cases h
 | a::l,b::m,h=>by
  rw [L5,L5] at h;injection h with h1 h2
  rw [hf a b h1,p6 hf h2]
theorem EC {k:Jb} (h:j.fds=k.fds):j=k:=by
 obtain ⟨a1,a2,a3,a4,a5,a6,a7⟩:=j;obtain ⟨b1,b2,b3,b4,b5,b6,b7⟩:=k;unfold Jb.fds df at h;simp only [List.cons.injEq,Prod.mk.injEq,true_and,and_true,PyData.int.injEq,PyData.tuple.injEq,PyData.list.injEq] at h;obtain ⟨h1,h2,h3,h4,h5,h6,h7⟩:=h;have e2:=p6 (fun x y=>AL) h2;have e4:=p6 (fun x y (q:PyData.int x=PyData.int y)=>by injection q) h4;have e5:a5=b5:=by omega
 have e6:a6=b6:=by omega
 have e7:a7=b7:=by omega
 subst h1 h3 e2 e4 e5 e6 e7;rfl
open Classical in
def fU:List (Str×PyData)->Option (List (Str×PyData)):=fun fds=>if h:∃ j:Jb,j.part<j.parts.length/\fds=j.fds then some (Classical.choose h).next.fds else none
theorem GG (h:j.part<j.parts.length):fU j.fds=some j.next.fds:=by
 have hx:∃ k:Jb,k.part<k.parts.length/\j.fds=k.fds:=⟨j,h,rfl⟩
 unfold fU;rw [dif_pos hx];have:=EC (Classical.choose_spec hx).2;rw [<-this]
theorem Dv (cs:Cs):∀ a fds fds',gz fds=true->fds.length<1000->fU fds=some fds'->∃ δ,gE cs [a] (some (cA cs.Jobs a fds)::List.replicate 0 none)=.nx δ/\δ[0]?=some (some (cA cs.Jobs a fds')):=by
 intro a fds fds' _ _ e;by_cases hx:∃ k:Jb,k.part<k.parts.length/\fds=k.fds
 ·obtain ⟨k,hk,rfl⟩:=hx;rw [GG hk] at e;cases e;exact ⟨_,F3 hk,rfl⟩
 ·unfold fU at e;rw [dif_neg hx] at e;cases e
instance:Inhabited Jb:=⟨⟨0,[],0,[],0,0,0⟩⟩
def jo (ks:List PyData):Nat:=bst (fun i j=>ltD (ks.getD i .none) (ks.getD j .none)) (ks.length-1)
def ie (key:Jb->PyData) (js:List Jb):Jb:=js.getD (jo (js.map key)) default
theorem qk {C:Addr} {g:PyData->Rs PyData} {key:Jb->PyData}:∀ {ts:List (Addr×Jb)},(∀ p∈ts,g (jD C p)=.ok (key p.2))->allR g (ts.map (jD C))=.ok ((ts.map (·.2)).map key)
 | [],_=>rfl
 | p::r,h=>by
  have ih:=qk (ts:=r) fun x hx=>h x (L4 _ hx)
  rw [L5];unfold allR;rw [h p L6,Rs.ag,ih,Rs.ag];rfl
theorem lC (hd:ga δ=.ok (.list (ts.map (jD C)))) (h0:ts≠[]) (hk:∀ p∈ts,gb (some (jD C p)::sN cap δ)=.ok (key p.2))
  (hK:(∀ p∈ts,∃ n:Int,key p.2=.int n)\/(∀ p∈ts,∃ a b:Int,key p.2=.tuple [.int a,.int b])):∃ q∈ts,q.2=ie key (ts.map (·.2))/\i5 cap ga gb δ=.ok (jD C q):=by
 have hlen:0<ts.length:=MJ.mpr h0;have e:=qk (C:=C) (g:=fun x=>gb (some x::sN cap δ)) (key:=key) hk;have q:keysOk ((ts.map (·.2)).map key)=true:=by
  unfold keysOk;rw [Bool.or_eq_true];rcases hK with hK | hK
  ·refine .inl (LU.mpr fun k hk=>?_);obtain ⟨j,hj,rfl⟩:=L9.mp hk;obtain ⟨p,hp,rfl⟩:=L9.mp hj;obtain ⟨n,hn⟩:=hK p hp;rw [hn];rfl
  ·refine .inr (LU.mpr fun k hk=>?_);obtain ⟨j,hj,rfl⟩:=L9.mp hk;obtain ⟨p,hp,rfl⟩:=L9.mp hj;obtain ⟨a,b,hn⟩:=hK p hp;rw [hn];rfl
 have hb:=qA (fun i j=>ltD (((ts.map (·.2)).map key).getD i .none) (((ts.map (·.2)).map key).getD j .none)) (ts.length-1);have hI:jo ((ts.map (·.2)).map key)=bst (fun i j=>ltD (((ts.map (·.2)).map key).getD i .none) (((ts.map (·.2)).map key).getD j .none)) (ts.length-1):=by unfold jo;rw [L3,L3]
 have hlt:jo ((ts.map (·.2)).map key)<ts.length:=by rw [hI];omega
 refine ⟨ts[jo ((ts.map (·.2)).map key)],Mh hlt,?_,?_⟩
 ·unfold ie;rw [M1,LQ,L1 hlt];rfl
 ·unfold i5;rw [hd];simp only [Rs.ag,L3,if_pos hlen,e];show (if keysOk _=true then Rs.fc _ else Rs.no)=_;rw [if_pos q,<-hI,LQ,L1 hlt];rfl
def sv (js:List Jb) (tool:Option Int):Option Jb:=tool.bind fun t=>js.find? fun j=>j.held==some t
theorem zJ {tool:Option Int}:(sv (ts.map (·.2)) tool=none/\jH C ts tool=.none)\/∃ q∈ts,sv (ts.map (·.2)) tool=some q.2/\jH C ts tool=jD C q:=by
 unfold sv jH;cases tool with
 | none=>exact .inl ⟨rfl,rfl⟩
 | some t =>
  have hm:(ts.map (·.2)).find? (fun j=>j.held==some t)=(ts.find? (holdsT t)).map (·.2):=by rw [List.find?_map];rfl
  simp only [N4,hm];cases h:ts.find? (holdsT t) with
  | none=>exact .inl ⟨rfl,rfl⟩
  | some p=>exact .inr ⟨p,List.mem_of_find?_eq_some h,rfl,rfl⟩
def k6 (js:List Jb) (l:List (Int×Int)) (j:Jb):List (Int×Int):=match sv js j.wanted with
 | none=>l
 | some o=>xA l o.num (if (lg l o.num).getD o.rank<j.rank then (lg l o.num).getD o.rank else j.rank)
def vJ (js:List Jb):List (Int×Int):=js.foldl (k6 js) []
theorem BQ (h:∀ p∈ts,p.2.part<p.2.parts.length) (hp:p∈ts) (hl:l.length<1000000) (x3:Option PyData) :
  ∃ x,lrB cs [some (.list (ts.map (jD cs.Jobs))),some (cK l),some (jD cs.Jobs p),x3]=.nx [some (.list (ts.map (jD cs.Jobs))),some (cK (k6 (ts.map (·.2)) l p.2)),some (jD cs.Jobs p),x]:=by
 have hm:aq (bN cs) (ae (af 0) (ae (bx cs.Jobs "wanted" (aM cs) (af 2) ah) ah)) [some (.list (ts.map (jD cs.Jobs))),none,some (jD cs.Jobs p),x3]=.ok (jH cs.Jobs ts p.2.wanted):=by
  have h2:bx cs.Jobs "wanted" (aM cs) (af 2) ah [some (.list (ts.map (jD cs.Jobs))),none,some (jD cs.Jobs p),x3]=.ok (bg p.2.wanted):=by unfold bx;simp only [ak,ar,Rs.ag];rw [if_pos (show isC cs.Jobs "wanted" (jD cs.Jobs p)=true from qg)];simp only [aF,Rs.ag];exact rf (h p hp)
  simp only [bh,ay,aF,ak,h2,Rs.ag];exact rR h
 have hset:aL [1] 3 (aq (bN cs) (ae (af 0) (ae (bx cs.Jobs "wanted" (aM cs) (af 2) ah) ah))) [some (.list (ts.map (jD cs.Jobs))),some (cK l),some (jD cs.Jobs p),x3]=.nx [some (.list (ts.map (jD cs.Jobs))),some (cK l),some (jD cs.Jobs p),some (jH cs.Jobs ts p.2.wanted)]:=by show (if 3<4 then ofR (aq (bN cs) (ae (af 0) (ae (bx cs.Jobs "wanted" (aM cs) (af 2) ah) ah)) [some (.list (ts.map (jD cs.Jobs))),none,some (jD cs.Jobs p),x3]) _ else _)=_;rw [if_pos (by decide),hm];rfl
 unfold lrB k6;simp only [aN,hset];rcases zJ (C:=cs.Jobs) (ts:=ts) (tool:=p.2.wanted) with ⟨e0,e⟩ | ⟨q,hq,e0,e⟩
 ·rw [e,e0];exact ⟨_,rfl⟩
 ·rw [e,e0];simp only [cJ,dH,f9,ak,ar,Rs.ag,ED,Rs.ai,aX,av,if_true];have f1:bB cs.Jobs "number" (jD cs.Jobs q)=some (.int q.2.num):=xE;have f2:bB cs.Jobs "rank" (jD cs.Jobs q)=some (.int q.2.rank):=oa;have f3:bB cs.Jobs "rank" (jD cs.Jobs p)=some (.int p.2.rank):=oa;refine ⟨some (jD cs.Jobs q),?_⟩;unfold oX;simp only [MC,MD,qT,fH,ay,aF,f9,ak,ar,Rs.ag,f1,f2,f3,Rs.ai,lP,yo,av,if_pos hl];rfl
theorem An (js:List Jb) (l:List (Int×Int)) (j:Jb):(k6 js l j).length<=l.length+1:=by
 unfold k6;split
 ·exact N8 _
 ·exact FT _ _ _
theorem vc {cs:Cs} {ts:List (Addr×Jb)} (h:∀ p∈ts,p.2.part<p.2.parts.length):∀ (us:List (Addr×Jb)) (l:List (Int×Int)) (x2 x3:Option PyData),(∀ p∈us,p∈ts)->l.length+us.length<1000000 ->
  ∃ y2 y3,forL (bw 2) (lrB cs) (us.map (jD cs.Jobs)) [some (.list (ts.map (jD cs.Jobs))),some (cK l),x2,x3]=.nx [some (.list (ts.map (jD cs.Jobs))),some (cK ((us.map (·.2)).foldl (k6 (ts.map (·.2))) l)),y2,y3]
 | [],l,x2,x3,_,_=>⟨x2,x3,rfl⟩
 | p::r,l,x2,x3,hu,hl=>by have h1:bw 2 (jD cs.Jobs p) [some (.list (ts.map (jD cs.Jobs))),some (cK l),x2,x3]=some [some (.list (ts.map (jD cs.Jobs))),some (cK l),some (jD cs.Jobs p),x3]:=rfl;rw [LS] at hl;obtain ⟨x,e1⟩:=BQ (cs:=cs) h (hu p L6) (l:=l) (by omega) x3;have hl1:=An (ts.map (·.2)) l p.2;rw [L5];unfold forL;rw [h1];simp only [e1];exact vc h r _ _ _ (fun q hq=>hu q (L4 _ hq)) (by omega)
theorem F8 (h:∀ p∈ts,p.2.part<p.2.parts.length) (hl:ts.length<=1000):cE cs [.list (ts.map (jD cs.Jobs))]=.ok (cK (vJ (ts.map (·.2)))):=by obtain ⟨y2,y3,e⟩:=vc (cs:=cs) h ts [] none none (fun p hp=>hp) (by rw [ME];omega);show bc (gD cs (aM cs) (bN cs) [some (.list (ts.map (jD cs.Jobs))),none,none,none])=_;have ho:vR 1 [some (.list (ts.map (jD cs.Jobs))),none,none,none]=.nx [some (.list (ts.map (jD cs.Jobs))),some (cK []),none,none]:=rfl;have hs:fz [1] (bG (af 0)) (bw 2) (lrB cs) [some (.list (ts.map (jD cs.Jobs))),some (cK []),none,none]=forL (bw 2) (lrB cs) (ts.map (jD cs.Jobs)) [some (.list (ts.map (jD cs.Jobs))),some (cK []),none,none]:=rfl;show bc (az (vR 1) (az (fz [1] (bG (af 0)) (bw 2) (lrB cs)) (bj (af 1))) [some (.list (ts.map (jD cs.Jobs))),none,none,none])=_;simp only [aN,ho,hs,e];rfl
def Gg (tops:PyData) (t:Int):Int:=match dIx tops (.int t) with
 | some (.int n)=>n
 | _=>0
def sM (tops:PyData) (j:Jb):PyData:=match j.held with
 | none=>.tuple [.int j.rank,.int 1]
 | some t=>.tuple [.int (if Gg tops t<j.rank then Gg tops t else j.rank),.int 0]
theorem Fp (h:p.2.part<p.2.parts.length) (ht:∀ t,p.2.held=some t->∃ n:Int,dIx tops (.int t)=some (.int n)):bZ cs [jD cs.Jobs p,tops]=.ok (sM tops p.2):=by
 have fr:bB cs.Jobs "rank" (jD cs.Jobs p)=some (.int p.2.rank):=oa;unfold sM;cases z:p.2.held with
 | none =>
  show bc (cg cs (aT cs) [some (jD cs.Jobs p),some tops,none])=_;unfold cg;have hm:=rS (cs:=cs) (p:=p) (x:=some tops) (y:=none) h;rw [z] at hm;have hs:aL [] 2 (bx cs.Jobs "held" (aT cs) (af 0) ah) [some (jD cs.Jobs p),some tops,none]=.nx [some (jD cs.Jobs p),some tops,some .none]:=by rw [ik,hm];rfl
  simp only [aN,hs,cJ,dH,f9,ak,ar,Rs.ag,DN,pZ,Rs.ai,aX,av,if_true,bW,jz,ay,aF,fr,cF,aU]
 | some t =>
  obtain ⟨n,hn⟩:=ht t z;have hT:Gg tops t=n:=by unfold Gg;rw [hn]
  show bc (cg cs (aT cs) [some (jD cs.Jobs p),some tops,none])=_;unfold cg;have hm:=rS (cs:=cs) (p:=p) (x:=some tops) (y:=none) h;rw [z] at hm;have hs:aL [] 2 (bx cs.Jobs "held" (aT cs) (af 0) ah) [some (jD cs.Jobs p),some tops,none]=.nx [some (jD cs.Jobs p),some tops,some (.int t)]:=by rw [ik,hm];rfl
  simp only [aN,hs,cJ,dH,f9,bK,ak,ar,Rs.ag,DN,sJ,Rs.ai,aX,av,M0,if_false,eM,bW,jz,ay,aF,fr,hn,fH,yo,cF,aU,hT]
def ju (js:List Jb) (j:Jb):Bool:=(sv js j.wanted).isNone
def KP (l:List (Int×Int)) (j:Jb):PyData:=.int ((lg l j.num).getD j.rank)
def jJ (tops:PyData) (len:Str) (js:List Jb):Jb:=if (len==("high":Str))=true then ie (sM tops) js else ie (KP (if (len==("asked":Str))=true then vJ js else [])) (js.filter (ju js))
theorem vt {tool:Option Int}:eN (jH C ts tool)=(sv (ts.map (·.2)) tool).isNone:=by
 rcases zJ (C:=C) (ts:=ts) (tool:=tool) with ⟨e0,e⟩ | ⟨q,_,e0,e⟩
 ·rw [e,e0];rfl
 ·rw [e,e0];rfl
theorem uP (h:ts≠[]):ts.filter (fun p=>ju (ts.map (·.2)) p.2)≠[]:=by obtain ⟨p,hp,e⟩:=Dg h (C:=0);refine List.ne_nil_of_mem (a:=p) (Md.mpr ⟨hp,?_⟩);unfold ju;rw [<-vt (C:=0),e];rfl
theorem lH {C:Addr} {ts:List (Addr×Jb)} {f:PyData->Bool} {g:Jb->Bool}:∀ {us:List (Addr×Jb)},(∀ p∈us,f (jD C p)=g p.2)->(us.map (jD C)).filter f=(us.filter fun p=>g p.2).map (jD C)
 | [],_=>rfl
 | p::r,h=>by
  have ih:=lH (ts:=ts) (us:=r) fun x hx=>h x (L4 _ hx)
  rw [L5,MU,MU,h p L6,ih];cases g p.2 <;> rfl
theorem z0 {len:Str} (h0:ts≠[]) (hl:ts.length<=1000) (h:∀ p∈ts,p.2.part<p.2.parts.length) (ht:∀ p∈ts,∀ t,p.2.held=some t->∃ n:Int,dIx tops (.int t)=some (.int n)) (hs:tQ len) :
  ∃ q∈ts,q.2=jJ tops len (ts.map (·.2))/\cN cs [.list (ts.map (jD cs.Jobs)),tops,.str len]=.ok (jD cs.Jobs q):=by
 have q1:gT (g2 dEq (af 2) (gC (.str "high"))) [some (.list (ts.map (jD cs.Jobs))),some tops,some (.str len),none,none]=.ok (len=="high"):=by simp only [dH,bK,ak,ar,cF,Rs.ag,eq_str hs.sh zu,Rs.ai,aX]
 show ∃ q∈ts,q.2=_/\bc (jx cs (cE cs) (aM cs) (bN cs) (bZ cs) [some (.list (ts.map (jD cs.Jobs))),some tops,some (.str len),none,none])=.ok _;unfold jx jJ;cases z:(len==("high":Str)) with
 | true =>
  obtain ⟨q,hq,e2,e⟩:=lC (C:=cs.Jobs) (cap:=[1]) (ga:=af 0) (gb:=aq (bZ cs) (ae (af 0) (ae (af 1) ah))) (δ:=[some (.list (ts.map (jD cs.Jobs))),some tops,some (.str len),none,none]) (key:=sM tops) rfl h0 (fun p hp=>Fp (h p hp) (ht p hp)) (.inr fun p hp=>by unfold sM;cases p.2.held <;> exact ⟨_,_,rfl⟩)
  refine ⟨q,hq,by rw [if_pos rfl];exact e2,?_⟩;simp only [aN,cJ,q1,z,av,if_true,bW,e,aU]
 | false =>
  have hc:a8 5 (bG (af 0)) (gT (g1 mK (aq (bN cs) (ae (af 0) (ae (bx cs.Jobs "wanted" (aM cs) (af 5) ah) ah))))) (af 5) aI [some (.list (ts.map (jD cs.Jobs))),some tops,some (.str len),none,none]=.ok ((ts.filter fun p=>ju (ts.map (·.2)) p.2).map (jD cs.Jobs)):=by
   rw [<-lH (ts:=ts) (f:=CQ cs [some (.list (ts.map (jD cs.Jobs))),some tops,some (.str len),none,none]) (fun p hp=>by have hh:=yR (cs:=cs) (x1:=some tops) (x2:=some (.str len)) (x3:=none) (x4:=none) h hp;unfold CQ;simp only [Mc,Ma,hh];exact vt)]
   refine lM rfl rfl (by rw [L3];omega) fun d hd=>?_
   obtain ⟨p,hp,rfl⟩:=L9.mp hd;refine ⟨?_,rfl⟩;have hh:=yR (cs:=cs) (x1:=some tops) (x2:=some (.str len)) (x3:=none) (x4:=none) h hp;unfold CQ;simp only [Mc,Ma,hh];simp only [dH,f9,hh,Rs.ag,DN,Rs.ai,aX]
  have hn:=uP h0;have hj:(ts.map (·.2)).filter (ju (ts.map (·.2)))=(ts.filter fun p=>ju (ts.map (·.2)) p.2).map (·.2):=by rw [List.filter_map];rfl
  have hfr:∀ p∈ts.filter (fun p=>ju (ts.map (·.2)) p.2),p∈ts:=fun p hp=>(Md.mp hp).1
  rw [hj];generalize (ts.filter fun p=>ju (ts.map (·.2)) p.2)=fr at hc hn hfr;have hlent:gIf (gT (g2 dEq (af 2) (gC (.str "asked")))) (aq (cE cs) (ae (af 0) ah)) (gC (cK [])) [some (.list (ts.map (jD cs.Jobs))),some tops,some (.str len),some (.list (fr.map (jD cs.Jobs))),none]=.ok (cK (if (len==("asked":Str))=true then vJ (ts.map (·.2)) else [])):=by
   have q2:gT (g2 dEq (af 2) (gC (.str "asked"))) [some (.list (ts.map (jD cs.Jobs))),some tops,some (.str len),some (.list (fr.map (jD cs.Jobs))),none]=.ok (len=="asked"):=by simp only [dH,bK,ak,ar,cF,Rs.ag,eq_str hs.sh vA,Rs.ai,aX]
   unfold gIf;rw [q2];simp only [Rs.ag];cases (len==("asked":Str)) with
   | true=>simp only [if_true,bh,ay,aF,ak,Rs.ag,F8 h hl]
   | false=>simp
  generalize (if (len==("asked":Str))=true then vJ (ts.map (·.2)) else [])=l at hlent;obtain ⟨q,hq,e2,e⟩:=lC (C:=cs.Jobs) (cap:=[4]) (ga:=af 3) (gb:=lP (af 1) (g1 (bB cs.Jobs "number") (af 0)) (g1 (bB cs.Jobs "rank") (af 0))) (δ:=[some (.list (ts.map (jD cs.Jobs))),some tops,some (.str len),some (.list (fr.map (jD cs.Jobs))),some (cK l)]) (key:=KP l) rfl hn (fun p hp=>by have f1:bB cs.Jobs "number" (jD cs.Jobs p)=some (.int p.2.num):=xE;have f2:bB cs.Jobs "rank" (jD cs.Jobs p)=some (.int p.2.rank):=oa;show lP (af 1) (g1 (bB cs.Jobs "number") (af 0)) (g1 (bB cs.Jobs "rank") (af 0)) [some (jD cs.Jobs p),some (cK l)]=_;unfold lP;simp only [ak,ar,Rs.ag,qT,f9,f1,f2,Rs.ai];rfl) (.inl fun p hp=>⟨_,rfl⟩)
  refine ⟨q,hfr q hq,by rw [if_neg LX];exact e2,?_⟩;have s3:aL [] 3 (gL (a8 5 (bG (af 0)) (gT (g1 mK (aq (bN cs) (ae (af 0) (ae (bx cs.Jobs "wanted" (aM cs) (af 5) ah) ah))))) (af 5) aI)) [some (.list (ts.map (jD cs.Jobs))),some tops,some (.str len),none,none]=.nx [some (.list (ts.map (jD cs.Jobs))),some tops,some (.str len),some (.list (fr.map (jD cs.Jobs))),none]:=by rw [ik,nQ,hc];rfl
  have s4:aL [] 4 (gIf (gT (g2 dEq (af 2) (gC (.str "asked")))) (aq (cE cs) (ae (af 0) ah)) (gC (cK []))) [some (.list (ts.map (jD cs.Jobs))),some tops,some (.str len),some (.list (fr.map (jD cs.Jobs))),none]=.nx [some (.list (ts.map (jD cs.Jobs))),some tops,some (.str len),some (.list (fr.map (jD cs.Jobs))),some (cK l)]:=by rw [ik,hlent];rfl
  simp only [aN,cJ,q1,z,av,M0,if_false,eM,s3,s4,bW,e,aU]
theorem vL:fB a nd (jD C p)=if p.1=a then nd else jD C p:=by
 have hf:=p.2.flat;have hp:jG ((PyData.str "",PyData.int (C:Int))::(PyData.str "@",PyData.int (p.1:Int))::p.2.fds.map fun x=>(PyData.str x.1,x.2))=some (p.1:Int):=by unfold jG;unfold gz at hf;simp [hf]
 unfold jD Jb.d cA fB;rw [hp];by_cases z:p.1=a
 ·rw [if_pos z,if_pos (by rw [z])]
 ·have hz:¬ (some (p.1:Int)=some (a:Int)):=fun e=>z (Int.ofNat.inj (Option.some.inj e))
  rw [if_neg z,if_neg hz]
theorem zR {C a:Addr} {j:Jb}:∀ ts:List (Addr×Jb),jr a (jD C (a,j)) (ts.map (jD C))=(ts.map fun p=>if p.1=a then (a,j) else p).map (jD C)
 | []=>rfl
 | p::r=>by
  rw [L5,L5,L5];unfold jr;rw [zR r,vL];by_cases z:p.1=a
  ·rw [if_pos z,if_pos z]
  ·rw [if_neg z,if_neg z]
theorem Az:fB a (jD C (a,j)) (.list (ts.map (jD C)))=.list ((ts.map fun p=>if p.1=a then (a,j) else p).map (jD C)):=by unfold fB;rw [zR]
mutual
theorem l8 {a:Addr} {nd:PyData}:∀ d:PyData,aH d=true->fB a nd d=d
 | .none,_=>by unfold fB;rfl
 | .bool _,_=>by unfold fB;rfl
 | .int _,_=>by unfold fB;rfl
 | .str _,_=>by unfold fB;rfl
 | .list ds,h=>by unfold fB;rw [tE ds (by simpa [aH] using h)]
 | .tuple ds,h=>by unfold fB;rw [tE ds (by simpa [aH] using h)]
 | .dict _,h=>by simp [aH] at h
theorem tE {a:Addr} {nd:PyData}:∀ ds:List PyData,dm ds=true->jr a nd ds=ds
 | [],_=>by unfold jr;rfl
 | d::r,h=>by unfold dm at h;rw [L8] at h;unfold jr;rw [l8 d h.1,tE r h.2]
end
theorem p8 {C:Addr} {elt:Ds->Rs PyData} {δ:Ds} {k:Jb->PyData}:∀ (ts:List (Addr×Jb)),(∀ p∈ts,elt (δ++[some (jD C p)])=.ok (k p.2))->eZ bA elt aI δ (ts.map (jD C))=.ok ((ts.map (·.2)).map k)
 | [],_=>rfl
 | p::r,h=>by
  have ih:=p8 r fun e he=>h e (L4 _ he)
  rw [L5];unfold eZ;simp only [aI,bA,Rs.dk,Rs.ag,if_true,h p L6];rw [ih];rfl
def Jb.done (j:Jb):Bool:=(j.job:Int)==(j.row.length:Int)
def rnD (C:Addr) (E R W tops:PyData) (len:Str) (qs:List (Addr×Jb)) (told:List PyData) (x7 x8:Option PyData):Ds:=[some E,some R,some W,some (.str len),some tops,some (.list (qs.map (jD C))),some (.list told),x7,x8]
section
variable {E R W:PyData} {len:Str} {qs:List (Addr×Jb)} {x8:Option PyData}
theorem cond_of (hl:qs.length<=1000):gG (gT (gF nV (ae (gL (a8 9 (bG (af 5)) bA (bx cs.Jobs "are_done" (aV cs) (af 9) ah) aI)) ah))) (rnD cs.Jobs E R W tops len qs told x7 x8)=.ok (!((qs.map (·.2)).all Jb.done)):=by
 have hc:a8 9 (bG (af 5)) bA (bx cs.Jobs "are_done" (aV cs) (af 9) ah) aI (rnD cs.Jobs E R W tops len qs told x7 x8)=.ok ((qs.map (·.2)).map fun j=>.bool j.done):=by
  unfold a8;rw [if_pos (show (rnD cs.Jobs E R W tops len qs told x7 x8).length=9 from rfl)];rw [show bG (af 5) (rnD cs.Jobs E R W tops len qs told x7 x8)=.ok (qs.map (jD cs.Jobs)) from rfl];simp only [Rs.ag];rw [if_pos (by rw [L3];omega)];refine p8 qs fun p hp=>?_
  show bx cs.Jobs "are_done" (aV cs) (af 9) ah [some E,some R,some W,some (.str len),some tops,some (.list (qs.map (jD cs.Jobs))),some (.list told),x7,x8,some (jD cs.Jobs p)]=_;unfold bx;simp only [ak,ar,Rs.ag];rw [if_pos (show isC cs.Jobs "are_done" (jD cs.Jobs p)=true from sT)];simp only [aF,Rs.ag];exact uW
 have hf:=iH Jb.done (qs.map (·.2));simp only [tM,dH,fH,ay,aF,nQ,hc,Rs.ag,hf,Rs.ai,aX]
def cL (told:List PyData) (p:Addr×Jb):Bool:=p.2.there (told.length:Int)
theorem nO (h:∀ p∈qs,p.2.job<=p.2.row.length) {x6:Option PyData}:∀ (us:List (Addr×Jb)),(∀ p∈us,p∈qs) ->
  fL (gT (bx cs.Jobs "is_there" (aQ cs) (af 9) (ae (gF b8 (ae (af 6) ah)) ah))) (af 9) aI [some E,some R,some W,some (.str len),some tops,some (.list (qs.map (jD cs.Jobs))),x6,x7,x8] (rnD cs.Jobs E R W tops len qs told x7 x8) (us.map (jD cs.Jobs))=.ok ((us.filter (cL told)).map (jD cs.Jobs))
 | [],_=>rfl
 | p::r,hu=>by
  have ih:=nO h (x6:=x6) r fun q hq=>hu q (L4 _ hq)
  have hc:gT (bx cs.Jobs "is_there" (aQ cs) (af 9) (ae (gF b8 (ae (af 6) ah)) ah)) (rnD cs.Jobs E R W tops len qs told x7 x8++[some (jD cs.Jobs p)])=.ok (cL told p):=by show gT (bx cs.Jobs "is_there" (aQ cs) (af 9) (ae (gF b8 (ae (af 6) ah)) ah)) [some E,some R,some W,some (.str len),some tops,some (.list (qs.map (jD cs.Jobs))),some (.list told),x7,x8,some (jD cs.Jobs p)]=_;rw [dH];unfold bx;simp only [ak,ar,Rs.ag];rw [if_pos (show isC cs.Jobs "is_there" (jD cs.Jobs p)=true from ua)];simp only [ay,aF,fH,ak,ar,jI,Rs.ai,Rs.ag];rw [show aQ cs [jD cs.Jobs p,.int (told.length:Int)]=_ from vk (h p (hu p L6))];rfl
  rw [L5];unfold fL;rw [show aI (jD cs.Jobs p)=some [some (jD cs.Jobs p)] from rfl];simp only [hc,Rs.dk,Rs.ag];rw [MU];cases cL told p with
  | true =>simp only [if_true];rw [show af 9 ([some E,some R,some W,some (.str len),some tops,some (.list (qs.map (jD cs.Jobs))),x6,x7,x8]++[some (jD cs.Jobs p)])=.ok (jD cs.Jobs p) from rfl];simp only [Rs.dk,Rs.ag,ih];rfl
  | false=>simp only [M0,if_false,ih]
end
mutual
theorem kh:∀ d:PyData,aH d=true->objs d=true
 | .none,_=>by unfold objs;rfl
 | .bool _,_=>by unfold objs;rfl
 | .int _,_=>by unfold objs;rfl
 | .str _,_=>by unfold objs;rfl
 | .list ds,h=>by unfold objs;exact oE ds (by simpa [aH] using h)
 | .tuple ds,h=>by unfold objs;exact oE ds (by simpa [aH] using h)
 | .dict _,h=>by simp [aH] at h
theorem oE:∀ ds:List PyData,dm ds=true->jK ds=true
 | [],_=>by unfold jK;rfl
 | d::r,h=>by unfold dm at h;rw [L8] at h;unfold jK;rw [kh d h.1,oE r h.2];rfl
end
theorem yG:objs (jD C p)=true:=by unfold jD Jb.d;rw [uU];exact p.2.flat
theorem rM {C:Addr}:∀ ts:List (Addr×Jb),jK (ts.map (jD C))=true
 | []=>by unfold jK;rfl
 | p::r=>by rw [L5];unfold jK;rw [yG,rM r];rfl
theorem xt:objs (.list (ts.map (jD C)))=true:=by unfold objs;exact rM ts
section
variable {E R W:PyData} {len:Str} {qs:List (Addr×Jb)}
structure NoD (E R W tops:PyData) (told:List PyData):Prop where
 e:aH E=true
 r:aH R=true
 w:aH W=true
 t:aH tops=true
 o:aH (.list told)=true
theorem Ae (n:NoD E R W tops told) (ha:q.1∈as):nK as cs.Jobs 8 (rnD cs.Jobs E R W tops len qs told (some (.list (ts.map (jD cs.Jobs)))) (some (jD cs.Jobs q)))=some (q.1,q.2.fds):=by
 have h1:gH (rnD cs.Jobs E R W tops len qs told (some (.list (ts.map (jD cs.Jobs)))) (some (jD cs.Jobs q)))=true:=by
  unfold gH rnD;have hs:objs (.str len)=true:=by unfold objs;rfl
  simp only [N6,List.all_nil,N7,kh _ n.e,kh _ n.r,kh _ n.w,kh _ n.t,kh _ n.o,hs,xt,yG,NB]
 show (match objOf (jD cs.Jobs q) with | some (C',a',fds)=>if C'=cs.Jobs/\a'∈as/\gH (rnD cs.Jobs E R W tops len qs told (some (.list (ts.map (jD cs.Jobs)))) (some (jD cs.Jobs q)))=true/\gz fds=true/\fds.length<1000 then some (a',fds) else none | none=>none)=_;rw [show objOf (jD cs.Jobs q)=some (cs.Jobs,q.1,q.2.fds) from rP _ _ _];exact if_pos ⟨rfl,ha,h1,q.2.flat,show 7<1000 by decide⟩
end
def tJ (a:Addr) (j:Jb) (qs:List (Addr×Jb)):List (Addr×Jb):=qs.map fun p=>if p.1=a then (a,j) else p
section
variable {E R W:PyData} {len:Str} {qs:List (Addr×Jb)}
theorem Hn (n:NoD E R W tops told):kT q.1 (jD cs.Jobs (q.1,j)) (rnD cs.Jobs E R W tops len qs told (some (.list (ts.map (jD cs.Jobs)))) (some (jD cs.Jobs q)))=rnD cs.Jobs E R W tops len (tJ q.1 j qs) told (some (.list ((tJ q.1 j ts).map (jD cs.Jobs)))) (some (jD cs.Jobs (q.1,j))):=by
 have hs:fB q.1 (jD cs.Jobs (q.1,j)) (.str len)=.str len:=by unfold fB;rfl
 have hb:fB q.1 (jD cs.Jobs (q.1,j)) (jD cs.Jobs q)=jD cs.Jobs (q.1,j):=by rw [vL,if_pos rfl]
 unfold kT rnD tJ;simp only [L5,Mr,MF,l8 _ n.e,l8 _ n.r,l8 _ n.w,l8 _ n.t,l8 _ n.o,hs,Az,hb]
theorem Ec (n:NoD E R W tops told) (ha:q.1∈as) (hp:q.2.part<q.2.parts.length):kR as cs.Jobs "go_on" 8 fU (rnD cs.Jobs E R W tops len qs told (some (.list (ts.map (jD cs.Jobs)))) (some (jD cs.Jobs q)))=.nx (rnD cs.Jobs E R W tops len (tJ q.1 q.2.next qs) told (some (.list ((tJ q.1 q.2.next ts).map (jD cs.Jobs)))) (some (jD cs.Jobs (q.1,q.2.next)))):=by unfold kR;rw [Ae n ha];have hk:ng "go_on" q.2.fds=none:=rfl;simp only [hk,if_true,GG hp];exact congrArg Sr.nx (Hn (cs:=cs) (len:=len) (qs:=qs) (ts:=ts) (q:=q) (j:=q.2.next) n)
end
section
variable {E R W:PyData} {len:Str} {qs:List (Addr×Jb)} {x8:Option PyData}
theorem BZ (hl:qs.length<=1000) (h:∀ p∈qs,p.2.job<=p.2.row.length):ql [6] 7 9 (bG (af 5)) (gT (bx cs.Jobs "is_there" (aQ cs) (af 9) (ae (gF b8 (ae (af 6) ah)) ah))) (af 9) aI (rnD cs.Jobs E R W tops len qs told x7 x8)=.nx (rnD cs.Jobs E R W tops len qs told (some (.list ((qs.filter (cL told)).map (jD cs.Jobs)))) x8):=by
 have hm:mask [6] (rnD cs.Jobs E R W tops len qs told x7 x8)=[some E,some R,some W,some (.str len),some tops,some (.list (qs.map (jD cs.Jobs))),none,x7,x8]:=rfl;have hc:my 9 (bG (af 5)) (gT (bx cs.Jobs "is_there" (aQ cs) (af 9) (ae (gF b8 (ae (af 6) ah)) ah))) (af 9) aI (mask [6] (rnD cs.Jobs E R W tops len qs told x7 x8)) (rnD cs.Jobs E R W tops len qs told x7 x8)=.ok ((qs.filter (cL told)).map (jD cs.Jobs)):=by rw [hm];unfold my;rw [if_pos (show [some E,some R,some W,some (.str len),some tops,some (.list (qs.map (jD cs.Jobs))),none,x7,x8].length=9 from rfl)];rw [show bG (af 5) [some E,some R,some W,some (.str len),some tops,some (.list (qs.map (jD cs.Jobs))),none,x7,x8]=.ok (qs.map (jD cs.Jobs)) from rfl];simp only [Rs.ag];rw [if_pos (by rw [L3];omega)];exact nO h qs fun p hp=>hp
 unfold ql;rw [if_pos (show 7<(rnD cs.Jobs E R W tops len qs told x7 x8).length from (by decide:7<9)),hc];rfl
end
def dz (told:List PyData) (js:List Jb):List Jb:=js.filter fun j=>j.there (told.length:Int)
def dP (b:Jb) (js:List Jb):List Jb:=js.map fun j=>if j.num=b.num then b.next else j
def fe (b:Jb):PyData:=.tuple [.int b.num,.int (b.job:Int)]
def eE (tops:PyData) (len:Str) (s:List Jb×List PyData):List Jb×List PyData :=
 if dz s.2 s.1=[] then (s.1,s.2++[.none]) else (dP (jJ tops len (dz s.2 s.1)) s.1,s.2++[fe (jJ tops len (dz s.2 s.1))])
structure QOk (as:List Addr) (qs:List (Addr×Jb)):Prop where
 few:qs.length<=1000
 pl:qs.map (·.1)=as
 nda:as.Nodup
 ndn:(qs.map (·.2.num)).Nodup
 pt:∀ p∈qs,p.2.part<p.2.parts.length
 jb:∀ p∈qs,p.2.job<=p.2.row.length
theorem mH {α β:Type} {f:α->β}:∀ {l:List α},(l.map f).Nodup->∀ x∈l,∀ y∈l,f x=f y->x=y
 | [],_,x,hx,_,_,_=>by cases hx
 | a::r,h,x,hx,y,hy,e=>by
  rw [L5,Mf] at h;rcases L7.mp hx with rfl | hx
  ·rcases L7.mp hy with rfl | hy
   ·rfl
   ·exact (h.1 (L9.mpr ⟨y,by assumption,e.symm⟩)).elim
  ·rcases L7.mp hy with rfl | hy
   ·exact (h.1 (L9.mpr ⟨x,by assumption,e⟩)).elim
   ·exact mH h.2 x hx y hy e
def rnB (cs:Cs) (as:List Addr):Ds->Sr:=(az (ql [6] 7 9 (bG (af 5)) (gT (bx cs.Jobs "is_there" (aQ cs) (af 9) (ae (gF b8 (ae (af 6) ah)) ah))) (af 9) aI)
 (sIf (gT (g2 dEq (gF b8 (ae (af 7) ah)) (gC (.int 0)))) (gK [6] 6 (gC .none)) (az (aL [6] 8 (aq (cN cs) (ae (af 7) (ae (af 4) (ae (af 3) ah)))))
 (az (gK [6] 6 (fD (ae (g1 (bB cs.Jobs "number") (af 8)) (ae (g1 (bB cs.Jobs "job") (af 8)) ah))))
 (kR as cs.Jobs "go_on" 8 fU)))))
section
variable {E R W:PyData} {len:Str} {qs:List (Addr×Jb)}
theorem uK:(qs.filter (cL told)).map (·.2)=dz told (qs.map (·.2)):=by unfold dz;rw [List.filter_map];rfl
theorem FA (K:QOk as qs) (hq:q∈qs) (hj:j=q.2.next):(tJ q.1 j qs).map (·.2)=dP q.2 (qs.map (·.2)):=by
 unfold tJ dP;rw [LW,LW];refine LY fun p hp=>?_
 show (if p.1=q.1 then (q.1,j) else p).2=if p.2.num=q.2.num then q.2.next else p.2
 by_cases z:p.1=q.1
 ·have:p=q:=mH (f:=(·.1)) (by rw [K.pl];exact K.nda) p hp q hq z;rw [if_pos z,if_pos (by rw [this]),hj]
 ·have:p.2.num≠q.2.num:=fun e=>z (by rw [mH (f:=fun x:Addr×Jb=>x.2.num) K.ndn p hp q hq e])
  rw [if_neg z,if_neg this]
theorem FG:(tJ a j qs).map (·.1)=qs.map (·.1):=by
 unfold tJ;rw [LW];refine LY fun p hp=>?_
 show (if p.1=a then (a,j) else p).1=p.1;by_cases z:p.1=a
 ·rw [if_pos z,z]
 ·rw [if_neg z]
theorem E4 (K:QOk as qs) (n:NoD E R W tops told) (hs:tQ len) (ht:∀ p∈qs,∀ t,p.2.held=some t->∃ n:Int,dIx tops (.int t)=some (.int n)) (hl:told.length<1000000) (x7 x8:Option PyData) :
  ∃ qs' y7 y8,rnB cs as (rnD cs.Jobs E R W tops len qs told x7 x8)=.nx (rnD cs.Jobs E R W tops len qs' (eE tops len (qs.map (·.2),told)).2 y7 y8)/\qs'.map (·.1)=qs.map (·.1)/\qs'.map (·.2)=(eE tops len (qs.map (·.2),told)).1:=by
 have hset:=BZ (cs:=cs) (E:=E) (R:=R) (W:=W) (tops:=tops) (len:=len) (told:=told) (x7:=x7) (x8:=x8) K.few K.jb;have hc:gT (g2 dEq (gF b8 (ae (af 7) ah)) (gC (.int 0))) (rnD cs.Jobs E R W tops len qs told (some (.list ((qs.filter (cL told)).map (jD cs.Jobs)))) x8)=.ok (((qs.filter (cL told)).length:Int)==0):=by unfold rnD;simp only [dH,bK,fH,ay,aF,ak,ar,cF,Rs.ag,jI,L3,Rs.ai,jq,aX]
 unfold rnB eE;simp only [aN,hset];have hth:=uK (qs:=qs) (told:=told);by_cases z:qs.filter (cL told)=[]
 ·have ez:(((qs.filter (cL told)).length:Int)==0)=true:=by rw [z];rfl
  have hz:dz told (qs.map (·.2))=[]:=by rw [<-hth,z];rfl
  rw [if_pos hz,cJ,hc];simp only [ez,av,if_true];refine ⟨qs,some (.list ((qs.filter (cL told)).map (jD cs.Jobs))),x8,?_,rfl,rfl⟩;show (if told.length<1000000 then Sr.nx _ else Sr.no)=_;rw [if_pos hl];rfl
 ·have ez:(((qs.filter (cL told)).length:Int)==0)=false:=by rw [beq_eq_false_iff_ne];have:=MJ.mpr z;omega
  have hz:¬ dz told (qs.map (·.2))=[]:=fun e=>z (by rw [<-hth] at e;exact Nw.mp e)
  have hsub:∀ p∈qs.filter (cL told),p∈qs:=fun p hp=>(Md.mp hp).1
  obtain ⟨q,hq,e2,e⟩:=z0 (cs:=cs) (tops:=tops) z (Mv (List.length_filter_le _ _) K.few) (fun p hp=>K.pt p (hsub p hp)) (fun p hp=>ht p (hsub p hp)) hs;rw [hth] at e2;rw [if_neg hz,cJ,hc];simp only [ez,av,M0,if_false];have s8:aL [6] 8 (aq (cN cs) (ae (af 7) (ae (af 4) (ae (af 3) ah)))) (rnD cs.Jobs E R W tops len qs told (some (.list ((qs.filter (cL told)).map (jD cs.Jobs)))) x8)=.nx (rnD cs.Jobs E R W tops len qs told (some (.list ((qs.filter (cL told)).map (jD cs.Jobs)))) (some (jD cs.Jobs q))):=by have hg:aq (cN cs) (ae (af 7) (ae (af 4) (ae (af 3) ah))) (mask [6] (rnD cs.Jobs E R W tops len qs told (some (.list ((qs.filter (cL told)).map (jD cs.Jobs)))) x8))=.ok (jD cs.Jobs q):=e;unfold aL;rw [if_pos (show 8<(rnD cs.Jobs E R W tops len qs told (some (.list ((qs.filter (cL told)).map (jD cs.Jobs)))) x8).length from (by decide:8<9)),hg];rfl
  have f1:bB cs.Jobs "number" (jD cs.Jobs q)=some (.int q.2.num):=xE;have f2:bB cs.Jobs "job" (jD cs.Jobs q)=some (.int (q.2.job:Int)):=tP;have s6:gK [6] 6 (fD (ae (g1 (bB cs.Jobs "number") (af 8)) (ae (g1 (bB cs.Jobs "job") (af 8)) ah))) (rnD cs.Jobs E R W tops len qs told (some (.list ((qs.filter (cL told)).map (jD cs.Jobs)))) (some (jD cs.Jobs q)))=.nx (rnD cs.Jobs E R W tops len qs (told++[fe q.2]) (some (.list ((qs.filter (cL told)).map (jD cs.Jobs)))) (some (jD cs.Jobs q))):=by
   have hg:fD (ae (g1 (bB cs.Jobs "number") (af 8)) (ae (g1 (bB cs.Jobs "job") (af 8)) ah)) (mask [6] (rnD cs.Jobs E R W tops len qs told (some (.list ((qs.filter (cL told)).map (jD cs.Jobs)))) (some (jD cs.Jobs q))))=.ok (fe q.2):=by show fD _ [some E,some R,some W,some (.str len),some tops,some (.list (qs.map (jD cs.Jobs))),none,some (.list ((qs.filter (cL told)).map (jD cs.Jobs))),some (jD cs.Jobs q)]=_;simp only [jz,ay,aF,f9,ak,ar,Rs.ag,f1,f2,Rs.ai];rfl
   show ofR (fD _ (mask [6] _)) (fun d=>if told.length<1000000 then Sr.nx _ else Sr.no)=_;rw [hg];show (if told.length<1000000 then Sr.nx _ else Sr.no)=_;rw [if_pos hl];rfl
  have n':NoD E R W tops (told++[fe q.2]):=⟨n.e,n.r,n.w,n.t,by
   have h1:=n.o;refine eR fun d hd=>?_
   rcases M4.mp hd with hd | hd
   ·exact i9 (by simpa [aH] using h1) d hd
   ·rw [LM.mp hd];rfl⟩
  have ha:q.1∈as:=by rw [<-K.pl];exact L9.mpr ⟨q,hsub q hq,rfl⟩
  have s9:=Ec (cs:=cs) (len:=len) (qs:=qs) (ts:=qs.filter (cL told)) n' ha (K.pt q (hsub q hq));simp only [aN,s8,s6,s9];rw [<-e2];exact ⟨_,_,_,rfl,FG,FA K (hsub q hq) rfl⟩
end
structure JOk (tops:PyData) (j:Jb):Prop where
 pt:j.part<j.parts.length
 jb:j.job<=j.row.length
 ln:∀ p∈j.parts,1<=p.1
 sp:(j.spent:Int)<j.len
 tl:∀ p∈j.parts,∀ t,p.2=some t->∃ n:Int,dIx tops (.int t)=some (.int n)
theorem JOk.held (h:JOk tops j):∀ t,j.held=some t->∃ n:Int,dIx tops (.int t)=some (.int n):=by
 intro t e;have hpt:=h.pt;have hp:j.parts[j.part]?=some j.parts[j.part]:=L1 h.pt;unfold Jb.held Jb.tool at e;rw [hp] at e;by_cases z:j.spent=0
 ·rw [if_pos z] at e;cases e
 ·rw [if_neg z] at e;exact h.tl _ (Mh h.pt) t e
theorem len_pos (h:∀ p∈j.parts,1<=p.1) (hp:j.part<j.parts.length):1<=j.len:=by unfold Jb.len;rw [L1 hp];exact h _ (Mh hp)
theorem Ed (h:JOk tops j) (hj:j.job<j.row.length):JOk tops j.next:=by
 have hpos:0<j.parts.length:=Nat.lt_of_le_of_lt (Mw _) h.pt;have hsp:=h.sp;unfold Jb.next Jb.step1;by_cases z:(j.spent:Int)+1=j.len
 ·rw [if_pos z];unfold Jb.step2;by_cases y:j.part+1=j.parts.length
  ·rw [if_pos (show ({ j with spent:=0,part:=j.part+1 }:Jb).part=({ j with spent:=0,part:=j.part+1 }:Jb).parts.length from y)];refine ⟨hpos,hj,h.ln,?_,h.tl⟩;have:=len_pos (tops:=tops) (j:={ j with spent:=0,part:=0,job:=j.job+1 }) h.ln hpos;show (0:Int)<_;exact NA (by decide) this
  ·rw [if_neg (show ¬ ({ j with spent:=0,part:=j.part+1 }:Jb).part=({ j with spent:=0,part:=j.part+1 }:Jb).parts.length from y)];have hlt:j.part+1<j.parts.length:=by have:=h.pt;omega
   refine ⟨hlt,h.jb,h.ln,?_,h.tl⟩;have:=len_pos (tops:=tops) (j:={ j with spent:=0,part:=j.part+1 }) h.ln hlt;show (0:Int)<_;exact NA (by decide) this
 ·rw [if_neg z];unfold Jb.step2;rw [if_neg (show ¬ ({ j with spent:=j.spent+1 }:Jb).part=({ j with spent:=j.spent+1 }:Jb).parts.length from LR h.pt)];refine ⟨h.pt,h.jb,h.ln,?_,h.tl⟩;show ((j.spent+1:Nat):Int)<j.len;omega
theorem rF (h:js≠[]):ie key js∈js:=by
 have hl:0<js.length:=MJ.mpr h;have hb:=qA (fun i j=>ltD ((js.map key).getD i .none) ((js.map key).getD j .none)) (js.length-1);have hlt:jo (js.map key)<js.length:=by unfold jo;rw [L3];omega
 unfold ie;rw [M1,L1 hlt];exact Mh hlt
theorem mw {len:Str} (h:js≠[]):jJ tops len js∈js:=by
 unfold jJ;split
 ·exact rF h
 ·have hn:=uP (ts:=js.map fun j=>((0:Addr),j)) (by simpa using h);have hm:(js.map fun j=>((0:Addr),j)).map (·.2)=js:=by rw [LW];exact MA js
  rw [hm] at hn;have hf:js.filter (ju js)≠[]:=by
   obtain ⟨p,r,e⟩:=List.exists_cons_of_ne_nil hn;have hp:p∈(js.map fun j=>((0:Addr),j)).filter (fun p=>ju js p.2):=by rw [e];exact L6
   obtain ⟨h1,h2⟩:=Md.mp hp;obtain ⟨j,hj,rfl⟩:=L9.mp h1;exact List.ne_nil_of_mem (Md.mpr ⟨hj,h2⟩)
  exact (Md.mp (rF hf)).1
theorem qf (h:j.there t=true):j.job<j.row.length:=by
 unfold Jb.there at h;by_cases z:j.job<j.row.length
 ·exact z
 ·rw [N2 (by omega)] at h;cases h
theorem oO (j:Jb):j.next.num=j.num:=by unfold Jb.next Jb.step1 Jb.step2;split <;> split <;> rfl
structure xK (tops:PyData) (js:List Jb):Prop where
 ok:∀ j∈js,JOk tops j
 nd:(js.map (·.num)).Nodup
theorem Ab {b:Jb}:(dP b js).map (·.num)=js.map (·.num):=by
 unfold dP;rw [LW];refine LY fun j hj=>?_
 show (if j.num=b.num then b.next else j).num=j.num;by_cases z:j.num=b.num
 ·rw [if_pos z,oO,z]
 ·rw [if_neg z]
theorem uE {len:Str} (h:xK tops js):xK tops (eE tops len (js,told)).1:=by
 unfold eE;by_cases z:dz told js=[]
 ·rw [if_pos z];exact h
 ·rw [if_neg z];have hb:=mw (tops:=tops) (len:=len) z;obtain ⟨hm,ht⟩:=Md.mp hb;refine ⟨fun j hj=>?_,by rw [Ab];exact h.nd⟩;obtain ⟨k,hk,rfl⟩:=L9.mp hj;by_cases y:k.num=(jJ tops len (dz told js)).num
  ·simp only [y,if_true];exact Ed (h.ok _ hm) (qf ht)
  ·simp only [if_neg y];exact h.ok k hk
def ph (tops:PyData) (len:Str):Nat->List Jb×List PyData->Option (List PyData)
 | 0,_=>none
 | n+1,s=>if s.1.all Jb.done=true then some s.2 else ph tops len n (eE tops len s)
def rnC (cs:Cs):Ds->Rs Bool:=gG (gT (gF nV (ae (gL (a8 9 (bG (af 5)) bA (bx cs.Jobs "are_done" (aV cs) (af 9) ah) aI)) ah)))
theorem Dr {len:Str}:(eE tops len s).2.length=s.2.length+1:=by unfold eE;split <;> simp
theorem xf {len:Str} (h:aH (.list s.2)=true):aH (.list (eE tops len s).2)=true:=by
 have h1:∀ d∈s.2,aH d=true:=i9 (by simpa [aH] using h);refine eR fun d hd=>?_
 unfold eE at hd;split at hd
 ·rcases M4.mp hd with hd | hd
  ·exact h1 d hd
  ·rw [LM.mp hd];rfl
 ·rcases M4.mp hd with hd | hd
  ·exact h1 d hd
  ·rw [LM.mp hd];rfl
section
variable {E R W:PyData} {len:Str}
theorem Hx {qs:List (Addr×Jb)} (hl:qs.length<=1000) (hp:qs.map (·.1)=as) (nd:as.Nodup) (h:xK tops (qs.map (·.2))):QOk as qs:=by
 have hm:∀ p∈qs,JOk tops p.2:=fun p hp=>h.ok _ (L9.mpr ⟨p,hp,rfl⟩)
 refine ⟨hl,hp,nd,?_,fun p hp=>(hm p hp).pt,fun p hp=>(hm p hp).jb⟩;have:=h.nd;rw [LW] at this;exact this
theorem u6 (hs:tQ len) (nd:as.Nodup):∀ (n:Nat) (qs:List (Addr×Jb)) (told t:List PyData) (x7 x8:Option PyData),qs.length<=1000->qs.map (·.1)=as->xK tops (qs.map (·.2))->NoD E R W tops told->told.length+n<=1000000->ph tops len n (qs.map (·.2),told)=some t ->
  ∃ qs' y7 y8,bU (rnC cs) (rnB cs as) n (rnD cs.Jobs E R W tops len qs told x7 x8)=.nx (rnD cs.Jobs E R W tops len qs' t y7 y8)
 | 0,_,_,_,_,_,_,_,_,_,_,h=>by cases h
 | n+1,qs,told,t,x7,x8,hl,hp,hj,no,hn,h=>by
  have K:=Hx hl hp nd hj;have hc:rnC cs (rnD cs.Jobs E R W tops len qs told x7 x8)=.ok (!((qs.map (·.2)).all Jb.done)):=cond_of hl;unfold ph at h;unfold bU;rw [hc];simp only [av];cases z:(qs.map (·.2)).all Jb.done with
  | true =>rw [if_pos z] at h;cases h;simp only [Nn,M0,if_false];exact ⟨qs,x7,x8,rfl⟩
  | false =>
   rw [if_neg (by rw [z];exact LX)] at h;simp only [Ni,if_true];obtain ⟨qs',y7,y8,e,f1,f2⟩:=E4 (cs:=cs) K no hs (fun p hp=>(hj.ok _ (L9.mpr ⟨p,hp,rfl⟩)).held) (by omega) x7 x8;rw [e];have hl':qs'.length<=1000:=by have:=congrArg List.length f1;rw [L3,L3] at this;omega
   refine u6 hs nd n qs' _ t y7 y8 hl' (by rw [f1];exact hp) (by rw [f2];exact uE hj) ⟨no.e,no.r,no.w,no.t,xf (s:=(qs.map (·.2),told)) no.o⟩ (by rw [Dr];show told.length+1+n<=_;omega) ?_;rw [f2];exact h
end
def cV (ps:List (Int×Option Int)):Int:=(ps.map (·.1)).sum
theorem fI (p:Int×Option Int) (r:List (Int×Option Int)):cV (p::r)=p.1+cV r:=by unfold cV;rw [L5,Mq]
def Jb.work (j:Jb):Int:=cV j.parts
def Jb.cur (j:Jb):Int:=cV (j.parts.take j.part)+j.spent
def Jb.tot (j:Jb):Int:=j.job*j.work+j.cur
theorem mq:∀ {ps:List (Int×Option Int)} {k:Nat} (h:k<ps.length),cV (ps.take (k+1))=cV (ps.take k)+ps[k].1
 | [],k,h=>by cases h
 | p::r,0,_=>by rw [Nb,List.take_zero,fI];show p.1+cV []=cV []+p.1;omega
 | p::r,k+1,h=>by
  have hk:k<r.length:=by simpa using h
  have ih:=mq (ps:=r) (k:=k) hk;rw [Nb,Nb,fI,fI,ih];show p.1+(cV (r.take k)+r[k].1)=p.1+cV (r.take k)+r[k].1;omega
theorem qj (h:JOk tops j):j.next.tot=j.tot+1:=by
 have hpt:=h.pt;have hlen:j.len=j.parts[j.part].1:=by unfold Jb.len;rw [L1 h.pt];rfl
 have ht:=mq h.pt;unfold Jb.next Jb.step1;by_cases z:(j.spent:Int)+1=j.len
 ·rw [if_pos z];unfold Jb.step2;by_cases y:j.part+1=j.parts.length
  ·rw [if_pos (show ({ j with spent:=0,part:=j.part+1 }:Jb).part=({ j with spent:=0,part:=j.part+1 }:Jb).parts.length from y)];have hw:cV (j.parts.take (j.part+1))=cV j.parts:=by rw [y,List.take_length]
   show ((j.job+1:Nat):Int)*cV j.parts+(cV (j.parts.take 0)+((0:Nat):Int))=(j.job:Int)*cV j.parts+(cV (j.parts.take j.part)+(j.spent:Int))+1;have e0:cV (j.parts.take 0)=0:=rfl;have e1:((j.job+1:Nat):Int)*cV j.parts=(j.job:Int)*cV j.parts+cV j.parts:=by rw [Int.natCast_add,N0];simp
   rw [e0,e1];omega
  ·rw [if_neg (show ¬ ({ j with spent:=0,part:=j.part+1 }:Jb).part=({ j with spent:=0,part:=j.part+1 }:Jb).parts.length from y)];show (j.job:Int)*cV j.parts+(cV (j.parts.take (j.part+1))+((0:Nat):Int))=(j.job:Int)*cV j.parts+(cV (j.parts.take j.part)+(j.spent:Int))+1;omega
 ·rw [if_neg z];unfold Jb.step2;rw [if_neg (show ¬ ({ j with spent:=j.spent+1 }:Jb).part=({ j with spent:=j.spent+1 }:Jb).parts.length from LR h.pt)];show (j.job:Int)*cV j.parts+(cV (j.parts.take j.part)+((j.spent+1:Nat):Int))=(j.job:Int)*cV j.parts+(cV (j.parts.take j.part)+(j.spent:Int))+1;omega
theorem nz:∀ (a b:List (Int×Option Int)),cV (a++b)=cV a+cV b
 | [],b=>by show cV b=0+cV b;omega
 | p::r,b=>by rw [Mc,fI,fI,nz r b];omega
theorem oj:∀ {ps:List (Int×Option Int)},(∀ p∈ps,1<=p.1)->0<=cV ps
 | [],_=>MQ 0
 | p::r,h=>by
  have:=h p L6;have ih:=oj (ps:=r) fun q hq=>h q (L4 _ hq)
  rw [fI];omega
theorem um {ps:List (Int×Option Int)} (h:∀ p∈ps,1<=p.1) (k:Nat):cV (ps.take k)<=cV ps:=by
 have e:=nz (ps.take k) (ps.drop k);rw [List.take_append_drop] at e;have:=oj (ps:=ps.drop k) fun q hq=>h q (N5 hq)
 omega
theorem wm (h:JOk tops j):0<=j.cur/\j.cur<j.work:=by
 have hpt:=h.pt;have hlen:j.len=j.parts[j.part].1:=by unfold Jb.len;rw [L1 h.pt];rfl
 have ht:=mq h.pt;have h1:=um h.ln (j.part+1);have h2:=oj (ps:=j.parts.take j.part) fun q hq=>h.ln q (MB hq)
 have h3:=h.sp;unfold Jb.cur Jb.work;omega
theorem Dq (h:JOk tops j) {k:Nat} (hj:j.job<k):j.tot<(k:Int)*j.work:=by obtain ⟨c0,c1⟩:=wm h;have:=Mg (a:=(j.job:Int)+1) (b:=(k:Int)) (c:=j.work) (by omega) (by omega);rw [N0,Int.one_mul] at this;unfold Jb.tot;omega
theorem jP (j:Jb):j.next.row=j.row:=by unfold Jb.next Jb.step1 Jb.step2;split <;> split <;> rfl
theorem kE (j:Jb):j.next.parts=j.parts:=by unfold Jb.next Jb.step1 Jb.step2;split <;> split <;> rfl
def Jb.left (j:Jb):Nat:=((j.row.length:Int)*j.work-j.tot).toNat
theorem rT (j:Jb):j.next.work=j.work:=by unfold Jb.work;rw [kE]
theorem A6 (h:JOk tops j) (hj:j.job<j.row.length):j.next.left+1=j.left:=by have h1:=qj h;have h2:=Dq h hj;unfold Jb.left;rw [jP,rT,h1];omega
theorem yE {b:Jb}:∀ {r:List Jb},(∀ k∈r,k.num≠b.num)->dP b r=r
 | [],_=>rfl
 | k::t,h=>by show (if k.num=b.num then b.next else k)::dP b t=_;rw [if_neg (h k L6),yE fun x hx=>h x (L4 _ hx)]
theorem md {b:Jb} {r:List Jb} (nd:((j::r).map (·.num)).Nodup) (hb:b∈j::r):(j=b/\dP b (j::r)=b.next::r)\/(j.num≠b.num/\b∈r/\dP b (j::r)=j::dP b r):=by
 rw [L5,Mf] at nd;have e:dP b (j::r)=(if j.num=b.num then b.next else j)::dP b r:=rfl;by_cases z:j.num=b.num
 ·left;have hj:j=b:=by
   rcases L7.mp hb with h | h
   ·exact h.symm
   ·exact (nd.1 (L9.mpr ⟨b,h,z.symm⟩)).elim
  refine ⟨hj,?_⟩;rw [e,if_pos z,yE fun k hk q=>nd.1 (L9.mpr ⟨k,hk,q.trans z.symm⟩)]
 ·right;refine ⟨z,?_,by rw [e,if_neg z]⟩;rcases L7.mp hb with h | h
  ·exact (z (by rw [h])).elim
  ·exact h
theorem wC {f:Jb->Nat} {b:Jb}:∀ {js:List Jb},(js.map (·.num)).Nodup->b∈js->f b.next+1=f b->((dP b js).map f).sum+1=(js.map f).sum
 | [],_,hb,_=>by cases hb
 | j::r,nd,hb,hf=>by
  rcases md nd hb with ⟨hj,e⟩ | ⟨_,hb',e⟩
  ·rw [e,L5,L5,Mq,Mq,hj];omega
  ·rw [L5,Mf] at nd;have:=wC nd.2 hb' hf;rw [e,L5,L5,Mq,Mq];omega
def zr (js:List Jb):Nat:=(js.map Jb.left).sum
theorem iL {b k:Jb} (hb:b∈js) (hk:k∈dP b js):k∈js\/k=b.next:=by
 obtain ⟨j,hj,rfl⟩:=L9.mp hk;by_cases z:j.num=b.num
 ·right;exact if_pos z
 ·left;rw [if_neg z];exact hj
theorem kn {len:Str} (z:dz told js=[]):eE tops len (js,told)=(js,told++[.none]):=by unfold eE;exact if_pos z
theorem me {len:Str} (z:dz told js≠[]):∃ b,b∈js/\b.there (told.length:Int)=true/\eE tops len (js,told)=(dP b js,told++[fe b]):=by obtain ⟨hm,ht⟩:=Md.mp (mw (tops:=tops) (len:=len) z);refine ⟨_,hm,ht,?_⟩;unfold eE;exact if_neg z
theorem EX (h:JOk tops j) (hd:j.done=false):j.job<j.row.length:=by have:=h.jb;unfold Jb.done at hd;rw [beq_eq_false_iff_ne] at hd;omega
theorem pW {tops:PyData} {len:Str} {B:Nat}:∀ (n:Nat) (js:List Jb) (told:List PyData),xK tops js->(∀ j∈js,∀ c∈j.row,c<(B:Int))->zr js+(B-told.length)<n->∃ t,ph tops len n (js,told)=some t
 | 0,_,_,_,_,hn=>by omega
 | n+1,js,told,h,hr,hn=>by
  unfold ph;by_cases z:js.all Jb.done=true
  ·exact ⟨told,if_pos z⟩
  ·rw [if_neg (show ¬ ((js,told).1.all Jb.done=true) from z)];by_cases y:dz told js=[]
   ·rw [kn y];refine pW n js _ h hr ?_;rw [LU] at z;obtain ⟨j,hj⟩:=Classical.not_forall.mp z;obtain ⟨hm,hd⟩:=Classical.not_imp.mp hj;have hlt:=EX (h.ok j hm) (Bool.eq_false_iff.mpr hd);have hc:=hr j hm _ (Mh hlt);have ht:¬ j.there (told.length:Int)=true:=fun e=>by have:j∈dz told js:=Md.mpr ⟨hm,e⟩;rw [y] at this;cases this
    unfold Jb.there at ht;rw [L1 hlt] at ht;simp only [decide_eq_true_eq] at ht;rw [LL,M9];omega
   ·obtain ⟨b,hb,ht,e⟩:=me (tops:=tops) (len:=len) y;have ok':=uE (len:=len) (told:=told) h;rw [e] at ok' ⊢;have hs:=wC (f:=Jb.left) h.nd hb (A6 (h.ok _ hb) (qf ht));refine pW (B:=B) n _ _ ok' (fun k hk=>?_) ?_
    ·rcases iL hb hk with hk | rfl
     ·exact hr k hk
     ·rw [jP];exact hr b hb
    ·rw [LL,M9];unfold zr at hn ⊢;omega
def iU (r:List Int) (t:Int):Nat:=(r.filter fun c=>decide (c<=t)).length
theorem fJ (a:Int) (s:List Int) (t:Int):iU (a::s) t=(if a<=t then 1 else 0)+iU s t:=by
 unfold iU;rw [MU];by_cases z:a<=t
 ·rw [if_pos (decide_eq_true z),if_pos z,LS];omega
 ·rw [if_neg (by simpa using z),if_neg z];omega
theorem DE (r:List Int) (t:Int):iU r t<=r.length:=List.length_filter_le _ _
theorem sg {t u:Int} (h:t<=u):∀ r:List Int,iU r t<=iU r u
 | []=>LK _
 | a::s=>by
  have ih:=sg h s;rw [fJ,fJ];by_cases z:a<=t
  ·rw [if_pos z,if_pos (by omega)];omega
  ·rw [if_neg z];omega
theorem qX {t:Int}:∀ {r:List Int},(∀ c∈r,t<c)->iU r t=0
 | [],_=>rfl
 | a::s,h=>by have:=h a L6;rw [fJ,if_neg (by omega),qX fun c hc=>h c (L4 _ hc)]
theorem zV {t:Int}:∀ {r:List Int} {k:Nat} (hk:k<r.length),r.Pairwise (· < ·)->t<r[k]->iU r t<=k
 | [],_,hk,_,_=>by cases hk
 | a::s,0,_,hp,h=>by rw [Nh] at hp;have h:t<a:=h;have:=hp.1;rw [fJ,if_neg (by omega),qX fun c hc=>Int.lt_trans h (this c hc)];exact LK _
 | a::s,k+1,hk,hp,h=>by
  rw [Nh] at hp;have hk':k<s.length:=by simpa using hk
  have ih:=zV hk' hp.2 (show t<s[k] from h);rw [fJ];split <;> omega
theorem zL {t:Int}:∀ {r:List Int} {k:Nat} (hk:k<r.length),r.Pairwise (· < ·)->r[k]<=t->k<iU r t
 | [],_,hk,_,_=>by cases hk
 | a::s,0,_,hp,h=>by have h:a<=t:=h;rw [fJ,if_pos h];omega
 | a::s,k+1,hk,hp,h=>by
  rw [Nh] at hp;have hk':k<s.length:=by simpa using hk
  have h:s[k]<=t:=h;have ih:=zL hk' hp.2 h;have:=hp.1 _ (Mh hk');rw [fJ,if_pos (by omega)];omega
def fZ (t:Int) (j:Jb):Int:=(iU j.row t:Int)*j.work-j.tot
structure IvJ (tops:PyData) (t:Int) (js:List Jb):Prop where
 ok:xK tops js
 srt:∀ j∈js,j.row.Pairwise (· < ·)
 low:∀ j∈js,0<=fZ t j
theorem xy (h:JOk tops j) (hs:j.row.Pairwise (· < ·)) (ht:j.there t=true):0<fZ t j:=by have hlt:=qf ht;unfold Jb.there at ht;rw [L1 hlt] at ht;have:=Dq h (zL hlt hs (of_decide_eq_true ht));unfold fZ;omega
theorem CT (h:JOk tops j) (hs:j.row.Pairwise (· < ·)) (hl:0<=fZ t j) (ht:j.there t=false):fZ t j=0:=by
 have hc:iU j.row t<=j.job:=by
  by_cases z:j.job<j.row.length
  ·unfold Jb.there at ht;rw [L1 z] at ht;have:=of_decide_eq_false ht;exact zV z hs (by omega)
  ·have:=DE j.row t;omega
 obtain ⟨c0,c1⟩:=wm h;have:=Mg (a:=(iU j.row t:Int)) (b:=(j.job:Int)) (c:=j.work) (by omega) (by omega);unfold fZ Jb.tot at hl ⊢;omega
theorem mQ {u:Int} (htu:t<=u) (h:JOk tops j):fZ t j<=fZ u j:=by have h1:=sg htu j.row;have h2:=wm h;have:=Mg (a:=(iU j.row t:Int)) (b:=(iU j.row u:Int)) (c:=j.work) (by omega) (by omega);unfold fZ;omega
theorem E9 {len:Str} (h:IvJ tops (told.length:Int) js):IvJ tops ((eE tops len (js,told)).2.length:Int) (eE tops len (js,told)).1:=by
 have ok':=uE (len:=len) (told:=told) h.ok;by_cases z:dz told js=[]
 ·rw [kn z] at ok' ⊢;refine ⟨ok',h.srt,fun j hj=>?_⟩;have:=h.low j hj;have:=mQ (u:=(((told++[PyData.none]).length:Nat):Int)) (t:=(told.length:Int)) (by rw [LL];omega) (h.ok.ok j hj);show 0<=fZ (((told++[PyData.none]).length:Nat):Int) j;omega
 ·obtain ⟨b,hb,ht,e⟩:=me (tops:=tops) (len:=len) z;rw [e] at ok' ⊢;refine ⟨ok',fun j hj=>?_,fun j hj=>?_⟩
  ·rcases iL hb hj with hj | rfl
   ·exact h.srt j hj
   ·rw [jP];exact h.srt b hb
  ·show 0<=fZ (((told++[fe b]).length:Nat):Int) j;rcases iL hb hj with hj | rfl
   ·have:=h.low j hj;have:=mQ (u:=(((told++[fe b]).length:Nat):Int)) (t:=(told.length:Int)) (by rw [LL];omega) (h.ok.ok j hj);omega
   ·have h2:=xy (h.ok.ok b hb) (h.srt b hb) ht;have h3:=mQ (u:=(((told++[fe b]).length:Nat):Int)) (t:=(told.length:Int)) (by rw [LL];omega) (h.ok.ok b hb);have h4:=qj (h.ok.ok b hb);unfold fZ at h2 h3 ⊢;rw [jP,rT,h4];omega
def eI (j:Jb):Int×List (Int×Option Int)×List Int:=(j.num,j.parts,j.row)
theorem mX {b:Jb}:∀ {js:List Jb},(js.map (·.num)).Nodup->b∈js->(dP b js).map eI=js.map eI
 | [],_,hb=>by cases hb
 | j::r,nd,hb=>by
  rcases md nd hb with ⟨hj,e⟩ | ⟨_,hb',e⟩
  ·rw [e,L5,L5,hj];unfold eI;rw [oO,kE,jP]
  ·rw [L5,Mf] at nd;rw [e,L5,L5,mX nd.2 hb']
theorem sk {tops:PyData} {b:Jb}:∀ {js:List Jb},(js.map (·.num)).Nodup->b∈js->JOk tops b->∀ (i:Nat) (hi:i<js.length),js[i].num=b.num->(dP b js).map Jb.tot=(js.map Jb.tot).set i (b.tot+1)
 | [],_,hb,_,_,_,_=>by cases hb
 | j::r,nd,hb,hk,i,hi,hn=>by
  rcases md nd hb with ⟨hj,e⟩ | ⟨hne,hb',e⟩
  ·rw [L5,Mf] at nd;cases i with
   | zero=>rw [e,L5,L5,MZ,qj hk]
   | succ i =>
    have hi':i<r.length:=by simpa using hi
    have hn:r[i].num=b.num:=hn;exact (nd.1 (L9.mpr ⟨r[i],Mh hi',by rw [hn,hj]⟩)).elim
  ·cases i with
   | zero=>exact (hne hn).elim
   | succ i =>
    have hi':i<r.length:=by simpa using hi
    have hn:r[i].num=b.num:=hn;rw [L5,Mf] at nd;rw [e,L5,L5,MY,sk nd.2 hb' hk i hi' hn]
theorem dJ {g:Ds->Rs PyData} {d:PyData} (hi:i<δ.length) (hg:g (mask O δ)=.ok d):aL O i g δ=.nx (δ.set i (some d)):=by unfold aL;rw [if_pos hi,hg];rfl
def mkJ (es:List Er) (rs:List Int) (k:Nat) (row:List Int):Jb:=⟨(k:Int),(aS es (k:Int)).parts,(placeOf rs (k:Int):Int),row,0,0,0⟩
def startJ (es:List Er) (rs:List Int) (rows:List (List Int)):List Jb:=rows.mapIdx (mkJ es rs)
section
theorem l9 (i:Nat):(startJ es rs rows)[i]?=(rows[i]?).map (mkJ es rs i):=MR
theorem dG (h:j∈startJ es rs rows):∃ (k:Nat) (row:List Int),k<rows.length/\row∈rows/\rows[k]?=some row/\j=mkJ es rs k row:=by obtain ⟨k,hk⟩:=List.mem_iff_getElem?.mp h;rw [l9] at hk;obtain ⟨row,hr,e⟩:=MP.mp hk;exact ⟨k,row,(M8.mp hr).1,Mi hr,hr,e.symm⟩
theorem d8:(startJ es rs rows).length=rows.length:=List.length_mapIdx
theorem xJ:(startJ es rs rows).map (·.num)=(List.range rows.length).map fun (k:Nat)=>(k:Int) :=
 Nr (by simp [startJ]) (fun i h1 h2=>by simp [startJ,mkJ])
theorem xI:(startJ es rs rows).map (·.row)=rows :=
 Nr (by simp [startJ]) (fun i h1 h2=>by simp [startJ,mkJ])
theorem Eo (n:Nat):((List.range n).map fun (k:Nat)=>(k:Int)).Nodup:=List.Pairwise.map _ (fun a b h e=>h (by omega)) List.nodup_range
theorem m8 (k:Nat) (row:List Int):(mkJ es rs k row).tot=0:=by show ((0:Nat):Int)*_+(cV (List.take 0 _)+((0:Nat):Int))=0;rw [List.take_zero];have:cV []=0:=rfl;rw [this];simp
end
theorem ue:∀ {ps:List (Int×Option Int)},(∀ p∈ps,p.1<=20)->cV ps<=20*(ps.length:Int)
 | [],_=>MQ 0
 | p::r,h=>by
  have:=h p L6;have ih:=ue (ps:=r) fun q hq=>h q (L4 _ hq)
  rw [fI,LS];omega
theorem zw {α:Type} (f:α->Nat) {c:Nat}:∀ {l:List α},(∀ x∈l,f x<=c)->(l.map f).sum<=l.length*c
 | [],_=>Mw _
 | a::r,h=>by
  have h1:=h a L6;have ih:=zw f (l:=r) fun x hx=>h x (L4 _ hx)
  rw [L5,Mq,LS,Nat.add_mul];omega
theorem xw (t0:0<=t) (t3:t<=3) (h:bE es rs t=some n):dIx (aZ es rs) (.int t)=some (.int n):=by
 obtain ⟨m,rfl⟩:∃ m:Nat,t=(m:Int):=⟨t.toNat,by omega⟩
 show atI ((List.range 4).map fun (t:Nat)=>bg (bE es rs t)) (m:Int)=_;refine oh ?_;rw [LQ,Na (by omega),MF,h];rfl
theorem qJ (es:List Er) (rs:List Int):aH (aZ es rs)=true:=eR fun d hd=>by obtain ⟨t,_,rfl⟩:=L9.mp hd;exact sF _
structure Ran (es:List Er) (rs:List Int) (rows:List (List Int)) (len:Str):Prop where
 eok:yd es
 rok:cf es.length rs
 ln:rows.length=es.length
 le:tQ len
def kO (es:List Er) (rs:List Int) (rows:List (List Int)) (len:Str):Option (List PyData):=ph (aZ es rs) len 1000000 (startJ es rs rows,[])
section
variable {len:Str} {t:List PyData}
theorem kY (h:yd es) (hr:cf es.length rs) (hl:rows.length=es.length):xK (aZ es rs) (startJ es rs rows):=by
 refine ⟨fun j hj=>?_,by rw [xJ];exact Eo _⟩;obtain ⟨k,row,hk,_,_,rfl⟩:=dG hj;have h0:(0:Int)<=(k:Int):=by omega
 have h1:(k:Int)<es.length:=by omega
 have ok:=h.ok _ (bV h0 h1);have hpos:0<(aS es (k:Int)).parts.length:=MJ.mpr ok.p1;refine ⟨hpos,Mw _,fun p hp=>(ok.pl p hp).1,?_,fun p hp u hu=>?_⟩
 ·have:=len_pos (tops:=.none) (j:=mkJ es rs k row) (fun p hp=>(ok.pl p hp).1) hpos;show (0:Int)<_;exact NA (by decide) this
 ·obtain ⟨t0,t3⟩:=(ok.pl p hp).2.2 u hu;have hh:(aS es (k:Int)).has u=true:=by unfold Er.has;rw [Nq];exact ⟨p,hp,by rw [hu];exact beq_self_eq_true _⟩
  obtain ⟨n,hn⟩:=oV es u rs 0 (k:Int) (hr.mem h0 h1) hh;exact ⟨n,xw t0 t3 hn⟩
theorem Dh (R:Ran es rs rows len) (C:Cms es rows):∃ t,kO es rs rows len=some t:=by
 have hri:=C.rm;refine pW (B:=10000) 1000000 _ [] (kY R.eok R.rok R.ln) (fun j hj c hc=>?_) ?_
 ·obtain ⟨k,row,_,hm,_,rfl⟩:=dG hj;have:=(hri row hm).hi c hc;omega
 ·have hs:zr (startJ es rs rows)<=(startJ es rs rows).length*4800:=zw Jb.left fun j hj=>by
   obtain ⟨k,row,hk,hm,_,rfl⟩:=dG hj;have ok:=R.eok.ok _ (bV (n:=(k:Int)) (by omega) (by have:=R.ln;omega));have h1:=ue fun p hp=>(ok.pl p hp).2.1
   have h2:=ok.p2;have h3:=(hri row hm).few;have h4:=oj fun p hp=>(ok.pl p hp).1
   unfold Jb.left;rw [m8];have h5:((mkJ es rs k row).row.length:Int)*(mkJ es rs k row).work<=60*80:=Int.mul_le_mul (by show (row.length:Int)<=60;omega) (by show cV (aS es (k:Int)).parts<=80;omega) h4 (by decide);omega
  rw [d8] at hs;have h6:=R.eok.l6;have h7:=R.ln;show zr (startJ es rs rows)+(10000-0)<1000000;have h8:rows.length*4800<=6*4800:=Nat.mul_le_mul_right _ (by omega);omega
end
def fsJ (j:Jb):List PyData:=[.int j.num,.tuple (j.parts.map aJ),.int j.rank,df j.row]
theorem wM (h:∀ j∈js,j.job=0/\j.part=0/\j.spent=0):kB C JN JT as (js.map fsJ)=(as.zip js).map (jD C):=by
 unfold kB;rw [List.zip_map_right,LW];refine LY fun p hp=>?_
 obtain ⟨h1,h2,h3⟩:=h p.2 (Nc (a:=p.1) (b:=p.2) hp).2;show cA C p.1 (JN.zip (fsJ p.2)++tlD JT)=cA C p.1 p.2.fds;unfold Jb.fds;rw [h1,h2,h3];rfl
section
variable {len:Str} {t:List PyData}
theorem Fj (R:Ran es rs rows len) (hr:kO es rs rows len=some t) (hl:as.length=rows.length) (nd:as.Nodup) :
  iZ cs aR (aV cs) (cN cs) (aQ cs) fU as [some (aw es),some (au rs),some (cmD rows),some (.str len),some (aZ es rs),some (.list ((as.zip (startJ es rs rows)).map (jD cs.Jobs))),none,none,none]=.rt (.list t):=by
 have hz1:(as.zip (startJ es rs rows)).map (·.1)=as:=List.map_fst_zip (by rw [d8,hl];exact LK _);have hz2:(as.zip (startJ es rs rows)).map (·.2)=startJ es rs rows:=List.map_snd_zip (by rw [d8,hl];exact LK _);obtain ⟨qs',y7,y8,e⟩:=u6 (cs:=cs) (E:=aw es) (R:=au rs) (W:=cmD rows) (tops:=aZ es rs) (len:=len) (as:=as) R.le nd 1000000 (as.zip (startJ es rs rows)) [] t none none
  (by rw [List.length_zip,d8];have:=R.eok.l6;have:=R.ln;omega) hz1 (by rw [hz2];exact kY R.eok R.rok R.ln) ⟨rC es,oF rs,qt rows,qJ es rs,eR fun d hd=>by cases hd⟩ (by rw [ME];omega) (by rw [hz2];exact hr)
 have s1:eU [6] 6 ah [some (aw es),some (au rs),some (cmD rows),some (.str len),some (aZ es rs),some (.list ((as.zip (startJ es rs rows)).map (jD cs.Jobs))),none,none,none]=.nx (rnD cs.Jobs (aw es) (au rs) (cmD rows) (aZ es rs) len (as.zip (startJ es rs rows)) [] none none):=rfl;show az (eU [6] 6 ah) (az (fun δ=>bU (rnC cs) (rnB cs as) 1000000 δ) (bj (af 6))) _=_;rw [aN,s1];show (match bU (rnC cs) (rnB cs as) 1000000 (rnD cs.Jobs (aw es) (au rs) (cmD rows) (aZ es rs) len (as.zip (startJ es rs rows)) [] none none) with
  | .nx δ'=>bj (af 6) δ'
  | r=>r)=_
 rw [e];rfl
end
def CG:PyData->List Int
 | .list xs=>(fG xs).getD []
 | _=>[]
def Ck:PyData->List (List Int)
 | .list l=>l.map CG
 | _=>[]
theorem BU (rows:List (List Int)):Ck (cmD rows)=rows:=by
 show (rows.map df).map CG=rows;rw [LW];have:∀ r∈rows,(CG∘df) r=id r:=fun r _=>by show (fG (r.map PyData.int)).getD []=r;rw [eX];rfl
 rw [LY this,MA]
def lenOf:PyData->Str
 | .str s=>s
 | _=>""
def BI (d r c l:PyData):PyData:=match kO (cQ d) (cq r) (Ck c) (lenOf l) with
 | some t=>.list t
 | none=>.none
theorem sS {len:Str} {t:List PyData} (hr:kO es rs rows len=some t):BI (aw es) (au rs) (cmD rows) (.str len)=.list t:=by unfold BI;rw [eW,dY,BU,show lenOf (.str len)=len from rfl,hr]
def atD (δ:Ds) (i:Nat):PyData:=((δ[i]?).getD none).getD .none
open Classical in
def kX:Ds->Sr:=fun δ=>if ∃ es rs rows len t,Ran es rs rows len/\kO es rs rows len=some t/\δ=[some (aw es),some (au rs),some (cmD rows),some (.str len),some (aZ es rs),none,none,none,none] then .rt (BI (atD δ 0) (atD δ 1) (atD δ 2) (atD δ 3)) else .no
theorem GJ {len:Str} {t:List PyData} (R:Ran es rs rows len) (hr:kO es rs rows len=some t):kX [some (aw es),some (au rs),some (cmD rows),some (.str len),some (aZ es rs),none,none,none,none]=.rt (.list t):=by unfold kX;rw [if_pos ⟨es,rs,rows,len,t,R,hr,rfl⟩];exact congrArg Sr.rt (sS hr)
theorem El (cs:Cs):∀ δ,kX δ≠.no->∃ d ds fss,kX δ=.rt d/\5<δ.length/\δ.length=9/\(iG (ae (af 2) ah)) (mask [6] δ)=.ok ds/\ds.length<=1000000/\fss.length=ds.length/\(∀ (i:Nat) d,ds[i]?=some d->∃ ow fs,jX d=some ow/\fss[i]?=some fs/\(ae (af 9) (ae (g2 dIx (g2 dIx (af 0) (af 9)) (gC (.int 3))) (ae (kI (af 1) (af 9)) (ae (af 10) ah)))) (mask [6] δ++ow)=.ok fs/\fs.length=JN.length) /\
   ∀ as:List Addr,as.length=ds.length->as.Nodup->iZ cs aR (aV cs) (cN cs) (aQ cs) fU as (δ.set 5 (some (.list (kB cs.Jobs JN JT as fss))))=.rt d:=by
 intro δ hne;by_cases hx:∃ es rs rows len t,Ran es rs rows len/\kO es rs rows len=some t/\δ=[some (aw es),some (au rs),some (cmD rows),some (.str len),some (aZ es rs),none,none,none,none]
 ·obtain ⟨es,rs,rows,len,t,R,hr,rfl⟩:=hx;have hln:=R.ln;refine ⟨.list t,iw (rows.map df),(startJ es rs rows).map fsJ,GJ R hr,(by decide:5<9),rfl,rfl,?_,?_,?_,?_⟩
  ·rw [j6,L3];have:=R.eok.l6;omega
  ·rw [j6,L3,L3,d8]
  ·intro i d hd;unfold iw at hd;rw [MR,LQ] at hd;cases q:rows[i]? with
   | none=>rw [q] at hd;cases hd
   | some row =>
    rw [q] at hd;have hd':some (PyData.tuple [.int (i:Int),df row])=some d:=hd;cases hd';have hi:=(M8.mp q).1;have h0:(0:Int)<=(i:Int):=by omega
    have h1:(i:Int)<es.length:=by omega
    refine ⟨[some (.int (i:Int)),some (df row)],fsJ (mkJ es rs i row),rfl,?_,?_,rfl⟩
    ·rw [LQ,l9,q];rfl
    ·have a1:dIx (aw es) (.int (i:Int))=some (aS es (i:Int)).d:=ij h0 h1;have a2:=FO (aS es (i:Int));have a3:=iu (R.rok.mem h0 h1);show (ae (af 9) (ae (g2 dIx (g2 dIx (af 0) (af 9)) (gC (.int 3))) (ae (kI (af 1) (af 9)) (ae (af 10) ah)))) [some (aw es),some (au rs),some (cmD rows),some (.str len),some (aZ es rs),none,none,none,none,some (.int (i:Int)),some (df row)]=_;simp only [ay,aF,bK,ak,ar,cF,tO,Rs.ag,a1,a2,Rs.ai,au,a3];rfl
  ·intro as hal nd;rw [j6,L3] at hal;rw [wM fun j hj=>by obtain ⟨k,row,_,_,_,rfl⟩:=dG hj;exact ⟨rfl,rfl,rfl⟩];exact Fj R hr hal nd
 ·unfold kX at hne;rw [if_neg hx] at hne;exact absurd rfl hne
open Classical in
def eC (cs:Cs):Gf:=fun ds=>if ∃ es rs rows len t,Ran es rs rows len/\kO es rs rows len=some t/\ds=[aw es,au rs,cmD rows,.str len] then .ok (BI (ds.getD 0 .none) (ds.getD 1 .none) (ds.getD 2 .none) (ds.getD 3 .none)) else .no
theorem lZ {len:Str} {t:List PyData} (R:Ran es rs rows len) (hr:kO es rs rows len=some t):eC cs [aw es,au rs,cmD rows,.str len]=.ok (.list t):=by unfold eC;rw [if_pos ⟨es,rs,rows,len,t,R,hr,rfl⟩];exact congrArg Rs.ok (sS hr)
theorem CO (cs:Cs):∀ ds,ds.length=4->eC cs ds≠.no->bc (az (aL [6] 4 (aq aR (ae (af 0) (ae (af 1) ah)))) kX (ds.map some++List.replicate 5 none))=eC cs ds:=by
 intro ds hl hne;by_cases hx:∃ es rs rows len t,Ran es rs rows len/\kO es rs rows len=some t/\ds=[aw es,au rs,cmD rows,.str len]
 ·obtain ⟨es,rs,rows,len,t,R,hr,rfl⟩:=hx;rw [lZ R hr];have hh:=fK (es:=es) (rs:=rs) (by have:=R.eok.l6;omega) (fun e he=>(R.eok.ok e he).sh) R.rok;have s1:aL [6] 4 (aq aR (ae (af 0) (ae (af 1) ah))) [some (aw es),some (au rs),some (cmD rows),some (.str len),none,none,none,none,none]=.nx [some (aw es),some (au rs),some (cmD rows),some (.str len),some (aZ es rs),none,none,none,none]:=by have hg:aq aR (ae (af 0) (ae (af 1) ah)) (mask [6] [some (aw es),some (au rs),some (cmD rows),some (.str len),none,none,none,none,none])=.ok (aZ es rs):=hh;exact dJ (by decide:4<9) hg
  show bc (az (aL [6] 4 (aq aR (ae (af 0) (ae (af 1) ah)))) kX [some (aw es),some (au rs),some (cmD rows),some (.str len),none,none,none,none,none])=_;rw [aN,s1];simp only;rw [GJ R hr];rfl
 ·exfalso;apply hne;unfold eC;rw [if_neg hx]
open Classical in
def de (cs:Cs):Gf:=fun ds=>if ∃ es rs rows len t,Ran es rs rows len/\Cms es rows/\kO es rs rows len=some t/\ds=[aw es,au rs,cmD rows,.str len] then .ok (BI (ds.getD 0 .none) (ds.getD 1 .none) (ds.getD 2 .none) (ds.getD 3 .none)) else .no
theorem kg {len:Str} {t:List PyData} (R:Ran es rs rows len) (C:Cms es rows) (hr:kO es rs rows len=some t):de cs [aw es,au rs,cmD rows,.str len]=.ok (.list t):=by unfold de;rw [if_pos ⟨es,rs,rows,len,t,R,C,hr,rfl⟩];exact congrArg Rs.ok (sS hr)
theorem Kh (cs:Cs):LLq (yA cs (bu cs) (eC cs) (aW cs) (br cs)) 4 0 (de cs):=by
 intro ds hl hne;by_cases hx:∃ es rs rows len t,Ran es rs rows len/\Cms es rows/\kO es rs rows len=some t/\ds=[aw es,au rs,cmD rows,.str len]
 ·obtain ⟨es,rs,rows,len,t,R,C,hr,rfl⟩:=hx;rw [kg R C hr];have k1:=iA cs R.eok.l1 R.eok.l6 R.eok.ok;have k2:=gA cs R.eok.l6 R.rok;have k3:=fE (cs:=cs) R.eok C;have k4:=lZ (cs:=cs) R hr;show bc (yA cs (bu cs) (eC cs) (aW cs) (br cs) [some (aw es),some (au rs),some (cmD rows),some (.str len)])=_;unfold yA;simp only [aN,om,bh,ay,aF,ak,ar,Rs.ag,k1,k2,k3,k4,av,bW,aU]
 ·exfalso;apply hne;unfold de;rw [if_neg hx]
end RS
variable {js ks ts:List RS.Jb}
namespace L2
open PySem PySem.Spec PyProof.Rows
end L2
namespace RS
open PySem L2
variable {tgt:PyData->Ds->Option Ds} {j:Jb} {a:Int}
theorem vO:∀ a b:List Int,PyData.eqvAll (a.map PyData.int) (b.map PyData.int)=decide (a=b)
 | [],[]=>by simp [PyData.eqvAll]
 | [],_::_=>by simp [PyData.eqvAll]
 | _::_,[]=>by simp [PyData.eqvAll]
 | x::a,y::b=>by
  have h:(x==y)=decide (x=y):=by by_cases z:x=y <;> simp [z]
  simp [PyData.eqvAll,PyData.eqv,vO a b,h]
theorem Es (a b:List Int):dNe (.list (a.map PyData.int)) (.list (b.map PyData.int))=some (.bool (!decide (a=b))):=by unfold dNe;rw [eR (kP a),eR (kP b),shaped_ints,shaped_ints];simp [PyData.eqv,vO]
def hvS (every late m:Int) (row:List Int):Int:=row.foldl (fun m c=>(if c-late>m then c-late else m)+every) m
theorem zE (every late:Int):∀ (row:List Int) (m c:Int),hvM every late m row=true->¬ c<(if c-late>hvS every late m row then c-late else hvS every late m row)->hvM every late m (row++[c])=true
 | [],m,c,_,h=>by show (if c<(if c-late>m then c-late else m) then false else true)=true;exact if_neg h
 | a::r,m,c,h1,h=>by
  rw [Mc];unfold hvM at h1 ⊢;by_cases z:a<(if a-late>m then a-late else m)
  ·rw [if_pos z] at h1;cases h1
  ·rw [if_neg z] at h1 ⊢;exact zE every late r _ c h1 h
structure CrI (every late span:Int) (made:List Int) (moment:Int):Prop where
 lo:-late<=moment
 hv:hvM every late (0-late) made=true
 ea:hvS every late (0-late) made<=moment
 la:∀ c,made.getLast?=some c->c+1<=moment+late
 c0:∀ c∈made,0<=c
 c1:∀ c∈made,c<span
theorem Fi {every late moment moment' c:Int} {made:List Int} (h:CrI every late span made moment) (hs:moment+late<span) (h0:0<=c) (h1:moment<=c) (h2:c<=moment+late) (he:1<=every) (hl:0<=late) (hx:moment+every<=moment'):CrI every late span (made++[c]) moment':=by
 have hea:=h.ea;have hlo:=h.lo;refine ⟨by omega,zE every late made _ c h.hv (by split <;> omega),?_,fun d hd=>?_,fun d hd=>?_,fun d hd=>?_⟩
 ·unfold hvS at hea ⊢;rw [List.foldl_append];show (if c-late>List.foldl _ _ made then c-late else List.foldl _ _ made)+every<=moment';split <;> omega
 ·rw [List.getLast?_concat] at hd;cases hd;omega
 ·rcases M4.mp hd with hd | hd
  ·exact h.c0 d hd
  ·rw [LM.mp hd];exact h0
 ·rcases M4.mp hd with hd | hd
  ·exact h.c1 d hd
  ·rw [LM.mp hd];omega
theorem BS {every late:Int} {moment:Int} (h:-late<=moment):CrI every late span [] moment:=⟨h,rfl,by show 0-late<=moment;omega,fun c hc=>(by cases hc),fun c hc=>(by cases hc),fun c hc=>(by cases hc)⟩
theorem rN {every late:Int} (hl:late<every) (h0:0<=late):∀ (row:List Int) (m:Int),hvM every late m row=true->(∀ c∈row,m<=c)/\row.Pairwise (· < ·)
 | [],_,_=>⟨fun c hc=>(by cases hc),List.Pairwise.nil⟩
 | a::r,m,h=>by
  unfold hvM at h;by_cases z:a<(if a-late>m then a-late else m)
  ·rw [if_pos z] at h;cases h
  ·rw [if_neg z] at h;obtain ⟨h1,h2⟩:=rN hl h0 r _ h;have hm:m<=a:=by split at z <;> omega
   have hlt:∀ c∈r,a<c:=fun c hc=>by have:=h1 c hc;split at this <;> omega
   refine ⟨fun c hc=>?_,Nh.mpr ⟨hlt,h2⟩⟩;rcases L7.mp hc with e | hc
   ·rw [e];exact hm
   ·have:=hlt c hc;omega
theorem EZ {g:Ds->Rs PyData} {d:PyData} (hi:i<δ.length) (hg:g δ=.ok d) (hn:fg d=true):oJ i g δ=.nx (δ.set i (some d)):=by unfold oJ;rw [if_pos hi,hg,av,if_pos hn]
theorem KY (k:Int):bY (.int 104729) (.int k)=some (.int (104729*k)):=qh (by decide) (by decide)
theorem JY (k:Int):bY (.int 7919) (.int k)=some (.int (7919*k)):=qh (by decide) (by decide)
theorem JR (a:Int):bY (.int a) (.int 48271)=some (.int (a*48271)):=xv (by decide) (by decide)
theorem JS (a:Int):eK (.int a) (.int 2147483647)=some (.int (a % 2147483647)):=by rw [rg,if_pos (by decide)]
theorem Kd {k:Int} (h0:0<=k) (h1:k<=60):bY (.int a) (.int k)=some (.int (a*k)):=xv (by omega) (by omega)
theorem Df {seed k:Int} (h4:af 4 δ=.ok (.int seed)) (h7:af 7 δ=.ok (.int k)) (h0:0<=k) (h1:k<=60) :
  ∃ dr:Int,g2 eK (g2 bY (g2 ba (g2 ba (af 4) (g2 bY (g2 bY (gC (.int 104729)) (af 7)) (af 7))) (g2 bY (gC (.int 7919)) (af 7))) (gC (.int 48271))) (gC (.int 2147483647)) δ=.ok (.int dr):=by
 generalize hA:(seed+104729*k*k+7919*k)*48271 % 2147483647=A;refine ⟨A,?_⟩;rw [bK,bK,bK,bK,bK,bK,bK];rw [h4,h7];simp only [cF,Rs.ag,KY,Kd h0 h1,JY,JR,JS,d6,Rs.ai,hA]
def crC:Ds->Rs Bool:=(AG (gT (g2 dLt (g2 ba (af 5) (g2 dIx (af 2) (gC (.int 2)))) (af 3))) (gT (g2 dLt (gF b8 (ae (af 6) ah)) (gC (.int 60)))))
def crB:Ds->Sr:=(az (aL [6] 8 (g2 eK (g2 bY (g2 ba (g2 ba (af 4) (g2 bY (g2 bY (gC (.int 104729)) (af 7)) (af 7))) (g2 bY (gC (.int 7919)) (af 7))) (gC (.int 48271))) (gC (.int 2147483647))))
 (az (aL [6] 9 (gF iO (ae (gC (.int 0)) (ae (g2 ba (af 5) (g2 eK (g2 iJ (af 8) (gC (.int 7))) (g2 ba (g2 dIx (af 2) (gC (.int 2))) (gC (.int 1))))) ah))))
 (az (sIf (gT (g2 dNe (af 6) (qB ah))) (oJ 9 (gF iO (ae (af 9) (ae (g2 ba (g2 dIx (af 6) (g1 mP (gC (.int 1)))) (gC (.int 1))) ah)))) aY)
 (az (gK [6] 6 (af 9))
 (az (aL [6] 5 (g2 ba (af 5) (g2 dIx (af 2) (gC (.int 0)))))
 (az (sIf (gT (g2 dEq (g2 eK (g2 iJ (af 8) (gC (.int 61))) (gC (.int 3))) (gC (.int 0)))) (aL [6] 5 (g2 ba (af 5) (g2 eK (g2 iJ (af 8) (gC (.int 997))) (g2 dIx (af 2) (gC (.int 0)))))) aY)
 (aL [6] 7 (g2 ba (af 7) (gC (.int 1))))))))))
section
variable {S A:PyData} {seed moment:Int} {made:List Int}
def crD (e:Er) (S A:PyData) (span seed moment:Int) (made:List Int) (k:Int) (x8 x9:Option PyData):Ds:=[some S,some A,some e.d,some (.int span),some (.int seed),some (.int moment),some (.list (made.map PyData.int)),some (.int k),x8,x9]
theorem JH (e:Er):dIx e.d (.int 0)=some (.int e.every):=rfl
theorem Jl (e:Er):dIx e.d (.int 2)=some (.int e.late):=rfl
theorem zT {k:Int} {x8:Option PyData}:crC (crD e S A span seed moment made k x8 x9)=.ok (decide (moment+e.late<span)&&decide (made.length<60)):=by
 have hl:decide (((made.map PyData.int).length:Int)<60)=decide (made.length<60):=by rw [L3];exact decide_eq_decide.mpr (by omega)
 unfold crC crD;simp only [Hu,dH,bK,fH,ay,aF,ak,ar,cF,Rs.ag,Jl,d6,G7,jI,Rs.ai,aX,hl];cases decide (moment+e.late<span) <;> simp
theorem EW (ok:e.Ok) (h:CrI e.every e.late span made moment) (hs:moment+e.late<span) (hm:made.length<60) (x8 x9:Option PyData) :
  ∃ c moment' y8 y9,crB (crD e S A span seed moment made (made.length:Int) x8 x9)=.nx (crD e S A span seed moment' (made++[c]) ((made++[c]).length:Int) y8 y9)/\CrI e.every e.late span (made++[c]) moment':=by
 have e1:=ok.e1;have e2:=ok.e2;have l1:=ok.l1;have l2:=ok.l2;have hlo:=h.lo;obtain ⟨dr,hdr⟩:=Df (δ:=mask [6] (crD e S A span seed moment made (made.length:Int) x8 x9)) (seed:=seed) (k:=(made.length:Int)) rfl rfl (by omega) (by omega);have s8:aL [6] 8 (g2 eK (g2 bY (g2 ba (g2 ba (af 4) (g2 bY (g2 bY (gC (.int 104729)) (af 7)) (af 7))) (g2 bY (gC (.int 7919)) (af 7))) (gC (.int 48271))) (gC (.int 2147483647))) (crD e S A span seed moment made (made.length:Int) x8 x9)=.nx (crD e S A span seed moment made (made.length:Int) (some (.int dr)) x9):=dJ (by decide:8<10) hdr
 -- the first reckoning of the coming
 have hq:0<=dr / 7 % (e.late+1)/\dr / 7 % (e.late+1)<e.late+1:=⟨Mt _ (by omega),MM _ (by omega)⟩
 have v7:iJ (.int dr) (.int 7)=some (.int (dr / 7)):=by rw [v5,if_pos (by decide)]
 have v1:eK (.int (dr / 7)) (.int (e.late+1))=some (.int (dr / 7 % (e.late+1))):=by rw [rg,if_pos (by omega)]
 generalize dr / 7 % (e.late+1)=q at hq v1;have s9:∃ c:Int,aL [6] 9 (gF iO (ae (gC (.int 0)) (ae (g2 ba (af 5) (g2 eK (g2 iJ (af 8) (gC (.int 7))) (g2 ba (g2 dIx (af 2) (gC (.int 2))) (gC (.int 1))))) ah))) (crD e S A span seed moment made (made.length:Int) (some (.int dr)) x9)=.nx (crD e S A span seed moment made (made.length:Int) (some (.int dr)) (some (.int c)))/\0<=c/\moment<=c/\c<=moment+e.late:=by refine ⟨if moment+q>0 then moment+q else 0,?_,by split <;> omega,by split <;> omega,by split <;> omega⟩;refine dJ (by decide:9<10) ?_;show gF iO _ [some S,some A,some e.d,some (.int span),some (.int seed),some (.int moment),none,some (.int (made.length:Int)),some (.int dr),x9]=_;simp only [fH,ay,aF,bK,ak,ar,cF,Rs.ag,Jl,v7,d6,v1,Rs.ai,CV]
 obtain ⟨c,s9,c0,c1,c2⟩:=s9
 -- behind the one ahead
 have s9c:∃ c':Int,sIf (gT (g2 dNe (af 6) (qB ah))) (oJ 9 (gF iO (ae (af 9) (ae (g2 ba (g2 dIx (af 6) (g1 mP (gC (.int 1)))) (gC (.int 1))) ah)))) aY (crD e S A span seed moment made (made.length:Int) (some (.int dr)) (some (.int c)))=.nx (crD e S A span seed moment made (made.length:Int) (some (.int dr)) (some (.int c')))/\0<=c'/\moment<=c'/\c'<=moment+e.late:=by
  have hne:dNe (.list (made.map PyData.int)) (.list [])=some (.bool (!decide (made=[]))):=Es made [];unfold crD;rw [cJ];simp only [dH,bK,ak,ar,wU,aF,Rs.ag,hne,Rs.ai,aX,av];cases hk:made.getLast? with
  | none =>have hz:made=[]:=List.getLast?_eq_none_iff.mp hk;rw [hz];exact ⟨c,rfl,c0,c1,c2⟩
  | some l =>
   have hz:made≠[]:=fun z=>by rw [z] at hk;cases hk
   have hla:=h.la l hk;have hix:dIx (.list (made.map PyData.int)) (.int (-1))=some (.int l):=by rw [BM,j9,Nk,hk];rfl
   rw [decide_eq_false hz];simp only [Ni,if_true];refine ⟨if l+1>c then l+1 else c,?_,by split <;> omega,by split <;> omega,by split <;> omega⟩;refine EZ (by decide:9<10) ?_ rfl;simp only [fH,ay,aF,bK,f9,ak,ar,cF,GS,Rs.ag,hix,d6,Rs.ai,CV]
 obtain ⟨c',s9c,c0',c1',c2'⟩:=s9c;have s6:gK [6] 6 (af 9) (crD e S A span seed moment made (made.length:Int) (some (.int dr)) (some (.int c')))=.nx (crD e S A span seed moment (made++[c']) (made.length:Int) (some (.int dr)) (some (.int c'))):=by show (if (made.map PyData.int).length<1000000 then Sr.nx _ else Sr.no)=_;rw [if_pos (by rw [L3];omega)];unfold crD;rw [Mm];rfl
 have s5:aL [6] 5 (g2 ba (af 5) (g2 dIx (af 2) (gC (.int 0)))) (crD e S A span seed moment (made++[c']) (made.length:Int) (some (.int dr)) (some (.int c')))=.nx (crD e S A span seed (moment+e.every) (made++[c']) (made.length:Int) (some (.int dr)) (some (.int c'))):=dJ (by decide:5<10) rfl;have s5b:∃ m',sIf (gT (g2 dEq (g2 eK (g2 iJ (af 8) (gC (.int 61))) (gC (.int 3))) (gC (.int 0)))) (aL [6] 5 (g2 ba (af 5) (g2 eK (g2 iJ (af 8) (gC (.int 997))) (g2 dIx (af 2) (gC (.int 0)))))) aY (crD e S A span seed (moment+e.every) (made++[c']) (made.length:Int) (some (.int dr)) (some (.int c')))=.nx (crD e S A span seed m' (made++[c']) (made.length:Int) (some (.int dr)) (some (.int c')))/\moment+e.every<=m':=by
  have v61:iJ (.int dr) (.int 61)=some (.int (dr / 61)):=by rw [v5,if_pos (by decide)]
  have v3:eK (.int (dr / 61)) (.int 3)=some (.int (dr / 61 % 3)):=by rw [rg,if_pos (by decide)]
  have v997:iJ (.int dr) (.int 997)=some (.int (dr / 997)):=by rw [v5,if_pos (by decide)]
  have ve:eK (.int (dr / 997)) (.int e.every)=some (.int (dr / 997 % e.every)):=by rw [rg,if_pos (by omega)]
  have hx:0<=dr / 997 % e.every:=Mt _ (by omega);have hc:gT (g2 dEq (g2 eK (g2 iJ (af 8) (gC (.int 61))) (gC (.int 3))) (gC (.int 0))) (crD e S A span seed (moment+e.every) (made++[c']) (made.length:Int) (some (.int dr)) (some (.int c')))=.ok (dr / 61 % 3==0):=by unfold crD;simp only [dH,bK,ak,ar,cF,Rs.ag,v61,v3,Rs.ai,jq,aX]
  rw [cJ,hc,av];cases (dr / 61 % 3==0) with
  | false=>exact ⟨_,rfl,MQ _⟩
  | true =>rw [if_pos rfl];refine ⟨moment+e.every+dr / 997 % e.every,dJ (by decide:5<10) ?_,by omega⟩;show g2 ba _ _ [some S,some A,some e.d,some (.int span),some (.int seed),some (.int (moment+e.every)),none,some (.int (made.length:Int)),some (.int dr),some (.int c')]=_;simp only [bK,ak,ar,cF,Rs.ag,JH,v997,ve,d6,Rs.ai]
 obtain ⟨m',s5b,hm'⟩:=s5b;have s7:aL [6] 7 (g2 ba (af 7) (gC (.int 1))) (crD e S A span seed m' (made++[c']) (made.length:Int) (some (.int dr)) (some (.int c')))=.nx (crD e S A span seed m' (made++[c']) ((made++[c']).length:Int) (some (.int dr)) (some (.int c'))):=by
  have hl:((made++[c']).length:Int)=(made.length:Int)+1:=by rw [LL,M9];omega
  rw [hl];exact dJ (by decide:7<10) rfl
 refine ⟨c',m',some (.int dr),some (.int c'),?_,Fi h hs c0' c1' c2' (by omega) l1 hm'⟩;unfold crB;rw [aN,s8];simp only;rw [aN,s9];simp only;rw [aN,s9c];simp only;rw [aN,s6];simp only;rw [aN,s5];simp only;rw [aN,s5b];simp only;rw [s7]
end
theorem pz {c:Ds->Rs Bool} {b:Ds->Sr} {I:Nat->Ds->Prop} {J:Ds->Prop} (h:∀ k δ,I k δ->(c δ=.ok false/\J δ)\/(c δ=.ok true/\∃ k',k' < k/\∃ δ',b δ=.nx δ'/\I k' δ')):∀ (n k:Nat) (δ:Ds),I k δ->k<n->∃ δ',bU c b n δ=.nx δ'/\J δ'
 | 0,_,_,_,hn=>by cases hn
 | n+1,k,δ,i,hn=>by
  unfold bU;rcases h k δ i with ⟨e,j⟩ | ⟨e,k',hk,δ',e2,i'⟩
  ·rw [e,av,if_neg LX];exact ⟨δ,rfl,j⟩
  ·rw [e,av,if_pos rfl,e2];exact pz h n k' δ' i' (LV hk (Nat.le_of_lt_succ hn))
section
variable {S A:PyData} {seed moment:Int} {made:List Int}
theorem Gj (ok:e.Ok) (h:CrI e.every e.late span made moment) (hl:made.length<=60) {n:Nat} (hn:60<n) (x8 x9:Option PyData) :
  ∃ made' moment' y8 y9,bU crC crB n (crD e S A span seed moment made (made.length:Int) x8 x9)=.nx (crD e S A span seed moment' made' (made'.length:Int) y8 y9)/\CrI e.every e.late span made' moment'/\made'.length<=60:=by
 obtain ⟨δ',e1,made',moment',y8,y9,rfl,h1,h2⟩:=pz (c:=crC) (b:=crB) (I:=fun k δ=>∃ made moment x8 x9,δ=crD e S A span seed moment made (made.length:Int) x8 x9/\CrI e.every e.late span made moment/\made.length<=60/\k=60-made.length)
  (J:=fun δ=>∃ made' moment' y8 y9,δ=crD e S A span seed moment' made' (made'.length:Int) y8 y9/\CrI e.every e.late span made' moment'/\made'.length<=60) (fun k δ pz2=>by
   obtain ⟨made,moment,x8,x9,hd,h,hl,hk⟩:=pz2;subst hd;by_cases z:moment+e.late<span/\made.length<60
   ·right;refine ⟨by rw [zT,decide_eq_true z.1,decide_eq_true z.2];rfl,?_⟩;obtain ⟨c,m',y8,y9,eb,h'⟩:=EW (S:=S) (A:=A) (seed:=seed) ok h z.1 z.2 x8 x9;have hl2:(made++[c]).length=made.length+1:=by rw [LL,M9]
    exact ⟨60-(made++[c]).length,by omega,_,eb,made++[c],m',y8,y9,rfl,h',by omega,rfl⟩
   ·left;refine ⟨?_,made,moment,x8,x9,rfl,h,hl⟩;rw [zT];refine congrArg Rs.ok (Bool.eq_false_iff.mpr ?_);rw [Ne,L8,decide_eq_true_eq,decide_eq_true_eq];exact z) n (60-made.length) _ ⟨made,moment,x8,x9,rfl,h,hl,rfl⟩ (by omega)
 exact ⟨made',moment',y8,y9,e1,h1,h2⟩
end
def bq (cs:Cs):Gf:=gfG 4 6 (c9 cs aj)
theorem mn (cs:Cs):LLq (c9 cs aj) 4 6 (bq cs):=jW
theorem qC (ok:e.Ok) (ha:0<=a) (hs:span<=10000):∃ row,bq cs [ao ns,.int a,e.d,.int span]=.ok (df row)/\pe row/\hvE e row=true:=by
 have e1:=ok.e1;have e2:=ok.e2;have hpw:Dk (.int 10) (.int 9)=some (.int 1000000000):=rfl;have hmx:=cw (ns:=ns) (k:=a) (many:=1000000000) ha (by decide);have hv2:eK (.int (mixed ns a 1000000000)) (.int (e.every+2))=some (.int (mixed ns a 1000000000 % (e.every+2))):=by rw [rg,if_pos (by omega)]
 have hm0:0<=mixed ns a 1000000000 % (e.every+2):=Mt _ (by omega);generalize mixed ns a 1000000000=seed at *;generalize seed % (e.every+2)=m0 at *;obtain ⟨row,m',y8,y9,ew,hc,hl⟩:=Gj (e:=e) (S:=ao ns) (A:=.int a) (span:=span) (seed:=seed) (made:=[]) (moment:=m0-e.late) ok (BS (by omega)) (by decide) (n:=1000000) (by decide) none none;refine ⟨row,?_,⟨hl,hc.c0,fun c hcm=>by have:=hc.c1 c hcm;omega⟩,hc.hv⟩;have s4:aL [6] 4 (aq aj (ae (af 0) (ae (af 1) (ae (g2 Dk (gC (.int 10)) (gC (.int 9))) ah)))) [some (ao ns),some (.int a),some e.d,some (.int span),none,none,none,none,none,none]=.nx [some (ao ns),some (.int a),some e.d,some (.int span),some (.int seed),none,none,none,none,none]:=by refine dJ (by decide:4<10) ?_;show aq aj _ [some (ao ns),some (.int a),some e.d,some (.int span),none,none,none,none,none,none]=_;simp only [bh,ay,aF,bK,ak,ar,cF,Rs.ag,hpw,Rs.ai,hmx]
 have s5:aL [6] 5 (g2 gj (g2 eK (af 4) (g2 ba (g2 dIx (af 2) (gC (.int 0))) (gC (.int 2)))) (g2 dIx (af 2) (gC (.int 2)))) [some (ao ns),some (.int a),some e.d,some (.int span),some (.int seed),none,none,none,none,none]=.nx [some (ao ns),some (.int a),some e.d,some (.int span),some (.int seed),some (.int (m0-e.late)),none,none,none,none]:=by refine dJ (by decide:5<10) ?_;show g2 gj _ _ [some (ao ns),some (.int a),some e.d,some (.int span),some (.int seed),none,none,none,none,none]=_;simp only [bK,ak,ar,cF,Rs.ag,JH,Jl,d6,hv2,nv,Rs.ai]
 have s6:eU [6] 6 ah [some (ao ns),some (.int a),some e.d,some (.int span),some (.int seed),some (.int (m0-e.late)),none,none,none,none]=.nx [some (ao ns),some (.int a),some e.d,some (.int span),some (.int seed),some (.int (m0-e.late)),some (.list []),none,none,none]:=rfl;have s7:aL [6] 7 (gC (.int 0)) [some (ao ns),some (.int a),some e.d,some (.int span),some (.int seed),some (.int (m0-e.late)),some (.list []),none,none,none]=.nx (crD e (ao ns) (.int a) span seed (m0-e.late) [] (([]:List Int).length:Int) none none):=dJ (by decide:7<10) rfl;show bc (c9 cs aj [some (ao ns),some (.int a),some e.d,some (.int span),none,none,none,none,none,none])=_;have hG:c9 cs aj=az (aL [6] 4 (aq aj (ae (af 0) (ae (af 1) (ae (g2 Dk (gC (.int 10)) (gC (.int 9))) ah)))))
  (az (aL [6] 5 (g2 gj (g2 eK (af 4) (g2 ba (g2 dIx (af 2) (gC (.int 0))) (gC (.int 2)))) (g2 dIx (af 2) (gC (.int 2)))))
  (az (eU [6] 6 ah) (az (aL [6] 7 (gC (.int 0))) (az (fun δ=>bU crC crB 1000000 δ) (bj (af 6)))))):=rfl
 rw [hG];rw [aN,s4];simp only;rw [aN,s5];simp only;rw [aN,s6];simp only;rw [aN,s7];simp only;rw [aN,ew];rfl
def bS (cs:Cs):Gf:=gfG 4 0 (eG cs (bq cs))
theorem qS (cs:Cs):LLq (eG cs (bq cs)) 4 0 (bS cs):=jW
theorem BC:∀ {es:List Er} {rows:List (List Int)},rows.length=es.length->(∀ (i:Nat) (h:i<es.length) (h':i<rows.length),pe rows[i]/\hvE es[i] rows[i]=true)->Cms es rows
 | [],[],_,_=>.nil
 | [],_::_,h,_=>by cases h
 | _::_,[],h,_=>by cases h
 | e::es,r::rows,h,k=>by have k0:=k 0 (Nat.succ_pos _) (Nat.succ_pos _);refine .cons k0.1 k0.2 (BC (by simpa using h) fun i h1 h2=>?_);exact k (i+1) (Nat.succ_lt_succ h1) (Nat.succ_lt_succ h2)
theorem Il (l6:es.length<=6) {x0 x1:Option PyData} {r:Ds}:fX (ae (gF b8 (ae (af 2) ah)) ah) (x0::x1::some (aw es)::r)=.ok (bX 0 es.length):=by
 have hr:=j8 (j:=(es.length:Int)) (by omega) (by omega);rw [Mb] at hr;have hv:(ae (gF b8 (ae (af 2) ah)) ah) (x0::x1::some (aw es)::r)=.ok [.int (es.length:Int)]:=by simp only [ay,aF,fH,ak,ar,Rs.ag,Ie,Rs.ai]
 rw [kj,hv,Rs.ag,hr]
theorem xg (h:yd es) (ha:0<=a) (hs:span<=10000):∃ rows,bS cs [ao ns,.int a,aw es,.int span]=.ok (cmD rows)/\Cms es rows:=by
 have hx:∀ i:Nat,∃ row,i<es.length->bq cs [ao ns,.int (a+(i:Int)),(aS es (i:Int)).d,.int span]=.ok (df row)/\pe row/\hvE (aS es (i:Int)) row=true:=fun i=>by
  by_cases z:i<es.length
  ·obtain ⟨row,h1⟩:=qC (cs:=cs) (h.ok _ (bV (n:=(i:Int)) (by omega) (by omega))) (ns:=ns) (a:=a+(i:Int)) (span:=span) (by omega) hs;exact ⟨row,fun _=>h1⟩
  ·exact ⟨[],fun y=>(z y).elim⟩
 obtain ⟨F,hF⟩:=Classical.axiomOfChoice hx;have l6:=h.l6;refine ⟨(List.range es.length).map F,?_,BC (by simp) fun i h1 h2=>?_⟩
 ·have hg:a8 4 (fX (ae (gF b8 (ae (af 2) ah)) ah)) bA (aq (bq cs) (ae (af 0) (ae (g2 ba (af 1) (af 4)) (ae (g2 dIx (af 2) (af 4)) (ae (af 3) ah))))) aI [some (ao ns),some (.int a),some (aw es),some (.int span)]=.ok ((bX 0 es.length).map fun d=>df (F (deI d).toNat)):=by
   refine cu rfl ?_ (by rw [dq];omega) fun d hd=>?_
   ·exact Il l6
   ·obtain ⟨k,hk,rfl⟩:=L9.mp hd;have hk':=MS.mp hk;have hn:(0:Int)+(k:Int)=(k:Int):=by omega
    have hd2:(deI (.int (k:Int))).toNat=k:=Mb k;have a2:dIx (aw es) (.int (k:Int))=some (aS es (k:Int)).d:=ij (by omega) (by omega);rw [hn,hd2];simp only [Mc,Ma,bh,ay,aF,bK,ak,ar,Rs.ag,d6,a2,Rs.ai,(hF k hk').1]
  show bc (eG cs (bq cs) [some (ao ns),some (.int a),some (aw es),some (.int span)])=_;unfold eG;simp only [bW,nQ,hg,Rs.ag,av,aU];unfold cmD bX;rw [LW,LW];refine congrArg (fun l=>Rs.ok (PyData.list l)) (LY fun k hk=>?_);show df (F (deI (.int (0+(k:Int)))).toNat)=df (F k);rw [show (0:Int)+(k:Int)=(k:Int) by omega,show (deI (.int (k:Int))).toNat=k from Mb k]
 ·have e:=jT (es:=es) (n:=(i:Int)) (by omega) (by omega);rw [Mb,L1 h1] at e;have e':es[i]=aS es (i:Int):=Option.some.inj e;have:=(hF i h1).2;rw [NM,List.getElem_range,e'];exact this
theorem vj {xs:List α} {k:Nat} {v:α} (h:xs[k]?=some v):atI xs (k:Int)=some v:=tU (Ml k) (by rw [Mb];exact h)
def cp (js:List Jb):PyData:=cmD (js.map (·.row))
structure Sx (js:List Jb):Prop where
 num:∀ (i:Nat) (h:i<js.length),js[i].num=(i:Int)
 row:∀ j∈js,j.row.length<=1000
 wk:∀ j∈js,j.work<=1000
section
variable {S E R D:PyData}
theorem F9 (h:i<js.length):dIx (cp js) (.int (i:Int))=some (df js[i].row):=vj (by rw [LQ,LQ,L1 h];rfl)
theorem yD (h:i<js.length):dIx (.list ((js.map Jb.tot).map PyData.int)) (.int (i:Int))=some (.int js[i].tot):=vj (by rw [LQ,LQ,L1 h];rfl)
theorem Bl (i:Int):fg (.int i)=true:=rfl
theorem yj {b:Int} (h0:0<=b) (h1:b<=1000):bY (.int a) (.int b)=some (.int (a*b)):=xv (by omega) (by omega)
theorem iI {f:PyData->PyData->Option PyData} {a b:Ds->Rs PyData} {x y z:PyData} (ha:a δ=.ok x) (hb:b δ=.ok y) (hf:f x y=some z):g2 f a b δ=.ok z:=by rw [bK,ha,Rs.ag,hb,Rs.ag,hf];rfl
end
def rQ (k:Nat) (l:List PyData):List PyData:=l.mapIdx fun i d=>.tuple [.int ((k+i:Nat):Int),d]
theorem ki {body:Ds->Sr} {d:PyData} {r:List PyData} {δ1 δ2:Ds} (h1:tgt d δ=some δ1) (h2:body δ1=.nx δ2):forL tgt body (d::r) δ=forL tgt body r δ2:=by rw [forL,h1];simp only [h2]
theorem oq (k:Nat) (d:PyData) (r:List PyData):rQ k (d::r)=.tuple [.int (k:Int),d]::rQ (k+1) r:=by
 unfold rQ;rw [NL];have ef:(fun (i:Nat) (d:PyData)=>PyData.tuple [.int ((k+(i+1):Nat):Int),d])=fun i d=>.tuple [.int ((k+1+i:Nat):Int),d]:=by funext i d;rw [show k+(i+1)=k+1+i by omega]
 rw [ef];rfl
theorem Ah (h:ks.map eI=js.map eI):cp ks=cp js:=by have:=congrArg (List.map fun x=>x.2.2) h;rw [LW,LW] at this;exact congrArg cmD this
theorem vq (h:ks.map eI=js.map eI):ks.length=js.length:=by
 have:=congrArg List.length h
 rwa [L3,L3] at this
theorem Gk (h:ks.map eI=js.map eI) (s:Sx js):Sx ks:=by
 have hl:=vq h;have hm:∀ k∈ks,∃ j∈js,eI j=eI k:=fun k hk=>by have:eI k∈ks.map eI:=L9.mpr ⟨k,hk,rfl⟩;rw [h] at this;exact L9.mp this
 refine ⟨fun i hi=>?_,fun k hk=>?_,fun k hk=>?_⟩
 ·have e:(ks.map eI)[i]?=(js.map eI)[i]?:=by rw [h]
  rw [LQ,LQ,L1 hi,L1 (hl▸hi)] at e;have e2:eI ks[i]=eI (js[i]'(hl▸hi)):=Option.some.inj e;have:=congrArg (·.1) e2;exact this.trans (s.num i (hl▸hi))
 ·obtain ⟨j,hj,e⟩:=hm k hk;have e2:j.row=k.row:=congrArg (·.2.2) e;rw [<-e2];exact s.row j hj
 ·obtain ⟨j,hj,e⟩:=hm k hk;have e2:j.parts=k.parts:=congrArg (·.2.1) e;have:=s.wk j hj;unfold Jb.work at this ⊢;rw [<-e2];exact this
theorem sU {lt:Nat->Nat->Bool} (ir:∀ i,lt i i=false) (tr:∀ i j k,lt i j=true->lt j k=true->lt i k=true):∀ (n i:Nat),i<=n->lt i (bst lt n)=false
 | 0,i,h=>by
  have:i=0:=by omega
  rw [this];exact ir 0
 | n+1,i,h=>by
  unfold bst;cases q:lt (n+1) (bst lt n) with
  | true =>
   rw [if_pos rfl];by_cases z:i=n+1
   ·rw [z];exact ir _
   ·have ih:=sU ir tr n i (by omega);cases y:lt i (n+1) with
    | false=>rfl
    | true=>rw [tr _ _ _ y q] at ih;cases ih
  | false =>
   rw [if_neg LX];by_cases z:i=n+1
   ·rw [z];exact q
   ·exact sU ir tr n i (by omega)
theorem GV (d:PyData):ltD d d=false:=by
 have h:∀ l:List Int,HT.lexLt l l=false:=fun l=>by
  induction l with
  | nil=>rfl
  | cons a r ih=>show (if a=a then HT.lexLt r r else _)=false;rw [if_pos rfl,ih]
 unfold ltD;split
 ·rename_i e1 e2;rw [e1] at e2;cases e2;exact h _
 ·rfl
theorem DR:∀ a b c:List Int,HT.lexLt a b=true->HT.lexLt b c=true->HT.lexLt a c=true
 | [],[],_,h,_=>by cases h
 | [],_::_,[],_,h=>by cases h
 | [],_::_,_::_,_,_=>rfl
 | _::_,[],_,h,_=>by cases h
 | _::_,_::_,[],_,h=>by cases h
 | x::a,y::b,z::c,h1,h2=>by
  have h1:(if x=y then HT.lexLt a b else decide (x<y))=true:=h1;have h2:(if y=z then HT.lexLt b c else decide (y<z))=true:=h2;show (if x=z then HT.lexLt a c else decide (x<z))=true;by_cases e1:x=y
  ·rw [if_pos e1] at h1;by_cases e2:y=z
   ·rw [if_pos e2] at h2;rw [if_pos (e1.trans e2)];exact DR a b c h1 h2
   ·rw [if_neg e2] at h2;rw [if_neg (fun q=>e2 (e1.symm.trans q)),e1];exact h2
  ·rw [if_neg e1] at h1;have l1:=of_decide_eq_true h1;by_cases e2:y=z
   ·rw [if_neg (fun q=>e1 (q.trans e2.symm)),<-e2];exact h1
   ·rw [if_neg e2] at h2;have l2:=of_decide_eq_true h2;rw [if_neg (by omega)];exact decide_eq_true (by omega)
theorem HP (a b c:PyData) (h1:ltD a b=true) (h2:ltD b c=true):ltD a c=true:=by
 unfold ltD at h1 h2 ⊢;cases ka:kQ a with
 | none=>rw [ka] at h1;cases h1
 | some p =>
  cases kb:kQ b with
  | none=>rw [ka,kb] at h1;cases h1
  | some q =>
   cases kc:kQ c with
   | none=>rw [kb,kc] at h2;cases h2
   | some r =>rw [ka,kb] at h1;rw [kb,kc] at h2;exact DR _ _ _ h1 h2
theorem A3 {key:Jb->PyData} (h0:js≠[]) (hj:j∈js):ltD (key j) (key (ie key js))=false:=by
 have hl:0<js.length:=MJ.mpr h0;have hm:=sU (lt:=fun i j=>ltD ((js.map key).getD i .none) ((js.map key).getD j .none)) (fun i=>GV _) (fun i j k=>HP _ _ _) (js.length-1);have hb:=qA (fun i j=>ltD ((js.map key).getD i .none) ((js.map key).getD j .none)) (js.length-1);obtain ⟨i,hi,rfl⟩:=List.getElem_of_mem hj;have h1:=hm i (by omega);have hI:jo (js.map key)=bst (fun i j=>ltD ((js.map key).getD i .none) ((js.map key).getD j .none)) (js.length-1):=by unfold jo;rw [L3]
 have hlt:jo (js.map key)<js.length:=by rw [hI];omega
 have e1:(js.map key).getD i .none=key js[i]:=by rw [M1,LQ,L1 hi];rfl
 have e2:(js.map key).getD (jo (js.map key)) .none=key (ie key js):=by unfold ie;rw [M1,LQ,L1 hlt,M1,L1 hlt];rfl
 rw [<-hI] at h1;rw [e1,e2] at h1;exact h1
theorem EI (a b c d:Int):ltD (.tuple [.int a,.int b]) (.tuple [.int c,.int d])=if a=c then (if b=d then false else decide (b<d)) else decide (a<c):=rfl
theorem rK (h:j.held=none):sM tops j=.tuple [.int j.rank,.int 1]:=by unfold sM;rw [h]
theorem AF (j:Jb):j.next.rank=j.rank:=by unfold Jb.next Jb.step1 Jb.step2;split <;> split <;> rfl
section
end
theorem fq {f:Gf} {a:Ds->Rs (List PyData)} {d:PyData} (ha:a δ=.ok ds) (hf:f ds=.ok d):aq f a δ=.ok d:=by rw [bh,ha,Rs.ag,hf]
theorem eF {a b:Ds->Sr} {δ':Ds} (h:a δ=.nx δ'):az a b δ=b δ':=by rw [aN,h]
theorem uI {body:Ds->Sr} (h:src (mask O δ)=.ok ds):fz O src tgt body δ=forL tgt body ds δ:=by rw [kF,h,av]
theorem G1 {g:Ds->Rs (List PyData)} (hi:i<δ.length) (hg:g (mask O δ)=.ok ds):eU O i g δ=.nx (δ.set i (some (.list ds))):=by unfold eU;rw [if_pos hi,hg,av]
theorem Cms.sorted (h:Cms es rows) (ok:∀ e∈es,e.Ok):∀ r∈rows,r.Pairwise (· < ·):=by
 induction h with
 | nil=>intro r hr;cases hr
 | cons hr hv _ ih =>
  intro r' h';rcases L7.mp h' with rfl | h'
  ·have o:=ok _ L6;exact (rN o.l3 o.l1 _ _ hv).2
  ·exact ih (fun e he=>ok e (L4 _ he)) r' h'
section
variable {len:Str}
theorem pU (h:i<(startJ es rs rows).length):∃ row,(startJ es rs rows)[i]=mkJ es rs i row:=by
 have e:=l9 (es:=es) (rs:=rs) (rows:=rows) i;rw [L1 h] at e;cases q:rows[i]? with
 | none=>rw [q] at e;cases e
 | some row=>rw [q] at e;exact ⟨row,Option.some.inj e⟩
theorem xo (hl:rows.length=es.length):(startJ es rs rows).map Jb.tot=es.map fun _=>0 :=
 Nr (by rw [L3,L3,d8,hl]) (fun i h1 h2=>by
  have h3:i<(startJ es rs rows).length:=by rwa [L3] at h1
  obtain ⟨row,e⟩:=pU h3;rw [NM,NM,e];exact m8 i _)
theorem Cd (R:Ran es rs rows len) (C:Cms es rows):IvJ (aZ es rs) ((([]:List PyData).length:Nat):Int) (startJ es rs rows):=by
 refine ⟨kY R.eok R.rok R.ln,fun j hj=>?_,fun j hj=>?_⟩
 ·obtain ⟨k,row,_,hm,_,rfl⟩:=dG hj;exact C.sorted R.eok.ok row hm
 ·have hw:=wm ((kY R.eok R.rok R.ln).ok j hj);obtain ⟨k,row,_,hm,_,rfl⟩:=dG hj;unfold fZ;rw [m8];have:=Nx (Ml (iU (mkJ es rs k row).row ((([]:List PyData).length:Nat):Int))) (show 0<=(mkJ es rs k row).work by omega);omega
theorem Dz (R:Ran es rs rows len) (C:Cms es rows):Sx (startJ es rs rows):=by
 refine ⟨fun i hi=>?_,fun j hj=>?_,fun j hj=>?_⟩
 ·obtain ⟨row,e⟩:=pU hi;rw [e];rfl
 ·obtain ⟨k,row,_,hm,_,rfl⟩:=dG hj;have:=(C.rm row hm).few;show row.length<=1000;omega
 ·obtain ⟨k,row,hk,hm,_,rfl⟩:=dG hj;have ok:=R.eok.ok _ (bV (n:=(k:Int)) (by omega) (by have:=R.ln;omega));have h1:=ue fun p hp=>(ok.pl p hp).2.1
  have h2:=ok.p2;show cV (aS es (k:Int)).parts<=1000;omega
end
theorem Eu:PySem.SeqAt.shaped (.str "none")=true:=by decide +kernel
def mT (js:List Jb):Prop:=∀ j∈js,∀ p∈j.parts,p.2=none
theorem yt (h:∀ p∈j.parts,p.2=none):j.tool=none:=by
 unfold Jb.tool;cases q:j.parts[j.part]? with
 | none=>rfl
 | some p=>exact h p (Mi q)
theorem yW (h:∀ p∈j.parts,p.2=none):j.held=none:=by unfold Jb.held;rw [yt h];split <;> rfl
theorem si (h:∀ p∈j.parts,p.2=none):j.wanted=none:=by unfold Jb.wanted;rw [yt h];split <;> rfl
theorem D7 (h:mT ts):ts.filter (ju js)=ts:=by
 refine List.filter_eq_self.mpr fun j hj=>?_
 unfold ju;rw [si (h j hj)];rfl
theorem yL {js:List Jb}:∀ {ts:List Jb},mT ts->ts.foldl (k6 js) []=[]
 | [],_=>rfl
 | j::r,h=>by
  rw [MX];have e:k6 js [] j=[]:=by unfold k6;rw [si (h j L6)];rfl
  rw [e];exact yL fun k hk=>h k (L4 _ hk)
def Eg (j:Jb):PyData:=.int j.rank
theorem lt_int (a b:Int):ltD (.int a) (.int b)=decide (a<b):=by
 show HT.lexLt [a] [b]=_;unfold HT.lexLt;by_cases h:a=b
 ·subst h;simp [HT.lexLt]
 ·simp [h]
theorem uR {lt lt':Nat->Nat->Bool}:∀ n,(∀ i j,i<=n->j<=n->lt i j=lt' i j)->bst lt n=bst lt' n
 | 0,_=>rfl
 | n+1,h=>by
  have ih:=uR n fun i j a b=>h i j (by omega) (by omega)
  have hb:=qA lt' n;unfold bst;rw [ih,h (n+1) (bst lt' n) (by omega) (by omega)]
theorem sr {k1 k2:Jb->PyData} (h:∀ a∈js,∀ b∈js,ltD (k1 a) (k1 b)=ltD (k2 a) (k2 b)):ie k1 js=ie k2 js:=by
 cases js with
 | nil=>rfl
 | cons x r =>
  unfold ie jo;rw [L3,L3];congr 1;refine uR _ fun i j hi hj=>?_
  have li:i<(x::r).length:=by rw [LS] at hi ⊢;omega
  have lj:j<(x::r).length:=by rw [LS] at hj ⊢;omega
  have g:∀ (k:Jb->PyData) (m:Nat) (hm:m<(x::r).length),((x::r).map k).getD m .none=k (x::r)[m]:=fun k m hm=>by rw [M1,LQ,L1 hm];rfl
  show ltD _ _=ltD _ _;rw [g k1 i li,g k1 j lj,g k2 i li,g k2 j lj];exact h _ (Mh li) _ (Mh lj)
theorem tR {len:Str} (h:mT ts):jJ tops len ts=ie Eg ts:=by
 unfold jJ;split
 ·refine sr fun a ha b hb=>?_
  rw [rK (yW (h a ha)),rK (yW (h b hb)),EI];unfold Eg;rw [lt_int];by_cases q:a.rank=b.rank
  ·rw [if_pos q,if_pos rfl,q,decide_eq_false (Int.lt_irrefl _)]
  ·rw [if_neg q]
 ·rw [D7 h];refine sr fun a ha b hb=>?_
  have e:(if (len==("asked":Str))=true then vJ ts else [])=[]:=by
   split
   ·exact yL h
   ·rfl
  rw [e];rfl
theorem yK (h:∀ p∈j.parts,p.2=none):∀ p∈j.next.parts,p.2=none:=by rw [kE];exact h
theorem oW (h:mT js):mT (dz told js):=fun j hj=>h j (Md.mp hj).1
theorem Gm {len:Str} (h:mT js):mT (eE tops len (js,told)).1:=by
 by_cases z:dz told js=[]
 ·rw [kn z];exact h
 ·obtain ⟨b,hb,_,e⟩:=me (tops:=tops) (len:=len) z;rw [e];intro j hj;rcases iL hb hj with hj | rfl
  ·exact h j hj
  ·exact yK (h b hb)
theorem vf {len len':Str} (h:mT js):eE tops len (js,told)=eE tops len' (js,told):=by unfold eE;rw [tR (oW h),tR (oW h)]
theorem kH {tops:PyData} {len len':Str}:∀ (n:Nat) (js:List Jb) (told:List PyData),mT js->ph tops len n (js,told)=ph tops len' n (js,told)
 | 0,_,_,_=>rfl
 | n+1,js,told,h=>by unfold ph;rw [<-vf (len:=len) (len':=len') h];exact ite_congr rfl (fun _=>rfl) fun _=>kH n _ _ (Gm h)
theorem sI (hl:rows.length=es.length) (h:∀ e∈es,∀ p∈e.parts,p.2=none):mT (startJ es rs rows):=by intro j hj;obtain ⟨k,row,hk,_,_,rfl⟩:=dG hj;exact h _ (bV (Ml k) (by omega))
theorem Af {len:Str} (h:mT ts) (h0:ts≠[]) (hj:j∈ts):(jJ tops len ts).rank<=j.rank:=by rw [tR h];have:ltD (.int j.rank) (.int (ie Eg ts).rank)=false:=A3 (key:=Eg) h0 hj;rw [lt_int] at this;have:=of_decide_eq_false this;omega
theorem xn {len:Str} (h:mT js) (z:dz told js≠[]):∃ b,b∈js/\b.there (told.length:Int)=true/\eE tops len (js,told)=(dP b js,told++[fe b])/\∀ j∈js,j.rank<b.rank->j.there (told.length:Int)=false:=by
 have hm:=mw (tops:=tops) (len:=len) z;refine ⟨jJ tops len (dz told js),(Md.mp hm).1,(Md.mp hm).2,?_,fun j hj hr=>?_⟩
 ·unfold eE;rw [if_neg z]
 ·cases e:j.there (told.length:Int) with
  | false=>rfl
  | true =>have:=Af (tops:=tops) (len:=len) (oW h) z (Md.mpr ⟨hj,e⟩);omega
def ndD (S E R C D:PyData) (sp:List Int) (x6 x7 x8 x9 x10 x11 x12:Option PyData):Ds:=[some S,some E,some R,some C,some D,some (.list (sp.map PyData.int)),x6,x7,x8,x9,x10,x11,x12]
def inB:Ds->Sr:=(az (aL [5] 9 (gF qD (ae (gL (a8 13 (bG (g2 dIx (g2 dIx (af 1) (af 8)) (gC (.int 3)))) bA (g2 dIx (af 13) (gC (.int 0))) aI)) ah)))
 (sIf (gT (g2 dGt (g2 bY (gF b8 (ae (gL (a8 13 (bG (g2 dIx (af 3) (af 8))) (gT (g2 dLe (af 13) (af 6))) (af 13) aI)) ah)) (af 9)) (g2 dIx (af 5) (af 8)))) (bj (gC (.bool false))) aY))
def nbB:Ds->Sr:=(sIf (gT (g1 hZ (af 7))) (az (fz [5] (bG (g0 (af 2) fN (jO (kI (af 2) (g2 dIx (af 7) (gC (.int 0))))))) (bw 8) inB)
 (qL 5 (g2 dIx (af 7) (gC (.int 0))) (g2 ba (g2 dIx (af 5) (g2 dIx (af 7) (gC (.int 0)))) (gC (.int 1))))) aY)
section
variable {S R D:PyData}
theorem Fd (h:i<js.length) (hk:JOk tops js[i]) (sx:Sx js) (he:dIx (aw es) (.int (i:Int))=some (Er.d ⟨0,0,0,js[i].parts⟩)\/∃ e:Er,e.parts=js[i].parts/\e.parts.length<=4/\dIx (aw es) (.int (i:Int))=some e.d) (hpl:js[i].parts.length<=4) (hz:fZ t js[i]=0) {x10:Option PyData} :
  inB (ndD S (aw es) R (cp js) D (js.map Jb.tot) (some (.int t)) x7 (some (.int (i:Int))) x9 x10 x11 x12)=.nx (ndD S (aw es) R (cp js) D (js.map Jb.tot) (some (.int t)) x7 (some (.int (i:Int))) (some (.int js[i].work)) x10 x11 x12):=by
 obtain ⟨e,hep,hel,hed⟩:∃ e:Er,e.parts=js[i].parts/\e.parts.length<=4/\dIx (aw es) (.int (i:Int))=some e.d:=by
  rcases he with he | he
  ·exact ⟨_,rfl,hpl,he⟩
  ·exact he
 have hm:=Mh h;have hrow:=sx.row _ hm;have hwk:=sx.wk _ hm;have hw0:=wm hk;have i3:dIx e.d (.int 3)=some (.tuple (e.parts.map aJ)):=rfl;have h2:a8 13 (bG (g2 dIx (g2 dIx (af 1) (af 8)) (gC (.int 3)))) bA (g2 dIx (af 13) (gC (.int 0))) aI [some S,some (aw es),some R,some (cp js),some D,none,some (.int t),x7,some (.int (i:Int)),x9,x10,x11,x12]=.ok ((e.parts.map aJ).map fun d=>.int (bQ d).1):=by
  refine cu rfl ?_ (by rw [L3];omega) fun d hd=>?_
  ·simp only [mF,bK,cF,ak,ar,Rs.ag,hed,i3,Rs.ai,tG]
  ·obtain ⟨p,_,rfl⟩:=L9.mp hd;rw [ft];rfl
 have h3:=u0 (fun d=>(bQ d).1) (e.parts.map aJ);have h4:((e.parts.map aJ).map fun d=>(bQ d).1).sum=js[i].work:=by unfold Jb.work cV;rw [LW,<-hep];refine congrArg List.sum (LY fun p _=>?_);show (bQ (aJ p)).1=p.1;rw [ft]
 rw [h4] at h3;have s1:aL [5] 9 (gF qD (ae (gL (a8 13 (bG (g2 dIx (g2 dIx (af 1) (af 8)) (gC (.int 3)))) bA (g2 dIx (af 13) (gC (.int 0))) aI)) ah)) (ndD S (aw es) R (cp js) D (js.map Jb.tot) (some (.int t)) x7 (some (.int (i:Int))) x9 x10 x11 x12)=.nx (ndD S (aw es) R (cp js) D (js.map Jb.tot) (some (.int t)) x7 (some (.int (i:Int))) (some (.int js[i].work)) x10 x11 x12):=by refine dJ (by decide:9<13) ?_;show gF qD (ae (gL (a8 13 (bG (g2 dIx (g2 dIx (af 1) (af 8)) (gC (.int 3)))) bA (g2 dIx (af 13) (gC (.int 0))) aI)) ah) [some S,some (aw es),some R,some (cp js),some D,none,some (.int t),x7,some (.int (i:Int)),x9,x10,x11,x12]=_;simp only [fH,ay,aF,nQ,h2,Rs.ag,h3,Rs.ai]
 have hc:a8 13 (bG (g2 dIx (af 3) (af 8))) (gT (g2 dLe (af 13) (af 6))) (af 13) aI (ndD S (aw es) R (cp js) D (js.map Jb.tot) (some (.int t)) x7 (some (.int (i:Int))) (some (.int js[i].work)) x10 x11 x12)=.ok ((js[i].row.map PyData.int).filter fun d=>decide (deI d<=t)):=by
  refine lM rfl ?_ (by rw [L3];omega) fun d hd=>?_
  ·unfold ndD;simp only [mF,bK,ak,ar,Rs.ag,F9 h,Rs.ai];rfl
  ·obtain ⟨c,_,rfl⟩:=L9.mp hd;refine ⟨?_,rfl⟩;unfold ndD;simp only [Mc,Ma,dH,bK,ak,ar,Rs.ag,Hw,Rs.ai,aX];rfl
 have hl:((js[i].row.map PyData.int).filter fun d=>decide (deI d<=t)).length=iU js[i].row t:=by rw [List.filter_map,L3];rfl
 have hmul:bY (.int (iU js[i].row t:Int)) (.int js[i].work)=some (.int ((iU js[i].row t:Int)*js[i].work)):=yj (by omega) hwk;have hln:gF b8 (ae (gL (a8 13 (bG (g2 dIx (af 3) (af 8))) (gT (g2 dLe (af 13) (af 6))) (af 13) aI)) ah) (ndD S (aw es) R (cp js) D (js.map Jb.tot) (some (.int t)) x7 (some (.int (i:Int))) (some (.int js[i].work)) x10 x11 x12)=.ok (.int (iU js[i].row t:Int)):=by simp only [fH,ay,aF,nQ,hc,Rs.ag,jI,hl,Rs.ai]
 have hg:g2 dGt (g2 bY (gF b8 (ae (gL (a8 13 (bG (g2 dIx (af 3) (af 8))) (gT (g2 dLe (af 13) (af 6))) (af 13) aI)) ah)) (af 9)) (g2 dIx (af 5) (af 8)) (ndD S (aw es) R (cp js) D (js.map Jb.tot) (some (.int t)) x7 (some (.int (i:Int))) (some (.int js[i].work)) x10 x11 x12)=.ok (.bool false):=by have d2:decide (js[i].tot<(iU js[i].row t:Int)*js[i].work)=false:=decide_eq_false (by unfold fZ at hz;omega);refine iI (iI hln (y:=.int js[i].work) rfl hmul) (iI rfl rfl (yD h)) ?_;rw [EN,d2]
 unfold inB;rw [eF s1,cJ,dH,hg,Rs.ag,aX,av];rfl
theorem yI {tops:PyData} {t:Int} (sx:Sx js) (hE:∀ (i:Nat) (h:i<js.length),JOk tops js[i]/\js[i].parts.length<=4/\∃ e:Er,e.parts=js[i].parts/\e.parts.length<=4/\dIx (aw es) (.int (i:Int))=some e.d) {x7 x10 x11 x12:Option PyData}:∀ (ms:List Int) (x8 x9:Option PyData),(∀ m∈ms,∃ (i:Nat) (h:i<js.length),m=(i:Int)/\fZ t js[i]=0) ->
  ∃ y8 y9,forL (bw 8) inB (ms.map PyData.int) (ndD S (aw es) R (cp js) D (js.map Jb.tot) (some (.int t)) x7 x8 x9 x10 x11 x12)=.nx (ndD S (aw es) R (cp js) D (js.map Jb.tot) (some (.int t)) x7 y8 y9 x10 x11 x12)
 | [],x8,x9,_=>⟨x8,x9,rfl⟩
 | m::r,x8,x9,hm=>by
  obtain ⟨i,hi,rfl,hz⟩:=hm m L6;obtain ⟨ok,pl,he⟩:=hE i hi;obtain ⟨y8,y9,e⟩:=yI sx hE (x7:=x7) (x10:=x10) (x11:=x11) (x12:=x12) r (some (.int (i:Int))) (some (.int js[i].work)) fun m hm'=>hm m (L4 _ hm')
  refine ⟨y8,y9,?_⟩;rw [L5];exact (ki rfl (Fd hi ok sx (.inr he) pl hz)).trans e
end
theorem xh {p:Nat} {m:Int} (h:m∈rs.take p):placeOf rs m<p:=by have e:placeOf (rs.take p++rs.drop p) m=placeOf (rs.take p) m:=yq h;rw [List.take_append_drop] at e;have h1:=ye h;rw [N3] at h1;omega
structure NdI (es:List Er) (rs:List Int) (js:List Jb):Prop where
 ln:js.length=es.length
 hE:∀ (i:Nat) (h:i<js.length),js[i].parts.length<=4/\∃ e:Er,e.parts=js[i].parts/\e.parts.length<=4/\dIx (aw es) (.int (i:Int))=some e.d
 rk:∀ j∈js,j.rank=(placeOf rs j.num:Int)
 nt:mT js
theorem NdI.work {b:Jb} (h:NdI es rs js) (nd:(js.map (·.num)).Nodup) (hb:b∈js):NdI es rs (dP b js):=by
 have hst:=mX nd hb;have hl:=vq hst;refine ⟨hl.trans h.ln,fun i hi=>?_,fun j hj=>?_,fun j hj=>?_⟩
 ·have e:((dP b js).map eI)[i]?=(js.map eI)[i]?:=by rw [hst]
  rw [LQ,LQ,L1 hi,L1 (hl▸hi)] at e;have e2:eI (dP b js)[i]=eI (js[i]'(hl▸hi)):=Option.some.inj e;have e3:(dP b js)[i].parts=(js[i]'(hl▸hi)).parts:=congrArg (·.2.1) e2;rw [e3];exact h.hE i (hl▸hi)
 ·rcases iL hb hj with hj | rfl
  ·exact h.rk j hj
  ·rw [AF,oO];exact h.rk b hb
 ·rcases iL hb hj with hj | rfl
  ·exact h.nt j hj
  ·exact yK (h.nt b hb)
section
variable {S D:PyData} {x6 x8 x10:Option PyData}
theorem Gh {t:PyData} {sp:List Int} {C:PyData}:nbB (ndD S (aw es) (au rs) C D sp (some t) (some .none) x8 x9 x10 x11 x12)=.nx (ndD S (aw es) (au rs) C D sp (some t) (some .none) x8 x9 x10 x11 x12):=by unfold nbB ndD;simp only [cJ,dH,f9,ak,ar,Rs.ag,uo,pZ,Nn,Rs.ai,aX,av,M0,if_false,eM]
theorem Ga {b:Jb} (hr:cf js.length rs) (iv:IvJ tops (told.length:Int) js) (sx:Sx js) (ni:NdI es rs js) (hb:b∈js) (ht:b.there (told.length:Int)=true) (hh:∀ j∈js,j.rank<b.rank->j.there (told.length:Int)=false) :
  ∃ y8 y9,nbB (ndD S (aw es) (au rs) (cp js) D (js.map Jb.tot) (some (.int (told.length:Int))) (some (fe b)) x8 x9 x10 x11 x12)=.nx (ndD S (aw es) (au rs) (cp js) D ((dP b js).map Jb.tot) (some (.int (told.length:Int))) (some (fe b)) y8 y9 x10 x11 x12):=by
 obtain ⟨i,hi,rfl⟩:=List.getElem_of_mem hb;have hn:=sx.num i hi;have hk:=iv.ok.ok _ hb;have hw:=sk iv.ok.nd hb hk i hi rfl;have hmem:(i:Int)∈rs:=hr.mem (Ml i) (by omega);have hix:=iu hmem;have htd:fe js[i]=.tuple [.int (i:Int),.int (js[i].job:Int)]:=by unfold fe;rw [hn]
 rw [htd,hw];have hnn:eN (.tuple [.int (i:Int),.int (js[i].job:Int)])=false:=rfl;have h0:dIx (.tuple [.int (i:Int),.int (js[i].job:Int)]) (.int 0)=some (.int (i:Int)):=rfl;have src:bG (g0 (af 2) fN (jO (kI (af 2) (g2 dIx (af 7) (gC (.int 0)))))) (mask [5] (ndD S (aw es) (au rs) (cp js) D (js.map Jb.tot) (some (.int (told.length:Int))) (some (.tuple [.int (i:Int),.int (js[i].job:Int)])) x8 x9 x10 x11 x12))=.ok ((rs.take (placeOf rs (i:Int))).map PyData.int):=by show bG (g0 (af 2) fN (jO (kI (af 2) (g2 dIx (af 7) (gC (.int 0)))))) [some S,some (aw es),some (au rs),some (cp js),some D,none,some (.int (told.length:Int)),some (.tuple [.int (i:Int),.int (js[i].job:Int)]),x8,x9,x10,x11,x12]=_;simp only [mF,p5,uH,mz,tO,bK,cF,ak,ar,Rs.ag,h0,au,hix,Rs.ai,uz,xa,tG];rw [CJ,List.map_take]
 have hms:∀ m∈rs.take (placeOf rs (i:Int)),∃ (k:Nat) (h:k<js.length),m=(k:Int)/\fZ (told.length:Int) js[k]=0:=fun m hm=>by
  have hm':=hr.rng m (MB hm);have hk':m.toNat<js.length:=by omega
  have hmk:=Mh hk';have hnk:=sx.num m.toNat hk';refine ⟨m.toNat,hk',by omega,CT (iv.ok.ok _ hmk) (iv.srt _ hmk) (iv.low _ hmk) (hh _ hmk ?_)⟩;rw [ni.rk _ hmk,ni.rk _ hb,hnk,hn,show ((m.toNat:Nat):Int)=m by omega];have:=xh hm;omega
 obtain ⟨y8,y9,e⟩:=yI (S:=S) (R:=au rs) (D:=D) (es:=es) sx (fun k hk=>⟨iv.ok.ok _ (Mh hk),ni.hE k hk⟩) (x7:=some (.tuple [.int (i:Int),.int (js[i].job:Int)])) (x10:=x10) (x11:=x11) (x12:=x12) (rs.take (placeOf rs (i:Int))) x8 x9 hms;refine ⟨y8,y9,?_⟩;have hge:g2 ba (g2 dIx (af 5) (g2 dIx (af 7) (gC (.int 0)))) (gC (.int 1)) (ndD S (aw es) (au rs) (cp js) D (js.map Jb.tot) (some (.int (told.length:Int))) (some (.tuple [.int (i:Int),.int (js[i].job:Int)])) y8 y9 x10 x11 x12)=.ok (.int (js[i].tot+1)) :=
  iI (iI rfl (iI rfl rfl h0) (yD hi)) rfl rfl
 have hgk:g2 dIx (af 7) (gC (.int 0)) (ndD S (aw es) (au rs) (cp js) D (js.map Jb.tot) (some (.int (told.length:Int))) (some (.tuple [.int (i:Int),.int (js[i].job:Int)])) y8 y9 x10 x11 x12)=.ok (.int (i:Int)):=iI rfl rfl h0;have hixn:ixN ((js.map Jb.tot).map PyData.int).length (i:Int)=some i:=by unfold ixN;rw [if_pos (Ml i),if_pos (by rw [L3,L3];omega),Mb]
 have sp:qL 5 (g2 dIx (af 7) (gC (.int 0))) (g2 ba (g2 dIx (af 5) (g2 dIx (af 7) (gC (.int 0)))) (gC (.int 1))) (ndD S (aw es) (au rs) (cp js) D (js.map Jb.tot) (some (.int (told.length:Int))) (some (.tuple [.int (i:Int),.int (js[i].job:Int)])) y8 y9 x10 x11 x12)=.nx (ndD S (aw es) (au rs) (cp js) D ((js.map Jb.tot).set i (js[i].tot+1)) (some (.int (told.length:Int))) (some (.tuple [.int (i:Int),.int (js[i].job:Int)])) y8 y9 x10 x11 x12):=by
  generalize hδ:ndD S (aw es) (au rs) (cp js) D (js.map Jb.tot) (some (.int (told.length:Int))) (some (.tuple [.int (i:Int),.int (js[i].job:Int)])) y8 y9 x10 x11 x12=δ at hge hgk;have h5:δ[5]?=some (some (.list ((js.map Jb.tot).map PyData.int))):=by rw [<-hδ];rfl
  unfold qL;rw [h5];simp only [hge,hgk,av,hixn,Bl,if_true];rw [<-hδ];unfold ndD;rw [List.map_set];rfl
 have c3:gT (g1 hZ (af 7)) (ndD S (aw es) (au rs) (cp js) D (js.map Jb.tot) (some (.int (told.length:Int))) (some (.tuple [.int (i:Int),.int (js[i].job:Int)])) x8 x9 x10 x11 x12)=.ok true:=by unfold ndD;simp only [dH,f9,ak,ar,Rs.ag,uo,hnn,Ni,Rs.ai,aX]
 unfold nbB;rw [cJ,c3,av,if_pos rfl,eF ((uI src).trans e)];exact sp
end
theorem tD {tops:PyData} {len:Str} {es:List Er} {rs:List Int} {S D:PyData} {x10 x11 x12:Option PyData} (hr:cf es.length rs):∀ (n:Nat) (js:List Jb) (told out:List PyData),ph tops len n (js,told)=some out->IvJ tops (told.length:Int) js->Sx js->NdI es rs js ->
  ∃ rest js',out=told++rest/\(∀ d∈rest,d=.none\/∃ b,d=fe b) /\
   ∀ x6 x7 x8 x9,∃ y6 y7 y8 y9,forL (fV [6,7]) nbB (rQ told.length rest) (ndD S (aw es) (au rs) (cp js) D (js.map Jb.tot) x6 x7 x8 x9 x10 x11 x12)=.nx (ndD S (aw es) (au rs) (cp js) D ((js':List Jb).map Jb.tot) y6 y7 y8 y9 x10 x11 x12)
 | 0,_,_,_,h,_,_,_=>by cases h
 | n+1,js,told,out,h,iv,sx,ni=>by
  unfold ph at h;by_cases z:js.all Jb.done=true
  ·rw [if_pos (show (js,told).1.all Jb.done=true from z)] at h;cases h;exact ⟨[],js,(Mn _).symm,fun d hd=>(nomatch hd),fun x6 x7 x8 x9=>⟨x6,x7,x8,x9,rfl⟩⟩
  ·rw [if_neg (show ¬ ((js,told).1.all Jb.done=true) from z)] at h;have iv':=E9 (len:=len) iv;by_cases y:dz told js=[]
   ·rw [kn y] at h iv';obtain ⟨rest,js',e1,e2,e7⟩:=tD (S:=S) (D:=D) (x10:=x10) (x11:=x11) (x12:=x12) hr n js (told++[.none]) out h iv' sx ni;refine ⟨.none::rest,js',by rw [e1,Mp];rfl,fun d hd=>?_,fun x6 x7 x8 x9=>?_⟩
    ·rcases L7.mp hd with rfl | hd
     ·exact .inl rfl
     ·exact e2 d hd
    ·obtain ⟨z6,z7,z8,z9,ef⟩:=e7 (some (.int (told.length:Int))) (some .none) x8 x9;refine ⟨z6,z7,z8,z9,?_⟩;rw [LL,M9] at ef;rw [oq];exact (ki rfl Gh).trans ef
   ·obtain ⟨b,hb,ht,es',hh⟩:=xn (tops:=tops) (len:=len) ni.nt y;rw [es'] at h iv';have hst:=mX iv.ok.nd hb;obtain ⟨rest,js',e1,e2,e7⟩:=tD (S:=S) (D:=D) (x10:=x10) (x11:=x11) (x12:=x12) hr n (dP b js) (told++[fe b]) out h iv' (Gk hst sx) (ni.work iv.ok.nd hb);refine ⟨fe b::rest,js',by rw [e1,Mp];rfl,fun d hd=>?_,fun x6 x7 x8 x9=>?_⟩
    ·rcases L7.mp hd with rfl | hd
     ·exact .inr ⟨b,rfl⟩
     ·exact e2 d hd
    ·obtain ⟨y8,y9,eb⟩:=Ga (S:=S) (D:=D) (x8:=x8) (x9:=x9) (x10:=x10) (x11:=x11) (x12:=x12) (by rw [ni.ln];exact hr) iv sx ni hb ht hh;obtain ⟨z6,z7,z8,z9,ef⟩:=e7 (some (.int (told.length:Int))) (some (fe b)) y8 y9;refine ⟨z6,z7,z8,z9,?_⟩;rw [LL,M9,Ah hst] at ef;rw [oq];exact (ki rfl eb).trans ef
def fS (cs:Cs):Ds->Sr :=
 (az (eU [2] 2 ah)
  (az (fz [2] (bG (af 0)) (fV [3,4,5,6]) (gK [2] 2 (fD (ae (g2 bY (af 3) (af 1)) (ae (g2 bY (af 4) (af 1)) (ae (g2 bY (af 5) (af 1)) (ae (gF fi (ae (gL (a8 7 (bG (af 6)) bA (fD (ae (g2 bY (g2 dIx (af 7) (gC (.int 0))) (af 1)) (ae (gC .none) ah))) aI)) ah)) ah)))))))
  (bj (gF fi (ae (af 2) ah)))))
def yB (cs:Cs) (ej bF bJ aj de bS bT bp:Gf):Ds->Sr :=
 (az (aL [5] 1 (aq bp (ae (af 0) (ae (gC (.int 12)) (ae (gC (.int 4)) (ae (gC (.int 17)) (ae (gC (.bool false)) ah)))))))
  (az (aL [5] 2 (aq bT (ae (af 0) (ae (gC (.int 0)) (ae (gF b8 (ae (af 1) ah)) ah)))))
  (az (aL [5] 3 (aq bS (ae (af 0) (ae (gC (.int 5)) (ae (af 1) (ae (gC (.int 50)) ah))))))
  (az (aL [5] 4 (aq de (ae (af 1) (ae (af 2) (ae (af 3) (ae (gC (.str "high")) ah))))))
  (az (sIf (cOr (gT (g2 dNe (aq de (ae (af 1) (ae (af 2) (ae (af 3) (ae (gC (.str "none")) ah))))) (af 4))) (gT (g2 dNe (aq de (ae (af 1) (ae (af 2) (ae (af 3) (ae (gC (.str "asked")) ah))))) (af 4)))) (bj (gC (.bool false))) aY)
  (az (eU [5] 5 (a8 13 (bG (af 1)) bA (gC (.int 0)) aI))
  (az (fz [5] (iG (ae (af 4) ah)) (fV [6,7]) (sIf (gT (g1 hZ (af 7))) (az (fz [5] (bG (g0 (af 2) fN (jO (kI (af 2) (g2 dIx (af 7) (gC (.int 0))))))) (bw 8) (az (aL [5] 9 (gF qD (ae (gL (a8 13 (bG (g2 dIx (g2 dIx (af 1) (af 8)) (gC (.int 3)))) bA (g2 dIx (af 13) (gC (.int 0))) aI)) ah)))
  (sIf (gT (g2 dGt (g2 bY (gF b8 (ae (gL (a8 13 (bG (g2 dIx (af 3) (af 8))) (gT (g2 dLe (af 13) (af 6))) (af 13) aI)) ah)) (af 9)) (g2 dIx (af 5) (af 8)))) (bj (gC (.bool false))) aY)))
  (qL 5 (g2 dIx (af 7) (gC (.int 0))) (g2 ba (g2 dIx (af 5) (g2 dIx (af 7) (gC (.int 0)))) (gC (.int 1))))) aY))
  (az (aL [5] 10 (g2 ba (gC (.int 2)) (aq aj (ae (af 0) (ae (gC (.int 10)) (ae (gC (.int 2)) ah))))))
  (az (fz [5] (fX (ae (gF b8 (ae (af 1) ah)) ah)) (bw 8) (az (aL [5] 11 (aq bJ (ae (af 1) (ae (af 2) (ae (af 8) ah)))))
  (az (aL [5] 12 (af 11))
  (az (sIf (gT (g1 hZ (af 11))) (aL [5] 12 (g2 bY (af 11) (af 10))) aY)
  (sIf (cOr (gT (g2 dNe (aq ej (ae (af 1) (ae (af 2) (ae (af 8) ah)))) (gC (.int 0)))) (gT (g2 dNe (aq bJ (ae (aq bF (ae (af 1) (ae (af 10) ah))) (ae (af 2) (ae (af 8) ah)))) (af 12)))) (bj (gC (.bool false))) aY)))))
  (bj (gC (.bool true))))))))))))
theorem kf {d:PyData} (h:d=.none\/∃ b,d=fe b):aH d=true/\d.depth<=2/\d.canLay0=true/\PyData.eqv d d=true:=by
 rcases h with rfl | ⟨b,rfl⟩
 ·exact ⟨rfl,by simp [PyData.depth],by simp [PyData.canLay0],by simp [PyData.eqv]⟩
 ·unfold fe;exact ⟨rfl,by simp [PyData.depth,PyData.depthAll],by simp [PyData.canLay0,PyData.canLayAll0],by simp [PyData.eqv,PyData.eqvAll]⟩
theorem pq:∀ {l:List PyData},(∀ d∈l,d.depth<=2)->PyData.depthAll l<=2
 | [],_=>by simp [PyData.depthAll]
 | a::r,h=>by
  have h1:=h a L6;have h2:=pq fun d hd=>h d (L4 _ hd)
  simp only [PyData.depthAll];omega
theorem wb:∀ {l:List PyData},(∀ d∈l,d.canLay0=true)->PyData.canLayAll0 l=true
 | [],_=>by simp [PyData.canLayAll0]
 | a::r,h=>by simp [PyData.canLayAll0,h a L6,wb fun d hd=>h d (L4 _ hd)]
theorem uL:∀ {l:List PyData},(∀ d∈l,PyData.eqv d d=true)->PyData.eqvAll l l=true
 | [],_=>by simp [PyData.eqvAll]
 | a::r,h=>by simp [PyData.eqvAll,h a L6,uL fun d hd=>h d (L4 _ hd)]
theorem Fe {t:List PyData} (h:∀ d∈t,d=.none\/∃ b,d=fe b):dNe (.list t) (.list t)=some (.bool false):=by
 have hd:aH (.list t)=true:=eR fun d hd=>(kf (h d hd)).1
 have h1:=pq fun d hd=>(kf (h d hd)).2.1
 have h2:(PyData.list t).depth<=64:=by simp only [PyData.depth];omega
 have h3:=wb fun d hd=>(kf (h d hd)).2.2.1
 have hs:SeqAt.shaped (.list t)=true:=by simp [SeqAt.shaped,PyData.canLay0,h3,h2]
 have h4:=uL fun d hd=>(kf (h d hd)).2.2.2
 unfold dNe;rw [hd,hs];simp [PyData.eqv,h4]
def bF (cs:Cs):Gf:=gfG 2 5 (fS cs)
theorem vM (cs:Cs):LLq (fS cs) 2 5 (bF cs):=jW
def tkB:Ds->Sr:=(gK [2] 2 (fD (ae (g2 bY (af 3) (af 1)) (ae (g2 bY (af 4) (af 1)) (ae (g2 bY (af 5) (af 1)) (ae (gF fi (ae (gL (a8 7 (bG (af 6)) bA (fD (ae (g2 bY (g2 dIx (af 7) (gC (.int 0))) (af 1)) (ae (gC .none) ah))) aI)) ah)) ah))))))
section
variable {k:Int} {E:PyData}
theorem EG (k0:0<=k) (k1:k<=1000) (hp:e.parts.length<=4) {acc:List PyData} (ha:acc.length<1000000) :
  tkB [some E,some (.int k),some (.list acc),some (.int e.every),some (.int e.due),some (.int e.late),some (.tuple (e.parts.map aJ))]=.nx [some E,some (.int k),some (.list (acc++[(e.tk k).d])),some (.int e.every),some (.int e.due),some (.int e.late),some (.tuple (e.parts.map aJ))]:=by
 have m:∀ a:Int,bY (.int a) (.int k)=some (.int (a*k)):=fun a=>yj k0 k1
 have hc:a8 7 (bG (af 6)) bA (fD (ae (g2 bY (g2 dIx (af 7) (gC (.int 0))) (af 1)) (ae (gC .none) ah))) aI [some E,some (.int k),none,some (.int e.every),some (.int e.due),some (.int e.late),some (.tuple (e.parts.map aJ))]=.ok ((e.parts.map aJ).map fun d=>.tuple [.int ((bQ d).1*k),.none]):=by
  refine cu rfl rfl (by rw [L3];omega) fun d hd=>?_
  obtain ⟨p,_,rfl⟩:=L9.mp hd;have i0:dIx (aJ p) (.int 0)=some (.int p.1):=rfl;rw [ft];simp only [Mc,Ma,jz,ay,aF,bK,cF,ak,ar,Rs.ag,i0,Rs.ai,m]
 have hq:((e.parts.map aJ).map fun d=>PyData.tuple [.int ((bQ d).1*k),.none])=(e.tk k).parts.map aJ:=by
  show _=(e.parts.map fun p=>(p.1*k,none)).map aJ;rw [LW,LW];refine LY fun p _=>?_
  show PyData.tuple [.int ((bQ (aJ p)).1*k),.none]=_;rw [ft];rfl
 have hg:fD (ae (g2 bY (af 3) (af 1)) (ae (g2 bY (af 4) (af 1)) (ae (g2 bY (af 5) (af 1)) (ae (gF fi (ae (gL (a8 7 (bG (af 6)) bA (fD (ae (g2 bY (g2 dIx (af 7) (gC (.int 0))) (af 1)) (ae (gC .none) ah))) aI)) ah)) ah)))) [some E,some (.int k),none,some (.int e.every),some (.int e.due),some (.int e.late),some (.tuple (e.parts.map aJ))]=.ok (e.tk k).d:=by simp only [jz,ay,aF,bK,fH,nQ,ak,ar,Rs.ag,m,hc,hq,uf,Rs.ai];rfl
 show (ofR (fD (ae (g2 bY (af 3) (af 1)) (ae (g2 bY (af 4) (af 1)) (ae (g2 bY (af 5) (af 1)) (ae (gF fi (ae (gL (a8 7 (bG (af 6)) bA (fD (ae (g2 bY (g2 dIx (af 7) (gC (.int 0))) (af 1)) (ae (gC .none) ah))) aI)) ah)) ah)))) [some E,some (.int k),none,some (.int e.every),some (.int e.due),some (.int e.late),some (.tuple (e.parts.map aJ))]) fun d=>if acc.length<1000000 then Sr.nx _ else Sr.no)=_;rw [hg,av,if_pos ha];rfl
theorem zY (k0:0<=k) (k1:k<=1000):∀ (es:List Er) (acc:List PyData) (x3 x4 x5 x6:Option PyData),(∀ e∈es,e.parts.length<=4)->acc.length+es.length<=1000 ->
  ∃ y3 y4 y5 y6,forL (fV [3,4,5,6]) tkB (es.map Er.d) [some E,some (.int k),some (.list acc),x3,x4,x5,x6]=.nx [some E,some (.int k),some (.list (acc++(es.map (Er.tk k)).map Er.d)),y3,y4,y5,y6]
 | [],acc,x3,x4,x5,x6,_,_=>⟨x3,x4,x5,x6,by rw [Mr,Mr,Mr,Mn];rfl⟩
 | e::r,acc,x3,x4,x5,x6,h,hl=>by rw [LS] at hl;obtain ⟨y3,y4,y5,y6,ih⟩:=zY k0 k1 r (acc++[(e.tk k).d]) (some (.int e.every)) (some (.int e.due)) (some (.int e.late)) (some (.tuple (e.parts.map aJ))) (fun x hx=>h x (L4 _ hx)) (by rw [LL,M9];omega);refine ⟨y3,y4,y5,y6,?_⟩;rw [L5];refine (ki rfl (EG k0 k1 (h e L6) (by omega))).trans (ih.trans ?_);rw [Mp];rfl
end
theorem DM {k:Int} (k0:0<=k) (k1:k<=1000) (hp:∀ e∈es,e.parts.length<=4) (hl:es.length<=6):bF cs [aw es,.int k]=.ok (aw (es.map (Er.tk k))):=by obtain ⟨y3,y4,y5,y6,e⟩:=zY (E:=aw es) k0 k1 es [] none none none none hp (by rw [ME];omega);show bc (fS cs [some (aw es),some (.int k),none,none,none,none,none])=_;have s1:eU [2] 2 ah [some (aw es),some (.int k),none,none,none,none,none]=.nx [some (aw es),some (.int k),some (.list []),none,none,none,none]:=rfl;have src:bG (af 0) (mask [2] [some (aw es),some (.int k),some (.list []),none,none,none,none])=.ok (es.map Er.d):=rfl;have hG:fS cs=az (eU [2] 2 ah) (az (fz [2] (bG (af 0)) (fV [3,4,5,6]) tkB) (bj (gF fi (ae (af 2) ah)))):=rfl;rw [hG,eF s1,eF ((uI src).trans e)];simp only [bW,fH,ay,aF,ak,ar,Rs.ag,Ma,uf,Rs.ai,av,aU];rfl
theorem AX (hl:rows.length=es.length) (ok:∀ e∈es,e.Ok) (h:∀ e∈es,∀ p∈e.parts,p.2=none):NdI es rs (startJ es rs rows):=by
 refine ⟨by rw [d8,hl],fun i hi=>?_,fun j hj=>?_,sI hl h⟩
 ·obtain ⟨row,e⟩:=pU hi;have hi':(i:Int)<es.length:=by rw [d8,hl] at hi;omega
  have p2:=(ok _ (bV (Ml i) hi')).p2;rw [e];exact ⟨p2,aS es (i:Int),rfl,p2,ij (Ml i) hi'⟩
 ·obtain ⟨k,row,_,_,_,rfl⟩:=dG hj;rfl
def lgB (cs:Cs):Ds->Sr:=(az (aL [5] 11 (aq bJ (ae (af 1) (ae (af 2) (ae (af 8) ah)))))
 (az (aL [5] 12 (af 11))
 (az (sIf (gT (g1 hZ (af 11))) (aL [5] 12 (g2 bY (af 11) (af 10))) aY)
 (sIf (cOr (gT (g2 dNe (aq ej (ae (af 1) (ae (af 2) (ae (af 8) ah)))) (gC (.int 0)))) (gT (g2 dNe (aq bJ (ae (aq (bF cs) (ae (af 1) (ae (af 10) ah))) (ae (af 2) (ae (af 8) ah)))) (af 12)))) (bj (gC (.bool false))) aY))))
theorem F4 {E R E':PyData} {k:Int} {L:Option Int} (hL:bJ [E,R,.int n]=.ok (bg L)) (hH:ej [E,R,.int n]=.ok (.int 0)) (hT:bF cs [E,.int k]=.ok E') (hL':bJ [E',R,.int n]=.ok (bg (L.map (· * k)))) (k0:0<=k) (k1:k<=1000) {S C D:PyData} {sp:List Int} {x6:Option PyData} :
  lgB cs (ndD S E R C D sp x6 x7 (some (.int n)) x9 (some (.int k)) x11 x12)=.nx (ndD S E R C D sp x6 x7 (some (.int n)) x9 (some (.int k)) (some (bg L)) (some (bg (L.map (· * k))))):=by
 have s1:aL [5] 11 (aq bJ (ae (af 1) (ae (af 2) (ae (af 8) ah)))) (ndD S E R C D sp x6 x7 (some (.int n)) x9 (some (.int k)) x11 x12)=.nx (ndD S E R C D sp x6 x7 (some (.int n)) x9 (some (.int k)) (some (bg L)) x12):=dJ (by decide:11<13) (fq rfl hL);have s2:aL [5] 12 (af 11) (ndD S E R C D sp x6 x7 (some (.int n)) x9 (some (.int k)) (some (bg L)) x12)=.nx (ndD S E R C D sp x6 x7 (some (.int n)) x9 (some (.int k)) (some (bg L)) (some (bg L))):=dJ (by decide:12<13) rfl;have s3:sIf (gT (g1 hZ (af 11))) (aL [5] 12 (g2 bY (af 11) (af 10))) aY (ndD S E R C D sp x6 x7 (some (.int n)) x9 (some (.int k)) (some (bg L)) (some (bg L)))=.nx (ndD S E R C D sp x6 x7 (some (.int n)) x9 (some (.int k)) (some (bg L)) (some (bg (L.map (· * k))))):=by
  cases L with
  | none =>unfold ndD;simp only [bg,Option.map_none,cJ,dH,f9,ak,ar,Rs.ag,uo,pZ,Nn,Rs.ai,aX,av,M0,if_false,eM]
  | some T =>
   have st:aL [5] 12 (g2 bY (af 11) (af 10)) (ndD S E R C D sp x6 x7 (some (.int n)) x9 (some (.int k)) (some (bg (some T))) (some (bg (some T))))=.nx (ndD S E R C D sp x6 x7 (some (.int n)) x9 (some (.int k)) (some (bg (some T))) (some (.int (T*k)))):=dJ (by decide:12<13) (iI (x:=.int T) (y:=.int k) rfl rfl (yj k0 k1));have c:gT (g1 hZ (af 11)) (ndD S E R C D sp x6 x7 (some (.int n)) x9 (some (.int k)) (some (bg (some T))) (some (bg (some T))))=.ok true:=by unfold ndD;simp only [bg,dH,f9,ak,ar,Rs.ag,uo,sJ,Ni,Rs.ai,aX]
   rw [cJ,c,av,if_pos rfl,st];rfl
 have c1:gT (g2 dNe (aq ej (ae (af 1) (ae (af 2) (ae (af 8) ah)))) (gC (.int 0))) (ndD S E R C D sp x6 x7 (some (.int n)) x9 (some (.int k)) (some (bg L)) (some (bg (L.map (· * k)))))=.ok false:=by have g:g2 dNe (aq ej (ae (af 1) (ae (af 2) (ae (af 8) ah)))) (gC (.int 0)) (ndD S E R C D sp x6 x7 (some (.int n)) x9 (some (.int k)) (some (bg L)) (some (bg (L.map (· * k)))))=.ok (.bool false):=iI (fq rfl hH) rfl (Du (some 0));rw [dH,g,Rs.ag,aX]
 have c2:gT (g2 dNe (aq bJ (ae (aq (bF cs) (ae (af 1) (ae (af 10) ah))) (ae (af 2) (ae (af 8) ah)))) (af 12)) (ndD S E R C D sp x6 x7 (some (.int n)) x9 (some (.int k)) (some (bg L)) (some (bg (L.map (· * k)))))=.ok false:=by
  have t1:aq (bF cs) (ae (af 1) (ae (af 10) ah)) (ndD S E R C D sp x6 x7 (some (.int n)) x9 (some (.int k)) (some (bg L)) (some (bg (L.map (· * k)))))=.ok E':=fq rfl hT;have t2:(ae (aq (bF cs) (ae (af 1) (ae (af 10) ah))) (ae (af 2) (ae (af 8) ah))) (ndD S E R C D sp x6 x7 (some (.int n)) x9 (some (.int k)) (some (bg L)) (some (bg (L.map (· * k)))))=.ok [E',R,.int n]:=by rw [ay,t1,Rs.ag];rfl
  have g:g2 dNe (aq bJ (ae (aq (bF cs) (ae (af 1) (ae (af 10) ah))) (ae (af 2) (ae (af 8) ah)))) (af 12) (ndD S E R C D sp x6 x7 (some (.int n)) x9 (some (.int k)) (some (bg L)) (some (bg (L.map (· * k)))))=.ok (.bool false):=iI (fq t2 hL') rfl (Du _);rw [dH,g,Rs.ag,aX]
 unfold lgB;rw [eF s1,eF s2,eF s3,cJ,yY,c1,Rs.ag,if_neg LX,c2,av,if_neg LX];rfl
theorem law_holds (cs:Cs) (ns:List Int):yB cs ej (bF cs) bJ aj (de cs) (bS cs) bT bp (some (ao ns)::List.replicate 12 none)=.rt (.bool true):=by
 obtain ⟨es,rs,l1,l4,hok,hsm,hr,hes,hrs⟩:=Co ns;have l6:es.length<=6:=by omega
 have ok:yd es:=⟨l1,l6,hok⟩
 have hnt:∀ e∈es,∀ p∈e.parts,p.2=none:=fun e he=>(hsm e he).nt
 obtain ⟨rows,hcm,C⟩:=xg (cs:=cs) ok (ns:=ns) (a:=5) (span:=50) (by decide) (by decide);have hmx:=cw (ns:=ns) (k:=10) (many:=2) (by decide) (by decide);have m0:=cz ns 10 (many:=2) (by decide);have m1:=cy ns 10 (many:=2) (by decide);have R:Ran es rs rows "high":=⟨ok,hr,C.len,⟨zu⟩⟩
 have Ra:Ran es rs rows "asked":=⟨ok,hr,C.len,⟨vA⟩⟩
 have Rn:Ran es rs rows "none":=⟨ok,hr,C.len,⟨Eu⟩⟩
 obtain ⟨t,ht⟩:=Dh R C;have nt:=sI (rs:=rs) R.ln hnt;have hta:kO es rs rows "asked"=some t:=(kH _ _ _ nt).trans ht;have htn:kO es rs rows "none"=some t:=(kH _ _ _ nt).trans ht;have hrun:=kg (cs:=cs) R C ht;have hruna:=kg (cs:=cs) Ra C hta;have hrunn:=kg (cs:=cs) Rn C htn;have hjl:(startJ es rs rows).length=es.length:=by rw [d8,R.ln]
 have hrw:cp (startJ es rs rows)=cmD rows:=congrArg cmD xI;have htt:=xo (rs:=rs) R.ln;obtain ⟨rest,js',e1,e2,e7⟩:=tD (es:=es) (S:=ao ns) (D:=.list t) (x10:=none) (x11:=none) (x12:=none) hr 1000000 (startJ es rs rows) [] t ht (Cd R C) (Dz R C) (AX R.ln hok hnt);rw [Ma] at e1;subst e1;obtain ⟨y6,y7,y8,y9,ef⟩:=e7 none none none none;have hne:=Fe e2;have s1:aL [5] 1 (aq bp (ae (af 0) (ae (gC (.int 12)) (ae (gC (.int 4)) (ae (gC (.int 17)) (ae (gC (.bool false)) ah)))))) [some (ao ns),none,none,none,none,none,none,none,none,none,none,none,none]=.nx [some (ao ns),some (aw es),none,none,none,none,none,none,none,none,none,none,none]:=dJ (by decide:1<13) (fq rfl hes);have s2:aL [5] 2 (aq bT (ae (af 0) (ae (gC (.int 0)) (ae (gF b8 (ae (af 1) ah)) ah)))) [some (ao ns),some (aw es),none,none,none,none,none,none,none,none,none,none,none]=.nx [some (ao ns),some (aw es),some (au rs),none,none,none,none,none,none,none,none,none,none]:=by refine dJ (by decide:2<13) (fq (ds:=[ao ns,.int 0,.int (es.length:Int)]) ?_ hrs);show (ae (af 0) (ae (gC (.int 0)) (ae (gF b8 (ae (af 1) ah)) ah))) [some (ao ns),some (aw es),none,none,none,none,none,none,none,none,none,none,none]=_;simp only [ay,aF,fH,ak,ar,cF,Rs.ag,Ie,Rs.ai]
 have s3:aL [5] 3 (aq (bS cs) (ae (af 0) (ae (gC (.int 5)) (ae (af 1) (ae (gC (.int 50)) ah))))) [some (ao ns),some (aw es),some (au rs),none,none,none,none,none,none,none,none,none,none]=.nx [some (ao ns),some (aw es),some (au rs),some (cmD rows),none,none,none,none,none,none,none,none,none]:=dJ (by decide:3<13) (fq rfl hcm);have s4:aL [5] 4 (aq (de cs) (ae (af 1) (ae (af 2) (ae (af 3) (ae (gC (.str "high")) ah))))) [some (ao ns),some (aw es),some (au rs),some (cmD rows),none,none,none,none,none,none,none,none,none]=.nx [some (ao ns),some (aw es),some (au rs),some (cmD rows),some (.list t),none,none,none,none,none,none,none,none]:=dJ (by decide:4<13) (fq rfl hrun);have s5:sIf (cOr (gT (g2 dNe (aq (de cs) (ae (af 1) (ae (af 2) (ae (af 3) (ae (gC (.str "none")) ah))))) (af 4))) (gT (g2 dNe (aq (de cs) (ae (af 1) (ae (af 2) (ae (af 3) (ae (gC (.str "asked")) ah))))) (af 4)))) (bj (gC (.bool false))) aY [some (ao ns),some (aw es),some (au rs),some (cmD rows),some (.list t),none,none,none,none,none,none,none,none]=.nx [some (ao ns),some (aw es),some (au rs),some (cmD rows),some (.list t),none,none,none,none,none,none,none,none]:=by have g1:g2 dNe (aq (de cs) (ae (af 1) (ae (af 2) (ae (af 3) (ae (gC (.str "none")) ah))))) (af 4) [some (ao ns),some (aw es),some (au rs),some (cmD rows),some (.list t),none,none,none,none,none,none,none,none]=.ok (.bool false):=iI (fq rfl hrunn) rfl hne;have g2':g2 dNe (aq (de cs) (ae (af 1) (ae (af 2) (ae (af 3) (ae (gC (.str "asked")) ah))))) (af 4) [some (ao ns),some (aw es),some (au rs),some (cmD rows),some (.list t),none,none,none,none,none,none,none,none]=.ok (.bool false):=iI (fq rfl hruna) rfl hne;rw [cJ,yY,dH,g1,Rs.ag,aX,Rs.ag,if_neg LX,dH,g2',Rs.ag,aX,av,if_neg LX];rfl
 have s6:eU [5] 5 (a8 13 (bG (af 1)) bA (gC (.int 0)) aI) [some (ao ns),some (aw es),some (au rs),some (cmD rows),some (.list t),none,none,none,none,none,none,none,none]=.nx (ndD (ao ns) (aw es) (au rs) (cp (startJ es rs rows)) (.list t) ((startJ es rs rows).map Jb.tot) none none none none none none none):=by
  have hg:a8 13 (bG (af 1)) bA (gC (.int 0)) aI (mask [5] [some (ao ns),some (aw es),some (au rs),some (cmD rows),some (.list t),none,none,none,none,none,none,none,none])=.ok ((es.map Er.d).map fun _=>.int 0):=cu rfl rfl (by rw [L3];omega) fun d _=>rfl
  refine (G1 (by decide:5<13) hg).trans ?_;unfold ndD;rw [htt,hrw,LW,LW];rfl
 have src:iG (ae (af 4) ah) (mask [5] (ndD (ao ns) (aw es) (au rs) (cp (startJ es rs rows)) (.list t) ((startJ es rs rows).map Jb.tot) none none none none none none none))=.ok (rQ 0 t):=by show Rs.ok (iw t)=_;unfold iw rQ;refine congrArg (fun f=>Rs.ok (t.mapIdx f)) ?_;funext i d;rw [MT]
 have s8:aL [5] 10 (g2 ba (gC (.int 2)) (aq aj (ae (af 0) (ae (gC (.int 10)) (ae (gC (.int 2)) ah))))) (ndD (ao ns) (aw es) (au rs) (cp (startJ es rs rows)) (.list t) (js'.map Jb.tot) y6 y7 y8 y9 none none none)=.nx (ndD (ao ns) (aw es) (au rs) (cp (startJ es rs rows)) (.list t) (js'.map Jb.tot) y6 y7 y8 y9 (some (.int (2+mixed ns 10 2))) none none):=dJ (by decide:10<13) (iI (x:=.int 2) rfl (fq rfl hmx) rfl);generalize hk:2+mixed ns 10 2=k at s8;have k2:2<=k:=by omega
 have k3:k<=3:=by omega
 have hT:=DM (cs:=cs) (es:=es) (k:=k) (by omega) (by omega) (fun e he=>(hok e he).p2) l6;have hok':∀ e∈es.map (Er.tk k),e.Ok:=fun e he=>by obtain ⟨x,hx,rfl⟩:=L9.mp he;exact JV (hok x hx) (hsm x hx) k2 k3
 have hr':cf (es.map (Er.tk k)).length rs:=by rw [L3];exact hr
 have src2:fX (ae (gF b8 (ae (af 1) ah)) ah) (mask [5] (ndD (ao ns) (aw es) (au rs) (cp (startJ es rs rows)) (.list t) (js'.map Jb.tot) y6 y7 y8 y9 (some (.int k)) none none))=.ok (bX 0 es.length):=by
  have hrg:=j8 (j:=(es.length:Int)) (Ml _) (by omega);rw [Mb] at hrg;show fX (ae (gF b8 (ae (af 1) ah)) ah) [some (ao ns),some (aw es),some (au rs),some (cp (startJ es rs rows)),some (.list t),none,y6,y7,y8,y9,some (.int k),none,none]=_;have hv:(ae (gF b8 (ae (af 1) ah)) ah) [some (ao ns),some (aw es),some (au rs),some (cp (startJ es rs rows)),some (.list t),none,y6,y7,y8,y9,some (.int k),none,none]=.ok [.int (es.length:Int)]:=by simp only [ay,aF,fH,ak,ar,Rs.ag,Ie,Rs.ai]
  rw [kj,hv,Rs.ag,hrg]
 obtain ⟨δ',eg,x8,x11,x12,hδ⟩:=jj (β:=Unit) (tgt:=bw 8) (body:=lgB cs) (fun _ δ=>∃ x8 x11 x12,δ=ndD (ao ns) (aw es) (au rs) (cp (startJ es rs rows)) (.list t) (js'.map Jb.tot) y6 y7 x8 y9 (some (.int k)) x11 x12) (bX 0 es.length) 0 (fun i d δ hi pz4=>by
  obtain ⟨x8,x11,x12,hx⟩:=pz4;subst hx;obtain ⟨hil,hd⟩:=gZ hi;rw [Int.zero_add] at hd;subst hd;have n0:(0:Int)<=(i:Int):=Ml i;have n1:(i:Int)<es.length:=by omega
  have hL:=iz (n:=(i:Int)) l1 l6 hok hr n0 n1;have hH:=pB (n:=(i:Int)) l1 l6 hok hr n0 n1;rw [ur hnt hr] at hH;have hL':=iz (es:=es.map (Er.tk k)) (n:=(i:Int)) (by rw [L3];exact l1) (by rw [L3];exact l6) hok' hr' n0 (by rw [L3];exact n1);rw [wY hok hnt hr n0 n1 (by omega)] at hL';exact ⟨_,_,rfl,F4 hL hH hT hL' (by omega) (by omega),_,_,_,rfl⟩) _ ⟨y8,none,none,rfl⟩
 have hG:yB cs ej (bF cs) bJ aj (de cs) (bS cs) bT bp=az (aL [5] 1 (aq bp (ae (af 0) (ae (gC (.int 12)) (ae (gC (.int 4)) (ae (gC (.int 17)) (ae (gC (.bool false)) ah)))))))
  (az (aL [5] 2 (aq bT (ae (af 0) (ae (gC (.int 0)) (ae (gF b8 (ae (af 1) ah)) ah)))))
  (az (aL [5] 3 (aq (bS cs) (ae (af 0) (ae (gC (.int 5)) (ae (af 1) (ae (gC (.int 50)) ah))))))
  (az (aL [5] 4 (aq (de cs) (ae (af 1) (ae (af 2) (ae (af 3) (ae (gC (.str "high")) ah))))))
  (az (sIf (cOr (gT (g2 dNe (aq (de cs) (ae (af 1) (ae (af 2) (ae (af 3) (ae (gC (.str "none")) ah))))) (af 4))) (gT (g2 dNe (aq (de cs) (ae (af 1) (ae (af 2) (ae (af 3) (ae (gC (.str "asked")) ah))))) (af 4)))) (bj (gC (.bool false))) aY)
  (az (eU [5] 5 (a8 13 (bG (af 1)) bA (gC (.int 0)) aI))
  (az (fz [5] (iG (ae (af 4) ah)) (fV [6,7]) nbB)
  (az (aL [5] 10 (g2 ba (gC (.int 2)) (aq aj (ae (af 0) (ae (gC (.int 10)) (ae (gC (.int 2)) ah))))))
  (az (fz [5] (fX (ae (gF b8 (ae (af 1) ah)) ah)) (bw 8) (lgB cs))
  (bj (gC (.bool true))))))))))):=rfl
 exact (congrFun hG _).trans ((eF s1).trans ((eF s2).trans ((eF s3).trans ((eF s4).trans ((eF s5).trans ((eF s6).trans ((eF ((uI src).trans ef)).trans ((eF s8).trans ((eF ((uI src2).trans eg)).trans rfl)))))))))
theorem KO (cs:Cs):LLq (yB cs ej (bF cs) bJ aj (de cs) (bS cs) bT bp) 1 12 (fO 63):=lawT_of (law_holds cs)
end RS
namespace L2
open PySem PySem.Spec PyProof.Rows
section
variable {E:XK}
end
end L2
set_option maxHeartbeats 4000000
namespace L2
open PySem PySem.Spec PyProof.Rows
section
variable {E:XK} {k:Expr} {gk:Ds->Rs PyData} {apos:Pos}
end
section
variable {E:XK} {e:Expr}
end
def ndB:List Str->Bool
 | []=>true
 | x::r=>!r.elem x&&ndB r
theorem uy:∀ {l:List Str},ndB l=true->l.Nodup
 | [],_=>List.nodup_nil
 | x::r,h=>by simp only [ndB,L8,NC] at h;exact Mf.mpr ⟨fun z=>(by have:=List.elem_eq_true_of_mem z;rw [h.1] at this;cases this),uy h.2⟩
section
variable {k n n':Nat}
def AtX (X:Cx) (P:Program) (w:World) (K:PySem.W.Frag) (mg:Str->Option Value) (base:Heap):Prop:=X.prog=P/\X.w=w/\X.K=K/\X.mg=mg/\X.base=base
theorem iC.to (h:iC P w K mg base k x n gf) (hX:AtX X P w K mg base) (hn:n=n'):iC X.prog X.w X.K X.mg X.base k x n' gf:=by obtain ⟨rfl,rfl,rfl,rfl,rfl⟩:=hX;subst hn;exact h
theorem iR.to (h:iR P w K mg base k C m n gf) (hX:AtX X P w K mg base) (hn:n=n'):iR X.prog X.w X.K X.mg X.base k C m n' gf:=by obtain ⟨rfl,rfl,rfl,rfl,rfl⟩:=hX;subst hn;exact h
theorem jZ.to (h:jZ P w K mg base k C m g) (hX:AtX X P w K mg base):jZ X.prog X.w X.K X.mg X.base k C m g:=by obtain ⟨rfl,rfl,rfl,rfl,rfl⟩:=hX;exact h
theorem oM.to {l:List Str} (h:oM P w K mg base k x C l) (hX:AtX X P w K mg base):oM X.prog X.w X.K X.mg X.base k x C l:=by obtain ⟨rfl,rfl,rfl,rfl,rfl⟩:=hX;exact h
end
def xx (K:PySem.W.Frag) (C:Addr) (m q:Str) (st:Stmt) (ps:List Str):Prop:=∃ f fd,Fun K m q st f fd/\Binds K fd ps []/\Meth K C m f
def JX (K:PySem.W.Frag) (C:Addr) (q:Str) (st:Stmt) (ps:List Str):Prop:=∃ f fd,Mk K C f/\Fun K "__init__" q st f fd/\Binds K fd ps []
end L2
namespace RS
open PySem PySem.Spec PyProof.Rows L2
theorem Ai (d:α) {us:List α} {n:Nat} (h:us.length=n):∃ f:Nat->α,us=(List.range n).map f :=
 ⟨fun i=>us.getD i d,Nr (by simp [h]) fun i h1 h2=>by simp [M1,L1 h1]⟩
section
variable {q:Str} {G:Ds->Sr} {gf:Gf}
abbrev Bod (P:Program) (w:World) (K:PySem.W.Frag) (mg:Str->Option Value) (base:Heap) (q:Str) (st:Stmt) (k:Nat) (O:List Nat) (N:List Str) (G:Ds->Sr):Prop:=∀ (f:Addr) (cdv:Value) (A:Around) (outer:List Env) (s:Shared) (H:Hp) (E:XK),N.Nodup->cx k (A.deeper (envOfC q (aE st) s.heap.objs.size f cdv))->PBD (cZ (CXW P w) P w K mg base N q (aE st) f cdv A outer s H E) E O (cm st) G
theorem dA (P:Program) (w:World) (base:Heap) (k:Nat) (O:List Nat) (N:List Str) (h:bM K mg x st ps) (hg:∀ ds,ds.length=ps.length->gf ds≠.no->bc (G (ds.map some++List.replicate (N.length-ps.length) none))=gf ds)
  (body:Bod P w K mg base x st k O N G) (S:cX N ps (aE st):=by exact ⟨rfl,rfl,rfl,by decide +kernel,rfl,by decide +kernel,by decide +kernel⟩) (hO:∀ i∈O,ps.length<=i:=by decide):iC P w K mg base (k+1) x ps.length gf:=by
 obtain ⟨f,fd,F,b,m⟩:=h;exact iC.of F S b m hO (fun cdv A outer s H E=>body f cdv A outer s H E S.nd) hg
theorem dM (P:Program) (w:World) (base:Heap) (k:Nat) (O:List Nat) (N:List Str) (h:xx K C m q st ps) (cl:Cls K C) (hg:∀ ds,ds.length=ps.length->gf ds≠.no->bc (G (ds.map some++List.replicate (N.length-ps.length) none))=gf ds)
  (body:Bod P w K mg base q st k O N G) (S:cX N ps (aE st):=by exact ⟨rfl,rfl,rfl,by decide +kernel,rfl,by decide +kernel,by decide +kernel⟩) (hO:∀ i∈O,ps.length<=i:=by decide):iR P w K mg base (k+1) C m ps.length gf:=by
 obtain ⟨f,fd,F,b,hm⟩:=h;exact iR.of F S b cl hm hO (fun cdv A outer s H E=>body f cdv A outer s H E S.nd) hg
theorem dK (k:Nat) (N:List Str) {p:Str} {G:List Addr->Ds->Sr} (h:xx K C m q st [p]) (cl:Cls K C) (hg:∀ a fds fds',gz fds=true->fds.length<1000->g fds=some fds'->∃ δ,G [a] (some (cA C a fds)::List.replicate (N.length-1) none)=.nx δ/\δ[0]?=some (some (cA C a fds')))
  (body:∀ (as:List Addr) (f:Addr) (cdv:Value) (A:Around) (outer:List Env) (s:Shared) (H:Hp) (E:XK),N.Nodup->cx k (A.deeper (envOfC q (aE st) s.heap.objs.size f cdv))->PBN as (cZ (CXW P w) P w K mg base N q (aE st) f cdv A outer s H E) E [] (cm st) (G as)) (S:cX N [p] (aE st):=by exact ⟨rfl,rfl,rfl,by decide +kernel,rfl,by decide +kernel,by decide +kernel⟩):jZ P w K mg base (k+1) C m g:=by
 obtain ⟨f,fd,F,b,hm⟩:=h;exact jZ.of F S b cl hm (fun as cdv A outer s H E=>body as f cdv A outer s H E S.nd) hg
theorem dT (k:Nat) (O:List Nat) (N:List Str) (h:bM K mg x st ps) (hm:∀ g,PySem.W.nsIn K mainGlobals x=some (some (.ref g))->mg x=some (.ref g)) (hT:E1 K x) (hB:nM mg base) (hK:K.In base) (hg:∀ ds,ds.length=ps.length->gf ds≠.no->bc (G (ds.map some++List.replicate (N.length-ps.length) none))=gf ds)
  (body:∀ (f:Addr) (cdv:Value) (A:Around) (outer:List Env) (s:Shared) (H:Hp) (E:XK),N.Nodup->cx k (A.deeper (envOfC x (aE st) s.heap.objs.size f cdv))->∀ c Pt,DD (cZ (CXW P w) P w K mg base N x (aE st) f cdv A outer s H E) c Pt->PBD (cZ (CXW P w) P w K mg base N x (aE st) f cdv A outer s H E) E O (cm st) G) (S:cX N ps (aE st):=by exact ⟨rfl,rfl,rfl,by decide +kernel,rfl,by decide +kernel,by decide +kernel⟩) (hO:∀ i∈O,ps.length<=i:=by decide) (hx:x∈lN:=by decide) (hq:∀ (f L:Addr) (cdv:Value),(envOfC x (aE st) L f cdv).qual++"<lambda>"=x++".<locals>.<lambda>":=by exact fun _ _ _=>rfl):iC P w K mg base (k+1) x ps.length gf:=by
 obtain ⟨f,fd,F,b,m⟩:=h;exact iC.ofL F S b m hO hx hm hT hB hK (hq f) (fun cdv A outer s H E=>body f cdv A outer s H E S.nd) hg
theorem dL (k:Nat) (O:List Nat) (N:List Str) (F:Fun K x x st f fd) (hg:∀ ds,ds.length=ps.length->gf ds≠.no->bc (G (ds.map some++List.replicate (N.length-ps.length) none))=gf ds)
  (body:Bod P w K mg base x st k O N G) (S:cX N ps (aE st):=by exact ⟨rfl,rfl,rfl,by decide +kernel,rfl,by decide +kernel,by decide +kernel⟩) (hO:∀ i∈O,ps.length<=i:=by decide):gM P w K mg base (CXW P w) (k+1) f fd ps (spD K ps.length gf) :=
 yu F S hO (fun cdv A outer s H E=>body f cdv A outer s H E S.nd) hg
end
end RS
set_option maxHeartbeats 0
namespace RS
open PySem PySem.Spec PyProof.Rows L2
def top (i:Nat):Stmt:=PySem.Challenge.pw_ranksure_k22_whole_without_tools.main.body.getD i (.Pass ⟨0,0,0,0⟩)
structure oA (K:PySem.W.Frag) (C:Addr):Prop where
 cl:Cls K C
 na:∀ f∈["number", "part", "tool", "times"],fw K C f
 mi:JX K C "Holding.__init__" (inClass (top 41) 0) ["self", "number", "part", "tool", "times"]
structure zH (K:PySem.W.Frag) (C:Addr):Prop where
 cl:Cls K C
 na:∀ f∈["number", "parts", "rank", "row", "job", "part", "spent"],fw K C f
 mi:JX K C "Jobs.__init__" (inClass (top 33) 0) ["self", "number", "parts", "rank", "row"]
 mt_Jobs_are_done:xx K C "are_done" "Jobs.are_done" (inClass (top 33) 1) ["self"]
 mt_Jobs_is_there:xx K C "is_there" "Jobs.is_there" (inClass (top 33) 2) ["self", "time"]
 mt_Jobs_held:xx K C "held" "Jobs.held" (inClass (top 33) 3) ["self"]
 mt_Jobs_wanted:xx K C "wanted" "Jobs.wanted" (inClass (top 33) 4) ["self"]
 mt_Jobs_go_on:xx K C "go_on" "Jobs.go_on" (inClass (top 33) 5) ["self"]
structure Tx (K:PySem.W.Frag) (mg:Str->Option Value) (cs:Cs):Prop where
 f_is_whole:bM K mg "is_whole" (top 14) ["thing", "least", "most"]
 f_is_tuple:bM K mg "is_tuple" (top 15) ["thing", "fewest", "most"]
 f_is_part:bM K mg "is_part" (top 16) ["thing"]
 f_are_parts:bM K mg "are_parts" (top 17) ["thing"]
 f_is_errand:bM K mg "is_errand" (top 18) ["thing"]
 f_checked:bM K mg "checked" (top 19) ["errands"]
 f_checked_ranks:bM K mg "checked_ranks" (top 20) ["errands", "ranks"]
 f_checked_number:bM K mg "checked_number" (top 21) ["errands", "number"]
 f_check_place:bM K mg "check_place" (top 22) ["errands", "ranks", "number"]
 f_work_of:bM K mg "work_of" (top 23) ["errand"]
 f_has_tool:bM K mg "has_tool" (top 24) ["errand", "tool"]
 f_height:bM K mg "height" (top 25) ["errands", "ranks", "tool"]
 f_heights_of:bM K mg "heights_of" (top 26) ["errands", "ranks"]
 f_have_moments:bM K mg "have_moments" (top 30) ["errand", "row"]
 f_is_row:bM K mg "is_row" (top 31) ["errand", "thing"]
 f_checked_comings:bM K mg "checked_comings" (top 32) ["errands", "comings"]
 f_height_by_high:bM K mg "height_by_high" (top 34) ["jobs", "tops"]
 f_holder:bM K mg "holder" (top 35) ["there", "tool"]
 f_lent_ranks:bM K mg "lent_ranks" (top 36) ["there"]
 f_picked:bM K mg "picked" (top 37) ["there", "tops", "lending"]
 f_run_of:bM K mg "run_of" (top 38) ["errands", "ranks", "rows", "lending"]
 f_run:bM K mg "run" (top 39) ["errands", "ranks", "comings", "lending"]
 f_holdings:bM K mg "holdings" (top 42) ["errands", "ranks", "number"]
 f_hold_by_high:bM K mg "hold_by_high" (top 43) ["errands", "ranks", "number"]
 f_rounded_up:bM K mg "rounded_up" (top 44) ["times", "every"]
 f_need:bM K mg "need" (top 45) ["errands", "ranks", "number", "held_up", "times"]
 f_levels_by:bM K mg "levels_by" (top 46) ["errands", "ranks", "number", "held_up"]
 f_longest_by:bM K mg "longest_by" (top 47) ["errands", "ranks", "number", "held_up"]
 f_longest_by_high:bM K mg "longest_by_high" (top 48) ["errands", "ranks", "number"]
 f_hold:bM K mg "hold" (top 49) ["errands", "ranks", "number"]
 f_longest:bM K mg "longest" (top 50) ["errands", "ranks", "number"]
 f_law_cell_at:bM K mg "_law_cell_at" (top 52) ["_law_script", "_law_k"]
 f_law_mixed:bM K mg "_law_mixed" (top 53) ["_law_script", "_law_k", "_law_many"]
 f_law_errand:bM K mg "_law_errand" (top 54) ["_law_script", "_law_at", "_law_top", "_law_tools"]
 f_law_errands:bM K mg "_law_errands" (top 55) ["_law_script", "_law_at", "_law_most", "_law_top", "_law_tools"]
 f_law_ranks:bM K mg "_law_ranks" (top 56) ["_law_script", "_law_at", "_law_many"]
 f_law_coming_row:bM K mg "_law_coming_row" (top 57) ["_law_script", "_law_at", "_law_errand_here", "_law_span"]
 f_law_comings:bM K mg "_law_comings" (top 58) ["_law_script", "_law_at", "_law_errands_here", "_law_span"]
 f_law_taken:bM K mg "_law_taken" (top 59) ["_law_errands_here", "_law_times"]
 f_law:bM K mg "law" (top 60) ["_law_script"]
 bs:∀ x∈["all", "bool", "enumerate", "int", "isinstance", "len", "list", "max", "min", "range", "set", "sum", "tuple", "zip"],mg x=none
 cst:∀ q∈([("LAST_COMING",9999),("LEAST_EVERY",2),("MOST_COMINGS",60),("MOST_ERRANDS",6),("MOST_EVERY",60),("MOST_LATE",20),("MOST_LENGTH",20),("MOST_PARTS",4),("TOOLS",4)]:List (Str×Int)),∃ t,mg q.1=some (.int q.2 t)
 e_NoComings:qM K mg "NoComings" cs.NoComings
 e_NoErrand:qM K mg "NoErrand" cs.NoErrand
 e_NoErrands:qM K mg "NoErrands" cs.NoErrands
 e_NoRanks:qM K mg "NoRanks" cs.NoRanks
 m_Holding:mg "Holding"=some (.ref cs.Holding)
 k_Holding:oA K cs.Holding
 m_Jobs:mg "Jobs"=some (.ref cs.Jobs)
 k_Jobs:zH K cs.Jobs
 tb_picked:E1 K "picked"
 nm_picked:∀ g,PySem.W.nsIn K mainGlobals "picked"=some (some (.ref g))->mg "picked"=some (.ref g)
section
theorem xB:cX ["_law_script", "_law_k"] ["_law_script", "_law_k"] (aE (top 52)):=⟨rfl,rfl,rfl,by decide +kernel,rfl,by decide +kernel,by decide +kernel⟩
theorem ya (F:Fun K "_law_cell_at" "_law_cell_at" (top 52) f fd) (bl:mg "len"=none):gM P w K mg base CX0 1 f fd ["_law_script", "_law_k"] (Dl K):=by
 refine F.ok xB (fun vs H Q E h=>?_) (fun cdv A outer s H vs Q E hr h=>?_)
 ·obtain ⟨a,ns,k,rfl,_⟩:=h;rfl
 ·obtain ⟨a,ns,k,rfl,hS,hk,kk⟩:=h;refine ⟨_,cH (zA (xD (Kp (pv 1) (fW ji rfl bl PySem.boot_len (eo (pv 0) f7)))) (ic (qb (DU sW (pv 0) (pv 1) (fun _ _=>rfl)))) uj)
   (cH (zA (j7 (wV hr.units) (pv 0) (yf f7) (i4 _)) (ic (qb gu)) uj)
   (ic (qb (eY mM (eY mO (DU sW (pv 0) (eY oz (pv 1) (fW ji rfl bl PySem.boot_len (eo (pv 0) f7))) (fun _ _=>rfl)) gu) (pv 1))))),?_⟩
  refine ⟨_,rfl,_,rfl,a,_,rfl,.inl hS,k,_,rfl,rfl,_,rfl,?_⟩;have hlen:(ns.map V.int).length=ns.length:=L3 ..;rw [hlen];refine Ko (fun hc=>?_) (fun hc=>?_)
  ·have hc:k<(ns.length:Int):=of_decide_eq_true hc;have hi:k.toNat<ns.length:=by omega
   refine ⟨_,rfl,_,rfl,a,_,k,.int (ns.getD k.toNat 0),rfl,rfl,hS,tU hk ?_,?_⟩
   ·rw [LQ,L1 hi,M1,L1 hi];rfl
   ·have:=kk H (ax.refl H);rw [show cellAt ns k=ns.getD k.toNat 0 by unfold cellAt;rw [if_pos hc]] at this;exact this
  ·have hc:¬ k<(ns.length:Int):=fun z=>hc (decide_eq_true z)
   refine ⟨_,rfl,Mw _,fun p hp=>⟨.list (ns.map .int),.list [],(sX hS (rA ns)).same (gU hp),sX (SqL.of aG) p7,shaped_ints ns,w5,_,rfl,?_⟩⟩;rw [Dn];refine Ko (fun hz=>?_) (fun hz=>?_)
   ·have hz:ns=[]:=of_decide_eq_true hz;have:=kk _ (gU (o:=.lst []) hp);rw [show cellAt ns k=0 by unfold cellAt;rw [if_neg hc,if_pos hz]] at this;exact this
   ·have hz:¬ ns=[]:=fun z=>hz (decide_eq_true z)
    have hpos:0<(ns.length:Int):=by
     cases ns with
     | nil=>exact absurd rfl hz
     | cons _ _=>simp
    have h1:0<=k % (ns.length:Int):=Mt _ (by omega);have h2:k % (ns.length:Int)<(ns.length:Int):=MM _ hpos;have hi:(k % (ns.length:Int)).toNat<ns.length:=by omega
    have s1:ax H (upd H p (.lst [])):=gU hp;refine ⟨_,rfl,_,rfl,_,rfl,a,_,rfl,.inl (s1.seq hS),_,_,rfl,rfl,by rw [hlen];exact hpos,a,_,_,.int (ns.getD (k % (ns.length:Int)).toNat 0),rfl,rfl,s1.seq hS,?_,_,_,rfl,rfl,.inr ⟨by decide,by decide⟩,_,rfl,_,_,rfl,rfl,?_⟩
    ·rw [hlen];refine tU h1 ?_;rw [LQ,L1 hi,M1,L1 hi];rfl
    ·have:=kk _ s1;rw [show cellAt ns k=ns.getD (k % (ns.length:Int)).toNat 0*31+k by unfold cellAt;rw [if_neg hc,if_neg hz]] at this;exact this
theorem vW:cX ["_law_script", "_law_k", "_law_many", "_law_drawn"] ["_law_script", "_law_k", "_law_many"] (aE (top 53)):=⟨rfl,rfl,rfl,by decide +kernel,rfl,by decide +kernel,by decide +kernel⟩
theorem Ct {fC:Addr} {fdC:FuncData} (F:Fun K "_law_mixed" "_law_mixed" (top 53) f fd) (FC:Fun K "_law_cell_at" "_law_cell_at" (top 52) fC fdC) (bC:Binds K fdC ["_law_script", "_law_k"] []) (mC:mg "_law_cell_at"=some (.ref fC)) (bl:mg "len"=none):gM P w K mg base CX0 2 f fd ["_law_script", "_law_k", "_law_many"] (GQ K):=by
 have GC:gM P w K mg base CX0 1 fC fdC _ (Dl K):=ya FC bl;refine F.ok vW (fun vs H Q E h=>?_) (fun cdv A outer s H vs Q E hr h=>?_)
 ·obtain ⟨a,ns,k,many,rfl,_⟩:=h;rfl
 ·obtain ⟨a,ns,k,many,rfl,hS,hk,hm,kk⟩:=h;refine ⟨_,cH (qw (i:=3) vW.nd rfl (Or.inl rfl) (eY oz (eY mO (eY mM (eY mM (yV GC hr rfl mC FC.kp bC .nil Kn (eo (pv 0) (eo (pv 1) f7))) (eY mO gu (pv 1))) gu) gu) gu))
   (ic (qb (eY oz (eY oz (eY mM (eY mM (eY mO (pv 3) (pv 3)) (eY mO gu (pv 3))) (pv 1)) gu) (pv 2)))),?_⟩
  refine ⟨_,rfl,_,rfl,a,ns,k,rfl,hS,hk,fun H1 s1=>?_⟩;refine ⟨_,rfl,_,_,rfl,rfl,.inl ⟨by decide,by decide⟩,_,_,rfl,rfl,_,_,rfl,rfl,_,_,rfl,rfl,.inr ⟨by decide,by decide⟩,_,_,rfl,rfl,(by show (0:Int)<2147483647;decide),?_⟩;have b1:=EB ns k;have b2:=EJ ns k;have eD:(cellAt ns k+7919*k+1)*48271 % 2147483647=AY ns k:=rfl;refine ⟨_,rfl,_,rfl,_,_,rfl,rfl,.inl ⟨?_,?_⟩,_,rfl,_,_,rfl,rfl,.inl ⟨by decide,by decide⟩,_,_,rfl,rfl,_,rfl,_,_,rfl,rfl,_,_,rfl,rfl,(by show (0:Int)<2147483629;decide),_,rfl,_,_,rfl,rfl,hm,kk H1 s1⟩
  ·show -(2 ^ 64)<(cellAt ns k+7919*k+1)*48271 % 2147483647;rw [eD];omega
  ·show (cellAt ns k+7919*k+1)*48271 % 2147483647<2 ^ 64;rw [eD];omega
theorem nF (T:Tx K mg cs):iC P w K mg base 2 "_law_mixed" 3 aj:=by obtain ⟨f,fd,F,b,m⟩:=T.f_law_mixed;obtain ⟨fC,fdC,FC,bC,mC⟩:=T.f_law_cell_at;exact iC.old (Ct F FC bC mC (T.bs _ (by decide))) m F.kp b FI
theorem qV (T:Tx K mg cs):oM P w K mg base 1 "Holding" cs.Holding ["number", "part", "tool", "times"]:=by
 obtain ⟨f,fd,M,F,b⟩:=T.k_Holding.mi;refine ⟨f,fd,_,M,lz (k:=0) (N:=["self", "number", "part", "tool", "times"]) F ⟨rfl,rfl,rfl,by decide +kernel,rfl,by decide +kernel,by decide +kernel⟩ (fun vs H Q E h=>?_) (fun cdv A outer s H vs Q E hr h=>?_),b,T.m_Holding⟩
 ·obtain ⟨x,dx,args,rfl,hl,_⟩:=h;rw [LS,hl];rfl
 ·obtain ⟨x,dx,args,rfl,hl,hx,k⟩:=h;obtain ⟨g,rfl⟩:=Ai .non hl;refine ⟨_,(cH (gm (pv 0) (pv 1) rfl) (cH (gm (pv 0) (pv 2) rfl) (cH (gm (pv 0) (pv 3) rfl) (ic (gm (pv 0) (pv 4) rfl))))),?_⟩;refine ⟨_,rfl,_,rfl,x,cs.Holding,dx,_,rfl,hx,T.k_Holding.cl,T.k_Holding.na _ (by decide),(by show 0<1000;decide),_,rfl,_,rfl,x,cs.Holding,dx,_,rfl,aG,T.k_Holding.cl,T.k_Holding.na _ (by decide),(by show 1<1000;decide),_,rfl,_,rfl,x,cs.Holding,dx,_,rfl,aG,T.k_Holding.cl,T.k_Holding.na _ (by decide),(by show 2<1000;decide),_,rfl,_,rfl,x,cs.Holding,dx,_,rfl,aG,T.k_Holding.cl,T.k_Holding.na _ (by decide),(by show 3<1000;decide),?_⟩;exact k _ (fun b hb=>by rw [aA hb,aA hb,aA hb,aA hb]) (by rw [aG];rfl)
theorem yp (T:Tx K mg cs):MkD P w K mg base 1 "Jobs" cs.Jobs JN JT:=by
 obtain ⟨f,fd,M,F,b⟩:=T.k_Jobs.mi;refine ⟨f,fd,_,M,lz (k:=0) (N:=["self", "number", "parts", "rank", "row"]) F ⟨rfl,rfl,rfl,by decide +kernel,rfl,by decide +kernel,by decide +kernel⟩ (fun vs H Q E h=>?_) (fun cdv A outer s H vs Q E hr h=>?_),b,T.m_Jobs⟩
 ·obtain ⟨x,dx,args,rfl,hl,_⟩:=h;rw [LS,hl];rfl
 ·obtain ⟨x,dx,args,rfl,hl,hx,k⟩:=h;obtain ⟨g,rfl⟩:=Ai .non hl;refine ⟨_,(cH (gm (pv 0) (pv 1) rfl) (cH (gm (pv 0) (pv 2) rfl) (cH (gm (pv 0) (pv 3) rfl) (cH (gm (pv 0) (pv 4) rfl) (cH (gm (pv 0) gu rfl) (cH (gm (pv 0) gu rfl) (ic (gm (pv 0) gu rfl)))))))),?_⟩;refine ⟨_,rfl,_,rfl,x,cs.Jobs,dx,_,rfl,hx,T.k_Jobs.cl,T.k_Jobs.na _ (by decide),(by show 0<1000;decide),_,rfl,_,rfl,x,cs.Jobs,dx,_,rfl,aG,T.k_Jobs.cl,T.k_Jobs.na _ (by decide),(by show 1<1000;decide),_,rfl,_,rfl,x,cs.Jobs,dx,_,rfl,aG,T.k_Jobs.cl,T.k_Jobs.na _ (by decide),(by show 2<1000;decide),_,rfl,_,rfl,x,cs.Jobs,dx,_,rfl,aG,T.k_Jobs.cl,T.k_Jobs.na _ (by decide),(by show 3<1000;decide),_,rfl,x,cs.Jobs,dx,_,rfl,aG,T.k_Jobs.cl,T.k_Jobs.na _ (by decide),(by show 4<1000;decide),_,rfl,x,cs.Jobs,dx,_,rfl,aG,T.k_Jobs.cl,T.k_Jobs.na _ (by decide),(by show 5<1000;decide),_,rfl,x,cs.Jobs,dx,_,rfl,aG,T.k_Jobs.cl,T.k_Jobs.na _ (by decide),(by show 6<1000;decide),?_⟩;exact k _ (fun b hb=>by rw [aA hb,aA hb,aA hb,aA hb,aA hb,aA hb,aA hb]) (by rw [aG];rfl)
set_option hygiene false
local macro_rules | `(tactic| infer_instance)=>`(tactic| first | ((with_reducible show _=_);exact rfl) | (with_reducible first | (show PD _ _ _ _;first | refine' Ir .. | refine' Iy .. | refine' FY .. | refine' KN .. | refine' HA .. | refine' G8 .. | refine' JJ .. | refine' HI .. | refine' IK .. | refine' Ji .. | refine' IA .. | refine' IT .. | refine' G2 .. | refine' Hg .. | refine' He .. | refine' G6 .. | refine' Ky .. | refine' KQ .. | refine' IV .. | refine' Ip .. | refine' Ik .. | refine' DX .. | refine' E6 .. | refine' HH .. | (show PD _ _ _ (aq (sj _ _) _);apply Gi) | refine' ES .. | (show PD _ _ _ (aq _ _);apply Gu) | refine' AH .. | refine' AQ .. | refine' IS .. | refine' IE .. | refine' Ia .. | refine' CA .. | refine' wI .. | refine' AN .. | refine' EU .. | refine' ER .. | refine' E5 .. | refine' BD .. | (show PD _ _ _ (bx _ _ _ _ ah);apply BK) | (show PD _ _ _ (bx _ _ _ _ _);apply Ej) | refine' Kz .. | refine' Kc .. | refine' Kx .. | refine' J5 .. | refine' IM .. | refine' F5 ..) | (show PAD _ _ _ _;first | refine' BB .. | refine' Gr ..) | (show PCD _ _ _ _;first | refine' HC .. | refine' Hj .. | refine' IP .. | refine' Iw .. | refine' G0 .. | refine' FH .. | refine' B4 .. | refine' Gb .. | refine' GR (zU ..) | refine' GR (DF ..) | refine' Ge ..) | (show PSD _ _ _ _ _;first | refine' uv .. | refine' DV .. | refine' A9 .. | (show PSD _ _ _ _ (ql _ _ _ _ _ _ _);apply Bq) | refine' C4 .. | (show PSD _ _ _ (.Assign _ (.ListComp _ _ _ _) _) (aL _ _ (gL _));apply BL;apply vY;focus with_unfolding_all exact rfl) | (show PSD _ _ _ (.Assign _ (.ListComp _ _ _ _) _) (eU _ _ _);apply C8;apply vY;focus with_unfolding_all exact rfl) | refine' FV .. | refine' B2 .. | refine' Gw .. | refine' D0 .. | refine' Eb .. | refine' EM .. | refine' xm .. | refine' FR .. | refine' Cn .. | (show PSD _ _ _ _ (fz _ _ _ _);apply FK) | refine' Ax ..) | (show PBD _ _ _ _ _;first | refine' tL .. | refine' nX .. | refine' iM ..) | (show PLD _ _ _ _;first | (show PLD _ _ _ (a8 _ _ _ _ _);apply CD) | refine' Fh .. | refine' AE ..) | (show PID _ _ _ _ _;first | refine' xP .. | refine' DB .. | refine' FZ .. | refine' FU ..) | (show PIf _ _ _;first | exact PIf.nil | refine' PIf.one ..) | (show PWD _ _ _ _;first | refine' zU .. | refine' DF .. | refine' D4 .. | refine' E8 ..) | (show TgS _ _ _ _;first | refine' DQ .. | refine' Fs ..) | (show POD _ _ _ _;first | refine' Dt .. | refine' Dm ..) | (show PSN _ _ _ _ _ _;first | refine' HR .. | refine' Ay .. | refine' FJ .. | refine' ym .. | (show PSN _ _ _ _ _ (kR _ _ _ _ _);apply C1) | refine' Im ..) | (show PBN _ _ _ _ _ _;first | refine' EH .. | refine' zO .. | refine' vV ..)) <;> infer_instance | ((with_reducible show PBD _ _ _ _ _); first | refine' iM ?_ ?_ | refine' nX ?_) <;> infer_instance | ((with_reducible show PBN _ _ _ _ _ _); first | refine' vV ?_ ?_ | refine' zO ?_) <;> infer_instance | ((with_reducible show PG _ _ _); first | refine' ug ?_ ?_ ?_ | refine' B7 ?_ ?_) <;> infer_instance | ((with_reducible show PGs _ _ _); first | refine' pD ?_ ?_ | exact zD) <;> infer_instance | exact rfl | ((with_reducible show iC _ _ _ _ _ _ _ _ _);(with_reducible refine' iC.to ?z1 ?z2 ?z3);(case z1=>with_reducible assumption);(case z2=>exact ⟨rfl,rfl,rfl,rfl,rfl⟩);(case z3=>rfl)) | ((with_reducible show iR _ _ _ _ _ _ _ _ _ _);(with_reducible refine' iR.to ?z1 ?z2 ?z3);(case z1=>with_reducible assumption);(case z2=>exact ⟨rfl,rfl,rfl,rfl,rfl⟩);(case z3=>rfl)) | ((with_reducible show jZ _ _ _ _ _ _ _ _ _);(with_reducible refine' jZ.to ?z1 ?z2);(case z1=>with_reducible assumption);(case z2=>exact ⟨rfl,rfl,rfl,rfl,rfl⟩)) | ((with_reducible show oM _ _ _ _ _ _ _ _ _);(with_reducible refine' oM.to ?z1 ?z2);(case z1=>with_reducible assumption);(case z2=>exact ⟨rfl,rfl,rfl,rfl,rfl⟩)) | exact hr | exact Gy | exact uV | exact T.bs _ (by decide +kernel) | exact T.cst (_,_) (by decide +kernel) | exact .inl rfl | exact .inr rfl | exact .inr (.inl rfl) | exact .inr (.inr rfl) | exact nd | exact uy (by kernel_rfl) | exact PassesOwn.leaving | exact C6 | exact uT | exact fun _=>rfl | exact fun _ _=>rfl | ((with_reducible intro _ _ _ _);infer_instance) | exact T.e_NoComings | exact T.e_NoErrand | exact T.e_NoErrands | exact T.e_NoRanks | exact Jq | exact T.k_Holding.cl | exact T.k_Holding.na _ (by decide +kernel) | exact T.k_Jobs.cl | exact T.k_Jobs.na _ (by decide +kernel) | exact Cg | exact bt_bool | exact vS | exact sV | exact cx.u1 hr | exact hr.units | exact ⟨rfl,rfl,rfl,rfl⟩ | exact hr.in1.deeper _ | exact cx.u1 (hr.in1.deeper _) | decide | with_unfolding_all rfl)
local macro_rules | `(tactic| and_intros)=>`(tactic| (intro f cdv A outer s H E nd hr;infer_instance))
theorem uQ (T:Tx K mg cs) { aR aV cN aQ gf:Gf} {gm_Jobs_go_on:List (Str×PyData)->Option (List (Str×PyData))} (D_heights_of:iC P w K mg base 3 "heights_of" 2 aR) (D_Jobs_are_done:iR P w K mg base 1 cs.Jobs "are_done" 1 aV) (D_picked:iC P w K mg base 6 "picked" 3 cN) (D_Jobs_is_there:iR P w K mg base 1 cs.Jobs "is_there" 2 aQ) (D_Jobs_go_on:jZ P w K mg base 3 cs.Jobs "go_on" gm_Jobs_go_on) (yp:MkD P w K mg base 1 "Jobs" cs.Jobs JN JT) {Gt:Ds->Sr}
  (hGt:∀ δ,Gt δ≠.no->∃ d ds fss,Gt δ=.rt d/\5<δ.length/\δ.length=9/\(iG (ae (af 2) ah)) (mask [6] δ)=.ok ds/\ds.length<=1000000/\fss.length=ds.length/\(∀ (i:Nat) d,ds[i]?=some d->∃ ow fs,jX d=some ow/\fss[i]?=some fs/\(ae (af 9) (ae (g2 dIx (g2 dIx (af 0) (af 9)) (gC (.int 3))) (ae (kI (af 1) (af 9)) (ae (af 10) ah)))) (mask [6] δ++ow)=.ok fs/\fs.length=JN.length) /\
   ∀ as:List Addr,as.length=ds.length->as.Nodup->iZ cs aR aV cN aQ gm_Jobs_go_on as (δ.set 5 (some (.list (kB cs.Jobs JN JT as fss))))=.rt d)
  (hL:∀ ds,ds.length=4->gf ds≠.no->bc (az (aL [6] 4 (aq aR (ae (af 0) (ae (af 1) ah)))) Gt (ds.map some++List.replicate 5 none))=gf ds):iC P w K mg base 7 "run_of" 4 gf :=
 dA P w base 6 [6] ["errands", "ranks", "rows", "lending", "tops", "queues", "told", "there", "best"] T.f_run_of hL fun f cdv A outer s H E nd hr=>iM (by infer_instance) (Fm (PS.imp (oZ (i:=5) (M:=["errands", "ranks", "rows", "lending", "tops", "queues", "told", "there", "best"]) (own:=["number", "row"]) (te:=eMk K E0 cs.Jobs JN JT (ae (af 9) (ae (g2 dIx (g2 dIx (af 0) (af 9)) (gC (.int 3))) (ae (kI (af 1) (af 9)) (ae (af 10) ah))))) rfl nd rfl (by first | exact Or.inl rfl | exact Or.inr rfl) rfl (show PID _ E _ _ (iG (ae (af 2) ah)) from by infer_instance) (fun _ _ _ _=>(B7 rfl (pD (ug (i:=9) (uy (by kernel_rfl)) rfl (Or.inl rfl) (.inr rfl)) (pD (ug (i:=10) (uy (by kernel_rfl)) rfl (Or.inl rfl) (.inr rfl)) zD)))) (fun _ _ _ _=>.nil) (fun _ _ _ _=>Kj yp hr uV (by infer_instance))) (fun D σ H h=>IY (n0:=9) uT σ H _ h)) (fun as=>by delta iZ;infer_instance) (by decide) hGt)
theorem law_ok (T:Tx K mg cs) (hB:nM mg base) (hK:K.In base) (F:Fun K "law" "law" (top 60) f fd):gM P w K mg base (CXW P w) 9 f fd ["_law_script"] (spD K 1 (fO 63)):=by
 have qV:=qV (P:=P) (w:=w) (base:=base) T;have:=dA P w base 0 [] ["errand", "tool"] T.f_has_tool (yn cs) (by delta jh;and_intros);have:=dA P w base 1 [] ["errands", "ranks", "tool", "place", "number"] T.f_height (Dp cs) (by delta lI;and_intros);have D_heights_of:=dA P w base 2 [] ["errands", "ranks"] T.f_heights_of (uD cs) (by delta gN;and_intros);have:=dA P w base 3 [5] ["errands", "ranks", "number", "place", "tops", "found", "lower", "part", "pair"] T.f_holdings (xF cs) (by delta je;and_intros);have:=dA P w base 4 [] ["errands", "ranks", "number"] T.f_hold_by_high (oN cs) (by delta fh;and_intros);have:=dA P w base 0 [] ["thing", "least", "most"] T.f_is_whole (xU cs) (by delta iY;and_intros);have:=dA P w base 1 [] ["errands", "number"] T.f_checked_number (mE cs) (by delta en;and_intros);have:=dA P w base 0 [] ["thing", "fewest", "most"] T.f_is_tuple (xk cs) (by delta jf;and_intros);have:=dA P w base 1 [] ["errands", "ranks", "last"] T.f_checked_ranks (nR cs) (by delta cM;and_intros);have:=dA P w base 1 [] ["thing"] T.f_is_part (A5 cs) (by delta gP;and_intros);have:=dA P w base 2 [] ["thing"] T.f_are_parts (wg cs) (by delta f6;and_intros);have:=dA P w base 3 [] ["thing", "every", "due", "late"] T.f_is_errand (wa cs) (by delta dX;and_intros);have:=dA P w base 4 [] ["errands"] T.f_checked (AS cs) (by delta iK;and_intros);have:=dA P w base 5 [] ["errands", "ranks", "number"] T.f_check_place (qO cs) (by delta fP;and_intros);have:=dA P w base 6 [] ["errands", "ranks", "number"] T.f_hold (HW cs) (by delta ud;and_intros);have:=dA P w base 0 [2] ["_law_errands_here", "_law_times", "_law_made", "_law_every", "_law_due", "_law_late", "_law_parts"] T.f_law_taken (vM cs) (by delta fS;and_intros);have:=dA P w base 0 [] ["errand"] T.f_work_of (Ad cs) (by delta qZ;and_intros);have:=dA P w base 0 [] ["times", "every"] T.f_rounded_up (tX cs) (by delta gB;and_intros);have:=dA P w base 1 [] ["errands", "ranks", "number", "held_up", "times", "total", "higher", "errand"] T.f_need (HM cs) (by delta tF;and_intros);have:=dA P w base 2 [5] ["errands", "ranks", "number", "held_up", "most", "found", "level", "following"] T.f_levels_by (uJ cs) (by delta ia;and_intros);have:=dA P w base 3 [] ["errands", "ranks", "number", "held_up", "found"] T.f_longest_by (sZ cs) (by delta fu;and_intros);have:=dA P w base 5 [] ["errands", "ranks", "number"] T.f_longest_by_high (lU cs) (by delta dQ;and_intros);have:=dA P w base 6 [] ["errands", "ranks", "number"] T.f_longest (AA cs) (by delta kl;and_intros);have nF:=nF (P:=P) (w:=w) (base:=base) T;have:=dA P w base 0 [] ["errand", "row", "every", "late", "earliest", "came", "moment"] T.f_have_moments (pw cs) (by delta fo;and_intros);have:=dA P w base 1 [] ["errand", "thing"] T.f_is_row (DW cs) (by delta k8;and_intros);have:=dA P w base 5 [] ["errands", "comings"] T.f_checked_comings (lS cs) (by delta dO;and_intros);have D_Jobs_are_done:=dM P w base 0 [] ["self"] (gf:=aV cs) (G:=dD cs) T.k_Jobs.mt_Jobs_are_done T.k_Jobs.cl (mg:=mg) jW (by delta dD;and_intros);have:=dM P w base 0 [] ["self"] (gf:=aM cs) (G:=eJ cs) T.k_Jobs.mt_Jobs_wanted T.k_Jobs.cl (mg:=mg) jW (by delta eJ;and_intros);have:=dM P w base 0 [] ["self"] (gf:=aT cs) (G:=fT cs) T.k_Jobs.mt_Jobs_held T.k_Jobs.cl (mg:=mg) jW (by delta fT;and_intros);have:=dA P w base 1 [] ["there", "tool", "jobs"] (gf:=bN cs) (G:=jN cs _) T.f_holder jW (by delta jN;and_intros);have:=dA P w base 2 [1] ["there", "lent", "jobs", "other"] (gf:=cE cs) (G:=gD cs _ _) T.f_lent_ranks jW (by delta gD;and_intros);have:=dA P w base 1 [] ["jobs", "tops", "tool"] (gf:=bZ cs) (G:=cg cs _) T.f_height_by_high jW (by delta cg;and_intros);have D_picked:=dT (P:=P) (w:=w) 5 [] ["there", "tops", "lending", "free", "lent"] (gf:=cN cs) (G:=jx cs _ _ _ _) T.f_picked T.nm_picked T.tb_picked hB hK jW fun f cdv A outer s H E nd hr c Pt TAB=>by delta jx;exact (iM (DV (by infer_instance) (nX (uv (qe (N:=["jobs", "tops"]) (p:="jobs") (cap:=[1]) (T.bs _ (by decide)) hr (by infer_instance) TAB (fun q c' s H=>(by infer_instance))))) tL)      (iM (by infer_instance)      (iM (by infer_instance)      (nX (uv (qe (N:=["jobs", "lent"]) (p:="jobs") (cap:=[4]) (T.bs _ (by decide)) hr (by infer_instance) TAB (fun q c' s H=>(by infer_instance))))))))
 have D_Jobs_is_there:=dM P w base 0 [] ["self", "time"] (gf:=aQ cs) (G:=dE cs) T.k_Jobs.mt_Jobs_is_there T.k_Jobs.cl (mg:=mg) jW (by delta dE;and_intros);have D_Jobs_go_on:=dK (P:=P) (w:=w) (base:=base) (mg:=mg) 2 ["self"] T.k_Jobs.mt_Jobs_go_on T.k_Jobs.cl (Dv cs) fun as f cdv A outer s H E nd hr=>by delta gE;infer_instance
 have uQ:=uQ (P:=P) (w:=w) (base:=base) T D_heights_of D_Jobs_are_done D_picked D_Jobs_is_there D_Jobs_go_on (yp T) (El cs) (CO cs);have:=dA P w base 7 [] ["errands", "ranks", "comings", "lending"] T.f_run (Kh cs) (by delta yA;and_intros);have:=dA P w base 2 [6] ["_law_script", "_law_at", "_law_errand_here", "_law_span", "_law_seed", "_law_moment", "_law_made", "_law_k", "_law_drawn", "_law_come"] T.f_law_coming_row (mn cs) (by delta c9;and_intros);have:=dA P w base 3 [] ["_law_script", "_law_at", "_law_errands_here", "_law_span"] T.f_law_comings (qS cs) (by delta eG;and_intros);have:=dA P w base 2 [3,4] ["_law_script", "_law_at", "_law_many", "_law_left", "_law_made", "_law_k"] T.f_law_ranks (wz cs) (by delta ib;and_intros);have:=dA P w base 2 [7] ["_law_script", "_law_at", "_law_top", "_law_tools", "_law_every", "_law_late", "_law_due", "_law_parts", "_law_k", "_law_cell"] T.f_law_errand (tw cs) (by delta gJ;and_intros);have:=dA P w base 3 [] ["_law_script", "_law_at", "_law_most", "_law_top", "_law_tools", "_law_many"] T.f_law_errands (qN cs) (by delta fQ;and_intros);exact dL (ps:=["_law_script"]) 8 [5] ["_law_script", "_law_errands_here", "_law_ranks_here", "_law_comings_here", "_law_done", "_law_spent", "_law_time", "_law_job", "_law_number", "_law_whole", "_law_times", "_law_most", "_law_due"] F (KO cs) (by delta yB;and_intros)
end
end RS
namespace L2
open PySem PySem.Spec PyProof.Rows
theorem EA {kV:Value}
  (hb:∀ (kV doc pm:Value) (an:Option Addr) (cdv ct:Value) (us:List Value),us.length=ps.length->bindArgs (PySem.W.fnOf m qual (fk st) (cm st) (aE st) .none kV doc pm an cdv ct) ⟨us,[]⟩=pure (ps.zip us))
  (hm:Meth K C m f) (l:K.lookup f=some ⟨oc,od,.func (PySem.W.fnOf m qual (fk st) (cm st) (aE st) .none kV dc pm an cd ct),sl⟩)
  (c:PySem.W.codeIn K cd qual=true) (k:PySem.W.keepIn K (.ref f)=true):∃ f fd,Fun K m qual st f fd/\Binds K fd ps []/\Meth K C m f :=
 have F:=xW (st:=st) l c k
 ⟨f,_,F,F.binds hb,hm⟩
end L2
set_option maxHeartbeats 4000000
namespace L2
open PySem PySem.Spec PyProof.Rows
variable {vs:Array Value} {P:Addr}
theorem BO {o:Obj} (h1:PySem.W.nsIn K mainGlobals x=some (some (.ref f))) (h2:K.lookup f=some ⟨oc,od,.func fd,sl⟩) (h3:fd.code=.ref c) (h4:K.lookup c=some o) (h5:o.data=.fields vs) (h6:vs[11]?=some (.ref P)):PySem.W.tabIn K x=some (c,P):=by obtain ⟨cl,di,da,so⟩:=o;cases h5;unfold PySem.W.tabIn;rw [h1];simp only;rw [h2];simp only;rw [h3];simp only;rw [h4];simp only;rw [h6]
theorem AJ (hl:lN=[x]) {p:Program} {d:DefRec} (hr:(recsOf p).find? (fun e=>e.name==x)=some d) (hn:PySem.W.noTabs K=true) (T:Top p loose mean mg mb h) (X:K.In h):mJ K h:=by
 refine ⟨fun P q ⟨x',hx,f,oc,od,fd,sl,c,h1,h2,h3,⟨o,vs,h4,h5,h6⟩,hq⟩=>?_,fun P q q' ⟨x1,hx1,_,_,_,_,_,_,_,_,_,_,e1⟩ ⟨x2,hx2,_,_,_,_,_,_,_,_,_,_,e2⟩=>?_⟩
 ·rw [hl] at hx;cases LM.mp hx;have ht:=BO h1 h2 h3 h4 h5 h6;obtain ⟨hc,hp⟩:=PySem.W.tab_of T X hr ht;refine ⟨hp,?_,?_⟩
  ·cases z:K.lookup P with
   | none=>rfl
   | some o' =>exfalso;have e:=X P o' z;rw [hp] at e;cases e;have h7:=LU.mp hn (P,_) (PySem.W.mem_of_lookupK z);exact absurd (show false=true from h7) LX
  ·obtain ⟨o2,vs2,_,_,_,_,_,_,_,g1,g2,g3,g4,_⟩:=hc;exact ⟨c,o2,vs2,g1,g2,g3,g4⟩
 ·rw [hl] at hx1 hx2;rw [e1,e2,LM.mp hx1,LM.mp hx2]
theorem Ar {file:Str} {tf:Nat} {flags text:Int} {tg tt:Nat} {inF:Bool} (l:K.lookup c=some ⟨.type "code",od,.fields vs,sl⟩) (h11:vs[11]?=some (.ref P)) (h18:vs.getD 18 .none=.str file tf) (h7:vs.getD 7 .none=.int flags tg) (h9:vs.getD 9 .none=.bool inF) (h10:vs.getD 10 .none=.int text tt) (ne:(c != P)=true):PySem.W.codeHdIn K c P=true:=by unfold PySem.W.codeHdIn;rw [l];simp only;rw [h11,h18,h7,h9,h10,ne];simp
theorem FP {od2:Option Addr} {sl2:Array (Option Value)} {file:Str} {tf:Nat} {flags text:Int} {tg tt:Nat} {inF:Bool} (h1:PySem.W.nsIn K mainGlobals x=some (some (.ref f))) (h2:K.lookup f=some ⟨oc,od,.func fd,sl⟩) (h3:fd.code=.ref c) (l:K.lookup c=some ⟨.type "code",od2,.fields vs,sl2⟩) (h11:vs[11]?=some (.ref P)) (h18:vs.getD 18 .none=.str file tf) (h7:vs.getD 7 .none=.int flags tg) (h9:vs.getD 9 .none=.bool inF) (h10:vs.getD 10 .none=.int text tt) (ne:(c != P)=true):E1 K x :=
 ⟨f,oc,od,fd,sl,c,P,_,vs,h1,h2,h3,l,rfl,h11,Ar l h11 h18 h7 h9 h10 ne⟩
theorem wQ (hl:lN=[x]) {p:Program} (hr:((recsOf p).find? (fun e=>e.name==x)).isSome=true) (hn:PySem.W.noTabs K=true) (T:Top p loose mean mg mb h) (X:K.In h):mJ K h:=by obtain ⟨d,hd⟩:=Option.isSome_iff_exists.mp hr;exact AJ hl hd hn T X
end L2
set_option hygiene false
local macro_rules | `(tactic| and_intros)=>`(tactic| first | (refine' RS.Bu KX G (fun _ _ _ _ _ _ us hl=>by obtain ⟨f,rfl⟩:=RS.Ai PySem.Value.none hl;rfl) ?za ?zl ?zc ?zk;(case za=>k_is);(case zl=>k_is);(case zc=>k_is);(case zk=>k_is)) | (refine' L2.EA (fun _ _ _ _ _ _ us hl=>by obtain ⟨f,rfl⟩:=RS.Ai PySem.Value.none hl;rfl) ⟨?zm,?zf,?zp⟩ ?zl ?zc ?zq;(case zm=>k_is);(case zf=>k_is);(case zp=>k_is);(case zl=>k_is);(case zc=>k_is);(case zq=>k_is)) | (refine' PySem.W.mg_of KX G ?za;(case za=>k_is)) | (refine' PySem.W.mg_none_of KX G ?zz;(case zz=>k_is)) | (refine' RS.Ew KX G ?zz;(case zz=>k_is)) | (refine' RS.yy KX G ?za ?ze;(case za=>k_is);(case ze=>k_exc)) | (refine' ⟨_,RS.yy KX G ?za ?ze⟩;(case za=>k_is);(case ze=>k_exc)) | (refine' ⟨?zp,?zh,?zo,?zs⟩;(case zp=>k_is);(case zh=>k_is);(case zo=>k_is);(case zs=>k_is)) | (refine' L2.En (fun _ _ _ _ _ _ us hl=>by obtain ⟨f,rfl⟩:=RS.Ai PySem.Value.none hl;rfl) ?za ?zi ?zl ?zc ?zk ?zm ?zx;(case za=>k_is);(case zi=>k_is);(case zl=>k_is);(case zc=>k_is);(case zk=>k_is);(case zm=>k_is);(case zx=>k_is)) | exact List.forall_mem_nil _ | ((first | refine List.forall_mem_cons.2 ⟨?_,?_⟩ | refine List.forall_mem_singleton.2 ?_) <;> (try dsimp only) <;> and_intros) | (refine' L2.FP ?za ?zb ?zc ?zd ?ze ?zf ?zg ?zh ?zi ?zj;(case za=>k_is);(case zb=>k_is);(case zc=>exact rfl);(case zd=>k_is);(case ze=>exact rfl);(case zf=>exact rfl);(case zg=>exact rfl);(case zh=>exact rfl);(case zi=>exact rfl);(case zj=>decide)) | exact fun g e=>PySem.W.mg_of KX G e | (delta L2.fw;k_is) | (dsimp only;and_intros))
open PySem PySem.W PyProof.Rows
set_option maxRecDepth 100000 in
set_option maxHeartbeats 0 in
theorem PySem.Challenge.cw_ranksure_k22_whole_without_tools_holds : PySem.Challenge.rw_ranksure_k22_whole_without_tools.Holds := by
 refine RS.hdTop ?_
 k_fill
 refine RS.J9 (l:=PySem.Challenge.rw_ranksure_k22_whole_without_tools) (n:=63) (k:=9) (x:="_law_script") (st:=RS.top 60) rfl (by decide) rfl ⟨rfl,by decide,by decide⟩ (fun w h Y=>PySem.W.km_in_of Y) (fun _ _ _ _ _ _ us hl=>by obtain ⟨f,rfl⟩:=RS.Ai PySem.Value.none hl;rfl) ?F (fun w h l m mg mb T X=>L2.wQ (x:="picked") rfl (by kernel_rfl) (by kernel_rfl) T X)
 case F =>
  intro w mg h KX G;obtain ⟨c_NoComings,h_NoComings⟩:∃ C,L2.qM (L2.KOf KX) mg "NoComings" C:=by delta L2.KOf;and_intros
  obtain ⟨c_NoErrand,h_NoErrand⟩:∃ C,L2.qM (L2.KOf KX) mg "NoErrand" C:=by delta L2.KOf;and_intros
  obtain ⟨c_NoErrands,h_NoErrands⟩:∃ C,L2.qM (L2.KOf KX) mg "NoErrands" C:=by delta L2.KOf;and_intros
  obtain ⟨c_NoRanks,h_NoRanks⟩:∃ C,L2.qM (L2.KOf KX) mg "NoRanks" C:=by delta L2.KOf;and_intros
  obtain ⟨c_Holding,h_Holding,k_Holding⟩:∃ C,mg "Holding"=some (.ref C)/\RS.oA (L2.KOf KX) C:=by
   delta L2.KOf
   refine' ⟨_,PySem.W.mg_of KX G ?za,⟨?zp,?zh,?zo,?zs⟩,?yHolding0,?yHolding1⟩
   (case za=>k_is);(case zp=>k_is);(case zh=>k_is);(case zo=>k_is);(case zs=>k_is);all_goals and_intros
  obtain ⟨c_Jobs,h_Jobs,k_Jobs⟩:∃ C,mg "Jobs"=some (.ref C)/\RS.zH (L2.KOf KX) C:=by
   delta L2.KOf
   refine' ⟨_,PySem.W.mg_of KX G ?za,⟨?zp,?zh,?zo,?zs⟩,?yJobs0,?yJobs1,?yJobs2,?yJobs3,?yJobs4,?yJobs5,?yJobs6⟩
   (case za=>k_is);(case zp=>k_is);(case zh=>k_is);(case zo=>k_is);(case zs=>k_is);all_goals and_intros
  have T:RS.Tx (L2.KOf KX) mg ⟨0,c_NoErrands,c_NoRanks,c_NoComings,c_NoErrand,0,0,0,c_Holding,c_Jobs⟩:=by constructor <;> first | assumption | ((try delta L2.KOf);and_intros)
  exact ⟨T.f_law,fun f fd F base hb hn hB=>RS.law_ok T hB hb F⟩
end
