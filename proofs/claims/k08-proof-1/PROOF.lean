import PyProof.Rows.All
import OpenK.AllK
import PySem.Challenge.RW_ranksure_k08_whole_waits_once
import KE.RegKIsAll
import Wide.All
import OpenK.KWalk
import OpenK.KMake
import OpenK.KDescr
import OpenK.KCall
import OpenK.KOwn
import KE.KIsAll
import KE.KItem
import KE.KxBytes
import Wide.FinOn
import Lean
import PyProof.EqAt
import PyProof.EqKinds
import PyProof.TupleCall
import KE.KLam
import KE.LcSums
import PyProof.Rows.EqDataRows
import PyProof.RulesAs
import PyProof.ZipIter
import PyProof.Draws
import KE.KMinKey
import PyProof.Rows.TupAdd
import PyProof.ListMulRoad
import PyProof.AutoListH
import PyProof.Rows.Range3
import PyProof.ListRange
import PyProof.EnumMake
import PyProof.EnumFor
import PyProof.Rows.SetFrom
import PyProof.WalksMore
import PyProof.StrOps2
import PyProof.Rows.MinMaxN
import PyProof.ConsumeWalk
import PyProof.Rows.SortWalk
import PyProof.ExcArgsOwn
import PyProof.StrBlock2
import PyProof.Rows.CallKwBuiltin
import KE.KDictLaws
import KE.KDictMeth
import KE.KDictObj
import KE.KDictLetter
import OpenK.KDict
import KE.KDictOf
import PyProof.Rows.RegDictMethods
import PySem.PyData
import KE.KNestM
noncomputable section
set_option genSizeOf false
set_option genSizeOfSpec false
set_option genInjectivity false
set_option compiler.extract_closed false
set_option bootstrap.genMatcherCode false
set_option Elab.async false
set_option linter.all false
abbrev L0:=@List.getElem?_eq_getElem
abbrev L1:=@PySem.Heap.get?_push_of_some
abbrev L3:=@List.mem_cons_of_mem
abbrev L4:=@List.map_cons
abbrev L5:=@List.length_map
abbrev L6:=@List.mem_cons_self
abbrev L7:=@List.mem_cons
abbrev L8:=@Bool.and_eq_true
abbrev L9:=@Nat.le_refl
abbrev Lw:=@List.mem_append_right
abbrev Lx:=@List.mem_singleton
abbrev Ly:=@PySem.Heap.lt_size
abbrev Lz:=@List.size_toArray
abbrev LA:=@List.mem_map
abbrev LB:=@List.length_append
abbrev LC:=@Nat.ne_of_lt
abbrev LD:=@List.all_eq_true
abbrev LF:=@PySem.Heap.get?_push_size
abbrev LG:=@List.getElem?_map
abbrev LH:=@Nat.lt_of_lt_of_le
abbrev LI:=@List.length_cons
abbrev LJ:=@List.getD_eq_getElem?_getD
abbrev LK:=@Bool.false_ne_true
abbrev LL:=@List.not_mem_nil
abbrev LM:=@List.getElem?_eq_some_iff
abbrev LN:=@List.map_congr_left
abbrev LO:=@List.mem_filter
abbrev LP:=@List.getElem?_append_left
abbrev LQ:=@List.map_map
abbrev LR:=@Bool.false_eq_true
abbrev LS:=@List.getElem?_append_right
abbrev LU:=@List.lookup_cons
abbrev LV:=@Int.toNat_natCast
abbrev LW:=@List.mem_append
abbrev LX:=@List.getElem?_set_ne
abbrev LY:=@List.getElem_mem
abbrev LZ:=@List.mem_append_left
abbrev M0:=@List.getElem?_set_self
abbrev M1:=@List.mem_of_getElem?
abbrev M3:=@List.nodup_cons
abbrev M4:=@List.nil_append
abbrev M5:=@List.map_append
abbrev M6:=@List.cons_append
abbrev M7:=@List.length_singleton
abbrev M8:=@Nat.zero_add
abbrev M9:=@Int.mul_le_mul_of_nonneg_right
abbrev Ma:=@PySem.Heap.get?_update_other
abbrev Mb:=@Nat.le_trans
abbrev Mc:=@Bool.and_eq_false_iff
abbrev Md:=@Bool.and_eq_true_iff
abbrev Me:=@Nat.zero_le
abbrev Mf:=@List.map_id
abbrev Mg:=@Nat.lt_succ_of_lt
abbrev Mh:=@List.length_pos_iff
abbrev Mi:=@List.append_nil
abbrev Mj:=@Nat.ne_of_gt
abbrev Ml:=@Nat.le_add_right
abbrev Mm:=@List.length_nil
abbrev Mn:=@Array.length_toList
abbrev Mo:=@List.replicate_succ
abbrev Mp:=@Nat.lt_irrefl
abbrev Mq:=@List.getElem?_eq_none
abbrev Mr:=@List.map_nil
abbrev Ms:=@List.find?_cons
abbrev Mt:=@Int.emod_nonneg
abbrev Mu:=@List.flatten_cons
abbrev Mv:=@List.getElem?_cons_succ
abbrev Mw:=@List.getElem?_cons_zero
abbrev Mx:=@List.mem_range
abbrev My:=@Nat.lt_succ_self
abbrev Mz:=@List.length_drop
abbrev MA:=@Option.map_eq_some_iff
abbrev MB:=@List.drop_of_length_le
abbrev MC:=@Int.emod_lt_of_pos
abbrev MD:=@Option.map_some
abbrev ME:=@List.mem_iff_getElem?
abbrev MF:=@List.append_assoc
abbrev MG:=@List.drop_eq_getElem_cons
abbrev MH:=@List.getElem?_mapIdx
abbrev MI:=@List.mem_of_mem_take
abbrev MJ:=@Int.le_refl
abbrev MK:=@List.length_take
abbrev ML:=@List.any_eq_true
abbrev MM:=@List.filter_cons
abbrev MN:=@Int.toNat_of_nonneg
abbrev MO:=@List.take_succ_cons
abbrev MP:=@List.length_eq_zero_iff
abbrev MQ:=@List.any_cons
abbrev MR:=@Int.natCast_nonneg
abbrev MS:=@List.length_range
abbrev MT:=@PySem.Heap.get?_update_self
abbrev MU:=@Option.bind_some
abbrev MV:=@List.mem_of_mem_drop
abbrev MW:=@List.ext_getElem
abbrev MX:=@List.all_cons
abbrev MY:=@Bool.and_true
abbrev MZ:=@List.exists_cons_of_ne_nil
abbrev N0:=@List.sum_cons
abbrev N1:=@Nat.le_succ
abbrev N2:=@List.filterMap_cons
abbrev N3:=@List.getElem?_range
abbrev N4:=@List.getElem_of_mem
abbrev N5:=@List.of_mem_zip
abbrev N6:=@List.foldl_cons
abbrev N7:=@List.forIn_cons
abbrev N8:=@List.getLast?_eq_none_iff
abbrev N9:=@List.zip_cons_cons
abbrev Na:=@List.set_cons_succ
abbrev Nb:=@List.set_cons_zero
abbrev Nc:=@List.ne_nil_of_mem
abbrev Nd:=@List.pairwise_cons
abbrev Nf:=@List.getElem?_replicate
abbrev Ng:=@Bool.true_and
abbrev Nh:=@Array.getElem?_toList
abbrev Ni:=@List.set_append_right
abbrev Nj:=@List.length_filter_le
abbrev Nk:=@List.mem_filterMap
abbrev Nl:=@Int.lt_of_lt_of_le
abbrev Nm:=@Bool.not_eq_true'
abbrev Nn:=@List.nodup_append
abbrev Np:=@List.getLast?_map
abbrev Nq:=@Nat.le_of_lt
abbrev Nr:=@List.getElem_inj
abbrev Nt:=@Option.getD_some
abbrev Nu:=@List.drop_length
abbrev Nv:=@List.range'_succ
abbrev Nw:=@List.take_length
abbrev Nx:=@List.mapIdx_cons
variable {p pos pos' cpos spos tp pn p2 kp:Pos} {q P prog:Program} {loose N M ps own names:List Str} {α β:Type} {us its':List Value} {a b it c C dx f D:Addr} {h base h':Heap} {items:Array Value} {w:World} {g':Array GenState} {ch A fp B A0 as:List Addr} {i j n m x1 n0:Nat} {x qual:Str} {E Q:Value->Shared->Prop} {u cd pm ct oc:Value} {s' s:Shared} {e tg body iter elt:Expr} {pins:List (Addr×Obj)} {op:CmpOp} {K:PySem.W.Frag} {g:List (Str×PyData)->Option (List (Str×PyData))} {lo hi:Option Int} {mA mg mb:Str->Option Value} {env:Env} {outer:List Env} {fd:FuncData} {scope:Scope} {params:Arguments} {an od:Option Addr} {osl sl:Array (Option Value)} {l:List (Int×Int)} {ns rs:List Int} {t ds told:List PyData} {XP:(Str->Option Value)->Heap->Prop} {YP:World->Heap->Prop} {st:Stmt} {cl:List (Str×Addr)} {ifs elts:List Expr} {newId:String} {O cap:List Nat} {nd tops:PyData} {tl:List (Str×Int)} {many span T:Int} {rows:List (List Int)} {mean:ExcName->Option Value}
namespace RS
open PySem PySem.W PyProof.Rows
def yW (p:Program) (w:World) (m:Nat) (ann:Option Value):Nat->SharedT->Thread->Option SharedT
 |0,_,_=>none
 |n+1,s,t=>match through t with
  |true=>some s
  |false=>match Fast.tw6613529449190102663 m ann t with
   |false=>none
   |true=>match Fast.tw10156331382660048174 (Fast.tw11892475500146522536 Fast.tw14364793385576792824) p w s t with
    |some x=>yW p w m ann n x.1 x.2
    |none=>none
theorem vT {p:Program} {w:World} {m:Nat} {ann:Option Value}:∀{n:Nat} {s s':SharedT} {t:Thread},yW p w m ann n s t=some s'->topRun treeTable p w m ann n s.abs t=some s'.abs
 |0,_,_,_,h=>by cases h
 |n+1,s,s',t,h=>by
  unfold yW at h;rw[<-Fast.te6613529449190102663,<-Fast.te10156331382660048174,<-Fast.te11892475500146522536,<-Fast.te14364793385576792824]at h;unfold topRun;cases ht:through t with
  |true=>rw[ht]at h;cases h;rfl
  |false =>
   rw[ht]at h;cases hk:stepOk m ann t with
   |false=>rw[hk]at h;cases h
   |true =>
    rw[hk]at h;cases hs:stepT (denote treeTable) p w s t with
    |none=>rw[hs]at h;cases h
    |some x =>rw[hs]at h;rw[stepT_spec (s':=x.1) (t':=x.2) hs];exact vT h
def Ip (l:List Obj):BT:=(l.foldl (λx o=>(x.1.ins x.2 o,x.2+1)) (BT.nil,0)).1
def hdS (w:World) (os:OsState):SharedT:=⟨Ip (boot_heap w.params).objs.toList,11,(boot_heap w.params).life,Array.mk [],boot_drawn,boot_toks,os⟩
theorem EI (w:World):(λos=>(hdS w os).abs)=λos=>⟨boot_heap w.params,Array.mk [],boot_drawn,boot_toks,os⟩:=by kernel_rfl
theorem HF (w:World):((boot_heap w.params).isNs mainGlobals&&(Array.mk []:Array GenState).size==0,(boot_heap w.params).objs.size,(boot_heap w.params).nsMap mainGlobals "__annotations__")=(true,11,some (.ref 6)):=by kernel_rfl
def DO (p q:Program) (loose:List Str) (Xt:Shared->Bool) {α:Type} (Yf:Shared->α) (h:Heap) (s:Shared) :=
 (staticsOk (importedModules p.main.body) h s.heap&&namesBound p s.heap&&gensDone s&&laidKept h s.heap,Fast.tw4187177175401517315 q loose (importedModules p.main.body) Xt true s,Yf s)
theorem IV {p:Program} {Xt:Shared->Bool} {Yf:Shared->α} {Ya:World->α} {N M:Nat}
  (e:opening p=plainProg p.main.scope.names) (a:Nat.ble 600 N=true) (f:∀s,fenceModules? p s=some s) (le:Nat.ble M N=true)
  (h:∀w,(λos=>(yW p w 11 (some (.ref 6)) M (hdS w os) (topStub p)).map λs=>DO p q loose Xt Yf (boot_heap w.params) s.abs)=λ_=>some (true,openGood q loose,Ya w)):LeftO p q loose Xt Yf Ya N:=λw=>by
 obtain⟨⟨b,gs,d,k,os⟩,e1,c⟩:=MA.mp (boot_open e a f w);obtain⟨rfl,rfl,rfl,rfl⟩:b=boot_heap w.params/\gs=Array.mk []/\d=boot_drawn/\k=boot_toks:=by simpa using c
 obtain⟨z1,z2,z3⟩:_/\_/\_:=by simpa only[Prod.mk.injEq] using HF w
 obtain⟨s,g,hv⟩:=MA.mp (congrFun (h w) os);obtain⟨l1,l2,l3⟩:_/\_/\_:=by simpa only[DO,<-Fast.te4187177175401517315,Prod.mk.injEq] using hv
 have r:=vT g;rw[congrFun (EI w) os]at r;have r:=topRun_mono (N-M) _ _ _ _ r;rw[show M+(N-M)=N by have:=Nat.le_of_ble_eq_true le;omega]at r;unfold openEnds;rw[e1];show (topFrom treeTable p w N _).map _=_;have t:topFrom treeTable p w N ⟨boot_heap w.params,Array.mk [],boot_drawn,boot_toks,os⟩=some s.abs:=by unfold topFrom;dsimp only;rw[z1,z2,z3,r];show (match staticsOk (importedModules p.main.body) (boot_heap w.params) s.abs.heap&&namesBound p s.abs.heap&&gensDone s.abs&&laidKept (boot_heap w.params) s.abs.heap with|true=>_|false=>_)=_;rw[l1]
 rw[t];exact congrArg some (Prod.ext l2 l3)
end RS
section
open PySem PySem.W PyProof.Rows
def RS.vw:Program:=view PySem.Challenge.pw_ranksure_k08_whole_waits_once [1,2,3,4,5,7,8,9,10,11,12,13,14,15,16,17,18,19,20,21,22,23,24,25,27,28,29,30,31,32,33,34,35,36,37,38,40,41,42,43,45,46,47,48,49,50,51,52,53,54,55]
local macro_rules | `(tactic| o_head $H)=>`(tactic| (refine holds_open (N:=5764) (Xt:=λs=>xlAt RS.vw [] s&&recOk (RowW.records (OpenRow.toRowW (OpenLaw.row PySem.Challenge.rw_ranksure_k08_whole_waits_once))) s) (XP:=XL RS.vw []) (q:=RS.vw) (loose:=[]) (Yf:=Hook.obs $H) (Ya:=Hook.val $H) (YP:=Hook.says $H) ?hl (Hook.of $H) (Hook.keeps $H) (λs e=>xl_of s (Md.mp e).1) XL.keeps (by rfl) (by rfl) (by rfl) (λs e=>recFacts_of (Md.mp e).2) (by rfl) (by assumption) (by decide +kernel) ⟨rfl,rfl,rfl,rfl,rfl,by decide +kernel⟩ ?hw ?hc;(case hl=>refine RS.IV (M:=2932) (by kernel_rfl) (by rfl) (by intro s;kernel_rfl) (by rfl) λw=>?_;kernel_rfl)))
set_option maxRecDepth 100000 in
set_option maxHeartbeats 0 in
open_top RS.hdTop for PySem.Challenge.rw_ranksure_k08_whole_waits_once
end
set_option maxRecDepth 100000
namespace L2
open PySem PySem.Spec PyProof.Rows
variable {c:Expr} {es:List Expr} {A:Around} {body:List Stmt} {g:Int->Int->Int} {M:Model}
abbrev Key:=Sum Int Str
def rX:Key->Value->Bool
 |.inl k,v=>Value.isInt k v
 |.inr x,v=>Value.isStrOf x v
def gU (w:World):Key->Int
 |.inl k=>hashInt k
 |.inr x=>hashStr w x
theorem cJ:∀{k:Key} {v:Value},rX k v=true->(∃i t,k=Sum.inl i/\v=Value.int i t)\/(∃x t,k=Sum.inr x/\v=Value.str x t)
 |.inl i,v,h=>by obtain⟨t,e⟩:=Value.isInt_shape (k:=i) (v:=v) h;exact .inl ⟨i,t,rfl,e⟩
 |.inr x,v,h=>by obtain⟨t,e⟩:=Value.isStrOf_shape (x:=x) (v:=v) h;exact .inr ⟨x,t,rfl,e⟩
theorem Au (i:Int) (t:Tok):rX (.inl i) (.int i t)=true:=by simp[rX,Value.isInt]
theorem zw (x:Str) (t:Tok):rX (.inr x) (.str x t)=true:=by simp[rX,Value.isStrOf]
theorem G1 (a b:Int):decide ((Sum.inl a:Key)=Sum.inl b)=(a==b):=by
 by_cases e:a=b
 ·subst e;simp
 ·have h:¬ (Sum.inl a:Key)=Sum.inl b:=λq=>e (Sum.inl.inj q)
  rw[decide_eq_false h];exact (beq_eq_false_iff_ne.mpr e).symm
theorem HP (a b:Str):decide ((Sum.inr a:Key)=Sum.inr b)=decide (a=b):=by
 by_cases e:a=b
 ·subst e;simp
 ·have h:¬ (Sum.inr a:Key)=Sum.inr b:=λq=>e (Sum.inr.inj q)
  rw[decide_eq_false h,decide_eq_false e]
theorem IQ (a:Int) (b:Str):decide ((Sum.inl a:Key)=Sum.inr b)=false:=decide_eq_false (λq=>nomatch q)
theorem IZ (a:Str) (b:Int):decide ((Sum.inr a:Key)=Sum.inl b)=false:=decide_eq_false (λq=>nomatch q)
def dw (prog:Program) (w:World):PySem.KeyKind prog w Key where
 is:=rX
 hash:=gU w
 inj:=λv a b ha c=>by
  rcases cJ ha with⟨i,t,rfl,rfl⟩|⟨x,t,rfl,rfl⟩
  ·rcases cJ c with⟨j,u,rfl,e⟩|⟨y,u,rfl,e⟩
   ·injection e with e1 _;rw[e1]
   ·exact nomatch e
  ·rcases cJ c with⟨j,u,rfl,e⟩|⟨y,u,rfl,e⟩
   ·exact nomatch e
   ·injection e with e1 _;rw[e1]
 byValue:=λk v h=>by rcases cJ h with⟨i,t,rfl,rfl⟩|⟨x,t,rfl,rfl⟩ <;> rfl
 pyHash:=λhv h=>by
  rcases cJ hv with⟨i,t,rfl,rfl⟩|⟨x,t,rfl,rfl⟩
  ·exact wpAny_pyHash_int h
  ·exact wpAny_pyHash_str h
 eqBool:=λf hv h=>by
  rcases cJ f with⟨i,t,rfl,rfl⟩|⟨x,t,rfl,rfl⟩
  ·rcases cJ hv with⟨j,u,rfl,rfl⟩|⟨y,u,rfl,rfl⟩
   ·rw[G1]at h;exact wpAny_eqBool_int h
   ·rw[IQ]at h;exact SeqAt.EqAt.int_str i t y u _ _ _ _ h
  ·rcases cJ hv with⟨j,u,rfl,rfl⟩|⟨y,u,rfl,rfl⟩
   ·rw[IZ]at h;exact SeqAt.EqAt.str_int x t j u _ _ _ _ h
   ·rw[HP]at h;exact wpAny_eqBool_str h
 «strs»:=λk x t v h=>by
  rcases cJ h with⟨i,u,rfl,e⟩|⟨y,u,rfl,e⟩
  ·exact nomatch e
  ·injection e with e1 _
   subst e1;cases v <;> rfl
theorem vZ (prog:Program) (w:World) (i:Int) (t:Tok):(dw prog w).is (.inl i) (.int i t)=true:=Au i t
theorem vJ (prog:Program) (w:World) (x:Str) (t:Tok):(dw prog w).is (.inr x) (.str x t)=true:=zw x t
inductive V where
 |non|bl (b:Bool)|int (i:Int)|str (x:Str)|byt (b:Array UInt8)|flt (b:UInt64)|ref (a:Addr)|ty (n:String)
 deriving DecidableEq
variable {vs xs:List V} {v:V}
def RelV:V->Value->Prop
 |.non,u=>u=Value.none
 |.bl b,u=>u=Value.bool b
 |.int i,u=>∃t,u=Value.int i t
 |.str x,u=>∃t,u=Value.str x t
 |.byt b,u=>∃t,u=Value.bytes b t
 |.flt b,u=>∃t,u=Value.float b t
 |.ref a,u=>u=Value.ref a
 |.ty n,u=>u=Value.type n
abbrev Vals:List V->List Value->Prop:=Paired RelV
theorem Vals.length (r:Vals xs us):xs.length=us.length:=Paired.length r
theorem Vals.get:∀{xs:List V} {us:List Value} {i:Nat} {x:V},Vals xs us->xs[i]?=some x->∃u,us[i]?=some u/\RelV x u
 |_,_,_,_,.nil,e=>by simp at e
 |_,_,0,_,.cons r _,e=>by simp at e;subst e;exact⟨_,rfl,r⟩
 |_,_,i+1,x,.cons _ t,e=>by obtain⟨u,h1,h2⟩:=Vals.get (i:=i) (x:=x) t (by simpa using e);exact⟨u,by simpa using h1,h2⟩
theorem Vals.set {x:V} {u:Value} (r:RelV x u):∀{xs:List V} {us:List Value} (i:Nat),Vals xs us->Vals (xs.set i x) (us.set i u)
 |_,_,_,.nil=>.nil
 |_,_,0,.cons _ t=>.cons r t
 |_,_,i+1,.cons q t=>.cons q (Vals.set r i t)
theorem Vals.append {ys:List V} {ws:List Value} (h:Vals xs us) (s:Vals ys ws):Vals (xs++ys) (us++ws):=by
 induction h with
 |nil=>exact s
 |cons r t ih=>exact .cons r ih
theorem Vals.take:∀{xs:List V} {us:List Value} (n:Nat),Vals xs us->Vals (xs.take n) (us.take n)
 |_,_,0,_=>.nil
 |_,_,_+1,.nil=>.nil
 |_,_,n+1,.cons r t=>.cons r (Vals.take n t)
theorem Vals.drop:∀{xs:List V} {us:List Value} (n:Nat),Vals xs us->Vals (xs.drop n) (us.drop n)
 |_,_,0,r=>r
 |_,_,_+1,.nil=>.nil
 |_,_,n+1,.cons _ t=>Vals.drop n t
def kg:Option V->Option Value->Prop
 |some v,some u=>RelV v u
 |none,none=>True
 |_,_=>False
def KV {κ:Type}:List (κ×V)->List (κ×Value)->Prop:=Paired λ(p:κ×V) (q:κ×Value)=>p.1=q.1/\RelV p.2 q.2
def kV:Key->V
 |.inl i=>.int i
 |.inr x=>.str x
inductive HO where
 |lst (xs:List V)
 |tup (xs:List V)
 |dK (kvs:List (Key×V))|dT (kvs:List (List Key×V))
 |set (S:Int->Bool) (n:Nat)
 |ins (C dx:Addr) (fs:List (Str×V))
 |own (x:Addr)
 |xd (fs:List (Str×V))
 |met (f x:Addr)
 |rng (lo hi:Int)
 |frz (o:Obj) (u:HO)
 |tbl (q:Str)
 |ext (φ:Heap->Prop)
variable {o:HO}
abbrev Hp:=Addr->Option HO
variable {R:V->V->Hp->Prop} {H:Hp}
def upd (H:Hp) (a:Addr) (o:HO):Hp:=λb=>if b=a then some o else H b
theorem aG:upd H a o a=some o:=by unfold upd;rw[if_pos rfl]
theorem ay (h:b≠a):upd H a o b=H b:=by unfold upd;rw[if_neg h]
theorem JO {u:HO} (h:H a=some o) (h':H b=some u) (d:o≠u):a≠b:=by intro e;subst e;rw[h]at h';exact d (Option.some.inj h')
theorem aI (h:H a=some o) (h':H b=none):a≠b:=by intro e;subst e;rw[h]at h';cases h'
def tJ (h:Heap) (a:Addr) (items:Array Value):Prop:=∃o,h.get? a=some o/\o.cls=.type "tuple"/\o.dict=none/\∃n,o.data=.seq items n
theorem tJ.tup (x:tJ h a items):IsTup h a items:=by obtain⟨o,e,c,_,n,d⟩:=x;exact⟨o,e,c,n,d⟩
theorem tJ.new (h:Heap) (items:Array Value):tJ (h.push { cls:=.type "tuple",data:=.seq items }) h.objs.size items:=⟨_,LF _ rfl,rfl,rfl,_,rfl⟩
section
variable (P:Program) (w:World)
def dh (H:Hp) (h:Heap) (a:Addr):HO->Prop
 |.lst xs=>xs.length<=sizeLine/\∃(b:List Value) (n:Nat),Vals xs b/\h.get? a=some { cls:=.type "list",data:=.seq b.toArray n }
 |.tup xs=>xs.length<=sizeLine/\∃b:List Value,Vals xs b/\tJ h a b.toArray
 |.dK kvs=>kvs.length<=sizeLine/\(a==sysModules)=false/\∃vs,KV kvs vs/\h.DictOf (dw P w) a vs
 |.dT kvs=>kvs.length<=sizeLine/\(a==sysModules)=false/\∃xs:List (List Key×Addr×Value),
  Paired (λ(p:List Key×V) (q:List Key×Addr×Value)=>p.1=q.1/\H q.2.1=some (.tup (p.1.map kV))/\RelV p.2 q.2.2) kvs xs /\
  ∃o es e,h.get? a=some o/\o.ExactDict/\o.data=.dict es e/\es.toList=xs.map (entryOfKey (tupleKind (dw P w)))/\(xs.map (·.1)).Nodup
 |.set S n=>h.SetOf (intKind P w) a S n
 |.ins C dx fs=>H dx=some (.own a)/\fs.length<=1000/\dx≠a/\h.get? a=some (PySem.W.instObj C dx) /\
  ∃mA,h.Ns1 dx mA/\(∀f,kg (fs.lookup f) (mA f))/\PySem.Within mA (fs.map (·.1))
 |.own _=>∃o,h.get? a=some o
 |.xd fs=>∃mA,h.Ns1 a mA/\∀f,kg (fs.lookup f) (mA f)
 |.rng lo hi=>∃t u v,h.get? a=some { cls:=.type "range",data:=.fields #[.int lo t,.int hi u,.int 1 v] }
 |.frz o u=>h.get? a=some o/\dh H h a u
 |.tbl q=>∃ps:Array Value,h.get? a=some { cls:=.none,data:=.fields ps }/\TriplesOk ps.toList/\∀pos c,codeAmong pos ps.toList=some c->∃c' o vs t,c=.ref c'/\H c'=some (.frz o (.own c'))/\o.data=.fields vs/\vs[1]?=some (.str q t)
 |.met f x=>h.get? a=some (PySem.W.methodObj (.ref f) (.ref x))
 |.ext φ=>φ h/\(∃o,h.get? a=some o)/\∀h1 h2:Heap,φ h1->(∀o,h1.get? a=some o->h2.get? a=some o)->φ h2
def HOk (H:Hp) (h:Heap):Prop:=∀a o,H a=some o->dh P w H h a o
end
section
variable {H':Hp}
theorem dh.lt (x:dh P w H h a o):a<h.objs.size:=by
 cases o with
 |lst xs=>obtain⟨_,_,_,_,e⟩:=x;exact Ly e
 |tup xs=>obtain⟨_,_,_,p⟩:=x;exact p.tup.lt
 |dK kvs=>obtain⟨_,_,_,_,o,_,_,e,_⟩:=x;exact Ly e
 |dT kvs=>obtain⟨_,_,_,_,o,_,_,e,_⟩:=x;exact Ly e
 |set S n=>obtain⟨o,_,_,_,e,_⟩:=x;exact Ly e
 |ins C dx fs=>obtain⟨_,_,_,e,_⟩:=x;exact Ly e
 |own y=>obtain⟨_,e⟩:=x;exact Ly e
 |xd fs=>obtain⟨_,⟨_,_,_,e,_⟩,_⟩:=x;exact Ly e
 |rng lo hi=>obtain⟨_,_,_,e⟩:=x;exact Ly e
 |frz ob u=>obtain⟨e,_⟩:=x;exact Ly e
 |tbl q=>obtain⟨_,e,_⟩:=x;exact Ly e
 |met f y=>exact Ly (show h.get? a=some _ from x)
 |ext φ=>obtain⟨_,⟨_,e⟩,_⟩:=x;exact Ly e
theorem Paired.mapP {F G:α->β->Prop} {c:List α} {e:List β} (h:Paired F c e) (f:∀a b,F a b->G a b):Paired G c e:=by
 induction h with
 |nil=>exact .nil
 |cons r t ih=>exact .cons (f _ _ r) ih
theorem dh.stay (x:dh P w H h a o) (k:∀b u,(b=a\/H b=some (.own a))->h.get? b=some u->h'.get? b=some u)
  (l:∀b,H b=some (.own a)->H' b=some (.own a)) (m:∀b xs,H b=some (.tup xs)->H' b=some (.tup xs)) (s:∀b o u,H b=some (.frz o u)->H' b=some (.frz o u):=by exact λ_ _ _ q=>q):dh P w H' h' a o:=by
 induction o with
 |lst xs=>obtain⟨z,j,n,r,e⟩:=x;exact⟨z,j,n,r,k _ _ (.inl rfl) e⟩
 |tup xs=>obtain⟨z,j,r,g,e,c⟩:=x;exact⟨z,j,r,g,k _ _ (.inl rfl) e,c⟩
 |dK kvs=>obtain⟨z,y,vs,r,g,es,i,e,c⟩:=x;exact⟨z,y,vs,r,g,es,i,k _ _ (.inl rfl) e,c⟩
 |dT kvs =>obtain⟨z,y,xs,r,g,es,i,e,c⟩:=x;exact⟨z,y,xs,Paired.mapP r λp q z=>⟨z.1,m _ _ z.2.1,z.2.2⟩,g,es,i,k _ _ (.inl rfl) e,c⟩
 |set S n=>obtain⟨g,es,i,t,e,c⟩:=x;exact⟨g,es,i,t,k _ _ (.inl rfl) e,c⟩
 |ins C dx fs =>obtain⟨d,z,ne,e,mA,⟨od,es,i,e2,c⟩,r⟩:=x;exact⟨l _ d,z,ne,k _ _ (.inl rfl) e,mA,⟨od,es,i,k _ _ (.inr d) e2,c⟩,r⟩
 |own y=>obtain⟨g,e⟩:=x;exact⟨g,k _ _ (.inl rfl) e⟩
 |xd fs=>obtain⟨mA,⟨od,es,i,e,c⟩,r⟩:=x;exact⟨mA,⟨od,es,i,k _ _ (.inl rfl) e,c⟩,r⟩
 |rng lo hi=>obtain⟨t,u,v,e⟩:=x;exact⟨t,u,v,k _ _ (.inl rfl) e⟩
 |frz g u ih=>obtain⟨e,q⟩:=x;exact⟨k _ _ (.inl rfl) e,ih q⟩
 |tbl q =>obtain⟨ps,e,t,c⟩:=x;exact⟨ps,k a _ (.inl rfl) e,t,λpos A z=>by obtain⟨c',o,vs,t',e1,e2,B⟩:=c pos A z;exact⟨c',o,vs,t',e1,s _ _ _ e2,B⟩⟩
 |met f y =>have e:h.get? a=some (PySem.W.methodObj (.ref f) (.ref y)):=x;show h'.get? a=some (PySem.W.methodObj (.ref f) (.ref y));exact k a _ (.inl rfl) e
 |ext φ=>obtain⟨p,⟨o,e⟩,st⟩:=x;exact⟨st _ _ p λo q=>k _ _ (.inl rfl) q,⟨o,k _ _ (.inl rfl) e⟩,st⟩
theorem HOk.lt (x:HOk P w H h) (e:H a=some o):a<h.objs.size:=(x a o e).lt
theorem HOk.fresh (x:HOk P w H h) (e:h.objs.size<=a):H a=none:=by
 cases q:H a with
 |none=>rfl
 |some u=>exact absurd (LH (x.lt q) e) (Mp _)
theorem HOk.kept (x:HOk P w H h) (k:∀b u,h.get? b=some u->h'.get? b=some u):HOk P w H h':=λa o e =>
 (x a o e).stay (λb u _ q=>k b u q) (λ_ q=>q) λ_ _ q=>q
theorem HOk.laid (x:HOk P w H h) (k:∀b u,h.get? b=some u->h'.get? b=some u) (f:h.objs.size<=a) (new:dh P w (upd H a o) h' a o):HOk P w (upd H a o) h':=λb u e=>by
 have hn:=x.fresh f;by_cases hb:b=a
 ·subst hb;rw[aG]at e;cases e;exact new
 ·rw[ay hb]at e;exact (x b u e).stay (λc v _ q=>k c v q) (λc q=>by rw[ay (aI q hn)];exact q) (λc xs q=>by rw[ay (aI q hn)];exact q) λc ob w' q=>by rw[ay (aI q hn)];exact q
end
def Rd (H:Hp) (a:Addr) (u:HO):Prop:=H a=some u\/∃o,H a=some (.frz o u)
theorem Rd.ok {u:HO} (r:Rd H a u) (x:HOk P w H h):dh P w H h a u:=by
 rcases r with r|⟨o,r⟩
 ·exact x a u r
 ·obtain⟨_,q⟩:=x a _ r;exact q
def Mut:Option HO->Prop
 |some (.lst _)=>True
 |some (.dK _)=>True
 |some (.dT _)=>True
 |some (.set _ _)=>True
 |some (.ins _ _ _)=>True
 |some (.ext _)=>True
 |_=>False
section
variable {x e:Addr} {o':HO}
theorem HOk.write (ok:HOk P w H h) (f:Mut (H x)) (l:e=x\/H e=some (.own x)) (k:∀b u,b≠e->h.get? b=some u->h'.get? b=some u) (j:∃u,h'.get? e=some u)
  (new:dh P w (upd H x o') h' x o'):HOk P w (upd H x o') h':=λb u q=>by
 have a:∀c y,H c=some (.own y)->c≠x:=λc y r z=>by subst z;rw[r]at f;exact f
 have g:∀c xs,H c=some (.tup xs)->c≠x:=λc xs r z=>by subst z;rw[r]at f;exact f
 have i:∀c o u,H c=some (.frz o u)->c≠x:=λc o u r z=>by subst z;rw[r]at f;exact f
 by_cases hb:b=x
 ·subst hb;rw[aG]at q;cases q;exact new
 ·rw[ay hb]at q;by_cases hbe:b=e
  ·have m:H b=some (.own x):=by
    rcases l with z|z
    ·exact absurd (hbe.trans z) hb
    ·rw[hbe];exact z
   rw[q]at m;cases m;obtain⟨v,hv⟩:=j;exact⟨v,by rw[hbe];exact hv⟩
  ·refine (ok b u q).stay (λc v hc r=>k c v ?_ r) (λc r=>by rw[ay (a c b r)];exact r) (λc xs r=>by rw[ay (g c xs r)];exact r) λc o n r=>by rw[ay (i c o n r)];exact r
   rcases hc with rfl|hc
   ·exact hbe
   ·rintro rfl
    rcases l with z|z
    ·exact a c b hc z
    ·rw[hc]at z;cases z;exact hb rfl
end
structure Un (fs ex:List Addr) (H H':Hp) (h h':Heap):Prop where
 keep:∀b o,h.get? b=some o->H b=none->b∉fs->b∉ex->h'.get? b=some o
 slot:∀b o,h.get? b=some o->H b=none->b∈fs->b∉ex->∃sl,h'.get? b=some { o with slots:=sl }
 free:∀b o,h.get? b=some o->H b=none->b∉ex->H' b=none
 there:∀b o,h.get? b=some o->b∉ex->∃o',h'.get? b=some o'
 tups:∀b xs,H b=some (.tup xs)->H' b=some (.tup xs)
 frzs:∀b o u,H b=some (.frz o u)->H' b=some (.frz o u)
 tbls:∀b q,H b=some (.tbl q)->H' b=some (.tbl q)
section
variable {fs fs' ex ex':List Addr} {H1 H2:Hp} {h1 h2:Heap} {x e:Addr}
theorem Un.any (u:Un fs ex H H1 h h1) {a:Obj} (q:h.get? b=some a) (n:H b=none) (c:b∉ex):∃e,h1.get? b=some { a with slots:=e }:=by
 by_cases hb:b∈fs
 ·exact u.slot b a q n hb c
 ·exact⟨a.slots,u.keep b a q n hb c⟩
theorem Un.kept (k:∀b u,h.get? b=some u->h'.get? b=some u):Un fs ex H H h h' :=
 ⟨λb a q _ _ _=>k b a q,λb a q _ _ _=>⟨a.slots,k b a q⟩,λ_ _ _ n _=>n,λb a q _=>⟨a,k b a q⟩,λ_ _ q=>q,λ_ _ _ q=>q,λ_ _ q=>q⟩
theorem Un.refl:Un fs ex H H h h:=Un.kept λ_ _ q=>q
theorem Un.laid (k:∀b u,h.get? b=some u->h'.get? b=some u) (c:h.objs.size<=a) (hn:H a=none):Un fs ex H (upd H a o) h h' where
 keep:=λb u q _ _ _=>k b u q
 slot:=λb u q _ _ _=>⟨u.slots,k b u q⟩
 free:=λb u q n _=>by rw[ay (LC (LH (Ly q) c))];exact n
 there:=λb u q _=>⟨u,k b u q⟩
 tups:=λb xs q=>by rw[ay (aI q hn)];exact q
 frzs:=λb u xs q=>by rw[ay (aI q hn)];exact q
 tbls:=λb ps q=>by rw[ay (aI q hn)];exact q
theorem Un.write (a:Mut (H x)) (i:e=x\/H e=some (.own x)) (k:∀b u,b≠e->h.get? b=some u->h'.get? b=some u) (c:∃u,h'.get? e=some u):Un fs ex H (upd H x o) h h':=by
 have f:∀b,H b=none->b≠x:=λb n z=>by subst z;rw[n]at a;exact a
 have g:∀b,H b=none->b≠e:=λb n z=>by
  subst z;rcases i with r|r
  ·exact f b n r
  ·rw[n]at r;cases r
 have hm:∀b u,H b=some u->¬ Mut (some u)->b≠x:=λb u q nm z=>by subst z;rw[q]at a;exact nm a
 refine⟨λb u q n _ _=>k b u (g b n) q,λb u q n _ _=>⟨u.slots,k b u (g b n) q⟩,λb u q n _=>by rw[ay (f b n)];exact n,λb u q _=>?_,
  λb xs q=>by rw[ay (hm b _ q λz=>z)];exact q,λb u xs q=>by rw[ay (hm b _ q λz=>z)];exact q,λb ps q=>by rw[ay (hm b _ q λz=>z)];exact q⟩
 by_cases hbe:b=e
 ·subst hbe;exact c
 ·exact⟨u,k b u hbe q⟩
end
def trk (h:Heap) (H:Hp):List Addr:=(List.range h.objs.size).filter λa=>(H a).isSome
def qH (h:Heap) (H:Hp):Heap:=PySem.W.hideAll h (trk h H)
theorem zV (h:Heap) (H:Hp):(qH h H).objs.size=h.objs.size:=PySem.W.hideAll_size _ _
theorem Di {o:Obj} (e:h.get? b=some o) (n:H b=none):(qH h H).get? b=some o :=
 PySem.W.hideAll_get _ e λhm=>by have q:(H b).isSome=true:=(LO.mp hm).2;rw[n]at q;simp at q
theorem FI {o:Obj} (e:(qH h H).get? b=some o):h.get? b=some o/\H b=none:=by
 have a:h.get? b=some o:=PySem.W.of_hideAll (trk h H) e;refine⟨a,?_⟩;cases q:H b with
 |none=>rfl
 |some x =>have hm:b∈trk h H:=LO.mpr ⟨Mx.mpr (Ly a),by simp[q]⟩;have z:(qH h H).get? b=none:=PySem.W.hideAll_none (trk h H) hm;rw[z]at e;cases e
structure Mod (K:PySem.W.Frag) (mg:Str->Option Value) (base:Heap):Prop where
 kin:K.In base
 glob:base.Ns mainGlobals mg
 blt:∃mb,base.Ns builtinsNs mb/\∀x:Str,x≠"__name__"->mb x=bootBuiltins x
 nolimit:base.NoLimit
def kZ:List Str:=["picked"]
def TabOf (K:PySem.W.Frag) (P:Addr) (q:Str):Prop:=∃x∈kZ,∃f oc od fd a c,PySem.W.nsIn K mainGlobals x=some (some (.ref f))/\K.lookup f=some ⟨oc,od,.func fd,a⟩/\fd.code=.ref c/\(∃o vs,K.lookup c=some o/\o.data=.fields vs/\vs[11]?=some (.ref P))/\q=x++".<locals>.<lambda>"
structure Cx where
 prog:Program
 w:World
 K:PySem.W.Frag
 mg:Str->Option Value
 base:Heap
 A:Around
 N:List Str
 s₀:Shared
 H₀:Hp
 env:Env
 outer:List Env
 stack:List Env
 ex:List Addr
 fn:Str->Bool
 calm:Bool
 pn:List (Addr×Obj)
 xe:Value->Shared->Prop
variable {X:Cx}
def frs (l:List Env):List Addr:=l.filterMap (·.frame)
abbrev Cx.fs (X:Cx):List Addr:=frs X.outer
def Vis (sc:Scope) (x:Str):Prop:=sc.names.lookup x=some .local\/sc.names.lookup x=some .cell\/sc.names.lookup x=some .free
def Loc (sc:Scope) (x:Str):Prop:=sc.names.lookup x=some .local\/sc.names.lookup x=some .cell
def Look (env:Env) (h:Heap) (m:Str->Option Value) (x:Str) (u:Value):Prop :=
 (env.kindOf x=some .local/\m x=some u)\/((env.kindOf x=some .cell\/env.kindOf x=some .free)/\∃c,env.cells.lookup x=some c/\h.IsCell c (some u))
structure Cx.Ok (X:Cx):Prop where
 mod:Mod X.K X.mg X.base
 kind:X.env.scope.kind=.function
 glob:X.env.globals=mainGlobals
 blt:X.env.builtins=builtinsNs
 above:X.s₀.heap.objs.size<=X.env.locals
 inj:∀x y c,X.env.cells.lookup x=some c->X.env.cells.lookup y=some c->x=y
 has:∀x,(X.env.kindOf x=some .cell\/X.env.kindOf x=some .free)->∃c,X.env.cells.lookup x=some c
 cab:∀x c,X.fn x=true->X.env.cells.lookup x=some c->X.s₀.heap.objs.size<=c
 hd:X.calm=true->X.A.handled=none
 frames:X.A.frames=some X.stack
 stk:X.stack=X.outer\/(X.stack=X.env::X.outer/\X.env.frame=some X.env.locals)
 exf:∀b∈X.ex,b≠X.env.locals/\∀x c,X.env.cells.lookup x=some c->c≠b
 bs:∀b o,X.base.get? b=some o->X.s₀.heap.get? b=some o/\X.H₀ b=none
 bsz:X.base.objs.size<=X.s₀.heap.objs.size
 noex:∀b o,X.base.get? b=some o->b∉X.ex
 exfs:∀b∈X.ex,b∉X.fs
 funs:X.s₀.heap.FunFrames X.base X.outer
 frf:∀b∈X.fs,X.H₀ b=none
structure Inv (X:Cx) (pins:List (Addr×Obj)) (σ:List (Option V)) (H:Hp) (s:Shared):Prop where
 ok:X.Ok
 os:s.os=X.s₀.os
 bare:AllBare s.gens
 base:Un X.fs X.ex X.H₀ H X.s₀.heap s.heap
 loc:∃m,s.heap.Ns X.env.locals m/\∀(i:Nat) (x:Str) (v:V),X.N[i]?=some x->σ[i]?=some (some v)->Vis X.env.scope x->∃u,RelV v u/\Look X.env s.heap m x u
 cell:∀x c,X.env.cells.lookup x=some c->∃v,s.heap.IsCell c v
 free:H X.env.locals=none
 freeC:∀x c,X.env.cells.lookup x=some c->H c=none
 pin:∀p∈X.pn++pins,s.heap.get? p.1=some p.2/\H p.1=none/\p.1≠X.env.locals/\p.1∉X.fs/\∀v,p.2.data≠.cell v
 hok:HOk X.prog X.w H s.heap
 len:σ.length=X.N.length
 tab:∀P q,TabOf X.K P q->H P=some (.tbl q)
section
variable {σ:List (Option V)} {H':Hp}
theorem Cx.Ok.nofr (ok:X.Ok) {o:Obj} (e:X.base.get? b=some o):b∉X.fs:=λa=>by have:=(ok.funs.mem a).1;rw[e]at this;cases this
theorem Inv.bs (I:Inv X pins σ H s):∀b o,X.base.get? b=some o->s.heap.get? b=some o/\H b=none:=λb o e =>
 ⟨I.base.keep b o (I.ok.bs b o e).1 (I.ok.bs b o e).2 (I.ok.nofr e) (I.ok.noex b o e),I.base.free b o (I.ok.bs b o e).1 (I.ok.bs b o e).2 (I.ok.noex b o e)⟩
theorem Inv.bk (I:Inv X pins σ H s):∀b o,X.base.get? b=some o->s.heap.get? b=some o:=λb o e=>(I.bs b o e).1
theorem Inv.mod (I:Inv X pins σ H s):Mod X.K X.mg X.base:=I.ok.mod
theorem Inv.kIn (I:Inv X pins σ H s):X.K.In s.heap:=I.ok.mod.kin.keeps I.bk
theorem Inv.lt (I:Inv X pins σ H s):X.env.locals<s.heap.objs.size:=let ⟨_,hn,_⟩:=I.loc;hn.lt
theorem Inv.sz (I:Inv X pins σ H s):X.s₀.heap.objs.size<=s.heap.objs.size:=Mb I.ok.above (Nq I.lt)
theorem Inv.nofs (I:Inv X pins σ H s) (h:s.heap.objs.size<=a):a∉X.fs:=λb=>by obtain⟨_,o,c,_⟩:=I.ok.funs.mem b;exact absurd (LH (Ly c) (Mb I.sz h)) (Mp _)
theorem Inv.cne (I:Inv X pins σ H s):∀x c,X.env.cells.lookup x=some c->c≠X.env.locals:=λx c e z=>by obtain⟨v,o,f,hd⟩:=I.cell x c e;obtain⟨m,⟨o',es,ep,a,b,_⟩,_⟩:=I.loc;rw[z,a]at f;cases f;rw[b]at hd;cases hd
theorem Inv.funs (I:Inv X pins σ H s):s.heap.FunFrames X.base X.outer:=by
 have all:∀(l:List Env),(∀b∈frs l,b∈X.fs)->X.s₀.heap.FunFrames X.base l->s.heap.FunFrames X.base l:=by
  intro l
  induction l with
  |nil=>intro _ _;trivial
  |cons env r ih =>
   intro g hl;obtain⟨h,⟨L,o,a,hn,i,hd⟩,j⟩:=hl;have c:L∈X.fs:=g L (by unfold frs;rw[N2,a];exact L6);obtain⟨sl,e⟩:=I.base.slot L o i (I.ok.frf L c) c λz=>I.ok.exfs L z c
   exact⟨h,⟨L,_,a,hn,e,hd⟩,ih (λb f=>g b (by unfold frs;rw[N2,a];exact L3 _ f)) j⟩
 exact all X.outer (λ_ f=>f) I.ok.funs
theorem Inv.stack (I:Inv X pins σ H s):s.heap.FunFrames X.base X.stack:=by
 rcases I.ok.stk with e|⟨e,a⟩
 ·rw[e];exact I.funs
 ·rw[e];obtain⟨m,hn,_⟩:=I.loc;refine .cons (by rw[I.ok.kind];decide) a hn ?_ I.funs;exact Heap.get?_none_of_le (Mb I.ok.bsz I.ok.above)
theorem Inv.stkSub (I:Inv X pins σ H s):∀b∈frs X.stack,b∈X.env.locals::X.fs:=λb a=>by
 rcases I.ok.stk with e|⟨e,c⟩
 ·rw[e]at a;exact L3 _ a
 ·rw[e]at a;unfold frs at a;rw[N2,c]at a;exact a
theorem Inv.stkFree (I:Inv X pins σ H s):∀b∈frs X.stack,H b=none:=λb a=>by
 rcases L7.mp (I.stkSub b a) with e|a
 ·rw[e];exact I.free
 ·obtain⟨_,o,c,_⟩:=I.ok.funs.mem a;exact I.base.free b o c (I.ok.frf b a) λz=>I.ok.exfs b z a
theorem Inv.step {t':Nat} {d':Drawn} (I:Inv X pins σ H s)
  (f:∀b∈ch,(b∈X.ex\/X.s₀.heap.objs.size<=b)/\b≠X.env.locals/\(∀x c,X.env.cells.lookup x=some c->c≠b)/\∀p∈X.pn++pins,p.1≠b)
  (keep:∀b o,b≠X.env.locals->b∉X.fs->b∉ch->s.heap.get? b=some o->H b=none->h'.get? b=some o)
  (slot:∀b o,b≠X.env.locals->b∈X.fs->b∉ch->s.heap.get? b=some o->H b=none->∃B,h'.get? b=some { o with slots:=B }) (free:∀b o,b∉ch->s.heap.get? b=some o->H b=none->H' b=none)
  (there:∀b o,b∉ch->s.heap.get? b=some o->∃o',h'.get? b=some o')
  (tups:∀b xs,H b=some (.tup xs)->H' b=some (.tup xs)) (frzs:∀b o u,H b=some (.frz o u)->H' b=some (.frz o u)) (tbls:∀b q,H b=some (.tbl q)->H' b=some (.tbl q))
  (ns:∀m,s.heap.Ns X.env.locals m->h'.Ns X.env.locals m) (hok:HOk X.prog X.w H' h') (G:AllBare g') :
  Inv X pins σ H' { s with heap:=h',gens:=g',drawn:=d',toks:=t' }:=by
 have A:∀b o,X.s₀.heap.get? b=some o->b≠X.env.locals:=λb o e=>LC (LH (Ly e) I.ok.above)
 have h:∀b o,X.s₀.heap.get? b=some o->b∉X.ex->b∉ch:=λb o e a j=>by
  rcases (f b j).1 with z|z
  ·exact a z
  ·exact absurd (LH (Ly e) z) (Mp _)
 have cellK:∀x c,X.env.cells.lookup x=some c->∀v,s.heap.IsCell c v->h'.IsCell c v:=λx c e v C=>by
  obtain⟨o,y,hd⟩:=C;have g:c∉ch:=λz=>(f c z).2.2.1 x c e rfl
  by_cases hc:c∈X.fs
  ·obtain⟨B,q⟩:=slot c o (I.cne x c e) hc g y (I.freeC x c e);exact⟨_,q,hd⟩
  ·exact⟨o,keep c o (I.cne x c e) hc g y (I.freeC x c e),hd⟩
 refine⟨I.ok,I.os,G,⟨λb o e n j a=>?_,λb o e n j a=>?_,λb o e n a=>?_,λb o e a=>?_,λb xs e=>tups b xs (I.base.tups b xs e),λb o xs e=>frzs b o xs (I.base.frzs b o xs e),λb ps e=>?_⟩,?_,λx c e=>?_,?_,λx c e=>?_,λp E=>?_,hok,I.len,λP q t=>tbls P q (I.tab P q t)⟩
 ·exact keep b o (A b o e) j (h b o e a) (I.base.keep b o e n j a) (I.base.free b o e n a)
 ·obtain⟨B,e1⟩:=I.base.slot b o e n j a;obtain⟨D,e2⟩:=slot b _ (A b o e) j (h b o e a) e1 (I.base.free b o e n a);exact⟨D,e2⟩
 ·obtain⟨o',e1⟩:=I.base.there b o e a;exact free b o' (h b o e a) e1 (I.base.free b o e n a)
 ·obtain⟨o',e1⟩:=I.base.there b o e a;exact there b o' (h b o e a) e1
 ·exact tbls b _ (I.base.tbls b ps e)
 ·obtain⟨m,hn,hl⟩:=I.loc;refine⟨m,ns m hn,λi x v e1 e2 J=>?_⟩;obtain⟨u,r,l⟩:=hl i x v e1 e2 J;refine⟨u,r,?_⟩;rcases l with l|⟨k,c,e,z⟩
  ·exact .inl l
  ·exact .inr ⟨k,c,e,cellK x c e _ z⟩
 ·obtain⟨v,z⟩:=I.cell x c e;exact⟨v,cellK x c e v z⟩
 ·obtain⟨m,⟨o,_,_,y,_⟩,_⟩:=I.loc;exact free _ o (λz=>(f _ z).2.1 rfl) y I.free
 ·obtain⟨v,o,y,hd⟩:=I.cell x c e;exact free c o (λz=>(f c z).2.2.1 x c e rfl) y (I.freeC x c e)
 ·obtain⟨e,n,ne,F,d⟩:=I.pin p E;have g:p.1∉ch:=λz=>(f p.1 z).2.2.2 p E rfl
  exact⟨keep p.1 p.2 ne F g e n,free p.1 p.2 g e n,ne,F,d⟩
theorem Inv.un {t':Nat} (I:Inv X pins σ H s) (u:Un X.fs [] H H' s.heap h') (hok:HOk X.prog X.w H' h'):Inv X pins σ H' { s with heap:=h',toks:=t' }:=by obtain⟨m,⟨o,es,ep,h,r⟩,_⟩:=id I.loc;obtain⟨sl,i⟩:=u.any h I.free (by simp);exact I.step (g':=s.gens) (d':=s.drawn) (ch:=[]) (λ_ z=>nomatch z) (λb o _ c _ e n=>u.keep b o e n c (by simp)) (λb o _ c _ e n=>u.slot b o e n c (by simp)) (λb o _ e n=>u.free b o e n (by simp)) (λb o _ e=>u.there b o e (by simp)) u.tups u.frzs u.tbls (λm' hm=>by obtain⟨o',f,g,a,j⟩:=hm;rw[h]at a;cases a;exact⟨_,f,g,i,j⟩) hok I.bare
theorem Inv.call {t':Nat} {d':Drawn} (I:Inv X pins σ H s) (u:Un (frs X.stack) ch H H' s.heap h') (hok:HOk X.prog X.w H' h') (l:AllBare g')
  (a:∀b∈ch,(b∈X.ex\/X.s₀.heap.objs.size<=b)/\b≠X.env.locals/\(∀x c,X.env.cells.lookup x=some c->c≠b)/\∀p∈X.pn++pins,p.1≠b) :
  Inv X pins σ H' { s with heap:=h',gens:=g',drawn:=d',toks:=t' }:=by
 obtain⟨m,⟨o,es,ep,j,r⟩,_⟩:=id I.loc;obtain⟨sl,g⟩:=u.any j I.free λz=>(a _ z).2.1 rfl
 exact I.step (ch:=ch) a (λb o g q hc e n=>u.keep b o e n (λz=>(L7.mp (I.stkSub b z)).elim g q) hc) (λb o _ _ hc e n=>u.any e n hc) (λb o hc e n=>u.free b o e n hc) (λb o hc e=>u.there b o e hc) u.tups u.frzs u.tbls (λm' hm=>by obtain⟨o',h,i,f,t⟩:=hm;rw[j]at f;cases f;exact⟨_,h,i,g,t⟩) hok l
theorem Inv.turned {t':Nat} (I:Inv X pins σ H s) (k:∀b o,b≠it->s.heap.get? b=some o->h'.get? b=some o) (hn:H it=none) (f:it≠X.env.locals)
  (h1:it∈X.ex\/X.s₀.heap.objs.size<=it) (h2:∀x c,X.env.cells.lookup x=some c->c≠it) (g:∀p∈X.pn++pins,p.1≠it):Inv X pins σ H { s with heap:=h',toks:=t' }:=by
 have a:∀b u,H b=some u->b≠it:=λb u e z=>by rw[z,hn]at e;cases e
 refine I.step (g':=s.gens) (d':=s.drawn) (ch:=[it]) (λb h=>?_) (λb o _ _ hc e _=>k b o (λz=>hc (by simp[z])) e) (λb o _ _ hc e _=>⟨o.slots,k b o (λz=>hc (by simp[z])) e⟩) (λ_ _ _ _ n=>n)
  (λb o hc e=>⟨o,k b o (λz=>hc (by simp[z])) e⟩) (λ_ _ e=>e) (λ_ _ _ e=>e) (λb ps e=>e) (λm hm=>?_) (λb u e=>?_) I.bare
 ·have e:b=it:=by simpa using h
  subst e;exact⟨h1,f,h2,g⟩
 ·obtain⟨o,es,i,j,r⟩:=hm;exact⟨o,es,i,k _ o (Ne.symm f) j,r⟩
 ·refine (I.hok b u e).stay (λc v hc q=>k c v ?_ q) (λ_ q=>q) λ_ _ q=>q
  rcases hc with z|z
  ·rw[z];exact a b u e
  ·exact a c _ z
theorem Inv.tok (I:Inv X pins σ H s) (t:Nat):Inv X pins σ H { s with toks:=t }:=I.un (h':=s.heap) (t':=t) Un.refl I.hok
theorem Inv.kept {t':Nat} (I:Inv X pins σ H s) (k:∀b u,s.heap.get? b=some u->h'.get? b=some u):Inv X pins σ H { s with heap:=h',toks:=t' }:=I.un (Un.kept k) (I.hok.kept k)
theorem Inv.laid {t':Nat} (I:Inv X pins σ H s) (k:∀b u,s.heap.get? b=some u->h'.get? b=some u) (c:s.heap.objs.size<=a) (new:dh X.prog X.w (upd H a o) h' a o) :
 Inv X pins σ (upd H a o) { s with heap:=h',toks:=t' }:=I.un (Un.laid k c (I.hok.fresh c)) (I.hok.laid k c new)
theorem Inv.write {x e:Addr} {t':Nat} (I:Inv X pins σ H s) (c:Mut (H x)) (f:e=x\/H e=some (.own x)) (k:∀b u,b≠e->s.heap.get? b=some u->h'.get? b=some u) (a:∃u,h'.get? e=some u)
 (new:dh X.prog X.w (upd H x o) h' x o):Inv X pins σ (upd H x o) { s with heap:=h',toks:=t' }:=I.un (Un.write c f k a) (I.hok.write c f k a new)
theorem Inv.pins_of {pins':List (Addr×Obj)} (I:Inv X pins σ H s) (h:∀p∈pins',s.heap.get? p.1=some p.2/\H p.1=none/\p.1≠X.env.locals/\p.1∉X.fs/\∀v,p.2.data≠.cell v):Inv X pins' σ H s :=
 ⟨I.ok,I.os,I.bare,I.base,I.loc,I.cell,I.free,I.freeC,λp a=>(LW.mp a).elim (λz=>I.pin p (LZ _ z)) (h p),I.hok,I.len,I.tab⟩
theorem uY (c:N.Nodup) (a:N[i]?=some x) (b:N[j]?=some x):i=j:=by obtain⟨h1,e1⟩:=LM.mp a;obtain⟨h2,e2⟩:=LM.mp b;exact (Nr c).mp (e1.trans e2.symm)
theorem rW {Q:Unit->Shared->Prop} (I:Inv X pins σ H s) (hN:X.N.Nodup) (hi:X.N[i]?=some x) (g:Loc X.env.scope x) (r:RelV v u)
  (h:∀s',Inv X pins (σ.set i (some v)) H s'->(∃a,Heap.SameBut a s.heap s'.heap/\(a=X.env.locals\/X.env.cells.lookup x=some a))->Q () s') (hf:X.fn x=true\/X.env.scope.names.lookup x=some .local:=by first|exact .inl rfl|exact .inr rfl|assumption):wpAny M A (storeName X.env x u) Q E s:=by
 obtain⟨m,hn,hl⟩:=id I.loc;have F:(X.env.scope.kind==.class||(X.env.scope.kind==.module&&X.env.locals != X.env.globals))=false:=by rw[I.ok.kind];rfl
 have t:i<σ.length:=by rw[I.len];exact (LM.mp hi).1
 have cne:=I.cne;have tracked:∀{a:Addr} {h':Heap},(∃o,s.heap.get? a=some o/\H a=none)->Heap.SameBut a s.heap h'->HOk X.prog X.w H h':=λ{a h'} ha f b ob e=>by
  obtain⟨_,_,l⟩:=ha;refine (I.hok b ob e).stay (λc L hc q=>(f.2 c ?_).trans q) (λ_ q=>q) λ_ _ q=>q
  rintro rfl
  rcases hc with rfl|hc
  ·rw[l]at e;cases e
  ·rw[l]at hc;cases hc
 rcases g with B|B
 ·refine wpAny_storeName_local B hn (λh' O f=>?_) F;obtain⟨oL,_,_,P,_⟩:=id hn;refine h _ ⟨I.ok,I.os,I.bare,⟨λb o e n C g=>?_,λb o e n C g=>?_,I.base.free,λb o e g=>?_,I.base.tups,I.base.frzs,I.base.tbls⟩,⟨_,O,λj y R e1 e2 S=>?_⟩,λy c e=>?_,I.free,I.freeC,λp T=>?_,tracked ⟨oL,P,I.free⟩ f,by simpa using I.len,I.tab⟩ ⟨_,f,.inl rfl⟩
  ·exact (f.2 b (LC (LH (Ly e) I.ok.above))).trans (I.base.keep b o e n C g)
  ·obtain⟨U,e1⟩:=I.base.slot b o e n C g;exact⟨U,(f.2 b (LC (LH (Ly e) I.ok.above))).trans e1⟩
  ·obtain⟨o',e1⟩:=I.base.there b o e g;exact⟨o',(f.2 b (LC (LH (Ly e) I.ok.above))).trans e1⟩
  ·by_cases hj:j=i
   ·subst hj;rw[hi]at e1;cases e1;rw[M0 t]at e2;cases e2;exact⟨u,r,.inl ⟨B,by simp⟩⟩
   ·rw[LX (Ne.symm hj)]at e2;obtain⟨W,Y,q⟩:=hl j y R e1 e2 S;refine⟨W,Y,?_⟩;rcases q with⟨k,e⟩|⟨k,c,e,z⟩
    ·refine .inl ⟨k,?_⟩;have:y≠x:=λe=>hj (uY hN e1 (e▸hi))
     simp[this,e]
    ·exact .inr ⟨k,c,e,z.sameBut f (cne y c e)⟩
  ·obtain⟨L,z⟩:=I.cell y c e;exact⟨L,z.sameBut f (cne y c e)⟩
  ·obtain⟨e,n,ne,Z,d⟩:=I.pin p T;exact⟨(f.2 p.1 ne).trans e,n,ne,Z,d⟩
 ·have D:X.fn x=true:=by
   rcases hf with z|z
   ·exact z
   ·rw[z]at B;cases B
  obtain⟨c,hc⟩:=I.ok.has x (.inl B);obtain⟨L,z⟩:=I.cell x c hc;refine wpAny_storeName_cell I.ok.kind B hc z (λh' G f=>?_);obtain⟨oc,J,K⟩:=id z;refine h { s with heap:=h' } ⟨I.ok,I.os,I.bare,⟨λb o e n C g=>?_,λb o e n C g=>?_,I.base.free,λb o e g=>?_,I.base.tups,I.base.frzs,I.base.tbls⟩,⟨m,hn.sameBut f (Ne.symm (cne x c hc)),λj y R e1 e2 S=>?_⟩,λy c' e=>?_,I.free,I.freeC,λp T=>?_,tracked ⟨oc,J,I.freeC x c hc⟩ f,by simpa using I.len,I.tab⟩ ⟨c,f,.inr hc⟩
  ·exact (f.2 b (LC (LH (Ly e) (I.ok.cab x c D hc)))).trans (I.base.keep b o e n C g)
  ·obtain⟨U,e1⟩:=I.base.slot b o e n C g;exact⟨U,(f.2 b (LC (LH (Ly e) (I.ok.cab x c D hc)))).trans e1⟩
  ·obtain⟨o',e1⟩:=I.base.there b o e g;exact⟨o',(f.2 b (LC (LH (Ly e) (I.ok.cab x c D hc)))).trans e1⟩
  ·by_cases hj:j=i
   ·subst hj;rw[hi]at e1;cases e1;rw[M0 t]at e2;cases e2;exact⟨u,r,.inr ⟨.inl B,c,hc,G⟩⟩
   ·rw[LX (Ne.symm hj)]at e2;obtain⟨W,Y,q⟩:=hl j y R e1 e2 S;refine⟨W,Y,?_⟩;rcases q with q|⟨k,c',e,z'⟩
    ·exact .inl q
    ·refine .inr ⟨k,c',e,z'.sameBut f ?_⟩
     rintro rfl
     exact hj (uY hN e1 (I.ok.inj _ _ _ e hc▸hi))
  ·by_cases hcc:c'=c
   ·subst hcc;exact⟨_,G⟩
   ·obtain⟨w2,z2⟩:=I.cell y c' e;exact⟨w2,z2.sameBut f hcc⟩
  ·obtain⟨e,n,ne,Z,d⟩:=I.pin p T;refine⟨(f.2 p.1 ?_).trans e,n,ne,Z,d⟩;intro q;rw[q,J]at e;have q':oc=p.2:=Option.some.inj e;exact d L (by rw[<-q'];exact K)
theorem uE {Q:Unit->Shared->Prop} (I:Inv X pins σ H s) (a:X.N.Nodup) (hi:X.N[i]?=some x) (b:Loc X.env.scope x) (r:RelV v u)
  (h:∀s',Inv X pins (σ.set i (some v)) H s'->Q () s') (c:X.fn x=true\/X.env.scope.names.lookup x=some .local:=by first|exact .inl rfl|exact .inr rfl|assumption):wpAny M A (storeName X.env x u) Q E s :=
 rW I a hi b r (λs' e _=>h s' e) c
theorem Inv.call' (I:Inv X pins σ H s) (f:s'.os=s.os) (u:Un (frs X.stack) ch H H' s.heap s'.heap) (hok:HOk X.prog X.w H' s'.heap) (g:AllBare s'.gens)
  (a:∀b∈ch,(b∈X.ex\/X.s₀.heap.objs.size<=b)/\b≠X.env.locals/\(∀x c,X.env.cells.lookup x=some c->c≠b)/\∀p∈X.pn++pins,p.1≠b):Inv X pins σ H' s':=by
 obtain⟨h',g',d',t',o'⟩:=s';have e:o'=s.os:=f;subst e;exact I.call (g':=g') (t':=t') (d':=d') u hok g a
end
abbrev XK:=Value->Option Addr->Hp->Prop
abbrev St:=List (Option V)
variable {σ:St}
abbrev VK:=V->Hp->Prop
abbrev TE:=St->Hp->VK->Prop
variable {t:TE}
abbrev TT:=St->Hp->(Bool->Hp->Prop)->Prop
abbrev TA:=St->Hp->(List V->Hp->Prop)->Prop
structure Ends where
 nx:St->Hp->Prop
 rt:VK
 bk:St->Hp->Prop:=λ_ _=>False
 ct:St->Hp->Prop:=λ_ _=>False
abbrev TS:=Ends->St->Hp->Prop
def EP (X:Cx) (pins:List (Addr×Obj)) (σ:St) (Q:VK) (u:Value) (s':Shared):Prop:=∃v H',Inv X pins σ H' s'/\RelV v u/\Q v H'
def TP (X:Cx) (pins:List (Addr×Obj)) (σ:St) (Q:Bool->Hp->Prop) (b:Bool) (s':Shared):Prop:=∃H',Inv X pins σ H' s'/\Q b H'
def AP (X:Cx) (pins:List (Addr×Obj)) (σ:St) (Q:List V->Hp->Prop) (us:List Value) (s':Shared):Prop:=∃vs H',Inv X pins σ H' s'/\Vals vs us/\Q vs H'
def SP (X:Cx) (pins:List (Addr×Obj)) (D:Ends) (f:Flow) (s':Shared):Prop :=
 match f with
 |.next=>∃a H',Inv X pins a H' s'/\D.nx a H'
 |.brk=>∃a H',Inv X pins a H' s'/\D.bk a H'
 |.cont=>∃a H',Inv X pins a H' s'/\D.ct a H'
 |.ret u=>∃v a H',Inv X pins a H' s'/\RelV v u/\D.rt v H'
def PE (X:Cx) (e:Expr) (t:TE):Prop :=
 ∀(pins:List (Addr×Obj)) (s:Shared) (σ:St) (H:Hp) (Q:VK),Inv X pins σ H s->t σ H Q->wpAny (model X.prog X.w) X.A (eval e X.env) (EP X pins σ Q) X.xe s
def PT (X:Cx) (e:Expr) (t:TT):Prop :=
 ∀(pins:List (Addr×Obj)) (s:Shared) (σ:St) (H:Hp) (Q:Bool->Hp->Prop),Inv X pins σ H s->t σ H Q->wpAny (model X.prog X.w) X.A (isTrue e X.env (eval e X.env)) (TP X pins σ Q) X.xe s
def PW (X:Cx) (e:Expr) (t:TT):Prop :=
 ∀(whole:Sem Value) (pins:List (Addr×Obj)) (s:Shared) (σ:St) (H:Hp) (Q:Bool->Hp->Prop),Inv X pins σ H s->t σ H Q->wpAny (model X.prog X.w) X.A (isTrue e X.env whole) (TP X pins σ Q) X.xe s
theorem PW.pt {t:TT} (h:PW X e t):PT X e t:=h _
def PA (X:Cx) (es:List Expr) (t:TA):Prop :=
 ∀(pos:Pos) (pins:List (Addr×Obj)) (s:Shared) (σ:St) (H:Hp) (Q:List V->Hp->Prop),Inv X pins σ H s->t σ H Q->wpAny (model X.prog X.w) X.A (spliced (backTo pos (starEach es X.env))) (AP X pins σ Q) X.xe s
def PS (X:Cx) (st:Stmt) (t:TS):Prop :=
 ∀(pins:List (Addr×Obj)) (s:Shared) (σ:St) (H:Hp) (D:Ends),Inv X pins σ H s->t D σ H->wpAny (model X.prog X.w) X.A (exec st X.env) (SP X pins D) X.xe s
def PSs (X:Cx) (st:List Stmt) (t:TS):Prop :=
 ∀(pins:List (Addr×Obj)) (s:Shared) (σ:St) (H:Hp) (D:Ends),Inv X pins σ H s->t D σ H->wpAny (model X.prog X.w) X.A (execs st X.env) (SP X pins D) X.xe s
theorem thn {t:Sem α} {Q b:α->Shared->Prop} (h:wpAny M A t Q E s) (c:∀a s,Q a s->b a s):wpAny M A t b E s:=wpAny_mono h c λ_ _ x=>x
section
theorem bin {a b:Expr} {ta tb:TE} (ha:PE X a ta) (i:PE X b tb) (I:Inv X pins σ H s) (h:ta σ H λx H1=>tb σ H1 λy H2=>R x y H2)
  {Q:α->Shared->Prop} {f:Value->Value->Sem α}
  (j:∀v u s2 x y H2,Inv X pins σ H2 s2->RelV x v->RelV y u->R x y H2->wpAny (model X.prog X.w) X.A (f v u) Q X.xe s2) :
  wpAny (model X.prog X.w) X.A (eval a X.env) (λv e=>wpAny (model X.prog X.w) X.A (eval b X.env) (λu g=>wpAny (model X.prog X.w) X.A (f v u) Q X.xe g) X.xe e) X.xe s:=by
 refine thn (ha pins s σ H _ I h) λv l c=>?_
 obtain⟨x,H1,m,n,o⟩:=c;refine thn (i pins l σ H1 _ m o) λu s2 c=>?_
 obtain⟨y,H2,p,q,r⟩:=c;exact j v u s2 x y H2 p n q r
def Ko (i:Nat):TE:=λσ H Q=>∃v,σ[i]?=some (some v)/\Q v H
def tC (v:V):TE:=λ_ H Q=>Q v H
theorem kK (g:X.N[i]?=some x) (hv:Vis X.env.scope x) (hd:(x==("__debug__":Str))=false:=by decide) (f:(x==("__classdict__":Str))=false:=by decide):PE X (.Name x pos) (Ko i):=by
 intro pins s σ H Q I h;obtain⟨v,e,h⟩:=h;obtain⟨m,hn,hl⟩:=I.loc;obtain⟨u,r,l⟩:=hl i x v g e hv;have fin:EP X pins σ Q u s:=⟨v,H,I,r,h⟩
 rcases l with⟨b,hm⟩|⟨b,c,hc,a⟩
 ·exact wpAny_Name (wpAny_loadName_local I.ok.kind b hn hm fin) hd
 ·rcases b with b|b
  ·exact wpAny_Name (wpAny_loadName_cell I.ok.kind b hc a fin) hd
  ·exact wpAny_Name (wpAny_loadName_free I.ok.kind b hc a fin f) hd
theorem fW {i j pos}:PE X (.Constant (.int i) j pos) (tC (.int i)):=λ_ _ _ H _ I h=>wpAny_Constant_int ⟨.int i,H,I.tok _,⟨_,rfl⟩,h⟩
theorem J7 {b j pos}:PE X (.Constant (.bool b) j pos) (tC (.bl b)):=λ_ _ _ H _ I h=>Constant_bool ⟨.bl b,H,I,rfl,h⟩
theorem IH {j pos}:PE X (.Constant .none j pos) (tC .non):=λ_ _ _ H _ I h=>Constant_none ⟨.non,H,I,rfl,h⟩
theorem IM {x j pos}:PE X (.Constant (.str x) j pos) (tC (.str x)):=λ_ _ _ H _ I h=>Calls.Constant_str ⟨.str x,H,I.tok _,⟨_,rfl⟩,h⟩
def Gl (X:Cx) (x:Str):Prop:=X.env.kindOf x=some .globalImplicit
theorem nU (I:Inv X pins σ H s) (a:Gl X x) (hm:X.mg x=some u) (h:Q u s)
  (hd:(x==("__debug__":Str))=false:=by decide):wpAny (model X.prog X.w) X.A (eval (.Name x pos) X.env) Q E s :=
 Calls.Name_function_global I.ok.kind a (Calls.loadGlobal_global (by rw[I.ok.glob];exact I.mod.glob.keeps I.bk) hm h) hd
theorem fQ (I:Inv X pins σ H s) (a:Gl X x) (hm:X.mg x=none) (hv:bootBuiltins x=some u) (h:Q u s)
  (hn:x≠"__name__":=by decide) (hd:(x==("__debug__":Str))=false:=by decide):wpAny (model X.prog X.w) X.A (eval (.Name x pos) X.env) Q E s:=by
 obtain⟨mb,h1,h2⟩:=I.mod.blt;exact Calls.Name_function_global I.ok.kind a (Calls.loadGlobal_builtin (by rw[I.ok.glob];exact I.mod.glob.keeps I.bk) hm (by rw[I.ok.blt];exact h1.keeps I.bk) ((h2 x hn).trans hv) h) hd
theorem FR (a:Gl X x) (hm:X.mg x=some u) (r:RelV v u) (hd:(x==("__debug__":Str))=false:=by decide):PE X (.Name x pos) (tC v) :=
 λ_ _ _ H _ I h=>nU I a hm ⟨v,H,I,r,h⟩ hd
theorem Fm (a:Gl X x) (hm:X.mg x=none) (hv:bootBuiltins x=some u) (r:RelV v u) (hn:x≠"__name__":=by decide) (hd:(x==("__debug__":Str))=false:=by decide):PE X (.Name x pos) (tC v) :=
 λ_ _ _ H _ I h=>fQ I a hm hv ⟨v,H,I,r,h⟩ hn hd
def t2I (ta tb:TE) (k:Int->Int->Hp->Prop):St->Hp->Prop:=λσ H=>ta σ H λx H1=>tb σ H1 λy H2=>∃i j,x=.int i/\y=.int j/\k i j H2
variable {a b:Expr} {ta tb:TE}
def PC (X:Cx) (op:CmpOp) (a b:Expr) (t:TE):Prop :=
 ∀(pins:List (Addr×Obj)) (s:Shared) (σ:St) (H:Hp) (Q:VK),Inv X pins σ H s->t σ H Q ->
  wpAny (model X.prog X.w) X.A (eval a X.env) (λv c=>wpAny (model X.prog X.w) X.A (eval b X.env) (λu e=>wpAny (model X.prog X.w) X.A (compareOp op v u) (EP X pins σ Q) X.xe e) X.xe c) X.xe s
theorem vY (b:Expr) (h:op≠.In) (h2:op≠.NotIn):behindInMarks op b=false:=by
 have e1:(op==CmpOp.In)=false:=by cases op <;> first|rfl|exact absurd rfl h
 have e2:(op==CmpOp.NotIn)=false:=by cases op <;> first|rfl|exact absurd rfl h2
 cases b <;> simp[behindInMarks,e1,e2]
def Kt (p:Int->Int->Bool) (ta tb:TE):TE:=λσ H Q=>t2I ta tb (λi j H2=>Q (.bl (p i j)) H2) σ H
abbrev tLt:TE->TE->TE:=Kt λi j=>decide (i<j)
theorem GZ {p:Int->Int->Bool} (ha:PE X a ta) (c:PE X b tb)
  (rule:∀(i j:Int) (t u:Tok) (Q:Value->Shared->Prop) (s:Shared),Q (.bool (p i j)) s->wpAny (model X.prog X.w) X.A (compareOp op (.int i t) (.int j u)) Q X.xe s):PC X op a b (Kt p ta tb):=by
 intro pins s σ H Q I h;refine bin ha c I h λv u s2 x y H2 e f g q=>?_
 obtain⟨i,j,rfl,rfl,q⟩:=q;obtain⟨t,rfl⟩:=f;obtain⟨t',rfl⟩:=g;exact rule i j t t' _ s2 ⟨.bl _,H2,e,rfl,q⟩
theorem Kl (ha:PE X a ta) (c:PE X b tb):PC X .Lt a b (tLt ta tb):=GZ ha c λ_ _ _ _ _ _ h=>lt_int h
def Lh (ta:TE):TE:=λσ H Q=>ta σ H λx H1=>Q (.bl (decide (x=.non))) H1
def Kc (ta:TE):TE:=λσ H Q=>ta σ H λx H1=>Q (.bl (!decide (x=.non))) H1
theorem RelV.none_iff {x:V} {v:Value} (r:RelV x v):(v==Value.none)=decide (x=.non):=by
 cases x with
 |non=>cases r;rfl
 |bl _=>cases r;rfl
 |int _=>obtain⟨t,rfl⟩:=r;rfl
 |str _=>obtain⟨t,rfl⟩:=r;rfl
 |byt _=>obtain⟨t,rfl⟩:=r;rfl
 |flt _=>obtain⟨t,rfl⟩:=r;rfl
 |ref _=>cases r;rfl
 |ty _=>cases r;rfl
theorem CQ {j pos'} (ha:PE X a ta):PC X .Is a (.Constant .none j pos') (Lh ta):=by
 intro pins s σ H Q I h;refine thn (ha pins s σ H _ I h) λv s1 b=>?_
 obtain⟨x,H1,c,e,f⟩:=b;exact Constant_none (is_none_gen ⟨.bl _,H1,c,by rw[e.none_iff];rfl,f⟩)
theorem Ga {j pos'} (ha:PE X a ta):PC X .IsNot a (.Constant .none j pos') (Kc ta):=by
 intro pins s σ H Q I h;refine thn (ha pins s σ H _ I h) λv s1 b=>?_
 obtain⟨x,H1,c,e,f⟩:=b;exact Constant_none (isnot_none_gen ⟨.bl _,H1,c,by rw[e.none_iff];rfl,f⟩)
def tB (t:TE):TT:=λσ H Q=>t σ H λx H1=>∃c,x=.bl c/\Q c H1
theorem Hd (h:PC X op a b t) (h1:behindInMarks op b=false:=by first|exact vY _ (by decide) (by decide)|rfl):PE X (.Compare a [op] [b] pos) t:=λpins s σ H Q I hw=>wpAny_Compare1 (h pins s σ H Q I hw) h1
theorem xH (h:PC X op a b t) (h1:behindInMarks op b=false:=by first|exact vY _ (by decide) (by decide)|rfl):PT X (.Compare a [op] [b] pos) (tB t):=by intro pins s σ H Q I hw;refine wpAny_isTrue_Compare1 (thn (h pins s σ H _ I hw) λv s1 h1=>thn h1 λu s2 h2=>thn h2 λc s3 e=>?_) h1;obtain⟨x,H1,f,g,i⟩:=e;obtain⟨d,rfl,q⟩:=i;cases g;exact wpAny_truthy_bool ⟨H1,f,q⟩
theorem Iv (h:PE X e t) (b:∀whole,isTrue e X.env whole=(do let v <-whole;standAt e.pos;holding [v] (truthy v)):=by intro _;rfl):PT X e (tB t):=by intro pins s σ H Q I hw;refine isTrue_plain (thn (h pins s σ H _ I hw) λv s1 a=>?_) (b _);obtain⟨x,H1,c,f,g⟩:=a;obtain⟨d,rfl,q⟩:=g;cases f;exact wpAny_truthy_bool ⟨H1,c,q⟩
variable {tA tB':TT} {rest:List Expr}
def Lm (t u:TT):TT:=λσ H Q=>t σ H λc H1=>if c=true then u σ H1 Q else Q false H1
def tOr (t u:TT):TT:=λσ H Q=>t σ H λc H1=>if c=true then Q true H1 else u σ H1 Q
def Li (t:TT):TT:=λσ H Q=>t σ H λc H1=>Q (!c) H1
theorem Ge (ha:PT X a tA):PW X (.BoolOp .And [a] pos) tA:=by
 intro wh pins s σ H Q I h;refine isTrue_and (thn (ha pins s σ H Q I h) λc s1 e=>?_);cases c with
 |true=>exact isTrue_and_nil e
 |false=>exact e
theorem IP (ha:PT X a tA):PW X (.BoolOp .Or [a] pos) tA:=by
 intro wh pins s σ H Q I h;refine isTrue_or (thn (ha pins s σ H Q I h) λc s1 e=>?_);cases c with
 |false=>exact isTrue_or_nil e
 |true=>exact e
theorem G0 (ha:PT X a tA) (i:PW X (.BoolOp .And (b::rest) pos) tB'):PW X (.BoolOp .And (a::b::rest) pos) (Lm tA tB'):=by
 intro j pins s σ H Q I h;refine isTrue_and (thn (ha pins s σ H _ I h) λc l e=>?_);obtain⟨H1,f,g⟩:=e;cases c with
 |true=>exact i j pins l σ H1 Q f g
 |false=>exact⟨H1,f,g⟩
theorem Kb (ha:PT X a tA) (i:PW X (.BoolOp .Or (b::rest) pos) tB'):PW X (.BoolOp .Or (a::b::rest) pos) (tOr tA tB'):=by
 intro j pins s σ H Q I h;refine isTrue_or (thn (ha pins s σ H _ I h) λc l e=>?_);obtain⟨H1,f,g⟩:=e;cases c with
 |true=>exact⟨H1,f,g⟩
 |false=>exact i j pins l σ H1 Q f g
theorem Jj (ha:PT X a tA):PT X (.UnaryOp .Not a pos) (Li tA):=by intro pins s σ H Q I h;exact isTrue_not (ha pins s σ H (λc H1=>Q (!c) H1) I h)
def JJ (ta tb:TE):TE:=λσ H Q=>ta σ H λx H1=>∃c,x=.bl c/\if c=true then tb σ H1 Q else Q (.bl false) H1
def KJ (ta tb:TE):TE:=λσ H Q=>ta σ H λx H1=>∃c,x=.bl c/\if c=true then Q (.bl true) H1 else tb σ H1 Q
theorem HV {op} (h:PE X a t):PE X (.BoolOp op [a] pos) t:=λpins s σ H Q I hw=>BoolOp_one (h pins s σ H Q I hw)
theorem Hh (ha:PE X a ta) (i:PE X (.BoolOp .And (b::rest) pos) tb):PE X (.BoolOp .And (a::b::rest) pos) (JJ ta tb):=by
 intro pins s σ H Q I h;refine BoolOp_and (thn (ha pins s σ H _ I h) λv j f=>?_);obtain⟨x,H1,g,l,e⟩:=f;obtain⟨c,rfl,e⟩:=e;cases l;refine wpAny_truthy_bool ?_;cases c with
 |true=>exact i pins j σ H1 Q g e
 |false=>exact⟨.bl false,H1,g,rfl,e⟩
theorem Kr (ha:PE X a ta) (i:PE X (.BoolOp .Or (b::rest) pos) tb):PE X (.BoolOp .Or (a::b::rest) pos) (KJ ta tb):=by
 intro pins s σ H Q I h;refine BoolOp_or (thn (ha pins s σ H _ I h) λv j f=>?_);obtain⟨x,H1,g,l,e⟩:=f;obtain⟨c,rfl,e⟩:=e;cases l;refine wpAny_truthy_bool ?_;cases c with
 |false=>exact i pins j σ H1 Q g e
 |true=>exact⟨.bl true,H1,g,rfl,e⟩
def tIf (t:TT) (ta tb:TE):TE:=λσ H Q=>t σ H λc H1=>if c=true then ta σ H1 Q else tb σ H1 Q
theorem CO (hc:PT X c tA) (ha:PE X a ta) (j:PE X b tb):PE X (.IfExp c a b pos) (tIf tA ta tb):=by
 intro pins s σ H Q I h;refine wpAny_IfExp (thn (hc pins s σ H _ I h) λd f e=>?_);obtain⟨H1,g,i⟩:=e;cases d with
 |true=>exact ha pins f σ H1 Q g i
 |false=>exact j pins f σ H1 Q g i
end
def SqL (K:PySem.W.Frag) (H:Hp) (a:Addr) (xs:List V):Prop :=
 Rd H a (.lst xs) \/
  ∃(o:Obj) (b:Array Value) (n:Nat),K.lookup a=some o/\o.cls=.type "list"/\o.dict=none/\o.data=.seq b n/\b.size<=sizeLine/\Vals xs b.toList
def SqT (K:PySem.W.Frag) (H:Hp) (a:Addr) (xs:List V):Prop :=
 Rd H a (.tup xs) \/
  ∃(o:Obj) (b:Array Value) (n:Nat),K.lookup a=some o/\o.cls=.type "tuple"/\o.data=.seq b n/\b.size<=sizeLine/\Vals xs b.toList
def KS:Value->Option V
 |.none=>some .non
 |.bool b=>some (.bl b)
 |.int i _=>some (.int i)
 |.str x _=>some (.str x)
 |.bytes b _=>some (.byt b)
 |.float b _=>some (.flt b)
 |.ref a=>some (.ref a)
 |.type n=>some (.ty n)
 |_=>none
theorem RelV.abs {x:V} (r:RelV x u):KS u=some x:=by
 cases x with
 |non=>cases r;rfl
 |bl _=>cases r;rfl
 |int _=>obtain⟨t,rfl⟩:=r;rfl
 |str _=>obtain⟨t,rfl⟩:=r;rfl
 |byt _=>obtain⟨t,rfl⟩:=r;rfl
 |flt _=>obtain⟨t,rfl⟩:=r;rfl
 |ref _=>cases r;rfl
 |ty _=>cases r;rfl
theorem RelV.inj {x y:V} (r:RelV x u) (q:RelV y u):x=y:=Option.some.inj (r.abs.symm.trans q.abs)
theorem Vals.inj {ys:List V} (h:Vals xs us) (h':Vals ys us):xs=ys:=by
 induction h generalizing ys with
 |nil=>cases h';rfl
 |cons r t ih =>
  cases h' with
  |cons r' t'=>rw[r.inj r',ih t']
section
variable {ys:List V}
theorem SqL.of (h:H a=some (.lst xs)):SqL K H a xs:=.inl (.inl h)
theorem SqT.of (h:H a=some (.tup xs)):SqT K H a xs:=.inl (.inl h)
theorem Inv.list (I:Inv X pins σ H s) (h:SqL X.K H a xs):∃b:List Value,Vals xs b/\PlainL s.heap a b.toArray/\xs.length<=sizeLine:=by
 rcases h with h|⟨o,b,n,c,hc,hd,f,hz,r⟩
 ·obtain⟨z,b,n,r,e⟩:=h.ok I.hok;exact⟨b,r,⟨_,n,e,rfl,rfl,rfl⟩,z⟩
 ·refine⟨b.toList,r,⟨o,n,I.kIn a o c,hc,hd,by simpa using f⟩,?_⟩;have e:=r.length;simp only[Mn]at e;omega
theorem Inv.tuple (I:Inv X pins σ H s) (h:SqT X.K H a xs):∃b:List Value,Vals xs b/\IsTup s.heap a b.toArray/\xs.length<=sizeLine:=by
 rcases h with h|⟨o,b,n,c,hc,f,hz,r⟩
 ·obtain⟨z,b,r,p⟩:=h.ok I.hok;exact⟨b,r,p.tup,z⟩
 ·refine⟨b.toList,r,⟨o,I.kIn a o c,hc,n,by simpa using f⟩,?_⟩;have e:=r.length;simp only[Mn]at e;omega
theorem Inv.list_inj (I:Inv X pins σ H s) (h:SqL X.K H a xs) (h':SqL X.K H a ys):xs=ys:=by
 obtain⟨b,r,⟨o,n,e,_,_,d⟩,_⟩:=I.list h;obtain⟨its',f,⟨o',n',c,_,_,d'⟩,_⟩:=I.list h';rw[e]at c;cases c;rw[d]at d';injection d' with d1 _
 have:b=its':=by simpa using congrArg Array.toList d1
 subst this;exact r.inj f
theorem Inv.tuple_inj (I:Inv X pins σ H s) (h:SqT X.K H a xs) (h':SqT X.K H a ys):xs=ys:=by
 obtain⟨b,r,⟨o,e,_,n,d⟩,_⟩:=I.tuple h;obtain⟨its',f,⟨o',c,_,n',d'⟩,_⟩:=I.tuple h';rw[e]at c;cases c;rw[d]at d';injection d' with d1 _
 have:b=its':=by simpa using congrArg Array.toList d1
 subst this;exact r.inj f
end
abbrev Cx.wish (X:Cx) (E:Value->Shared->Prop):Cx:={ X with xe:=E }
abbrev Cx.nox (X:Cx):Cx:=X.wish λ_ _=>False
theorem Cx.Ok.wish (ok:X.Ok) (E:Value->Shared->Prop):(X.wish E).Ok :=
 ⟨ok.mod,ok.kind,ok.glob,ok.blt,ok.above,ok.inj,ok.has,ok.cab,ok.hd,ok.frames,ok.stk,ok.exf,ok.bs,ok.bsz,ok.noex,ok.exfs,ok.funs,ok.frf⟩
theorem Cx.Ok.unwish (ok:(X.wish E).Ok):X.Ok :=
 ⟨ok.mod,ok.kind,ok.glob,ok.blt,ok.above,ok.inj,ok.has,ok.cab,ok.hd,ok.frames,ok.stk,ok.exf,ok.bs,ok.bsz,ok.noex,ok.exfs,ok.funs,ok.frf⟩
section
theorem Inv.wish (I:Inv X pins σ H s) (E:Value->Shared->Prop):Inv (X.wish E) pins σ H s:=⟨I.ok.wish E,I.os,I.bare,I.base,I.loc,I.cell,I.free,I.freeC,I.pin,I.hok,I.len,I.tab⟩
theorem Inv.unwish (I:Inv (X.wish E) pins σ H s):Inv X pins σ H s:=⟨I.ok.unwish,I.os,I.bare,I.base,I.loc,I.cell,I.free,I.freeC,I.pin,I.hok,I.len,I.tab⟩
theorem SP.unwish {D:Ends} {f:Flow} (h:SP (X.wish E) pins D f s'):SP X pins D f s':=by
 cases f with
 |next=>obtain⟨a,H',I,q⟩:=h;exact⟨a,H',I.unwish,q⟩
 |brk=>obtain⟨a,H',I,q⟩:=h;exact⟨a,H',I.unwish,q⟩
 |cont=>obtain⟨a,H',I,q⟩:=h;exact⟨a,H',I.unwish,q⟩
 |ret u=>obtain⟨v,a,H',I,r,q⟩:=h;exact⟨v,a,H',I.unwish,r,q⟩
theorem PSs.nox {st:List Stmt} {t:TS} (h:PSs X.nox st t):PSs X st t:=λpins s σ H D I hw =>
 wpAny_mono (h pins s σ H D (I.wish _) hw) (λ_ _ q=>q.unwish) λ_ _ z=>False.elim z
end
section
variable {rest:List Stmt} {t u:TS} {te:TE}
def Jw:TS:=λD σ H=>D.nx σ H
def Lg (t u:TS):TS:=λD σ H=>t { D with nx:=u D } σ H
theorem uw:PSs X [] Jw:=λ_ _ σ H _ I h=>wpAny_execs_nil ⟨σ,H,I,h⟩
theorem cx (h1:PS X st t) (h2:PSs X rest u):PSs X (st::rest) (Lg t u):=by
 intro pins s σ H D I h;refine wpAny_execs_cons (thn (h1 pins s σ H { D with nx:=u D } I h) λf b q=>?_);cases f with
 |next =>obtain⟨a,H',c,q⟩:=q;exact h2 pins b a H' D c q
 |ret v=>exact q
 |brk=>exact q
 |cont=>exact q
theorem hV (h1:PS X st t):PSs X [st] t:=by
 intro pins s σ H D I h;refine wpAny_execs_cons (thn (h1 pins s σ H D I h) λf s1 q=>?_);cases f with
 |next=>exact wpAny_execs_nil q
 |ret v=>exact q
 |brk=>exact q
 |cont=>exact q
theorem Inv.quiet (I:Inv X pins σ H s):interactive X.env=false:=by simp[interactive,I.ok.kind]
def Ka (te:TE):TS:=λD σ H=>te σ H λ_ H1=>D.nx σ H1
theorem nK (b:PE X e te) (c:swapsWith e none pos.line X.env=pure false:=by rfl):PS X (.Expr e pos) (Ka te):=by intro pins s σ H D I h;exact wpAny_Expr_any (thn (b pins s σ H _ I h) λv s1 a=>(by obtain⟨x,H1,f,r1,g⟩:=a;exact⟨σ,H1,f,g⟩)) I.quiet c
def KU (te:TE):TS:=λD σ H=>te σ H D.rt
theorem pC (b:PE X e te):PS X (.Return (some e) pos) (KU te):=by intro pins s σ H D I h;exact wpAny_Return_some (thn (b pins s σ H _ I h) λv s1 a=>(by obtain⟨x,H1,c,f,g⟩:=a;exact⟨x,σ,H1,c,f,g⟩))
def Lf (c:TT) (t u:TS):TS:=λD σ H=>c σ H λb H1=>if b=true then t D σ H1 else u D σ H1
theorem yM {a b:List Stmt} {tc:TT} (hc:PT X c tc) (ha:PSs X a t) (j:PSs X b u):PS X (.If c a b pos) (Lf tc t u):=by
 intro pins s σ H D I h;refine wpAny_If (thn (hc pins s σ H _ I h) λd f e=>?_);obtain⟨H1,g,i⟩:=e;cases d with
 |true=>exact ha pins f σ H1 D g i
 |false=>exact j pins f σ H1 D g i
end
abbrev TG:=V->St->Hp->(St->Hp->Prop)->Prop
abbrev TGs:=List V->St->Hp->(St->Hp->Prop)->Prop
def PG (X:Cx) (target:Expr) (t:TG):Prop :=
 ∀(pins:List (Addr×Obj)) (s:Shared) (σ:St) (H:Hp) (v:V) (u:Value) (Q:St->Hp->Prop),Inv X pins σ H s->RelV v u->t v σ H Q ->
  wpAny (model X.prog X.w) X.A (assign target X.env u) (λ_ s'=>∃a H',Inv X pins a H' s'/\Q a H') X.xe s
def PGs (X:Cx) (ts:List Expr) (t:TGs):Prop :=
 ∀(pins:List (Addr×Obj)) (s:Shared) (σ:St) (H:Hp) (vs:List V) (us:List Value) (Q:St->Hp->Prop),Inv X pins σ H s->Vals vs us->t vs σ H Q ->
  wpAny (model X.prog X.w) X.A (assignInOrder ((assignEach ts X.env).map (·.2)) us) (λ_ s'=>∃a H',Inv X pins a H' s'/\Q a H') X.xe s
abbrev GJ:=V->V->V->Hp->(Hp->Prop)->Prop
def Ke (X:Cx) (t:GJ):Prop :=
 ∀(pins:List (Addr×Obj)) (s:Shared) (σ:St) (H:Hp) (o i v:V) (a b u:Value) (Q:Hp->Prop),Inv X pins σ H s->RelV o a->RelV i b->RelV v u->t o i v H Q ->
  wpAny (model X.prog X.w) X.A (setItem a b u) (λ_ s'=>∃H',Inv X pins σ H' s'/\Q H') X.xe s
section
def jQ (i:Nat):TG:=λv σ H Q=>Q (σ.set i (some v)) H
theorem tW (a:X.N.Nodup) (hi:X.N[i]?=some x) (b:Loc X.env.scope x) (c:X.fn x=true\/X.env.scope.names.lookup x=some .local:=by first|exact .inl rfl|exact .inr rfl|assumption):PG X (.Name x pos) (jQ i):=by intro pins s σ H v u Q I r h;exact wpAny_assign_Name (uE I a hi b r (λs' e=>⟨_,H,e,h⟩) c)
def GG:TGs:=λvs σ H Q=>vs=[]/\Q σ H
def yG (t:TG) (u:TGs):TGs:=λvs σ H Q=>∃v r,vs=v::r/\t v σ H λa H'=>u r a H' Q
theorem yj:PGs X [] GG:=by intro pins s σ H vs us Q I r h;obtain⟨e,h⟩:=h;subst e;cases r;exact assignInOrder_nil ⟨σ,H,I,h⟩
theorem oV {t:TG} {u:TGs} (h1:PG X e t) (h2:PGs X es u)
  (c:(assignEach (e::es) X.env).map (·.2)=assign e X.env::(assignEach es X.env).map (·.2):=by rfl):PGs X (e::es) (yG t u):=by
 intro pins s σ H vs us Q I r h;obtain⟨v,vr,e1,h⟩:=h;subst e1;cases r with
 |cons r rr =>rw[c];refine assignInOrder_cons (thn (h1 pins s σ H _ _ _ I r h) λ_ f a=>?_);obtain⟨b,H1,g,i⟩:=a;exact h2 pins f b H1 _ _ Q g rr i
def IE (K:PySem.W.Frag) (n:Nat) (t:TGs):TG:=λv σ H Q=>∃a xs,v=.ref a/\SqT K H a xs/\xs.length=n/\t xs σ H Q
theorem CY {k:Nat} {t:TGs} (hc:X.calm=true) (h:PGs X es t)
  (hn:(assignEach es X.env).length=n:=by rfl) (c:(assignEach es X.env).findIdx? (·.1)=none:=by rfl):PG X (.Tuple es k pos) (IE X.K n t):=by
 intro pins s σ H v u Q I r hw;obtain⟨a,xs,e1,g,hl,hw⟩:=hw;subst e1;cases r;obtain⟨its,f,i,hz⟩:=I.tuple g;refine assign_Tuple_tuple (I.ok.hd hc) i (by simp[hn,<-hl,f.length]) c λh' j=>?_
 have l:Inv X pins σ H { s with heap:=h' }:=I.kept (t':=s.toks) λb o e=>j b o (LC (Ly e)) e
 exact h pins _ σ H xs _ Q l (by simpa using f) hw
def K1 (to a:TE) (t:GJ):TG:=λv σ H Q=>to σ H λo H1=>a σ H1 λi H2=>t o i v H2 λb=>Q σ b
theorem HS {o i:Expr} {to e:TE} {t:GJ} (f:PE X o to) (hi:PE X i e) (g:Ke X t)
  (ha:∀v,assign (.Subscript o i pos) X.env v=(do
   let b <-holding [v] (eval o X.env);let c <-holding [v,b] (eval i X.env)
   standAt pos
   holding [v,b,c] (setItem b c v)
   release [v,b,c] []):=by intro _;rfl):PG X (.Subscript o i pos) (K1 to e t):=by
 intro pins s σ H v u Q I r h;rw[ha];refine wpAny_bind (wpAny_holding (thn (f pins s σ H _ I h) λb j a=>?_));obtain⟨x,H1,l,m,n⟩:=a;refine wpAny_bind (wpAny_holding (thn (hi pins j σ H1 _ l n) λc s2 a=>?_));obtain⟨y,H2,p,q,w⟩:=a;refine wpAny_bind (wpAny_standAt (wpAny_bind (wpAny_holding (thn (g pins s2 σ H2 x y v b c u _ p m q r w) λ_ s3 a=>?_))));obtain⟨z,A,B⟩:=a;exact wpAny_release ⟨σ,z,A,B⟩
def BX (te:TE) (g:TG):TS:=λD σ H=>te σ H λx H1=>g x σ H1 D.nx
theorem BJ {te:TE} {g:TG} (b:PE X e te) (c:PG X tg g) (f:swapsWithSole [tg] e pos.line X.env=pure false:=by rfl) (hw:swappedStores [tg] e X.env=pure none:=by rfl)
  (h1:(assignEach [tg] X.env).map (·.2)=[assign tg X.env]:=by rfl):PS X (.Assign [tg] e pos) (BX te g):=by
 intro pins s σ H D I h;refine wpAny_Assign_stores (thn (b pins s σ H _ I h) λv i a=>?_) f hw;obtain⟨x,H1,j,l,m⟩:=a;rw[h1];exact thn (c pins i σ H1 x v _ j l m) λ_ s2 q=>q
theorem oT {te:TE} (b:X.N.Nodup) (hi:X.N[i]?=some x) (c:Loc X.env.scope x) (f:PE X e te) (g:swapsWith e (some (.Name x pos')) pos.line X.env=pure false:=by rfl) (j:X.fn x=true\/X.env.scope.names.lookup x=some .local:=by first|exact .inl rfl|exact .inr rfl|assumption) :
  PS X (.Assign [.Name x pos'] e pos) (BX te (jQ i)):=by
 intro pins s σ H D I h;refine wpAny_Assign_Name (thn (f pins s σ H _ I h) λv s1 a=>?_) g;obtain⟨y,H1,l,m,n⟩:=a;exact uE l b hi c m (λs2 o=>⟨_,H1,o,n⟩) j
end
section
def IS (c:TT) (tb:TS):TS:=λD σ H=>∃W:Nat->St->Hp->Prop,(∃m,W m σ H)/\∀m σ H,W m σ H ->
 c σ H λb H1=>if b=true then ∃N:St->Hp->Prop,(∀a H',N a H'->∃e,e < m/\W e a H')/\tb { D with nx:=N,ct:=N,bk:=D.nx } σ H1 else D.nx σ H1
theorem wm {tc:TT} {tb:TS} (t:PassesOwn (model X.prog X.w) X.A X.env X.xe) (hc:PT X c tc) (y:PSs X body tb):PS X (.While c body [] pos) (IS tc tb):=by
 intro pins s σ H D I h;obtain⟨W,⟨z,B⟩,turn⟩:=h;refine wpAny_While (codeAny_whileLoop (λn s'=>∃g H',Inv X pins g H' s'/\W n g H') ?_ z ⟨σ,H,I,B⟩)
 rintro n C ⟨e,H1,E,F⟩
 refine wpAny_passesOwn t (thn (hc pins C e H1 _ E (turn n e H1 F)) λb s2 m=>?_);obtain⟨H2,u,j⟩:=m;cases b with
 |true =>
  obtain⟨N,x,j⟩:=j;rw[if_pos rfl];refine wpAny_passesOwn t (thn (y pins s2 e H2 _ u j) λf s3 l=>?_);cases f with
  |next =>obtain⟨a,i,o,p⟩:=l;obtain⟨q,hm,r⟩:=x a i p;exact⟨q,hm,a,i,o,r⟩
  |cont =>obtain⟨a,i,o,p⟩:=l;obtain⟨q,hm,r⟩:=x a i p;exact⟨q,hm,a,i,o,r⟩
  |brk=>exact l
  |ret v=>exact l
 |false =>rw[if_neg LK];exact wpAny_execs_nil ⟨e,H2,u,j⟩
end
structure It where
 go:Nat->Hp->Prop
 yld:Nat->Hp->V->Hp->Prop
 stop:Nat->Hp->Prop
def pU (X:Cx) (pins:List (Addr×Obj)) (H:Hp) (b:Addr):Prop :=
 H b=none/\b≠X.env.locals/\b∉X.fs/\(b∈X.ex\/X.s₀.heap.objs.size<=b)/\(∀x c,X.env.cells.lookup x=some c->c≠b)/\∀p∈X.pn++pins,p.1≠b
theorem Inv.fpOk {H':Hp} (I:Inv X pins σ H s) (a:s.heap.objs.size<=b) (hn:H' b=none):pU X pins H' b:=by
 refine⟨hn,Mj (LH I.lt a),I.nofs a,.inr (Mb I.sz a),λx c e z=>?_,λp f z=>?_⟩
 ·obtain⟨v,q⟩:=I.cell x c e;exact absurd (LH q.lt (by rw[z];exact a)) (Mp _)
 ·exact absurd (LH (Ly (I.pin p f).1) (by rw[z];exact a)) (Mp _)
structure Turn (P:Program) (w:World) (K:PySem.W.Frag) (tg:Expr) (J:It) (fp:List Addr) (it:Addr) (tn:Nat->Heap->Prop):Prop where
 mem:it∈fp
 obj:∀i h,tn i h->∀b∈fp,∃o,h.get? b=some o/\∀v,o.data≠.cell v
 keep:∀i h h',tn i h->(∀b∈fp,∀o,h.get? b=some o->h'.get? b=some o)->tn i h'
 item:∀(X:Cx),X.prog=P->X.w=w->X.K=K->X.calm=true->∀(i:Nat) (pins:List (Addr×Obj)) (s:Shared) (σ:St) (H:Hp) (E:Value->Shared->Prop),Inv X pins σ H s->(∀b∈fp,pU X pins H b)->tn i s.heap->J.go i H ->
  wpAny (model P w) X.A (pyNext (.ref it)) (λr s1=>∃u,r=some u /\
   wpAny (model P w) X.A (letOwnedTupleGo tg (.ref it) u) (λ_ s2=>∃x H',Inv X pins σ H' s2/\RelV x u/\J.yld i H x H'/\tn (i+1) s2.heap/\∀b∈fp,H' b=none) E s1) E s
 done:∀(X:Cx),X.prog=P->X.w=w->X.K=K->X.calm=true->∀(i:Nat) (pins:List (Addr×Obj)) (s:Shared) (σ:St) (H:Hp) (E:Value->Shared->Prop),Inv X pins σ H s->(∀b∈fp,pU X pins H b)->tn i s.heap->J.stop i H ->
  wpAny (model P w) X.A (pyNext (.ref it)) (λr s1=>r=none/\Inv X pins σ H s1) E s
 self:∀(A:Around) (i:Nat) (s:Shared) (Q:Value->Shared->Prop) (E:Value->Shared->Prop),tn i s.heap->Q (.ref it) s->wpAny (model P w) A (pyIter (.ref it)) Q E s
abbrev TI:=St->Hp->(It->Hp->Prop)->Prop
def PIE (X:Cx) (pins:List (Addr×Obj)) (σ:St) (tg:Expr) (R:It->Hp->Prop) (a:Value) (s2:Shared):Prop :=
 ∃(it:Addr) (fp:List Addr) (tn:Nat->Heap->Prop) (J:It) (H':Hp),a=.ref it/\Inv X pins σ H' s2/\Turn X.prog X.w X.K tg J fp it tn/\tn 0 s2.heap/\(∀b∈fp,pU X pins H' b)/\R J H'
def PI (X:Cx) (tg iter:Expr) (a:TI):Prop :=
 ∀(pins:List (Addr×Obj)) (s:Shared) (σ:St) (H:Hp) (R:It->Hp->Prop),Inv X pins σ H s->a σ H R ->
  wpAny (model X.prog X.w) X.A (eval iter X.env) (λv b=>wpAny (model X.prog X.w) X.A (pyIter v) (PIE X pins σ tg R) X.xe b) X.xe s
theorem Cd {o:Obj} {n:String} {vs:Array Value} {Q:Unit->Shared->Prop} (b:s.heap.get? it=some o) (hc:o.cls=.type n) (hd:o.data=.fields vs)
    (hn:["enumerate", "zip", "dict_itemiterator", "dict_reverseitemiterator", "odict_iterator", "itertools.zip_longest", "itertools.pairwise"].contains n=false) (a:Q () s):wpAny M A (letOwnedTupleGo tg (.ref it) u) Q E s:=by
  unfold letOwnedTupleGo
  cases tg <;> first
    |exact wpAny_pure a
    | (cases u <;> first
        |exact wpAny_pure a
        | (refine wpAny_bind (wpAny_load b ?_)
           rw[hc,hd]
           show wpAny M A (if (["enumerate", "zip", "dict_itemiterator", "dict_reverseitemiterator", "odict_iterator", "itertools.zip_longest", "itertools.pairwise"].contains n&&vs[0]?==some (rawInt _))=true then _ else _) Q E s
           rw[if_neg (by intro h;rw[hn,Bool.false_and]at h;cases h)]
           exact wpAny_pure a))
def Itl (K:PySem.W.Frag) (a:Addr):It :=
 ⟨λi H=>∃xs x,SqL K H a xs/\xs[i]?=some x,λi H x H'=>H'=H/\∀xs,SqL K H a xs->xs[i]?=some x,λi H=>∃xs,SqL K H a xs/\xs.length<=i⟩
def Itt (K:PySem.W.Frag) (a:Addr):It :=
 ⟨λi H=>∃xs x,SqT K H a xs/\xs[i]?=some x,λi H x H'=>H'=H/\∀xs,SqT K H a xs->xs[i]?=some x,λi H=>∃xs,SqT K H a xs/\xs.length<=i⟩
def Itr (lo:Int) (n:Nat):It:=⟨λi _=>i<n,λi H x H'=>H'=H/\x=.int (lo+i),λi _=>n<=i⟩
theorem zZ (a it:Addr):Turn P w K tg (Itl K a) [it] it (λi h=>h.IsListIter it a i) where
 mem:=by simp
 obj:=λi h st b f=>by
  have e:b=it:=by simpa using f
  subst e;obtain⟨o,e,c,d⟩:=st;exact⟨o,e,λv z=>by rw[d]at z;cases z⟩
 keep:=λi h h' st k=>st.at λo e=>k it (by simp) o e
 item:=by
  intro X m hw hK hc i pins s σ H E I j st n;subst m hw hK;obtain⟨xs,x,l,q⟩:=n;obtain⟨r,t,p,D⟩:=I.list l;obtain⟨u,F,G⟩:=t.get q;obtain⟨y,f1,f2,A,B,C⟩:=j it (by simp);refine wpAny_pyNext_list_item st p.isList (x:=u) (by simpa using F) λh' g J=>?_
  have L:Inv X pins σ H { s with heap:=h' }:=I.turned (t':=s.toks) (λb o f e=>(J.2 b f).trans e) y f1 A B C;obtain⟨o,e,c,d⟩:=id g;exact⟨u,rfl,Cd (s:={ s with heap:=h' }) e c d (by decide) ⟨x,H,L,G,⟨rfl,λys M=>by rw[I.list_inj M l];exact q⟩,g,λb f=>(j b f).1⟩⟩
 done:=by intro X m hw hK hc i pins s σ H E I j st n;subst m hw hK;obtain⟨xs,l,q⟩:=n;obtain⟨r,t,p,D⟩:=I.list l;obtain⟨y,f1,f2,A,B,C⟩:=j it (by simp);have hl:=t.length;exact wpAny_pyNext_list_end (I.ok.hd hc) st p.isList (by simp;omega) λh' N=>⟨rfl,I.turned (t':=s.toks) (λb o f e=>N b o f e) y f1 A B C⟩
 self:=λ_ _ _ _ _ st h=>wpAny_pyIter_listiter st h
theorem wX (a it:Addr):Turn P w K tg (Itt K a) [it] it (λi h=>h.IsTupleIter it a i) where
 mem:=by simp
 obj:=λi h st b f=>by
  have e:b=it:=by simpa using f
  subst e;obtain⟨o,e,c,d⟩:=st;exact⟨o,e,λv z=>by rw[d]at z;cases z⟩
 keep:=λi h h' st k=>st.at λo e=>k it (by simp) o e
 item:=by
  intro X n hw hK hc i pins s σ H E I l st q;subst n hw hK;obtain⟨xs,x,m,r⟩:=q;obtain⟨g,t,p,D⟩:=I.tuple m;obtain⟨u,F,G⟩:=t.get r;obtain⟨y,f1,f2,A,B,C⟩:=l it (by simp);refine wpAny_pyNext_tuple_item st (show s.heap.IsTuple a g.toArray from p) (x:=u) (by simpa using F) λh' j J=>?_
  have L:Inv X pins σ H { s with heap:=h' }:=I.turned (t':=s.toks) (λb o f e=>(J.2 b f).trans e) y f1 A B C;obtain⟨o,e,c,d⟩:=id j;exact⟨u,rfl,Cd (s:={ s with heap:=h' }) e c d (by decide) ⟨x,H,L,G,⟨rfl,λys M=>by rw[I.tuple_inj M m];exact r⟩,j,λb f=>(l b f).1⟩⟩
 done:=by intro X n hw hK hc i pins s σ H E I l st q;subst n hw hK;obtain⟨xs,m,r⟩:=q;obtain⟨g,t,p,D⟩:=I.tuple m;obtain⟨y,f1,f2,A,B,C⟩:=l it (by simp);have hl:=t.length;exact wpAny_pyNext_tuple_end (I.ok.hd hc) st (show s.heap.IsTuple a g.toArray from p) (by simp;omega) λh' N=>⟨rfl,I.turned (t':=s.toks) (λb o f e=>N b o f e) y f1 A B C⟩
 self:=λ_ _ _ _ _ st h=>wpAny_pyIter_tupleiter st h
theorem xR (it:Addr) (lo:Int) (n:Nat):Turn P w K tg (Itr lo n) [it] it (λi h=>IsRangeIter h it (lo+(i:Nat)*1) ((n:Int)-(i:Nat)) 1) where
 mem:=by simp
 obj:=λi h st b a=>by
  have e:b=it:=by simpa using a
  subst e;exact⟨_,st,λv z=>by have r:Data.fields _=Data.cell v:=z;cases r⟩
 keep:=λi h h' st k=>k it (by simp) _ st
 item:=by
  intro X g hw hK hc i pins s σ H E I f st j;subst g hw hK;obtain⟨l,f1,f2,m,p,q⟩:=f it (by simp);have W:=Walks.range (prog:=X.prog) (w:=X.w) (I.ok.hd hc) it lo 1 n;refine W.item i s _ _ j st λv h' tk hv c u=>?_
  obtain⟨t,rfl⟩:=hv;have x:Inv X pins σ H { s with heap:=h',toks:=tk }:=I.turned (λb o a e=>u b o (by simpa using a) e) l f1 m p q;refine⟨_,rfl,Cd (s:={ s with heap:=h',toks:=tk }) (n:="range_iterator") c rfl rfl (by decide) ⟨.int (lo+i),H,x,⟨t,?_⟩,⟨rfl,rfl⟩,c,λb a=>(f b a).1⟩⟩;rw[Int.mul_one]
 done:=by intro X g hw hK hc i pins s σ H E I f st j;subst g hw hK;obtain⟨l,f1,f2,m,p,q⟩:=f it (by simp);exact wpAny_pyNext_range_end (I.ok.hd hc) st (by have:n<=i:=j;omega) λh' y=>⟨rfl,I.turned (t':=s.toks) (λb o a e=>y b o a e) l f1 m p q⟩
 self:=λ_ _ _ _ _ st h=>wpAny_pyIter_rangeiter st h
section
def Ky (K:PySem.W.Frag) (tl:TE):TI:=λσ H R=>tl σ H λx H1=>∃a,x=.ref a/\(∃xs,SqL K H1 a xs)/\R (Itl K a) H1
def K3 (K:PySem.W.Frag) (tl:TE):TI:=λσ H R=>tl σ H λx H1=>∃a,x=.ref a/\(∃xs,SqT K H1 a xs)/\R (Itt K a) H1
theorem Fo {l:Expr} {tl:TE} (hl:PE X l tl):PI X tg l (Ky X.K tl):=by
 intro pins s σ H R I h;refine thn (hl pins s σ H _ I h) λv c g=>?_
 obtain⟨x,H1,f,i,j⟩:=g;obtain⟨a,e,⟨xs,m⟩,q⟩:=j;subst e;cases i;obtain⟨its,rv,p,hz⟩:=f.list m;refine wpAny_pyIter_list p.isList ?_;refine⟨c.heap.objs.size,[c.heap.objs.size],_,_,H1,rfl,f.kept (t':=c.toks) λb o e=>L1 _ e,zZ a _,⟨_,LF _ rfl,rfl,rfl⟩,λb n=>?_,q⟩;have e:b=c.heap.objs.size:=by simpa using n
 subst e;exact f.fpOk (L9 _) (f.hok.fresh (L9 _))
theorem GY {l:Expr} {tl:TE} (hl:PE X l tl):PI X tg l (K3 X.K tl):=by
 intro pins s σ H R I h;refine thn (hl pins s σ H _ I h) λv c g=>?_
 obtain⟨x,H1,f,j,m⟩:=g;obtain⟨a,e,⟨xs,n⟩,q⟩:=m;subst e;cases j;obtain⟨i,rv,p,hz⟩:=f.tuple n;refine wpAny_pyIter_tuple (show c.heap.IsTuple a i.toArray from p) ?_;refine⟨c.heap.objs.size,[c.heap.objs.size],_,_,H1,rfl,f.kept (t':=c.toks) λb o e=>L1 _ e,wX a _,⟨_,LF _ rfl,rfl,rfl⟩,λb r=>?_,q⟩;have e:b=c.heap.objs.size:=by simpa using r
 subst e;exact f.fpOk (L9 _) (f.hok.fresh (L9 _))
theorem Bk {R:It->Hp->Prop} {lo hi:Int} {t u v:Tok} {tk:Nat} (I:Inv X pins σ H s) (h1:-(2 ^ 62)<=lo) (h2:lo<2 ^ 62) (c:-(2 ^ 62)<=hi) (f:hi<2 ^ 62)
  (q:R (Itr lo (hi-lo).toNat) H):wpAny (model X.prog X.w) X.A (pyIter (.ref s.heap.objs.size)) (PIE X pins σ tg R) E { s with heap:=s.heap.push { cls:=.type "range",data:=.fields #[.int lo t,.int hi u,.int 1 v] },toks:=tk }:=by
 refine wpAny_pyIter_range (IsRange.new ..) (small_one h1 h2 c f) ?_;have a:Inv X pins σ H { s with heap:=s.heap.push { cls:=.type "range",data:=.fields #[.int lo t,.int hi u,.int 1 v] },toks:=tk }:=I.kept λb o e=>L1 _ e
 refine⟨(s.heap.push { cls:=.type "range",data:=.fields #[.int lo t,.int hi u,.int 1 v] }).objs.size,[(s.heap.push { cls:=.type "range",data:=.fields #[.int lo t,.int hi u,.int 1 v] }).objs.size],_,_,H,rfl,
  a.kept (t':=tk) λb o e=>L1 _ e,xR _ lo (hi-lo).toNat,?_,λb g=>?_,q⟩
 ·have e1:lo+((0:Nat):Int)*1=lo:=by simp
  have e2:(((hi-lo).toNat:Nat):Int)-((0:Nat):Int)=Builtin.Range.rangeSize lo hi 1:=by rw[rangeSize_one];split <;> omega
  show IsRangeIter _ _ (lo+((0:Nat):Int)*1) ((((hi-lo).toNat:Nat):Int)-((0:Nat):Int)) 1;rw[e1,e2];exact LF _ rfl
 ·have e:b=(s.heap.push { cls:=.type "range",data:=.fields #[.int lo t,.int hi u,.int 1 v] }).objs.size:=by simpa using g
  subst e;exact a.fpOk (L9 _) (a.hok.fresh (L9 _))
def JF (ta:TA):TI:=λσ H R=>ta σ H λvs H1=>∃j:Int,vs=[.int j]/\-(2 ^ 62)<=j/\j<2 ^ 62/\R (Itr 0 j.toNat) H1
theorem zy {a:Expr} {ta:TA} (f:Gl X "range") (hm:X.mg "range"=none) (ha:PA X [a] ta) (g:starEach [a] X.env=[(false,eval a X.env)]:=by rfl):PI X tg (.Call (.Name "range" p) [a] [] pos) (JF ta):=by
 intro pins s σ H R I h;refine Call_ (fQ I f hm boot_range (PyProof.Rows.callWith_type1 (thn (ha pos pins s σ H _ I h) λus s1 b=>?_) g rfl));obtain⟨vs,H1,i,l,c⟩:=b;obtain⟨j,e,c,m,q⟩:=c;subst e;cases l with
 |cons r rr =>cases rr;obtain⟨t,rfl⟩:=r;exact call_range_1 (Bk i (by omega) (by omega) c m (by simpa using q))
def La (e:TI) (g:TG) (tb:TS):TS:=λD σ H=>e σ H λJ H1=>∃W:Nat->Nat->St->Hp->Prop,(∃m,W 0 m σ H1)/\∀i m σ H,W i m σ H ->
 (J.stop i H/\D.nx σ H)\/(J.go i H/\∃N:St->Hp->Prop,(∀a H',N a H'->∃c,c < m/\W (i+1) c a H')/\∀x H',J.yld i H x H'->g x σ H' λb H2=>tb { D with nx:=N,ct:=N,bk:=D.nx } b H2)
def pe (fp:List Addr) (h:Heap):List (Addr×Obj):=fp.filterMap λb=>(h.get? b).map λo=>(b,o)
theorem i9 {o:Obj} (a:b∈fp) (e:h.get? b=some o):(b,o)∈pe fp h:=Nk.mpr ⟨b,a,by rw[e];rfl⟩
theorem AI {p:Addr×Obj} (a:p∈pe fp h):p.1∈fp/\h.get? p.1=some p.2:=by
 obtain⟨b,c,e⟩:=Nk.mp a;cases q:h.get? b with
 |none=>rw[q]at e;cases e
 |some o =>rw[q]at e;have f:(b,o)=p:=Option.some.inj e;subst f;exact⟨c,q⟩
theorem Inv.pinned (I:Inv X pins σ H s) (f:∀b∈fp,pU X pins H b) (g:∀b∈fp,∃o,s.heap.get? b=some o/\∀v,o.data≠.cell v):Inv X (pins++pe fp s.heap) σ H s :=
 I.pins_of λp h=>(LW.mp h).elim (λz=>I.pin p (Lw _ z)) λz=>by obtain⟨a,e⟩:=AI z;obtain⟨i,f1,f2,_⟩:=f p.1 a;obtain⟨o,c,d⟩:=g p.1 a;rw[e]at c;cases c;exact⟨e,i,f1,f2,d⟩
theorem Inv.unpinned {pl:List (Addr×Obj)} (I:Inv X (pins++pl) σ H s):Inv X pins σ H s:=I.pins_of λp a=>I.pin p (Lw _ (LZ _ a))
theorem Hv {S:TI} {g:TG} {tb:TS} (C:PassesOwn (model X.prog X.w) X.A X.env X.xe) (hc:X.calm=true) (hi:PI X tg iter S) (hg:PG X tg g) (j:PSs X body tb)
  (hs:∀x,foldedSetIterable iter X.env x=pure x:=by intro _;rfl):PS X (.For tg iter body [] pos) (La S g tb):=by
 intro pins s σ H D I h;refine wpAny_For (thn (hi pins s σ H _ I h) λv s1 h1=>thn h1 λitv s2 h2=>?_) hs;obtain⟨it,fp,tn,J,H2,e,I2,T,L,f2,W,⟨m0,w0⟩,turn⟩:=h2;subst e
 -- what stays true of the iterator's objects through the loop
 have l:∀{H':Hp},(∀b∈fp,H' b=none)->∀b∈fp,pU X pins H' b:=λhn b j=>⟨hn b j,(f2 b j).2⟩
 refine codeAny_forLoop_any (λn s'=>∃i p H',Inv X pins p H' s'/\tn i s'.heap/\(∀b∈fp,H' b=none)/\W i n p H') ?_ m0 ⟨0,σ,H2,I2,L,λb j=>(f2 b j).1,w0⟩
 rintro n U ⟨i,q,K,Y,E,F,w3⟩
 rcases turn i n q K w3 with⟨stop,qn⟩|⟨go,N,hN,step⟩
 ·refine wpAny_passesOwn C (thn (T.done X rfl rfl rfl hc i pins U q K X.xe Y (l F) E stop) λr s4 c=>?_);obtain⟨M,I4⟩:=c;subst M;exact wpAny_execs_nil ⟨q,K,I4,qn⟩
 ·refine wpAny_passesOwn C (thn (T.item X rfl rfl rfl hc i pins U q K X.xe Y (l F) E go) λr s4 c=>?_);obtain⟨u,M,h4⟩:=c;subst M;refine wpAny_passesOwn C (thn h4 λ_ Z c=>?_);obtain⟨x,H5,I5,r5,y5,B,O⟩:=c;have P:=I5.pinned (l O) (T.obj _ _ B);refine wpAny_passesOwn C (thn (hg _ Z q H5 x u _ P r5 (step x H5 y5)) λ_ s6 c=>?_);obtain⟨Q,H6,I6,q6⟩:=c;refine wpAny_passesOwn C (thn (j _ s6 Q H6 _ I6 q6) λf R z=>?_);have again:∀{a:St} {t:Hp},Inv X (pins++pe fp Z.heap) a t R->N a t->∃m,m<n/\∃i p H',Inv X pins p H' R/\tn i R.heap/\(∀b∈fp,H' b=none)/\W i m p H':=λ{a t} y G=>by obtain⟨m',hm,w7⟩:=hN a t G;refine⟨m',hm,i+1,a,t,y.unpinned,T.keep _ _ _ B λb j o e=>(y.pin (b,o) (Lw _ (Lw _ (i9 j e)))).1,λb j=>?_,w7⟩;obtain⟨o,e,d⟩:=T.obj _ _ B b j;exact (y.pin (b,o) (Lw _ (Lw _ (i9 j e)))).2.1
  cases f with
  |next=>obtain⟨a,t,y,G⟩:=z;exact again y G
  |cont=>obtain⟨a,t,y,G⟩:=z;exact again y G
  |brk=>obtain⟨a,t,y,z⟩:=z;exact⟨a,t,y.unpinned,z⟩
  |ret v=>obtain⟨x7,a,t,y,r7,z⟩:=z;exact⟨x7,a,t,y.unpinned,r7,z⟩
end
abbrev R2:=V->V->Hp->VK->Prop
variable {r:R2}
def OpR (X:Cx) (f:Value->Value->Sem Value) (r:R2):Prop :=
 ∀(pins:List (Addr×Obj)) (s:Shared) (σ:St) (H:Hp) (x y:V) (v u:Value) (Q:VK),Inv X pins σ H s->RelV x v->RelV y u->r x y H Q ->
  wpAny (model X.prog X.w) X.A (f v u) (EP X pins σ Q) X.xe s
def UnR (X:Cx) (f:Value->Sem Value) (r:V->Hp->VK->Prop):Prop :=
 ∀(pins:List (Addr×Obj)) (s:Shared) (σ:St) (H:Hp) (x:V) (v:Value) (Q:VK),Inv X pins σ H s->RelV x v->r x H Q ->
  wpAny (model X.prog X.w) X.A (f v) (EP X pins σ Q) X.xe s
def km (X:Cx) (f:Value) (r:List V->Hp->VK->Prop):Prop :=
 ∀(pins:List (Addr×Obj)) (s:Shared) (σ:St) (H:Hp) (xs:List V) (us:List Value) (Q:VK),Inv X pins σ H s->Vals xs us->r xs H Q ->
  wpAny (model X.prog X.w) X.A (call f us) (EP X pins σ Q) X.xe s
def tOp (r:R2) (ta tb:TE):TE:=λσ H Q=>ta σ H λx H1=>tb σ H1 λy H2=>r x y H2 Q
def tUn (r:V->Hp->VK->Prop) (ta:TE):TE:=λσ H Q=>ta σ H λx H1=>r x H1 Q
def rI (C:Int->Int->Prop) (g:Int->Int->V):R2:=λx y H Q=>∃i j,x=.int i/\y=.int j/\C i j/\Q (g i j) H
def rI0 (g:Int->Int->V):R2:=λx y H Q=>∃i j,x=.int i/\y=.int j/\Q (g i j) H
def rU (g:Int->V):V->Hp->VK->Prop:=λx H Q=>∃i,x=.int i/\Q (g i) H
section
variable {a b:Expr} {ta tb tc:TE}
theorem Iz (ha:PE X a ta) (i:PE X b tb) (I:Inv X pins σ H s)
  (h:ta σ H λx H1=>tb σ H1 λy H2=>R x y H2) {f:Value->Value->Sem Value}
  (j:∀v u s2 x y H2,Inv X pins σ H2 s2->RelV x v->RelV y u->R x y H2->wpAny (model X.prog X.w) X.A (f v u) Q X.xe s2) :
  wpAny (model X.prog X.w) X.A (eval a X.env) (λv e=>wpAny (model X.prog X.w) X.A (eval b X.env) (λu g=>wpAny (model X.prog X.w) X.A (f v u) Q X.xe g) X.xe e) X.xe s:=by
 refine thn (ha pins s σ H _ I h) λv l c=>?_
 obtain⟨x,H1,m,n,o⟩:=c;refine thn (i pins l σ H1 _ m o) λu s2 c=>?_
 obtain⟨y,H2,p,q,r⟩:=c;exact j v u s2 x y H2 p n q r
theorem eN {op:Operator} (c:OpR X (binaryOp op) r) (ha:PE X a ta) (e:PE X b tb):PE X (.BinOp a op b pos) (tOp r ta tb):=by intro pins s σ H Q I h;exact wpAny_BinOp (Iz ha e I h λv u s2 x y H2 f g i q=>c pins s2 σ H2 x y v u Q f g i q)
theorem Kg {op:UnaryOp} {r:V->Hp->VK->Prop} (c:UnR X (unaryOp op) r) (ha:PE X a ta):PE X (.UnaryOp op a pos) (tUn r ta):=by intro pins s σ H Q I h;exact UnaryOp_ (thn (ha pins s σ H _ I h) λv e b=>(by obtain⟨x,H1,f,g,i⟩:=b;exact c pins e σ H1 x v Q f g i))
theorem opI {f:Value->Value->Sem Value} {C:Int->Int->Prop}
  (rule:∀(i j:Int) (t u:Tok) (s:Shared) (Q:Value->Shared->Prop) (E:Value->Shared->Prop),C i j->Q (.int (g i j) s.toks) { s with toks:=s.toks+1 }->wpAny (model X.prog X.w) X.A (f (.int i t) (.int j u)) Q E s) :
  OpR X f (rI C λi j=>.int (g i j)):=by
 intro pins s σ H x y v u Q I a b h;obtain⟨i,j,rfl,rfl,hc,q⟩:=h;obtain⟨t,rfl⟩:=a;obtain⟨t',rfl⟩:=b;exact rule i j t t' s _ _ hc ⟨.int (g i j),H,I.tok _,⟨_,rfl⟩,q⟩
theorem KC {f:Value->Value->Sem Value}
  (rule:∀(i j:Int) (t u:Tok) (s:Shared) (Q:Value->Shared->Prop) (E:Value->Shared->Prop),Q (.int (g i j) s.toks) { s with toks:=s.toks+1 }->wpAny (model X.prog X.w) X.A (f (.int i t) (.int j u)) Q E s) :
  OpR X f (rI0 λi j=>.int (g i j)):=by
 intro pins s σ H x y v u Q I a b h;obtain⟨i,j,rfl,rfl,q⟩:=h;obtain⟨t,rfl⟩:=a;obtain⟨t',rfl⟩:=b;exact rule i j t t' s _ _ ⟨.int (g i j),H,I.tok _,⟨_,rfl⟩,q⟩
theorem Iq {f:Value->Value->Sem Value} {g:Int->Int->Bool}
  (rule:∀(i j:Int) (t u:Tok) (s:Shared) (Q:Value->Shared->Prop) (E:Value->Shared->Prop),Q (.bool (g i j)) s->wpAny (model X.prog X.w) X.A (f (.int i t) (.int j u)) Q E s) :
  OpR X f (rI0 λi j=>.bl (g i j)):=by
 intro pins s σ H x y v u Q I a b h;obtain⟨i,j,rfl,rfl,q⟩:=h;obtain⟨t,rfl⟩:=a;obtain⟨t',rfl⟩:=b;exact rule i j t t' s _ _ ⟨.bl (g i j),H,I,rfl,q⟩
def JA (i j:Int):Prop:=0<j/\j<1073741824
def Kp (i j:Int):Prop:=0<=j/\j<=1000000/\i.natAbs<2 ^ 64
def Et (i j:Int):Prop:=(-(2 ^ 64)<i/\i<2 ^ 64)\/(-(2 ^ 64)<j/\j<2 ^ 64)
theorem Et.ok {i j:Int} (h:Et i j):IntMulOk i j:=by
 rcases h with⟨h1,h2⟩|⟨h1,h2⟩
 ·exact .of_left (intBits_le_64 h1 h2)
 ·exact .of_right (intBits_le_64 h1 h2)
theorem lZ:OpR X (binaryOp .Add) (rI0 λi j=>.int (i+j)):=KC λ_ _ _ _ _ _ _ q=>add_int q
theorem HC:OpR X (binaryOp .Sub) (rI0 λi j=>.int (i-j)):=KC λ_ _ _ _ _ _ _ q=>sub_int q
theorem mQ:OpR X (binaryOp .Mult) (rI Et λi j=>.int (i*j)):=opI λ_ _ _ _ _ _ _ hc q=>mul_int q hc.ok
theorem Fz:OpR X (binaryOp .FloorDiv) (rI JA λi j=>.int (i / j)):=opI λi j _ _ _ _ _ hc q=>by have h1:(0:Int)<j:=hc.1;have h2:j<1073741824:=hc.2;exact floordiv_int (by omega) (by rw[Int.fdiv_eq_ediv_of_nonneg i (by omega)];exact q) (.inl (PyProof.noPylong_small (by omega)))
theorem pj:OpR X (binaryOp .Mod) (rI (λ_ j=>0<j) λi j=>.int (i % j)):=opI λi j _ _ _ _ _ hc q=>by have h1:(0:Int)<j:=hc;exact mod_int' (by omega) (by rw[Int.fmod_eq_emod_of_nonneg i (by omega)];exact q)
theorem Ht:OpR X (binaryOp .Pow) (rI Kp λi j=>.int (i ^ j.toNat)):=opI λ_ _ _ _ _ _ _ hc q=>pow_int_small hc.1 hc.2.1 hc.2.2 q
theorem unI {f:Value->Sem Value} {g:Int->Int}
  (rule:∀(i:Int) (t:Tok) (s:Shared) (Q:Value->Shared->Prop) (E:Value->Shared->Prop),Q (.int (g i) s.toks) { s with toks:=s.toks+1 }->wpAny (model X.prog X.w) X.A (f (.int i t)) Q E s) :
  UnR X f (rU λi=>.int (g i)):=by
 intro pins s σ H x v Q I a h;obtain⟨i,rfl,q⟩:=h;obtain⟨t,rfl⟩:=a;exact rule i t s _ _ ⟨.int (g i),H,I.tok _,⟨_,rfl⟩,q⟩
theorem Hu:UnR X (unaryOp .USub) (rU λi=>.int (-i)):=unI λ_ _ _ _ _ q=>neg_int q
end
section
variable {a b:Expr} {ta tb tc:TE}
theorem Dt:OpR X (compareOp .Lt) (rI0 λi j=>.bl (decide (i<j))):=Iq λ_ _ _ _ _ _ _ q=>lt_int q
theorem yZ:OpR X (compareOp .LtE) (rI0 λi j=>.bl (decide (i<=j))):=Iq λ_ _ _ _ _ _ _ q=>le_int q
theorem Jv:OpR X (compareOp .Gt) (rI0 λi j=>.bl (decide (j<i))):=Iq λ_ _ _ _ _ _ _ q=>gt_int q
theorem OpR.or {f:Value->Value->Sem Value} {a:R2} (h:OpR X f r) (h':OpR X f a):OpR X f (λx y H Q=>r x y H Q\/a x y H Q):=by
 intro pins s σ H x y v u Q I b c q;rcases q with q|q
 ·exact h pins s σ H x y v u Q I b c q
 ·exact h' pins s σ H x y v u Q I b c q
theorem i3 (b:Expr) (h:op≠.In:=by decide) (h2:op≠.NotIn:=by decide):behindInMarks op b=false:=by
 have e1:(op==CmpOp.In)=false:=by cases op <;> first|rfl|exact absurd rfl h
 have e2:(op==CmpOp.NotIn)=false:=by cases op <;> first|rfl|exact absurd rfl h2
 cases b <;> simp[behindInMarks,e1,e2]
theorem kU (c:OpR X (compareOp op) r) (ha:PE X a ta) (e:PE X b tb) (hm:behindInMarks op b=false):PE X (.Compare a [op] [b] pos) (tOp r ta tb):=by intro pins s σ H Q I h;exact wpAny_Compare1 (Iz ha e I h λv u s2 x y H2 f g i q=>c pins s2 σ H2 x y v u Q f g i q) hm
def Gj (t:TE):TT:=λσ H Q=>t σ H λx H'=>∃k,x=.bl k/\Q k H'
theorem iY (g:OpR X (compareOp op) r) (ha:PE X a ta) (i:PE X b tb) (hm:behindInMarks op b=false):PT X (.Compare a [op] [b] pos) (Gj (tOp r ta tb)):=by
 intro pins s σ H Q I h;refine wpAny_isTrue_Compare1 (thn (ha pins s σ H _ I h) λv j f=>?_) hm;obtain⟨x,H1,l,m,n⟩:=f;refine thn (i pins j σ H1 _ l n) λu s2 f=>?_
 obtain⟨y,H2,o,p,q⟩:=f;refine thn (g pins s2 σ H2 x y v u _ o m p q) λc s3 f=>?_
 obtain⟨z,t,w,A,k,e,B⟩:=f;subst e;cases A;exact wpAny_truthy_bool ⟨t,w,B⟩
def Iu (r b:R2) (ta tb tc:TE):TE:=λσ H Q=>ta σ H λx H1=>tb σ H1 λy H2=>r x y H2 λz a=>∃k,z=.bl k /\
 (if k=true then tc σ a λc e=>b y c e Q else Q (.bl false) a)
theorem CV {g:CmpOp} {l:R2} (q:OpR X (compareOp op) r) (i:OpR X (compareOp g) l) (ha:PE X a ta) (t:PE X b tb) (hc:PE X c tc)
  (hm:lastMarks [op,g] [b,c]=false:=by with_unfolding_all rfl):PE X (.Compare a [op,g] [b,c] pos) (Iu r l ta tb tc):=by
 intro pins s σ H Q I h;refine Compare_chain (thn (ha pins s σ H _ I h) λv w f=>?_) hm;obtain⟨x,H1,A,B,C⟩:=f;refine chain_link (thn (t pins w σ H1 _ A C) λu s2 f=>?_);obtain⟨y,H2,D,m,E⟩:=f;refine thn (q pins s2 σ H2 x y v u _ D B m E) λd F f=>?_
 obtain⟨z,n,o,G,k,e,p⟩:=f;subst e;cases G;refine wpAny_truthy_bool ?_;cases k with
 |false=>exact ite_ff ⟨.bl false,n,o,rfl,p⟩
 |true=>exact ite_tt (chain_last (thn (hc pins F σ n _ o p) λJ K j=>(by obtain⟨L,M,N,O,P⟩:=j;exact i pins K σ M y L u J Q N m O P)))
theorem sS:(sizeLine:Nat)<2 ^ 63:=by rw[sizeLine_eq];decide
theorem vals1 {x:V} (r:Vals [x] us):∃u,us=[u]/\RelV x u:=by
 cases r with
 |cons r1 r2=>cases r2;exact⟨_,rfl,r1⟩
theorem vals2 {x y:V} (r:Vals [x,y] us):∃u a,us=[u,a]/\RelV x u/\RelV y a:=by
 cases r with
 |cons r1 r2 =>
  cases r2 with
  |cons r3 r4=>cases r4;exact⟨_,_,rfl,r1,r3⟩
theorem zE (hc:X.calm=true):km X (.builtin "max") (λxs H Q=>∃i j,xs=[.int i,.int j]/\Q (.int (if j>i then j else i)) H):=by
 intro pins s σ H xs us Q I r h;obtain⟨i,j,rfl,q⟩:=h;obtain⟨u,w',rfl,⟨t,rfl⟩,⟨t',rfl⟩⟩:=vals2 r;refine max_two_ints (I.ok.hd hc) λh' tk k=>⟨_,H,I.kept k,?_,q⟩
 by_cases hj:j>i
 ·rw[if_pos hj,if_pos hj];exact⟨_,rfl⟩
 ·rw[if_neg hj,if_neg hj];exact⟨_,rfl⟩
theorem zO (hc:X.calm=true):km X (.builtin "min") (λxs H Q=>∃i j,xs=[.int i,.int j]/\Q (.int (if j<i then j else i)) H):=by
 intro pins s σ H xs us Q I r h;obtain⟨i,j,rfl,q⟩:=h;obtain⟨u,w',rfl,⟨t,rfl⟩,⟨t',rfl⟩⟩:=vals2 r;refine min_two_ints (I.ok.hd hc) λh' tk k=>⟨_,H,I.kept k,?_,q⟩
 by_cases hj:j<i
 ·rw[if_pos hj,if_pos hj];exact⟨_,rfl⟩
 ·rw[if_neg hj,if_neg hj];exact⟨_,rfl⟩
theorem zR:km X (.type "int") (λxs H Q=>(∃i,xs=[.int i]/\Q (.int i) H)\/∃k,xs=[.bl k]/\Q (.int (if k then 1 else 0)) H):=by
 intro pins s σ H xs us Q I r h;rcases h with⟨i,rfl,q⟩|⟨k,rfl,q⟩
 ·obtain⟨u,rfl,t,rfl⟩:=vals1 r;exact call_int_int ⟨.int i,H,I,⟨_,rfl⟩,q⟩
 ·obtain⟨u,rfl,a⟩:=vals1 r;cases a;exact call_int_bool ⟨.int (if k then 1 else 0),H,I.tok _,⟨_,rfl⟩,q⟩
end
structure wZ (h:Heap) (x dx C:Addr) (mA:Str->Option Value):Prop where
 obj:h.get? x=some (PySem.W.instObj C dx)
 ns:h.Ns1 dx mA
 ne:dx≠x
theorem zB (n:h.Ns1 dx mA):∃od,h.get? dx=some od/\∀name,PySem.W.lookIn name od=some (mA name):=by
 obtain⟨o,es,ep,c,hd,f,_,hm⟩:=n;refine⟨o,c,λname=>?_⟩;have e:=hm name;unfold nsFind findBy at e;rw[<-Array.find?_toList]at e;unfold PySem.W.lookIn;rw[hd];dsimp only;split
 ·rename_i y q;rw[q]at e;exact congrArg some e
 ·rename_i q;rw[q]at e;have a:es.toList.any (·.refKey)=false:=by rw[List.any_eq_false];intro y g;obtain⟨z,t,b⟩:=f y (Array.mem_toList_iff.mp g);simp[DictEntry.refKey,b]
  have i:¬ es.toList.any (·.refKey)=true:=by rw[a];exact LK
  rw[if_neg i];exact congrArg some e
theorem wZ.look {x:Addr} (I:wZ h x dx C mA):∃od,PySem.W.InstAt h x (PySem.W.instObj C dx) C (some od)/\∀name,PySem.W.lookIn name od=some (mA name) :=
 let ⟨od,ho,hl⟩:=zB I.ns
 ⟨od,⟨I.obj,rfl,rfl,ho⟩,hl⟩
section
variable {x:Addr} {name:Str} {v:Value}
theorem get_map {expr:Bool} (X:K.In s.heap) (I:wZ s.heap x dx C mA) (b:PySem.W.plainGet K C name=true) (c:PySem.W.hasDictIn K C=true)
  (ha:PySem.W.findIn K (.ref C) name=some none) (hv:mA name=some v) (a:PySem.W.handedIn v=true) (h:Q v { s with toks:=s.toks+1 }) :
  wpAny (model prog w) A (getAttr (.ref x) name expr) Q E s:=by
 obtain⟨od,J,hl⟩:=I.look;exact PySem.W.get_value X J (PySem.W.plainGet_of b).1 (PySem.W.findObj_own c ha rfl (by rw[hl,hv])) a h
theorem AY {pl:Sem Bool} {Q:Value×List Value->Shared->Prop} (X:K.In s.heap) (I:wZ s.heap x dx C mA) (a:PySem.W.plainGet K C name=true)
  (b:PySem.W.findIn K (.ref C) name=some (some (.ref f))) (c:PySem.W.isFn K (.ref f)=true) (hv:mA name=none) (h:Q (.ref f,[.ref x]) s) :
  wpAny (model prog w) A (getMethod (.ref x) name pl) Q E s:=by
 obtain⟨od,J,hl⟩:=I.look;exact PySem.W.method_fn X J (PySem.W.plainGet_of a).1 (PySem.W.plainGet_of a).2 b (beq_iff_eq.mp c) (by show (PySem.W.lookIn name od).map (·.isSome)=some false;rw[hl,hv];rfl) h
theorem Fx {ns:List Str} {Q:Unit->Shared->Prop} (X:K.In s.heap) (I:wZ s.heap x dx C mA)
  (j:PySem.W.findIn K (.ref C) "__setattr__"=some (some (.builtin "object.__setattr__"))) (l:PySem.W.plainOver K C=true) (m:PySem.W.takerIn K C name=some none) (n:PySem.W.hasDictIn K C=true)
  (hw:PySem.Within mA ns) (hsz:ns.length<=sizeLine)
  (h:∀h',wZ h' x dx C (λy=>if y=name then some v else mA y)->Heap.SameBut dx s.heap h'->Q () { s with heap:=h',toks:=s.toks+2 }) :
  wpAny (model prog w) A (setAttr (.ref x) name v) Q E s:=by
 obtain⟨od,J,hl⟩:=I.look;refine PySem.W.set_plain X J j (PySem.W.osa_open (s:={ s with toks:=s.toks+1 }) (r:=none) X J l m λb=>?_);obtain⟨cd,hc,f⟩:=PySem.W.any_some n;have o:s.heap.get? x=some ⟨.ref C,some dx,.plain,#[]⟩:=I.obj;refine wpAny_bind (wpAny_pure (wpAny_bind (wpAny_bind (wpAny_loadPart o (wpAny_bind (PySem.W.Looks.here (s:={ s with toks:=s.toks+1 }) (PySem.W.looks_clsIn X hc) ?_))))));rw[f];refine wpAny_pure (a:=some dx) (wpAny_bind (wpAny_pure (wpAny_bind ?_)));refine wpAny_nsSet1 (s:={ s with toks:=s.toks+1 }) I.ns λh' c e=>?_
 obtain⟨oD,esD,epD,g,hdD,i⟩:=c.count (PySem.Within.cons name v hw);refine wpAny_bind (wpAny_lookBehind g (by rw[hdD];exact pastItsLine_dict (Mb i (by rw[LI];omega))) ?_);exact wpAny_pure (h _ ⟨(e.2 _ (Ne.symm I.ne)).trans I.obj,c,I.ne⟩ e)
theorem Bb {R:Result->Shared->Prop} {vs:List Value} {a:List (Str×Value)} (X:K.In s.heap) (hm:PySem.W.makesIn K C=true)
  (hi:PySem.W.findIn K (.ref C) "__init__"=some (some (.ref f))) (b:PySem.W.typeIn K (.ref f)=some (.type "function"))
  (h:codeAny (model prog w) (A.under (.builtin "type.__call__" ⟨.ref C::vs,a⟩)) (.call (.ref f) ⟨.ref (s.heap.objs.size+1)::vs,a⟩) (PySem.W.InitBack (s.heap.objs.size+1) R)
   { s with heap:=(s.heap.push PySem.W.emptyDict).push (PySem.W.instObj C s.heap.objs.size) }) :
  codeAny (model prog w) A (.call (.ref C) ⟨vs,a⟩) R s:=by
 obtain⟨hh,g,d,t,os⟩:=s;exact PySem.W.make_core (PySem.W.makes_of X hm) (PySem.W.looks_findIn X hi) (λself=>PySem.W.bind_fn X self b) (.inl rfl) h
end
def hZ (f:Str) (v:V):List (Str×V)->List (Str×V)
 |[]=>[(f,v)]
 |(g,x)::r=>if g=f then (g,v)::r else (g,x)::hZ f v r
theorem jT (f g:Str) (v:V):∀fs:List (Str×V),(hZ f v fs).lookup g=if g=f then some v else fs.lookup g
 |[]=>by
  show List.lookup g [(f,v)]=_;by_cases h:g=f
  ·have a:(g==f)=true:=beq_iff_eq.mpr h;simp only[List.lookup,a,if_pos h]
  ·have a:(g==f)=false:=beq_eq_false_iff_ne.mpr h;simp only[List.lookup,a,if_neg h]
 |(k,x)::r=>by
  have b:=jT f g v r;rw[show hZ f v ((k,x)::r)=(if k=f then (k,v)::r else (k,x)::hZ f v r) from rfl];by_cases hk:k=f
  ·rw[if_pos hk];by_cases h:g=k
   ·have a:(g==k)=true:=beq_iff_eq.mpr h;simp only[List.lookup,a,if_pos (h.trans hk)]
   ·have a:(g==k)=false:=beq_eq_false_iff_ne.mpr h;simp only[List.lookup,a,if_neg (λe:g=f=>h (e.trans hk.symm))]
  ·rw[if_neg hk];by_cases h:g=k
   ·have a:(g==k)=true:=beq_iff_eq.mpr h;simp only[List.lookup,a,if_neg (λe:g=f=>hk (h.symm.trans e))]
   ·have a:(g==k)=false:=beq_eq_false_iff_ne.mpr h;simp only[List.lookup,a];exact b
theorem mD (f:Str) (v:V):∀fs:List (Str×V),f∈(hZ f v fs).map (·.1)/\∀g,g∈fs.map (·.1)->g∈(hZ f v fs).map (·.1)
 |[]=>⟨by simp[hZ],λg h=>by simp at h⟩
 |(k,x)::r=>by
  obtain⟨i1,i2⟩:=mD f v r;rw[show hZ f v ((k,x)::r)=(if k=f then (k,v)::r else (k,x)::hZ f v r) from rfl];by_cases hk:k=f
  ·rw[if_pos hk];subst hk;exact⟨by simp,λg h=>by simpa using h⟩
  ·rw[if_neg hk];refine⟨?_,λg h=>?_⟩
   ·rw[L4];exact L3 _ i1
   ·rw[L4]at h ⊢;rcases L7.mp h with e|e
    ·exact L7.mpr (.inl e)
    ·exact L3 _ (i2 g e)
theorem nB (f:Str) (v:V):∀fs:List (Str×V),(hZ f v fs).length<=fs.length+1
 |[]=>by simp[hZ]
 |(k,x)::r=>by
  have ih:=nB f v r;rw[show hZ f v ((k,x)::r)=(if k=f then (k,v)::r else (k,x)::hZ f v r) from rfl];by_cases hk:k=f
  ·rw[if_pos hk,LI,LI];omega
  ·rw[if_neg hk,LI,LI];omega
theorem kg.some_of {o:Option Value} (r:kg (some v) o):∃u,o=some u/\RelV v u:=by
 cases o with
 |none=>exact (show False from r).elim
 |some u=>exact⟨u,rfl,r⟩
theorem kg.none_of {o:Option Value} (r:kg none o):o=none:=by
 cases o with
 |none=>rfl
 |some u=>exact (show False from r).elim
theorem Az (r:RelV v u):PySem.W.handedIn u=true:=by
 cases v with
 |non=>cases (show u=Value.none from r);rfl
 |bl b=>cases (show u=Value.bool b from r);rfl
 |int i=>obtain⟨t,e⟩:=(show ∃t,u=Value.int i t from r);cases e;rfl
 |str x=>obtain⟨t,e⟩:=(show ∃t,u=Value.str x t from r);cases e;rfl
 |byt b=>obtain⟨t,e⟩:=(show ∃t,u=Value.bytes b t from r);cases e;rfl
 |flt b=>obtain⟨t,e⟩:=(show ∃t,u=Value.float b t from r);cases e;rfl
 |ref a=>cases (show u=Value.ref a from r);rfl
 |ty n=>cases (show u=Value.type n from r);rfl
section
variable {H':Hp} {fs fs':List (Str×V)}
theorem sW (hok:HOk P w H h) (e:H a=some (.ins C dx fs)):∃mA,wZ h a dx C mA/\(∀f,kg (fs.lookup f) (mA f))/\PySem.Within mA (fs.map (·.1))/\fs.length<=1000/\H dx=some (.own a):=by
 obtain⟨d,z,ne,b,mA,n,r,q⟩:=(show dh P w H h a (.ins C dx fs) from hok a _ e)
 exact⟨mA,⟨b,n,ne⟩,r,q,z,d⟩
end
structure Cls (K:PySem.W.Frag) (C:Addr):Prop where
 pg:PySem.W.plainGet K C Str.empty=true
 hd:PySem.W.hasDictIn K C=true
 po:PySem.W.plainOver K C=true
 sa:PySem.W.findIn K (.ref C) "__setattr__"=some (some (.builtin "object.__setattr__"))
theorem Cls.get (c:Cls K C) (f:Str):PySem.W.plainGet K C f=true:=c.pg
def eU (K:PySem.W.Frag) (C:Addr) (f:Str):Prop:=PySem.W.findIn K (.ref C) f=some none
theorem eU.taker {f:Str} (n:eU K C f):PySem.W.takerIn K C f=some none:=by unfold PySem.W.takerIn;rw[show PySem.W.findIn K (.ref C) f=some none from n];rfl
structure Meth (K:PySem.W.Frag) (C:Addr) (m:Str) (f:Addr):Prop where
 at_:PySem.W.findIn K (.ref C) m=some (some (.ref f))
 fn:PySem.W.isFn K (.ref f)=true
 kp:PySem.W.keepIn K (.ref f)=true
section
variable {fs:List (Str×V)} {f:Str}
theorem pX {b:Bool} (I:Inv X pins σ H s) (e:H a=some (.ins C dx fs)) (c:Cls X.K C) (n:eU X.K C f) (l:fs.lookup f=some v)
  (h:∀u s',Inv X pins σ H s'->RelV v u->Q u s'):wpAny (model X.prog X.w) A (getAttr (.ref a) f b) Q E s:=by
 obtain⟨mA,O,r,_,_,_⟩:=sW I.hok e;obtain⟨u,i,g⟩:=kg.some_of (v:=v) (o:=mA f) (by rw[<-l];exact r f);exact get_map I.kIn O (c.get f) c.hd n i (Az g) (h u _ (I.tok _) g)
theorem qa {m:Str} {g:Addr} {pl:Sem Bool} {Q:Value×List Value->Shared->Prop} (I:Inv X pins σ H s) (e:H a=some (.ins C dx fs)) (c:Cls X.K C) (k:Meth X.K C m g) (l:fs.lookup m=none)
  (h:Q (.ref g,[.ref a]) s):wpAny (model X.prog X.w) A (getMethod (.ref a) m pl) Q E s:=by
 obtain⟨mA,O,r,_,_,_⟩:=sW I.hok e;have hn:mA m=none:=kg.none_of (by rw[<-l];exact r m);exact AY I.kIn O (c.get m) k.at_ k.fn hn h
theorem pN {y:V} {Q:Unit->Shared->Prop} (I:Inv X pins σ H s) (e:H a=some (.ins C dx fs)) (c:Cls X.K C) (n:eU X.K C f) (hl:fs.length<1000) (m:RelV y u)
  (h:∀s',Inv X pins σ (upd H a (.ins C dx (hZ f y fs))) s'->Q () s'):wpAny (model X.prog X.w) A (setAttr (.ref a) f u) Q E s:=by
 obtain⟨mA,O,r,j,_,l⟩:=sW I.hok e;have p:(fs.map (·.1)).length<=sizeLine:=by rw[L5,sizeLine_eq];omega
 refine Fx I.kIn O c.sa c.po n.taker c.hd j p λh' i t=>h _ ?_
 have hd:∃o,h'.get? dx=some o:=let ⟨o,_,_,e',_⟩:=i.ns;⟨o,e'⟩;refine I.write (x:=a) (e:=dx) (by rw[e];exact True.intro) (.inr l) (λb q v z=>(t.2 b v).trans z) hd ?_;refine⟨by rw[ay O.ne];exact l,?_,O.ne,i.obj,_,i.ns,λg=>?_,λg B=>?_⟩
 ·have:=nB f y fs;omega
 ·show kg ((hZ f y fs).lookup g) (if g=f then some u else mA g);rw[jT];by_cases q:g=f
  ·rw[if_pos q,if_pos q];exact m
  ·rw[if_neg q,if_neg q];exact r g
 ·by_cases q:g=f
  ·rw[q];exact (mD f y fs).1
  ·refine (mD f y fs).2 g (j g λz=>B ?_);show (if g=f then some u else mA g)=none;rw[if_neg q];exact z
theorem Inv.made (I:Inv X pins σ H s):Inv X pins σ (upd (upd H s.heap.objs.size (.own (s.heap.objs.size+1))) (s.heap.objs.size+1) (.ins C s.heap.objs.size []))
  { s with heap:=(s.heap.push PySem.W.emptyDict).push (PySem.W.instObj C s.heap.objs.size) }:=by
 have e1:(s.heap.push PySem.W.emptyDict).get? s.heap.objs.size=some PySem.W.emptyDict:=LF s.heap rfl;have e2:((s.heap.push PySem.W.emptyDict).push (PySem.W.instObj C s.heap.objs.size)).get? (s.heap.objs.size+1)=some (PySem.W.instObj C s.heap.objs.size):=by
  have:=LF (s.heap.push PySem.W.emptyDict) (o:=PySem.W.instObj C s.heap.objs.size) rfl
  rwa[Heap.size_push]at this
 have c:(s.heap.push PySem.W.emptyDict).Ns s.heap.objs.size (λ_=>none):=⟨PySem.W.emptyDict,#[],_,e1,rfl,(λe f=>absurd f (by simp)),λ_=>rfl⟩
 have g:=I.laid (a:=s.heap.objs.size) (o:=.own (s.heap.objs.size+1)) (h':=s.heap.push PySem.W.emptyDict) (t':=s.toks) (λb u q=>L1 _ q) (L9 _) ⟨_,e1⟩;refine g.laid (a:=s.heap.objs.size+1) (o:=.ins C s.heap.objs.size []) (t':=s.toks) (λb u q=>L1 _ q) (Nat.le_of_eq (Heap.size_push _ _)) ?_;have ne:s.heap.objs.size≠s.heap.objs.size+1:=LC (My _);refine⟨by rw[ay ne,aG],Me _,ne,e2,λ_=>none,(Heap.Ns1.of_empty c).at λo q=>L1 _ q,λ_=>True.intro,λy h=>absurd rfl h⟩
theorem EN {f:Str} (b:attributeBase e f env (eval e env)=eval e env)
  (h:wpAny (model prog w) A (eval e env) (λo a=>wpAny (model prog w) A (getAttr o f true) Q E a) E s):wpAny (model prog w) A (eval (.Attribute e f pos) env) Q E s :=
 Attribute_any_ h (by rw[arm_eval_Attribute,b])
end
def Lb (K:PySem.W.Frag) (ta:TE) (f:Str):TE:=λσ H Q=>ta σ H λx H1=>∃a C dx fs v,x=.ref a/\H1 a=some (.ins C dx fs)/\Cls K C/\eU K C f/\fs.lookup f=some v/\Q v H1
def KY (K:PySem.W.Frag) (ta tv:TE) (f:Str):TS:=λD σ H=>tv σ H λy H1=>ta σ H1 λx H2=>∃a C dx fs,x=.ref a/\H2 a=some (.ins C dx fs)/\Cls K C/\eU K C f/\fs.length<1000 /\
 D.nx σ (upd H2 a (.ins C dx (hZ f y fs)))
def JY (X:Cx) (op:Operator) (a:V->V->Hp->VK->Prop):Prop :=
 ∀(pins:List (Addr×Obj)) (s:Shared) (σ:St) (H:Hp) (x y:V) (u v:Value) (Q:VK),Inv X pins σ H s->RelV x u->RelV y v->a x y H Q->wpAny (model X.prog X.w) X.A (inplaceOp op u v) (EP X pins σ Q) X.xe s
def DR (K:PySem.W.Frag) (ta tv:TE) (e:V->V->Hp->VK->Prop) (f:Str):TS:=λD σ H=>ta σ H λx H1=>∃a C dx fs v,x=.ref a/\H1 a=some (.ins C dx fs)/\Cls K C/\eU K C f/\fs.lookup f=some v /\
 tv σ H1 λy H2=>e v y H2 λz c=>∃b fs',c a=some (.ins C b fs')/\fs'.length<1000/\D.nx σ (upd c a (.ins C b (hZ f z fs')))
section
variable {o value:Expr} {f:Str} {tpos:Pos} {ta tv:TE}
theorem IB (g:PE X e ta) (i:attributeBase e f X.env (eval e X.env)=eval e X.env):PE X (.Attribute e f pos) (Lb X.K ta f):=by intro pins s σ H Q I h;refine EN i (thn (g pins s σ H _ I h) λu s1 b=>?_);obtain⟨x,H1,j,m,a,C,dx,fs,v,ex,ea,c,n,l,q⟩:=b;subst ex;obtain rfl:u=Value.ref a:=m;exact pX j ea c n l λu' s2 o p=>⟨v,H1,o,p,q⟩
theorem fS (ha:PE X o ta) (hv:PE X value tv) (e:swapsWith value (some (.Attribute o f pos')) pos.line X.env=pure false):PS X (.Assign [.Attribute o f pos'] value pos) (KY X.K ta tv f):=by
 intro pins s σ H D I h;refine plainObj_wpAny_Assign_Attribute (thn (hv pins s σ H _ I h) λu g b=>?_) e;obtain⟨y,H1,i,j,q⟩:=b;refine thn (ha pins g σ H1 _ i q) λm s2 b=>?_
 obtain⟨x,H2,p,r,a,C,dx,fs,ex,ea,c,n,l,t⟩:=b;subst ex;obtain rfl:m=Value.ref a:=r;exact pN p ea c n l j λs3 v=>⟨σ,_,v,t⟩
theorem Ax {op:Operator} {i:V->V->Hp->VK->Prop} (ha:PE X o ta) (hv:PE X value tv) (e:JY X op i):PS X (.AugAssign (.Attribute o f tpos) op value pos) (DR X.K ta tv i f):=by
 intro pins s σ H D I h;refine wpAny_AugAssign_AttributeAny (thn (ha pins s σ H _ I h) λj s1 b=>?_);obtain⟨x,H1,m,p,a,C,dx,fs,v,ex,ea,c,n,l,q⟩:=b;subst ex;obtain rfl:j=Value.ref a:=p;refine pX m ea c n l λu s2 r t=>thn (hv pins s2 σ H1 _ r q) λw A b=>?_
 obtain⟨y,H2,B,E,F⟩:=b;refine thn (e pins A σ H2 v y u w _ B t E F) λw4 s4 b=>?_
 obtain⟨z,H3,G,rz,dx',fs',g,J,L⟩:=b;exact pN G g c n J rz λs5 M=>⟨σ,_,M,L⟩
def KP:V->V->Hp->VK->Prop:=λx y H Q=>∃i j,x=.int i/\y=.int j/\Q (.int (i+j)) H
theorem IK:JY X .Add KP:=by
 rintro pins s σ H x y u v Q I a b ⟨i,j,rfl,rfl,q⟩
 obtain⟨t,rfl⟩:=(show ∃t,u=Value.int i t from a)
 obtain⟨t',rfl⟩:=(show ∃t',v=Value.int j t' from b)
 exact PyProof.Rows.iadd_int ⟨.int (i+j),H,I.tok _,⟨_,rfl⟩,q⟩
end
section
variable {c:Value} {b:Bool}
inductive qj (K:PySem.W.Frag) (H:Hp):V->Value->Prop where
 |non:qj K H .non (.type "NoneType")
 |bl (x:Bool):qj K H (.bl x) (.type "bool")
 |int (i:Int):qj K H (.int i) (.type "int")
 |str (x:Str):qj K H (.str x) (.type "str")
 |flt (x:UInt64):qj K H (.flt x) (.type "float")
 |lst {a:Addr} {xs:List V} (e:H a=some (.lst xs)):qj K H (.ref a) (.type "list")
 |frz {a:Addr} {o:Obj} {xs:List V} (e:H a=some (.frz o (.lst xs))):qj K H (.ref a) (.type "list")
 |tup {a:Addr} {xs:List V} (e:H a=some (.tup xs)):qj K H (.ref a) (.type "tuple")
 |dK {a:Addr} {kvs:List (Key×V)} (e:H a=some (.dK kvs)):qj K H (.ref a) (.type "dict")
 |dT {a:Addr} {kvs:List (List Key×V)} (e:H a=some (.dT kvs)):qj K H (.ref a) (.type "dict")
 |ins {a C dx:Addr} {fs:List (Str×V)} (e:H a=some (.ins C dx fs)) (cl:Cls K C) (ha:PySem.W.findIn K (.ref C) "__class__"=some (some (.builtin "object.__class__")))
  (hn:PySem.W.specialIn K (.builtin "object.__class__") "__get__"=some (some (.builtin "getset_descriptor.__get__"))) (htk:PySem.W.takesIn K (.builtin "object.__class__")=some true)
  (hm:PySem.W.mroIn K C (.type "object")=some true):qj K H (.ref a) (.ref C)
end
structure bY (k:Nat) (A:Around):Prop where
 hd:A.handled=none
 dp:A.depth+3*k+5<recursionLimit
 un:A.units+16*k+200<cLine
theorem bY.mono {k:Nat} (r:bY k A) (h:j<=k):bY j A:=⟨r.hd,by have:=r.dp;omega,by have:=r.un;omega⟩
theorem bY.deeper {k:Nat} (r:bY (k+1) A) (env:Env):bY k (A.deeper env) :=
 ⟨r.hd,by have:=r.dp;show A.depth+1+3*k+5<_;omega,by have:=r.un;show A.units+3+16*k+200<_;omega⟩
theorem bY.in1 {k:Nat} (r:bY (k+1) A):bY k A.in1 :=
 ⟨r.hd,by have:=r.dp;show A.depth+3*k+5<_;omega,by have:=r.un;show A.units+1+16*k+200<_;omega⟩
theorem wR {a:List (Str×Value)}:(A.under (.builtin "type.__call__" ⟨.ref C::us,a⟩)).depth=A.depth+1:=by first|rfl|simp[Around.under,Code.weight,Code.isCreation,Code.isGuard,Code.isCaller,Code.frames,Code.isFrame,guardIds]
theorem wF {a:List (Str×Value)}:(A.under (.builtin "type.__call__" ⟨.ref C::us,a⟩)).units=A.units+1:=by first|rfl|simp[Around.under,Code.cUnits,Code.frames,Code.isFrame]
theorem bY.make {k:Nat} (r:bY (k+1) A) (C:Addr) (us:List Value) (a:List (Str×Value)):bY k (A.under (.builtin "type.__call__" ⟨.ref C::us,a⟩)) :=
 ⟨r.hd,by have:=r.dp;rw[wR];omega,by have:=r.un;rw[wF];omega⟩
theorem bY.depth {k:Nat} (r:bY k A):A.depth<recursionLimit:=by have:=r.dp;omega
theorem bY.units {k:Nat} (r:bY k A):A.units+64<cLine:=by have:=r.un;omega
def G2:TA:=λ_ H Q=>Q [] H
def GA (ta:TE) (a:TA):TA:=λσ H Q=>ta σ H λx H1=>a σ H1 λxs H2=>Q (x::xs) H2
section
variable {te:TE} {t:TA}
theorem fR:PA X [] G2:=λ_ _ _ _ H Q I h=>Calls.spliced_nil ⟨[],H,I,.nil,h⟩
theorem d7 (ha:PE X e te) (c:PA X es t) (f:starEach (e::es) X.env=(false,eval e X.env)::starEach es X.env:=by rfl):PA X (e::es) (GA te t):=by intro pos pins s σ H Q I h;rw[f];show wpAny _ _ (spliced ((false,eval e X.env)::backTo pos (starEach es X.env))) _ _ s;refine Calls.spliced_cons (thn (ha pins s σ H _ I h) λu g a=>?_);obtain⟨x,H1,i,j,l⟩:=a;exact thn (c pos pins g σ H1 _ i l) λus s2 b=>(by obtain⟨xs,H2,m,n,o⟩:=b;exact⟨x::xs,H2,m,.cons j n,o⟩)
def K0 (t:TA):TE:=λσ H Q=>t σ H λxs H1=>xs.length<=sizeLine/\∀p,H1 p=none->Q (.ref p) (upd H1 p (.tup xs))
def K8 (t:TA):TE:=λσ H Q=>t σ H λxs H1=>xs.length<=sizeLine/\∀p,H1 p=none->Q (.ref p) (upd H1 p (.lst xs))
theorem Hb {x1} (h:PA X es t):PE X (.Tuple es x1 pos) (K0 t):=by intro pins s σ H Q I g;refine wpAny_Tuple_spliced (thn (h pos pins s σ H _ I g) λus a c=>?_);obtain⟨xs,H1,f,r,z,q⟩:=c;refine⟨by rw[<-r.length];exact z,?_⟩;have i:H1 a.heap.objs.size=none:=f.hok.fresh (L9 _);refine⟨.ref a.heap.objs.size,upd H1 a.heap.objs.size (.tup xs),f.laid (t':=a.toks) (λb u e=>L1 _ e) (L9 _) ?_,rfl,q _ i⟩;exact⟨z,us,r,⟨_,LF _ rfl,rfl,rfl,_,rfl⟩⟩
theorem wD (h:PA X es t):PE X (.List es pos) (K8 t):=by intro pins s σ H Q I g;refine wpAny_List_spliced (thn (h pos pins s σ H _ I g) λus a c=>?_);obtain⟨xs,H1,f,r,z,q⟩:=c;refine⟨by rw[<-r.length];exact z,?_⟩;have i:H1 a.heap.objs.size=none:=f.hok.fresh (L9 _);refine⟨.ref a.heap.objs.size,upd H1 a.heap.objs.size (.lst xs),f.laid (t':=a.toks) (λb u e=>L1 _ e) (L9 _) ?_,rfl,q _ i⟩;exact⟨z,us,0,r,LF _ rfl⟩
end
abbrev Sp:=List V->Hp->VK->XK->Prop
abbrev CXT:=List Env->Hp->Shared->XK->Value->Shared->Prop
structure uc (P:Program) (w:World) (K:PySem.W.Frag) (mg:Str->Option Value) (base:Heap) (A:Around) (outer:List Env) (s:Shared) (H:Hp):Prop where
 frames:A.frames=some outer
 mod:Mod K mg base
 bs:∀b o,base.get? b=some o->s.heap.get? b=some o/\H b=none
 bsz:base.objs.size<=s.heap.objs.size
 funs:s.heap.FunFrames base outer
 frf:∀b∈frs outer,H b=none
 hok:HOk P w H s.heap
 bare:AllBare s.gens
 tab:∀P q,TabOf K P q->H P=some (.tbl q)
def CE (outer:List Env) (P:Program) (w:World) (H:Hp) (s:Shared) (Q:VK) (u:Value) (s':Shared):Prop :=
 ∃v H',s'.os=s.os/\AllBare s'.gens/\Un (frs outer) [] H H' s.heap s'.heap/\HOk P w H' s'.heap/\RelV v u/\Q v H'
def CR (CX:CXT) (outer:List Env) (P:Program) (w:World) (H:Hp) (s:Shared) (Q:VK) (E:XK) (r:Result) (s':Shared):Prop :=
 match r with
 |.ok (.ret u)=>CE outer P w H s Q u s'
 |.ok _=>False
 |.error e=>CX outer H s E e s'
structure gj (P:Program) (w:World) (K:PySem.W.Frag) (mg:Str->Option Value) (base:Heap) (CX:CXT) (k:Nat) (f:Addr) (fd:FuncData) (ps:List Str) (sp:Sp):Prop where
 len:∀vs H Q E,sp vs H Q E->vs.length=ps.length
 run:∀(A:Around) (outer:List Env) (s:Shared) (H:Hp) (args:Args) (us:List Value) (vs:List V) (Q:VK) (E:XK),bY k A->uc P w K mg base A outer s H->BindsTo s fd args (ps.zip us)->Vals vs us->sp vs H Q E ->
  codeAny (model P w) A (.call (.ref f) args) (CR CX outer P w H s Q E) s
theorem uc.make (e:uc P w K mg base A outer s H) (C:Addr) (us:List Value) (a:List (Str×Value)) :
 uc P w K mg base (A.under (.builtin "type.__call__" ⟨.ref C::us,a⟩)) outer s H:=⟨by first|exact e.frames|(simpa[Around.under,Code.envs,Code.isFrame,pushEnvs] using e.frames),e.mod,e.bs,e.bsz,e.funs,e.frf,e.hok,e.bare,e.tab⟩
section
theorem Inv.env0 (I:Inv X pins σ H s):uc X.prog X.w X.K X.mg X.base X.A X.stack s H :=
 ⟨I.ok.frames,I.ok.mod,I.bs,Mb I.ok.bsz I.sz,I.stack,I.stkFree,I.hok,I.bare,I.tab⟩
theorem Inv.after {Q:VK} (I:Inv X pins σ H s) (h:CE X.stack X.prog X.w H s Q u s'):EP X pins σ Q u s':=by obtain⟨v,H',os,bare,un,hok,r,q⟩:=h;obtain⟨c,g,d,t,a⟩:=s';obtain rfl:a=s.os:=os;exact⟨v,H',I.call (h':=c) (g':=g) (d':=d) (t':=t) (ch:=[]) un hok bare (λb z=>absurd z (by simp)),r,q⟩
end
def Kx (sp:Sp) (dvs:List V) (E:XK) (t:TA):TE:=λσ H Q=>t σ H λvs H1=>sp (vs++dvs) H1 Q E
def yL (C:Addr) (m:Str) (sp:Sp) (dvs:List V) (E:XK) (ta:TE) (t:TA):TE:=λσ H Q=>ta σ H λx H1=>∃a dx fs,x=.ref a/\H1 a=some (.ins C dx fs)/\fs.lookup m=none /\
 t σ H1 λvs H2=>sp (x::(vs++dvs)) H2 Q E
def Kk (C:Addr) (sp:Sp) (dvs:List V) (E:XK) (t:TA):TE:=λσ H Q=>t σ H λvs H1=>∀x dx,H1 x=none->H1 dx=none->dx≠x ->
 sp (.ref x::(vs++dvs)) (upd (upd H1 dx (.own x)) x (.ins C dx [])) (λv H2=>v=.non/\Q (.ref x) H2) E
def Binds (K:PySem.W.Frag) (fd:FuncData) (ps:List Str) (ds:List Value):Prop :=
 ∀(s:Shared) (us:List Value),K.In s.heap->(us++ds).length=ps.length->BindsTo s fd ⟨us,[]⟩ (ps.zip (us++ds))
theorem Binds.all (h:∀us:List Value,us.length=ps.length->bindArgs fd ⟨us,[]⟩=pure (ps.zip us)):Binds K fd ps []:=λs us _ hl=>by rw[Mi]at hl ⊢;exact .of_eq (h us hl)
def Passes (CX:CXT) (X:Cx) (E:XK):Prop:=∀(pins:List (Addr×Obj)) (σ:St) (H:Hp) (s:Shared) (e:Value) (s':Shared),Inv X pins σ H s->CX X.stack H s E e s'->X.xe e s'
section
variable {CX:CXT} {k:Nat} {sp:Sp} {dvs:List V} {ds:List Value} {E:XK} {m:Str} {apos:Pos} {o:Expr} {ta:TE} {t:TA}
theorem wQ {Q:VK} (F:gj X.prog X.w X.K X.mg X.base CX k f fd ps sp) (c:bY k X.A) (g:Binds X.K fd ps ds) (hd:Vals dvs ds) (i:Passes CX X E)
  (I:Inv X pins σ H s) (r:Vals vs us) (h:sp (vs++dvs) H Q E):wpAny (model X.prog X.w) X.A (call (.ref f) us) (EP X pins σ Q) X.xe s:=by
 have b:Vals (vs++dvs) (us++ds):=r.append hd;have hl:(us++ds).length=ps.length:=by rw[<-b.length];exact F.len _ _ _ _ h
 refine wpAny_call (codeAny_mono (F.run X.A X.stack s H ⟨us,[]⟩ (us++ds) (vs++dvs) Q E c I.env0 (g s us I.kIn hl) b h) λr s' a=>?_);cases r with
 |error e=>exact i pins σ H s e s' I a
 |ok fl =>
  cases fl with
  |ret u=>exact I.after a
  |next=>exact False.elim a
  |brk=>exact False.elim a
  |cont=>exact False.elim a
theorem zv (F:gj X.prog X.w X.K X.mg X.base CX k f fd ps sp) (i:bY k X.A) (j:Gl X x) (hm:X.mg x=some (.ref f)) (l:PySem.W.keepIn X.K (.ref f)=true) (m:Binds X.K fd ps ds) (hd:Vals dvs ds) (n:Passes CX X E)
  (ha:PA X (e::es) t) (a:(x==("__debug__":Str))=false:=by decide) (o:starEach (e::es) X.env=(false,eval e X.env)::starEach es X.env:=by rfl) (b:(backTo pos (starEach es X.env)).any (·.1)=false:=by rfl) :
  PE X (.Call (.Name x p) (e::es) [] pos) (Kx sp dvs E t):=by
 intro pins s σ H Q I h;refine wpAny_Call_Name_kw (nU I j hm ?_ a);refine PySem.W.callWith_K (h₀:=X.base) I.ok.mod.kin l (thn (ha pos pins s σ H _ I h) λus s1 c=>?_) o b;obtain⟨vs,H1,g,r,q⟩:=c;refine⟨g.kIn,?_⟩;exact wQ F i m hd n g r q
theorem FT {pl:Sem Bool} (p:PE X o ta) (c:Cls X.K C) (hm:Meth X.K C m f) (F:gj X.prog X.w X.K X.mg X.base CX k f fd ps sp) (v:bY k X.A) (y:Binds X.K fd ps ds) (hd:Vals dvs ds) (z:Passes CX X E) (ha:PA X (e::es) t)
  (g:starEach (e::es) X.env=(false,eval e X.env)::starEach es X.env:=by rfl) (i:(backTo pos (starEach es X.env)).any (·.1)=false:=by rfl)
  (B:eval (.Call (.Attribute o m apos) (e::es) [] pos) X.env=(do
   let ov <-eval o X.env
   standAt apos.atName
   let (f,first) <-holding [ov] (getMethod ov m pl)
   callWith pos f first (backTo pos (starEach (e::es) X.env)) (backToKw pos (keywordEach [] X.env))):=by rfl) :
  PE X (.Call (.Attribute o m apos) (e::es) [] pos) (yL C m sp dvs E ta t):=by
 intro pins s σ H Q I h;refine PySem.W.methodCall_KW (pl:=pl) (thn (p pins s σ H _ I h) λu D b=>?_) B;obtain⟨x,H1,j,G,a,dx,fs,ex,ea,l,q⟩:=b;subst ex;obtain rfl:u=Value.ref a:=G;refine qa j ea c hm l ?_;refine PySem.W.callWith_K (first:=[.ref a]) (h₀:=X.base) I.ok.mod.kin hm.kp (thn (ha pos pins D σ H1 _ j q) λus s2 b=>?_) g i;obtain⟨vs,H2,n,r,J⟩:=b;refine⟨n.kIn,?_⟩;exact wQ (us:=.ref a::us) (vs:=.ref a::vs) F v y hd z n (.cons rfl r) J
theorem wc {pl:Sem Bool} (g:PE X o ta) (c:Cls X.K C) (hm:Meth X.K C m f) (F:gj X.prog X.w X.K X.mg X.base CX k f fd ps sp) (i:bY k X.A) (j:Binds X.K fd ps ds) (hd:Vals dvs ds) (n:Passes CX X E)
  (p:eval (.Call (.Attribute o m apos) [] [] pos) X.env=(do
   let ov <-eval o X.env
   standAt apos.atName
   let (f,first) <-holding [ov] (getMethod ov m pl)
   callWith pos f first (backTo pos (starEach [] X.env)) (backToKw pos (keywordEach [] X.env))):=by rfl) :
  PE X (.Call (.Attribute o m apos) [] [] pos) (yL C m sp dvs E ta G2):=by
 intro pins s σ H Q I h;refine PySem.W.methodCall_KW (pl:=pl) (thn (g pins s σ H _ I h) λu s1 b=>?_) p;obtain⟨x,H1,e,r,a,dx,fs,ex,ea,l,q⟩:=b;subst ex;obtain rfl:u=Value.ref a:=r;refine qa e ea c hm l ?_;exact PySem.W.callWith_K0 (first:=[.ref a]) e.kIn hm.kp (wQ (us:=[.ref a]) (vs:=[.ref a]) F i j hd n e (.cons rfl .nil) q)
structure Mk (K:PySem.W.Frag) (C f:Addr):Prop where
 makes:PySem.W.makesIn K C=true
 init:PySem.W.findIn K (.ref C) "__init__"=some (some (.ref f))
 fn:PySem.W.isFn K (.ref f)=true
 kp:PySem.W.keepIn K (.ref C)=true
theorem Cw {Q:VK} (M:Mk X.K C f) (F:gj X.prog X.w X.K X.mg X.base CX k f fd ps sp) (i:bY (k+1) X.A) (j:Binds X.K fd ps ds) (hd:Vals dvs ds)
  (l:Passes CX X E) (I:Inv X pins σ H s) (r:Vals vs us)
  (h:∀x dx,H x=none->H dx=none->dx≠x->sp (.ref x::(vs++dvs)) (upd (upd H dx (.own x)) x (.ins C dx [])) (λv H2=>v=.non/\Q (.ref x) H2) E) :
  wpAny (model X.prog X.w) X.A (call (.ref C) us) (EP X pins σ Q) X.xe s:=by
 have c:=h (s.heap.objs.size+1) s.heap.objs.size (I.hok.fresh (N1 _)) (I.hok.fresh (L9 _)) (LC (My _));have b:=Inv.made (C:=C) I;have g:Vals (V.ref (s.heap.objs.size+1)::(vs++dvs)) (Value.ref (s.heap.objs.size+1)::(us++ds)):=.cons rfl (r.append hd);have hl:(Value.ref (s.heap.objs.size+1)::us++ds).length=ps.length:=by have e:=g.length;rw[F.len _ _ _ _ c]at e;exact e.symm
 refine wpAny_call (Bb (f:=f) I.kIn M.makes M.init (beq_iff_eq.mp M.fn) (codeAny_mono (F.run _ X.stack _ _ ⟨Value.ref (s.heap.objs.size+1)::us,[]⟩ (Value.ref (s.heap.objs.size+1)::(us++ds)) _ _ E (i.make C us [])
  (b.env0.make C us []) (j _ (Value.ref (s.heap.objs.size+1)::us) b.kIn hl) g c) λr s' a=>?_))
 cases r with
 |error e=>exact l pins σ _ _ e s' b a
 |ok fl =>
  cases fl with
  |ret u =>obtain⟨v,H',m,n,o,p⟩:=b.after a;subst o;exact⟨n,⟨V.ref (s.heap.objs.size+1),H',m,rfl,p⟩⟩
  |next=>exact False.elim a
  |brk=>exact False.elim a
  |cont=>exact False.elim a
theorem yt (M:Mk X.K C f) (F:gj X.prog X.w X.K X.mg X.base CX k f fd ps sp) (i:bY (k+1) X.A) (j:Gl X x) (hm:X.mg x=some (.ref C)) (l:Binds X.K fd ps ds) (hd:Vals dvs ds) (m:Passes CX X E)
  (ha:PA X (e::es) t) (a:(x==("__debug__":Str))=false:=by decide) (n:starEach (e::es) X.env=(false,eval e X.env)::starEach es X.env:=by rfl) (b:(backTo pos (starEach es X.env)).any (·.1)=false:=by rfl) :
  PE X (.Call (.Name x p) (e::es) [] pos) (Kk C sp dvs E t):=by
 intro pins s σ H Q I h;refine wpAny_Call_Name_kw (nU I j hm ?_ a);refine PySem.W.callWith_K (h₀:=X.base) I.ok.mod.kin M.kp (thn (ha pos pins s σ H _ I h) λus s1 c=>?_) n b;obtain⟨vs,H1,g,r,q⟩:=c;refine⟨g.kIn,?_⟩;exact Cw M F i l hd m g r q
end
def PK (X:Cx) (kws:List Keyword) (t:TA):Prop :=
 ∀(pos:Pos) (pins:List (Addr×Obj)) (s:Shared) (σ:St) (H:Hp) (Q:List V->Hp->Prop),Inv X pins σ H s->t σ H Q->wpAny (model X.prog X.w) X.A (evalAll ((backToKw pos (keywordEach kws X.env)).map (·.2))) (AP X pins σ Q) X.xe s
section
variable {CX:CXT} {k:Nat} {ks:List Str} {sp:Sp} {E:XK} {m:Str} {apos kpos:Pos} {o:Expr} {kws:List Keyword} {te ta:TE} {t tk:TA} {nm:Option Str}
theorem DM:PK X [] G2:=λ_ _ _ _ H Q I h=>wpAny_evalAll_nil ⟨[],H,I,.nil,h⟩
theorem yO (ha:PE X e te) (c:PK X kws t):PK X (⟨nm,e,kpos⟩::kws) (GA te t):=by intro pos pins s σ H Q I h;show wpAny _ _ (evalAll ((do let v <-eval e X.env;standAt pos;pure v)::(backToKw pos (keywordEach kws X.env)).map (·.2))) _ _ s;refine wpAny_evalAll_cons (wpAny_bind (thn (ha pins s σ H _ I h) λu f a=>?_));obtain⟨x,H1,g,i,j⟩:=a;refine wpAny_bind (wpAny_standAt (wpAny_pure ?_));exact thn (c pos pins f σ H1 _ g j) λus s2 b=>(by obtain⟨xs,H2,l,m,n⟩:=b;exact⟨x::xs,H2,l,.cons i m,n⟩)
variable {g:List Value->List Value->List Value} {gV:List V->List V->List V}
end
structure cR (N P:List Str) (sc:Scope):Prop where
 kind:sc.kind=.function
 co:sc.isCoroutine=false
 gen:sc.isGenerator=false
 nd:N.Nodup
 pre:N.take P.length=P
 par:∀x∈P,sc.names.lookup x=some .local\/sc.names.lookup x=some .cell
 nofree:∀y∈sc.names,y.2≠.free
theorem qV {kindOf:Str->Option NameKind} {x:Str}:∀{binds:List (Str×Value)} {m:Str->Option Value},(∀v,(x,v)∉binds)->bindL kindOf binds m x=m x
 |[],_,_=>rfl
 |(n,v)::r,m,h=>by
  unfold bindL;rw[qV λw hw=>h w (L3 _ hw)];split
  ·have:x≠n:=by rintro rfl;exact h v L6
   simp[this]
  ·rfl
theorem rf {kindOf:Str->Option NameKind} {x:Str}:∀{binds:List (Str×Value)} {m:Str->Option Value},(∀v,(x,v)∉binds)->bindC kindOf binds m x=m x
 |[],_,_=>rfl
 |(n,v)::r,m,h=>by
  unfold bindC;rw[rf λw hw=>h w (L3 _ hw)];split
  ·rfl
  ·have:x≠n:=by rintro rfl;exact h v L6
   simp[this]
theorem rC {kindOf:Str->Option NameKind} {x:Str} {v:Value}:∀{P:List Str} {vs:List Value} {i:Nat} {m:Str->Option Value},P.Nodup->P[i]?=some x->vs[i]?=some v->kindOf x=some .local ->
  bindL kindOf (P.zip vs) m x=some v
 |[],_,_,_,_,h,_,_=>by simp at h
 |_::_,[],_,_,_,_,h,_=>by simp at h
 |p::P,w::vs,0,m,nd,h1,h2,hk=>by simp at h1 h2;subst h1;subst h2;show bindL kindOf ((p,w)::P.zip vs) m p=_;unfold bindL;rw[qV λv hv=>(M3.mp nd).1 (N5 hv).1,if_pos hk];simp
 |p::P,w::vs,i+1,m,nd,h1,h2,hk=>by show bindL kindOf ((p,w)::P.zip vs) m x=_;unfold bindL;exact rC (i:=i) (M3.mp nd).2 (by simpa using h1) (by simpa using h2) hk
theorem sI {kindOf:Str->Option NameKind} {x:Str} {v:Value}:∀{P:List Str} {vs:List Value} {i:Nat} {m:Str->Option Value},P.Nodup->P[i]?=some x->vs[i]?=some v->kindOf x≠some .local ->
  bindC kindOf (P.zip vs) m x=some v
 |[],_,_,_,_,h,_,_=>by simp at h
 |_::_,[],_,_,_,_,h,_=>by simp at h
 |p::P,w::vs,0,m,nd,h1,h2,hk=>by simp at h1 h2;subst h1;subst h2;show bindC kindOf ((p,w)::P.zip vs) m p=_;unfold bindC;rw[rf λv hv=>(M3.mp nd).1 (N5 hv).1,if_neg hk];simp
 |p::P,w::vs,i+1,m,nd,h1,h2,hk=>by show bindC kindOf ((p,w)::P.zip vs) m x=_;unfold bindC;exact sI (i:=i) (M3.mp nd).2 (by simpa using h1) (by simpa using h2) hk
def start (N:List Str) (vs:List V):St:=vs.map some++List.replicate (N.length-vs.length) none
def cU (CX:CXT) (P:Program) (w:World) (K:PySem.W.Frag) (mg:Str->Option Value) (base:Heap) (N:List Str) (qual:Str) (scope:Scope) (f:Addr) (cd:Value) (A:Around) (outer:List Env) (s:Shared) (H:Hp) (E:XK):Cx where
 prog:=P
 w:=w
 K:=K
 mg:=mg
 base:=base
 A:=A.deeper (envOfC qual scope s.heap.objs.size f cd)
 N:=N
 s₀:=s
 H₀:=H
 env:=envOfC qual scope s.heap.objs.size f cd
 outer:=outer
 stack:=envOfC qual scope s.heap.objs.size f cd::outer
 ex:=[]
 calm:=true
 fn:=λ_=>true
 pn:=[]
 xe:=λe s'=>wpAny (model P w) (A.deeper (envOfC qual scope s.heap.objs.size f cd)) (leaving (envOfC qual scope s.heap.objs.size f cd) e) (λ_ a=>CX outer H s E e a) (λb a=>CX outer H s E b a) s'
theorem pA {sc:Scope} (h:sc.names.lookup x=some .cell):∃c,(cellsFrom n sc.names []).lookup x=some c:=by have q:=PySem.W.cellsFrom_some sc.names n [] (.inl h);exact Option.isSome_iff_exists.mp q
theorem zQ {CX:CXT} {t:Shared} {E:XK}
  (S:cR N ps scope) (hd:A.handled=none) (g:uc P w K mg base A outer s H) (hl:vs.length=ps.length) (r:Vals vs us)
  (x:InCallC s s.heap.objs.size (bindL (envOfC qual scope s.heap.objs.size f cd).kindOf (ps.zip us) λ_=>none) (cellsFrom (s.heap.objs.size+1) scope.names []) (bindC (envOfC qual scope s.heap.objs.size f cd).kindOf (ps.zip us) λ_=>none) t) :
  Inv (cU CX P w K mg base N qual scope f cd A outer s H E) [] (start N vs) H t:=by
 have hpl:ps.length<=N.length:=by have:=congrArg List.length S.pre;rw[MK]at this;omega
 obtain⟨h1,tk,rfl,B⟩:=x.done;have j:∀b:Addr,b∉(cU CX P w K mg base N qual scope f cd A outer s H E).ex:=λb z=>absurd (show b∈([]:List Addr) from z) (by simp)
 refine⟨⟨g.mod,S.kind,rfl,rfl,L9 _,λy z c h1 h2=>?_,λy l=>?_,λy c _ h=>?_,λ_=>hd,Around.frames_deeper g.frames,.inr ⟨rfl,rfl⟩,λb z=>absurd z (j b),g.bs,g.bsz,λb _ _=>j b,λb z=>absurd z (j b),g.funs,g.frf⟩,
  rfl,g.bare,Un.kept B,⟨_,x.toInCall.ns,λi y v h1 h2 h3=>?_⟩,λy c h=>⟨_,x.cell y c h⟩,g.hok.fresh (L9 _),λy c h=>?_,λp m=>absurd (show p∈([]:List (Addr×Obj)) from m) (by simp),g.hok.kept B,?_,g.tab⟩
 ·exact name_of_addr x.apart (PySem.mem_of_lookup h1) (PySem.mem_of_lookup h2)
 ·have l:scope.names.lookup y=some .cell\/scope.names.lookup y=some .free:=l;rcases l with l|l
  ·exact pA l
  ·exact absurd rfl (S.nofree _ (PySem.mem_of_lookup l))
 ·exact Nq (x.above y c (PySem.mem_of_lookup h))
 ·have hi:i<vs.length:=by
   unfold start at h2;by_cases hi:i<vs.length
   ·exact hi
   ·rw[LS (by simpa using hi)]at h2;rw[Nf]at h2;split at h2 <;> cases h2
  have ha:vs[i]?=some v:=by
   unfold start at h2;rw[LP (by simpa using hi),LG]at h2;cases e:vs[i]? with
   |none=>rw[e]at h2;cases h2
   |some a=>rw[e]at h2;cases h2;rfl
  obtain⟨u,C,D⟩:=r.get ha;have m:ps[i]?=some y:=by rw[<-S.pre,List.getElem?_take_of_lt (by omega)];exact h1
  have o:ps.Nodup:=by rw[<-S.pre];exact S.nd.sublist (List.take_sublist _ _)
  refine⟨u,D,?_⟩;rcases S.par y (M1 m) with k|k
  ·exact .inl ⟨k,rC o m C k⟩
  ·obtain⟨c,e⟩:=pA (n:=s.heap.objs.size+1) k;refine .inr ⟨.inl k,c,e,?_⟩;have q:=x.cell y c e;rw[sI o m C (by show scope.names.lookup y≠_;rw[k];decide)]at q;exact q
 ·exact g.hok.fresh (Nq (x.above y c (PySem.mem_of_lookup h)))
 ·unfold start;show _=N.length;rw[LB,L5,List.length_replicate];omega
theorem CU {CX:CXT} {k:Nat} {name:Str} {B kV doc cdv:Value}
  {sp:Sp} (F:K.lookup f=some ⟨oc,od,.func (PySem.W.fnOf name qual params body scope B kV doc pm an cdv ct),osl⟩) (l:PySem.W.codeIn K cdv qual=true) (S:cR N ps scope)
  (len:∀vs H Q E,sp vs H Q E->vs.length=ps.length)
  (c:∀(A:Around) (outer:List Env) (s:Shared) (H:Hp) (vs:List V) (Q:VK) (E:XK),bY k (A.deeper (envOfC qual scope s.heap.objs.size f cdv))->sp vs H Q E ->
   ∃t,PSs (cU CX P w K mg base N qual scope f cdv A outer s H E) body t/\t { nx:=λ_ H'=>Q .non H',rt:=Q } (start N vs) H) :
  gj P w K mg base CX (k+1) f (PySem.W.fnOf name qual params body scope B kV doc pm an cdv ct) ps sp:=by
 refine⟨len,λA outer s H args us vs Q E m i G r j=>?_⟩;have hl:=len _ _ _ _ j;have C:K.In s.heap:=i.mod.kin.keeps λb o e=>(i.bs b o e).1
 have lim:s.heap.NoLimit:=i.mod.nolimit.keeps λb o e=>(i.bs b o e).1
 have g:∀y∈ps.zip us,scope.names.lookup y.1=some .local\/(scope.names.lookup y.1=some .cell/\((cellsFrom (s.heap.objs.size+1) scope.names []).lookup y.1).isSome=true):=λp L=>by
  obtain⟨n,v⟩:=p;rcases S.par n (N5 L).1 with q|q
  ·exact .inl q
  ·exact .inr ⟨q,PySem.W.cellsFrom_some _ _ _ (.inl q)⟩
 refine codeAny_call_function m.depth (C _ _ F) rfl S.co S.gen rfl (PySem.W.codeRec_of C l) (G _ _ _ _ ?_);refine wpAny_newFunctionEnv_cells S.kind g λenv M D x=>?_
 subst M;refine⟨lim.keeps x.toInCall.keep,codeAny_func ?_⟩;obtain⟨t,O,R⟩:=c A outer s H vs Q E (m.deeper _) j;have I:Inv (cU CX P w K mg base N qual scope f cdv A outer s H E) [] (start N vs) H D:=zQ S m.hd i hl r x;refine wpAny_mono (O [] D (start N vs) H _ I R) (λT s' h=>?_) λe s' h=>h
 have fin:∀{a:St} {H':Hp} {v:V} {u:Value},Inv (cU CX P w K mg base N qual scope f cdv A outer s H E) [] a H' s'->RelV v u->Q v H'->CE outer P w H s Q u s' :=
  λ{a H' v u} J z q=>⟨v,H',J.os,J.bare,J.base,J.hok,z,q⟩
 cases T with
 |ret u =>obtain⟨v,a,H',J,z,q⟩:=h;exact fin J z q
 |next =>obtain⟨a,H',J,q⟩:=h;exact fin (v:=V.non) (u:=Value.none) J rfl q
 |brk =>obtain⟨_,_,_,q⟩:=h;exact False.elim q
 |cont =>obtain⟨_,_,_,q⟩:=h;exact False.elim q
section
variable {t:TA} {id T:String} {r:List V->Hp->VK->Prop}
def tCB (r:List V->Hp->VK->Prop) (t:TA):TE:=λσ H Q=>t σ H λvs H1=>r vs H1 Q
theorem gN (hc:km X (.builtin id) r) (f:Gl X x) (hm:X.mg x=none) (hv:bootBuiltins x=some (.builtin id)) (ha:PA X (e::es) t) (hn:x≠"__name__":=by decide) (a:(x==("__debug__":Str))=false:=by decide)
  (g:starEach (e::es) X.env=(false,eval e X.env)::starEach es X.env:=by rfl) (b:(backTo pos (starEach es X.env)).any (·.1)=false:=by rfl):PE X (.Call (.Name x p) (e::es) [] pos) (tCB r t):=by
 intro pins s σ H Q I h;refine wpAny_Call_Name_kw (fQ I f hm hv ?_ hn a);exact PyProof.Rows.callWith_builtin1 (thn (ha pos pins s σ H _ I h) λus i c=>(by obtain⟨vs,H1,j,l,m⟩:=c;exact hc pins i σ H1 vs us Q j l m)) g b
theorem lX (hc:km X (.type T) r) (f:Gl X x) (hm:X.mg x=none) (hv:bootBuiltins x=some (.type T)) (ha:PA X (e::es) t) (hn:x≠"__name__":=by decide) (a:(x==("__debug__":Str))=false:=by decide)
  (g:starEach (e::es) X.env=(false,eval e X.env)::starEach es X.env:=by rfl) (b:(backTo pos (starEach es X.env)).any (·.1)=false:=by rfl):PE X (.Call (.Name x p) (e::es) [] pos) (tCB r t):=by
 intro pins s σ H Q I h;refine wpAny_Call_Name_kw (fQ I f hm hv ?_ hn a);exact PyProof.Rows.callWith_type1 (thn (ha pos pins s σ H _ I h) λus i c=>(by obtain⟨vs,H1,j,l,m⟩:=c;exact hc pins i σ H1 vs us Q j l m)) g b
end
end L2
variable {xs ys vs:List L2.V} {ws:List (Option L2.V)} {H H' H1 G H0:L2.Hp} {o:L2.HO} {v y:L2.V} {X:L2.Cx} {σ:L2.St} {ta:L2.TA} {CX:L2.CXT} {sp:L2.Sp} {r:L2.V->Option Int->Option Int->L2.Hp->L2.VK->Prop} {κ:Nat->L2.V->L2.Hp->Prop} {kvs:List (List L2.Key×L2.V)}
namespace HT
open PySem PyProof.Rows
def lexLt:List Int->List Int->Bool
 |[],[]=>false
 |[],_::_=>true
 |_::_,[]=>false
 |x::xs,y::ys=>if x=y then lexLt xs ys else decide (x<y)
theorem qf (x y:Int) (xs ys:List Int):lexLt (x::xs) (y::ys)=if x=y then lexLt xs ys else decide (x<y):=rfl
theorem kn:lexLt [] []=false:=rfl
theorem pF (y:Int) (ys:List Int):lexLt [] (y::ys)=true:=rfl
theorem pW (x:Int) (xs:List Int):lexLt (x::xs) []=false:=rfl
theorem Bf (A:Around) (s:Shared) (a:Int) (t:Tok) (c:Int) (u:Tok):∃e,SeqAt.EqAt A s (.int a t) (.int c u) e/\(e=true↔a=c) :=
 ⟨(a==c),SeqAt.EqAt.int_int a t c u,by simp⟩
theorem DH (A:Around) (s:Shared) (a:Int) (t:Tok) (c:Int) (u:Tok) (prog:Program) (w:World) (E:Value->Shared->Prop) (Q:Value->Shared->Prop) (h:Q (.bool (decide (a<c))) s) :
  wpAny (model prog w) A (richCompare .Lt (.int a t) (.int c u)) Q E s :=
 (PyProof.Rows.lt_int h:wpAny (model prog w) A (compareOp .Lt (.int a t) (.int c u)) Q E s)
section
open PySem.SeqAt
open PySem.AutoSeq1 (wpAny_loadPart')
open PySem.MeetsSeq PySem.MeetsSeq2 PySem.MeetsSeq3
theorem qN (l b:Addr) (items f:Array Value) (n n2:Nat) (dd E:Option Addr) (J F:Array (Option Value)) (ns C:List Int) (hi:IntsAre items.toList ns) (I:IntsAre f.toList C) :
  Meets (Builtin.«tuple.__lt__» ⟨[.ref l,.ref b],[]⟩)
   (λ_ R s=>s.heap.get? l=some { cls:=.type "tuple",dict:=dd,data:=.seq items n,slots:=J }/\s.heap.get? b=some { cls:=.type "tuple",dict:=E,data:=.seq f n2,slots:=F } /\
    R (.ok (.ret (.bool (lexLt ns C)))) s) :=
 .of_wp λprog w A R s h=>by
  obtain⟨D,g,d,tk,os⟩:=s;obtain⟨hl,K,h⟩:=h;have f2:=AutoSeq1.sub_tuple_tuple;have z1:items.size=ns.length:=by rw[<-hi.length];simp
  have z2:f.size=C.length:=by rw[<-I.length];simp
  wp_walk using wpAny_loadPart' hl,wpAny_loadPart' K,wpAny_forIn_list _ (λrest b s'=>b.1=none/\s'=⟨D,g,d,tk,os⟩/\∃(vs ws:List Value) (i j:List Int),rest=vs.zip ws /\
   IntsAre vs i/\IntsAre ws j/\i.length+f.size=j.length+items.size/\R (.ok (.ret (.bool (lexLt i j)))) ⟨D,g,d,tk,os⟩) _
  case turn =>
   rintro⟨y,x⟩ rest b s' ⟨v,rfl,vs,ws,i,j,m,z,o,hlen,p⟩
   cases z with
   |nil=>rw[List.zip_nil_left]at m;cases m
   |cons a t hvi' =>
    cases o with
    |nil=>rw[List.zip_nil_right]at m;cases m
    |cons c u hwi' =>
     rw[N9]at m;injection m with G B
     injection G with L M
     subst L M;rw[qf]at p;simp only[LI]at hlen;obtain⟨e,N,r⟩:=Bf A.in1 ⟨D,g,d,tk,os⟩ a t c u;refine wpAny_bind (N prog w _ _ ?_);cases e with
     |true =>
      rw[if_pos (r.mp rfl)]at p
      wp_walk
      exact⟨rfl,rfl,_,_,_,_,B,hvi',hwi',by omega,p⟩
     |false =>
      rw[if_neg (λq=>absurd (r.mpr q) LK)]at p;have H:=DH A.in1 ⟨D,g,d,tk,os⟩ a t c u prog w
      wp_walk using H
      exact⟨_,rfl,by simpa using p⟩
  case fin =>
   rintro⟨b1,b2⟩ s' ⟨v,rfl,vs,ws,i,j,m,z,o,hlen,p⟩
   simp only at v;subst v;have hv:lexLt i j=decide (items.size<f.size):=by
    cases z with
    |nil =>
     cases o with
     |nil =>simp only[Mm]at hlen;rw[kn];exact (decide_eq_false (by omega)).symm
     |cons c u hw =>simp only[Mm,LI]at hlen;rw[pF];exact (decide_eq_true (by omega)).symm
    |cons a t hv =>
     cases o with
     |nil =>simp only[Mm,LI]at hlen;rw[pW];exact (decide_eq_false (by omega)).symm
     |cons c u hw =>rw[N9]at m;cases m
   rw[hv]at p
   wp_walk
   exact⟨_,rfl,by simpa[Builtin.Tuple.tupleCompareSizes] using p⟩
  case h =>exact⟨rfl,rfl,items.toList,f.toList,ns,C,rfl,hi,I,by omega,h⟩
end
section
variable {A:Around}
theorem wW {l:Addr} {a:Array Value} {c:List Int} (hl:IsTup s.heap l items) (m:IsTup s.heap b a) (hi:IntsAre items.toList ns) (o:IntsAre a.toList c)
  (p:A.units<cLine) (h:Q (.bool (lexLt ns c)) s):wpAny (model prog w) A (compareOp .Lt (.ref l) (.ref b)) Q E s:=by
 obtain⟨⟨cls,dd,data,q⟩,j,hc,n,hd⟩:=id hl;obtain⟨⟨cls2,g,data2,i⟩,e,f,n2,hd2⟩:=id m;simp only at hc hd f hd2;subst hc hd f hd2;exact richCompare_meets_room (op:=.Lt) ⟨_,j,rfl⟩ ⟨_,e,rfl⟩ PySem.F.slot_tuple_lt PySem.F.entry_tuple_lt (PySem.F.args_tuple_lt_2 _ _) (qN l b items a n n2 dd g q i ns c hi o)
  ⟨j,e,show Value.bool (lexLt ns c)≠Value.notImplemented/\Q (.bool (lexLt ns c)) s from⟨(λx=>nomatch x),h⟩⟩ p
theorem D9 {t:Addr} {vs ws:List Value} (j:IsTup s.heap t vs.toArray) (l:IsTup s.heap b ws.toArray) (hv:vs≠[])
  (h1:ws=[]->Q (.ref t) s) (h2:ws≠[]->Q (.ref s.heap.objs.size) { s with heap:=s.heap.push { cls:=.type "tuple",data:=.seq (vs++ws).toArray } })
  (hsz:vs.length+ws.length<=sizeLine):wpAny (model prog w) A (binaryOp .Add (.ref t) (.ref b)) Q E s:=by
 obtain⟨⟨cls,dd,data,i⟩,h,hc,n,hd⟩:=id j;obtain⟨⟨cls2,c,data2,f⟩,a,g,n2,hd2⟩:=id l;simp only at hc hd g hd2;subst hc hd g hd2;have e:vs.toArray++ws.toArray=(vs++ws).toArray:=by simp
 by_cases hw:ws=[]
 ·exact concat_meets ⟨_,h,rfl⟩ ⟨_,a,rfl⟩ noFill_tuple_add seq_tuple_add PySem.F.slot_tuple_add PySem.F.entry_tuple_add (PySem.F.args_tuple_add_2 _ _)
   (tuple_addW1 t b vs.toArray ws.toArray n n2 dd c i f (by simpa using hv) (by simp[hw])) ⟨h,a,h1 hw⟩
 ·refine concat_meets ⟨_,h,rfl⟩ ⟨_,a,rfl⟩ noFill_tuple_add seq_tuple_add PySem.F.slot_tuple_add PySem.F.entry_tuple_add (PySem.F.args_tuple_add_2 _ _)
   (tuple_addW2 t b vs.toArray ws.toArray n n2 dd c i f (by simpa using hv) (by simpa using hw) (by rw[Lz,Lz];exact hsz)) ⟨h,a,?_⟩
  rw[e];exact h2 hw
def sIx (n d:Nat):Option Int->Nat
 |none=>d
 |some v=>if v<0 then (v+(n:Int)).toNat else min v.toNat n
theorem nO (n d k:Nat):sIx n d (some (k:Int))=min k n:=by show (if (k:Int)<0 then ((k:Int)+(n:Int)).toNat else min (k:Int).toNat n)=min k n;rw[if_neg (by omega),LV]
theorem GR (n d:Nat) (hd:d<=n) (o:Option Int):sIx n d o<=n:=by
 cases o with
 |none=>exact hd
 |some v =>
  show (if v<0 then (v+(n:Int)).toNat else min v.toNat n)<=n;by_cases hv:v<0
  ·rw[if_pos hv];omega
  ·rw[if_neg hv];exact Nat.min_le_right _ _
theorem zr (v:Int) (n d:Nat):(if v<0 then max (v+(n:Int)) 0 else min v (n:Int))=((sIx n d (some v):Nat):Int):=by
 show (if v<0 then max (v+(n:Int)) 0 else min v (n:Int))=(((if v<0 then (v+(n:Int)).toNat else min v.toNat n):Nat):Int)
 by_cases hv:v<0
 ·simp only[if_pos hv];omega
 ·simp only[if_neg hv];omega
theorem ya (lo hi:Option Int) (n:Nat):Builtin.Slice.sliceAdjust lo hi 1 (n:Int)=(((sIx n 0 lo:Nat):Int),((sIx n n hi:Nat):Int)):=by
 have h1:¬ ((1:Int)<0):=by omega
 unfold Builtin.Slice.sliceAdjust;simp only[h1,if_false];refine Prod.ext ?_ ?_
 ·cases lo with
  |none=>rfl
  |some v=>exact zr v n 0
 ·cases hi with
  |none=>rfl
  |some v=>exact zr v n n
theorem wO (i j:Nat):Builtin.Slice.slicePlaces (i:Int) (j:Int) 1=j-i:=by
 unfold Builtin.Slice.slicePlaces;have h1:(1:Int)>0:=by omega
 simp only[h1,if_true,Int.ediv_one];split <;> omega
theorem oz {v:Value} {o:Option Int} {Q:Option Int->Shared->Prop} (p:IsPart v o) (h:Q o s):wpAny (model prog w) A (Builtin.Slice.slicePartIndex v) Q E s:=by
 cases p with
 |none=>exact slicePart_none h
 |int i t=>exact slicePart_int h
theorem iB {c e:Value} {Q:Int×Int×Nat->Shared->Prop} (g:s.heap.IsSliceOf f c e .none) (pl:IsPart c lo) (i:IsPart e hi)
  (h:Q (((sIx n 0 lo:Nat):Int),1,sIx n n hi-sIx n 0 lo) s):wpAny (model prog w) A (Builtin.Slice.sliceApplied (.ref f) (pure (n:Int))) Q E s:=by
 obtain⟨os,a,hcs,b⟩:=id g;unfold Builtin.Slice.sliceApplied Builtin.Slice.sliceFields;refine wpAny_bind (wpAny_bind (wpAny_field a b (x:=c) rfl (wpAny_bind (wpAny_field a b (x:=e) rfl (wpAny_bind (wpAny_field a b (x:=.none) rfl (wpAny_pure ?_)))))));refine wpAny_bind (slicePart_none ?_);show wpAny _ _ (if ((1:Int)==0)=true then _ else _) _ _ s;rw[if_neg (by decide)];refine wpAny_bind (oz pl (wpAny_bind (oz i (wpAny_bind (wpAny_pure ?_)))));show wpAny _ _ (match Builtin.Slice.sliceAdjust lo hi 1 (n:Int) with|(lo,hi)=>pure (lo,(1:Int),Builtin.Slice.slicePlaces lo hi 1)) _ _ s;rw[ya lo hi n];show wpAny _ _ (pure (((sIx n 0 lo:Nat):Int),(1:Int),Builtin.Slice.slicePlaces ((sIx n 0 lo:Nat):Int) ((sIx n n hi:Nat):Int) 1)) _ _ s;rw[wO];exact wpAny_pure h
theorem Bz (xs:Array Value) (i k:Nat):((List.range k).filterMap λ(m:Nat)=>xs[((i:Int)+(m:Int)*1).toNat]?).toArray=((xs.toList.drop i).take k).toArray:=by
 have e:(λ(m:Nat)=>xs[((i:Int)+(m:Int)*1).toNat]?)=λm=>xs[i+m]?:=by
  funext m;have:((i:Int)+(m:Int)*1).toNat=i+m:=by omega
  rw[this]
 rw[e];have:=pick_run xs i k;rw[List.filterMap_map]at this;have e2:((λx=>xs[x]?)∘λx=>i+x)=λm=>xs[i+m]?:=rfl
 rw[e2]at this;rw[this]
theorem lL {t:Addr} {j l:Value} (b:IsTup s.heap t items) (n:s.heap.IsSliceOf c j l .none) (pl:IsPart j lo) (o:IsPart l hi)
  (hw:¬ (sIx items.size 0 lo=0/\sIx items.size items.size hi=items.size))
  (h:Q (.ref s.heap.objs.size) { s with heap:=s.heap.push { cls:=.type "tuple",data:=.seq ((items.toList.drop (sIx items.size 0 lo)).take (sIx items.size items.size hi-sIx items.size 0 lo)).toArray } })
  (hsz:items.size<=sizeLine):wpAny (model prog w) A (getItem (.ref t) (.ref c)) Q E s:=by
 have a:sizeOk (.seq ((items.toList.drop (sIx items.size 0 lo)).take (sIx items.size items.size hi-sIx items.size 0 lo)).toArray):=by show ((items.toList.drop (sIx items.size 0 lo)).take (sIx items.size items.size hi-sIx items.size 0 lo)).toArray.size<=sizeLine;rw[Lz,MK,Mz,Mn];omega
 have hj:sIx items.size items.size hi<=items.size:=GR _ _ (L9 _) hi;obtain⟨os,e,f,hds⟩:=id n;have g:s.TypeIs (.ref c) "slice":=⟨os,e,f⟩
 unfold getItem
 try with_reducible refine wpAny_holding ?_
 first|refine wpAny_bind (wpAny_pure ?_)|skip
 refine wpAny_bind (wpAny_sequenceKey b.typeIs (by decide) ?_);refine wpAny_bind (wpAny_callSpecial?_slot (name:=Str.ofString "__getitem__") b.typeIs PyProof.Rows.slot_tuple_getitem
  (wpAny_call_entry PyProof.Rows.slot_tuple_getitem b.typeIs entry_tuple_getitem ?_ (args_tuple_getitem _ _)))
 show wpAny _ _ (Builtin.Tuple.tupleItemsOf (.ref t) >>= _) _ _ s;refine wpAny_bind (tupleItemsOf_ b ?_);refine wpAny_bind (wpAny_typeOf g ?_);rw[if_pos (by decide)];refine wpAny_bind (iB n pl o ?_);have i:¬ ((((sIx items.size 0 lo:Nat):Int)==0&&(1:Int)==1&&(sIx items.size items.size hi-sIx items.size 0 lo)==items.size)=true):=by intro q;rw[L8,L8]at q;have q1:((sIx items.size 0 lo:Nat):Int)=0:=eq_of_beq q.1.1;have q2:sIx items.size items.size hi-sIx items.size 0 lo=items.size:=eq_of_beq q.2;exact hw ⟨by omega,by omega⟩
 show wpAny _ _ (if (((sIx items.size 0 lo:Nat):Int)==0&&(1:Int)==1&&(sIx items.size items.size hi-sIx items.size 0 lo)==items.size)=true then _ else _) _ _ s;rw[if_neg i,Bz]
 first
  |exact wpAny_bind (m:=Builtin.Tuple.tupleExact _) (wpAny_newObj_type (wpAny_pure ⟨_,rfl,wpAny_pure h⟩) a)
  |exact wpAny_bind (m:=Builtin.Tuple.tupleExact _) (wpAny_newObj_type (wpAny_bind (wpAny_pure (wpAny_pure ⟨_,rfl,wpAny_pure h⟩))) a)
  |exact wpAny_bind (wpAny_bind (m:=Builtin.Tuple.tupleExact _) (wpAny_newObj_type (wpAny_pure (wpAny_pure ⟨_,rfl,wpAny_pure h⟩)) a))
  |exact wpAny_bind (wpAny_bind (m:=Builtin.Tuple.tupleExact _) (wpAny_newObj_type (wpAny_pure ⟨_,rfl,wpAny_pure h⟩) a))
end
end HT
namespace L2
open PySem PySem.Spec PyProof.Rows
variable {a:List Value}
abbrev TO:=St->Hp->(Option Int->Hp->Prop)->Prop
def PO (X:Cx) (e:Option Expr) (t:TO):Prop :=
 ∀(pins:List (Addr×Obj)) (s:Shared) (σ:St) (H:Hp) (Q:Option Int->Hp->Prop),Inv X pins σ H s->t σ H Q ->
  wpAny (model X.prog X.w) X.A (evalPart e X.env) (λu s'=>∃o H',Inv X pins σ H' s'/\IsPart u o/\Q o H') X.xe s
def FG:TO:=λ_ H Q=>Q none H
def JE (t:TE):TO:=λσ H Q=>t σ H λx H1=>∃i,x=.int i/\Q (some i) H1
theorem intsAre_of:∀{us:List Value},Vals (ns.map V.int) us->IntsAre us ns:=by
 induction ns with
 |nil=>intro us r;rw[Mr]at r;cases r;exact .nil
 |cons n ns ih =>
  intro us r;rw[L4]at r;cases r with
  |cons r1 r2 =>obtain⟨t,e⟩:=r1;subst e;exact .cons n t (ih r2)
section
variable {te:TE} {lo hi:Option Expr} {tl th:TO}
theorem D8:PO X none FG:=by intro pins s σ H Q I h;rw[evalPart_none];exact wpAny_pure ⟨none,H,I,.none,h⟩
theorem E2 (h:PE X e te):PO X (some e) (JE te):=by
 intro pins s σ H Q I hw;rw[evalPart_some];refine thn (h pins s σ H _ I hw) λu s1 a=>?_
 obtain⟨x,H1,b,c,f⟩:=a;obtain⟨i,rfl,q⟩:=f;obtain⟨t,rfl⟩:=c;exact⟨some i,H1,b,.int i t,q⟩
def SlR (X:Cx) (r:V->Option Int->Option Int->Hp->VK->Prop):Prop :=
 ∀(pins:List (Addr×Obj)) (s:Shared) (σ:St) (H:Hp) (x:V) (v a b:Value) (lo hi:Option Int) (c:Addr) (Q:VK),Inv X pins σ H s->RelV x v->s.heap.IsSliceOf c a b .none->IsPart a lo->IsPart b hi->r x lo hi H Q ->
  ∃T id,typeLookup (.type T) "__getitem__"=pure (some (.builtin id))/\s.TypeIs v T/\wpAny (model X.prog X.w) X.A (getItem v (.ref c)) (EP X pins σ Q) X.xe s
theorem SlR.or {a:V->Option Int->Option Int->Hp->VK->Prop} (h:SlR X r) (h':SlR X a):SlR X (λx lo hi H Q=>r x lo hi H Q\/a x lo hi H Q):=by
 intro pins s σ H x v b c lo hi e Q I f g pl i q;rcases q with q|q
 ·exact h pins s σ H x v b c lo hi e Q I f g pl i q
 ·exact h' pins s σ H x v b c lo hi e Q I f g pl i q
def tSl (r:V->Option Int->Option Int->Hp->VK->Prop) (te:TE) (tl th:TO):TE:=λσ H Q=>te σ H λx H1=>tl σ H1 λl H2=>th σ H2 λu a=>r x l u a Q
theorem CG (j:SlR X r) (m:PE X e te) (hl:PO X lo tl) (n:PO X hi th):PE X (.Subscript e (.Slice lo hi none p2) pos) (tSl r te tl th):=by
 intro pins s σ H Q I h;refine Subscript_ (thn (m pins s σ H _ I h) λv o a=>?_);obtain⟨x,H1,p,t,y⟩:=a;refine wpAny_Slice (thn (hl pins o σ H1 _ p y) λf s2 a=>?_);obtain⟨l,H2,z,pl,B⟩:=a;refine thn (n pins s2 σ H2 _ z B) λg c a=>?_
 obtain⟨u,i,C,D,E⟩:=a;rw[evalPart_none];refine wpAny_pure ?_;have F:Inv X pins σ i { c with heap:=c.heap.push { cls:=.type "slice",data:=.fields #[f,g,.none] } }:=C.kept (t':=c.toks) λb ob q=>L1 _ q
 obtain⟨T,id,G,J,K⟩:=j pins { c with heap:=c.heap.push { cls:=.type "slice",data:=.fields #[f,g,.none] } } σ i x v f g l u c.heap.objs.size Q F t (Heap.IsSliceOf.new ..) pl D E;show wpAny (model X.prog X.w) X.A (subscriptTail e (.Slice lo hi none p2) v (.ref c.heap.objs.size)) (EP X pins σ Q) X.xe { c with heap:=c.heap.push { cls:=.type "slice",data:=.fields #[f,g,.none] } };exact tail_any (ops:=[.ref c.heap.objs.size,v]) J G K (by with_unfolding_all rfl)
def uQ (xs:List V) (lo hi:Option Int):List V:=(xs.drop (HT.sIx xs.length 0 lo)).take (HT.sIx xs.length xs.length hi-HT.sIx xs.length 0 lo)
theorem ng (xs:List V) (lo hi:Option Int):(uQ xs lo hi).length<=xs.length:=by unfold uQ;rw[MK,Mz];omega
def Ll (K:PySem.W.Frag):V->Option Int->Option Int->Hp->VK->Prop:=λx lo hi H Q=>∃a xs,x=.ref a/\SqT K H a xs /\
 ¬ (HT.sIx xs.length 0 lo=0/\HT.sIx xs.length xs.length hi=xs.length)/\∀p,H p=none->Q (.ref p) (upd H p (.tup (uQ xs lo hi)))
theorem HU:SlR X (Ll X.K):=by
 intro pins s σ H x v vl vu lo hi sl Q I g i pl j h;obtain⟨a,xs,rfl,l,hw,q⟩:=h;cases g;obtain⟨c,r,e,f⟩:=I.tuple l;have hlen:c.toArray.size=xs.length:=by rw[Lz];exact r.length.symm
 refine⟨"tuple",_,PyProof.Rows.slot_tuple_getitem.lookup,e.typeIs,?_⟩;refine HT.lL e i pl j (by rw[hlen];exact hw) ?_ (by rw[hlen];exact f);rw[hlen];refine⟨.ref s.heap.objs.size,_,I.laid (t':=s.toks) (o:=.tup (uQ xs lo hi)) (λb ob q=>L1 _ q) (L9 _) ?_,rfl,q _ (I.hok.fresh (L9 _))⟩;exact⟨Mb (ng xs lo hi) f,_,(r.drop (HT.sIx xs.length 0 lo)).take (HT.sIx xs.length xs.length hi-HT.sIx xs.length 0 lo),tJ.new _ _⟩
def K4 (K:PySem.W.Frag):R2:=λx y H Q=>∃a b ns c,x=.ref a/\y=.ref b/\SqT K H a (ns.map V.int)/\SqT K H b (c.map V.int)/\Q (.bl (HT.lexLt ns c)) H
theorem HB (g:X.A.units<cLine):OpR X (compareOp .Lt) (K4 X.K):=by intro pins s σ H x y v u Q I i j h;obtain⟨a,b,ns,f,rfl,rfl,ha,l,q⟩:=h;cases i;cases j;obtain⟨e,m,p1,_⟩:=I.tuple ha;obtain⟨c,n,p2,_⟩:=I.tuple l;have i1:IntsAre e.toArray.toList ns:=intsAre_of m;have i2:IntsAre c.toArray.toList f:=intsAre_of n;exact HT.wW p1 p2 i1 i2 g ⟨.bl (HT.lexLt ns f),H,I,rfl,q⟩
def Kv (K:PySem.W.Frag):R2:=λx y H Q=>∃a b xs ys,x=.ref a/\y=.ref b/\SqT K H a xs/\SqT K H b ys/\xs≠[]/\xs.length+ys.length<=sizeLine /\
 (ys=[]->Q (.ref a) H)/\(ys≠[]->∀p,H p=none->Q (.ref p) (upd H p (.tup (xs++ys))))
theorem Vals.nil_iff (r:Vals xs us):us=[]↔xs=[]:=by
 cases r with
 |nil=>simp
 |cons _ _=>simp
theorem Fp:OpR X (binaryOp .Add) (Kv X.K):=by intro pins s σ H x y v u Q I g i h;obtain⟨a,b,xs,ys,rfl,rfl,ha,j,l,f,m,n⟩:=h;cases g;cases i;obtain⟨its,e,p1,_⟩:=I.tuple ha;obtain⟨its2,c,p2,_⟩:=I.tuple j;refine HT.D9 p1 p2 (λz=>l (e.nil_iff.mp z)) (λz=>⟨.ref a,H,I,rfl,m (c.nil_iff.mp z)⟩) (λz=>?_) (by rw[<-e.length,<-c.length];exact f);refine⟨.ref s.heap.objs.size,_,I.laid (t':=s.toks) (o:=.tup (xs++ys)) (λb ob q=>L1 _ q) (L9 _) ?_,rfl,n (λw=>z (c.nil_iff.mpr w)) _ (I.hok.fresh (L9 _))⟩;exact⟨by rw[LB];exact f,_,e.append c,tJ.new _ _⟩
end
def ixN (n:Nat) (i:Int):Option Nat:=if 0<=i then (if i<n then some i.toNat else none) else if -(n:Int)<=i then some (i+n).toNat else none
def atI {α:Type} (xs:List α) (i:Int):Option α:=(ixN xs.length i).bind λj=>xs[j]?
theorem tE {i:Int} (h:ixN n i=some j):seqIndex? i n=some j/\j<n/\-(n:Int)<=i/\i<n:=by
 unfold ixN at h;by_cases h0:0<=i
 ·rw[if_pos h0]at h;by_cases h1:i<n
  ·rw[if_pos h1]at h;have e:i.toNat=j:=Option.some.inj h;exact⟨by rw[seqIndex_of h0 h1,e],by omega,by omega,h1⟩
  ·rw[if_neg h1]at h;cases h
 ·rw[if_neg h0]at h;by_cases h1:-(n:Int)<=i
  ·rw[if_pos h1]at h;have e:(i+n).toNat=j:=Option.some.inj h;exact⟨by rw[seqIndex_neg (by omega) h1,e],by omega,h1,by omega⟩
  ·rw[if_neg h1]at h;cases h
theorem yn {xs:List α} {i:Int} {v:α} (h:atI xs i=some v):∃j,seqIndex? i xs.length=some j/\xs[j]?=some v/\j<xs.length/\-(xs.length:Int)<=i/\i<xs.length:=by
 unfold atI at h;cases e:ixN xs.length i with
 |none=>rw[e]at h;cases h
 |some j =>rw[e]at h;obtain⟨h1,h2,a,b⟩:=tE e;exact⟨j,h1,h,h2,a,b⟩
theorem nM {xs:List α} {v:α} (h:xs[j]?=some v):atI xs (j:Int)=some v:=by
 have hj:j<xs.length:=(LM.mp h).1;have e:ixN xs.length (j:Int)=some j:=by unfold ixN;rw[if_pos (by omega),if_pos (by omega)];simp
 unfold atI;rw[e];exact h
def yy (b:Expr):Prop:=∀o i,subscripted b false o i=operate [o,i] (getItem o i)
def IxR (X:Cx) (r:R2):Prop :=
 ∀(value slice:Expr) (pins:List (Addr×Obj)) (s:Shared) (σ:St) (H:Hp) (x y:V) (v u:Value) (Q:VK),Inv X pins σ H s->RelV x v->RelV y u->r x y H Q ->
  subscripted slice false v u=operate [v,u] (getItem v u)->wpAny (model X.prog X.w) X.A (subscriptTail value slice v u) (EP X pins σ Q) X.xe s
def MtR (X:Cx) (id:String) (r:V->List V->Hp->VK->Prop):Prop :=
 ∀(pins:List (Addr×Obj)) (s:Shared) (σ:St) (H:Hp) (x:V) (xs:List V) (v:Value) (us:List Value) (Q:VK),Inv X pins σ H s->RelV x v->Vals xs us->r x xs H Q ->
  wpAny (model X.prog X.w) X.A (call (.builtin id) (v::us)) (EP X pins σ Q) X.xe s
section
variable {a b:Expr} {ta tb:TE}
theorem IxR.or {r a:R2} (h:IxR X r) (h':IxR X a):IxR X (λx y H Q=>r x y H Q\/a x y H Q):=by
 intro value slice pins s σ H x y v u Q I b c q e;rcases q with q|q
 ·exact h value slice pins s σ H x y v u Q I b c q e
 ·exact h' value slice pins s σ H x y v u Q I b c q e
theorem CK {r:R2} (c:IxR X r) (ha:PE X a ta) (e:PE X b tb) (f:yy b):PE X (.Subscript a b pos) (tOp r ta tb):=by intro pins s σ H Q I h;exact Subscript_ (Iz ha e I h λv u s2 x y H2 g i j q=>c a b pins s2 σ H2 x y v u Q g i j q (f _ _))
def Jq (K:PySem.W.Frag):R2:=λx y H Q=>∃p xs i v,x=.ref p/\y=.int i/\SqL K H p xs/\atI xs i=some v/\Q v H
def JL (K:PySem.W.Frag):R2:=λx y H Q=>∃p xs i v,x=.ref p/\y=.int i/\SqT K H p xs/\atI xs i=some v/\Q v H
theorem sX:IxR X (Jq X.K):=by
 intro value slice pins s σ H x y v u Q I g l h e;obtain⟨p,xs,i,z,rfl,rfl,m,n,q⟩:=h;cases g;obtain⟨t,rfl⟩:=l;obtain⟨a,r,pl,hz⟩:=I.list m;obtain⟨j,h1,h2,h3,o,A⟩:=yn n;obtain⟨w,f,b⟩:=r.get h2;have hl:=r.length;have hn:=sS;have fin:EP X pins σ Q w s:=⟨z,H,I,b,q⟩
 by_cases h0:0<=i
 ·have c:i.toNat=j:=by rw[seqIndex_of h0 A]at h1;exact Option.some.inj h1
  exact item_listR pl.isList h0 (by omega) (by rw[c];simpa using f) fin e
 ·have c:(i+(a.toArray.size:Int)).toNat=j:=by rw[seqIndex_neg (by omega) o]at h1;rw[Lz,<-hl];exact Option.some.inj h1
  exact subscriptTail_builtinR (x:=w) pl.isList.typeIs slot_list_getitem.lookup
   (wpAny_getItem_list_neg (Q:=λr s'=>r=w/\EP X pins σ Q r s') pl.isList (by omega) (by rw[Lz] <;> omega) (by omega) (by rw[c];simpa using f) ⟨rfl,fin⟩) e
theorem IL:IxR X (JL X.K):=by
 intro value slice pins s σ H x y v u Q I b c h e;obtain⟨p,xs,i,z,rfl,rfl,f,g,q⟩:=h;cases b;obtain⟨t,rfl⟩:=c;obtain⟨its,r,pl,hz⟩:=I.tuple f;obtain⟨j,h1,h2,h3,h4,h5⟩:=yn g;obtain⟨w,l,a⟩:=r.get h2;have hl:=r.length;have hn:=sS;have fin:EP X pins σ Q w s:=⟨z,H,I,a,q⟩
 exact subscriptTail_builtinR (x:=w) pl.typeIs slot_tuple_getitem.lookup
  (getItem_tuple (j:=j) (Q:=λr s'=>r=w/\EP X pins σ Q r s') pl (by omega) (by omega) (by rw[Lz,<-hl];exact h1) (by simpa using l) ⟨rfl,fin⟩) e
theorem wL (a:List Value) (n j:Nat) (u:Value):Obj.mapSeq (·.setIfInBounds j u) { cls:=.type "list",data:=.seq a.toArray n }={ cls:=.type "list",data:=.seq (a.set j u).toArray n }:=by simp[Obj.mapSeq]
theorem Inv.lst {p:Addr} (I:Inv X pins σ H s) (h:H p=some (.lst xs)) :
  ∃(a:List Value) (n:Nat),Vals xs a/\s.heap.get? p=some { cls:=.type "list",data:=.seq a.toArray n }/\xs.length<=sizeLine:=by
 obtain⟨z,a,n,r,e⟩:=I.hok p _ h;exact⟨a,n,r,e,z⟩
theorem Inv.lstUpd {p:Addr} {a:List Value} {n':Nat} {f:Obj->Obj} (I:Inv X pins σ H s) (h:H p=some (.lst xs))
  (g:s.heap.get? p=some { cls:=.type "list",data:=.seq a.toArray n }) (c:f { cls:=.type "list",data:=.seq a.toArray n }={ cls:=.type "list",data:=.seq its'.toArray n' }) (r:Vals ys its') (i:ys.length<=sizeLine) (t:Nat) :
  Inv X pins σ (upd H p (.lst ys)) { s with heap:=s.heap.update p f,toks:=t }:=by
 have e:(s.heap.update p f).get? p=some { cls:=.type "list",data:=.seq its'.toArray n' }:=by rw[MT f g (by rw[c] <;> rfl),c]
 refine I.write (x:=p) (e:=p) (by rw[h];trivial) (.inl rfl) (λb u j q=>(Ma _ _ (Ne.symm j)).trans q) ⟨_,e⟩ ?_;exact⟨i,its',n',r,e⟩
def JR:V->V->V->Hp->(Hp->Prop)->Prop:=λo i v H Q=>∃p xs k j,o=.ref p/\i=.int k/\H p=some (.lst xs)/\ixN xs.length k=some j/\Q (upd H p (.lst (xs.set j v)))
theorem set_list:Ke X JR:=by
 intro pins s σ H o i v ov iv u Q I m w x h;obtain⟨p,xs,k,j,rfl,rfl,e,y,q⟩:=h;cases m;obtain⟨t,rfl⟩:=w;obtain⟨a,n,r,b,z⟩:=I.lst e;obtain⟨h1,h2,f,g⟩:=tE y;have hl:=r.length;have hn:=sS;have l:Inv X pins σ (upd H p (.lst (xs.set j v))) { s with heap:=s.heap.update p (Obj.mapSeq (·.setIfInBounds j u)) } :=
  I.lstUpd e b (wL a n j u) (r.set x j) (by rw[List.length_set];exact z) s.toks
 by_cases h0:0<=k
 ·have c:k.toNat=j:=by rw[seqIndex_of h0 g]at h1;exact Option.some.inj h1
  exact PySem.W.ki_setAt b h0 (by omega) (by rw[Lz,<-hl];exact g) (by rw[c];exact⟨_,l,q⟩)
 ·have c:(k+(a.toArray.size:Int)).toNat=j:=by rw[seqIndex_neg (by omega) f]at h1;rw[Lz,<-hl];exact Option.some.inj h1
  exact PySem.W.ki_setBack b (by omega) (by rw[Lz,<-hl];exact f) (by omega) (by rw[c];exact⟨_,l,q⟩)
theorem tZ (lo hi:Option Int) (n:Nat):(sliceBounds lo hi none n).1=((HT.sIx n 0 lo:Nat):Int)/\(sliceBounds lo hi none n).2.1=((HT.sIx n n hi:Nat):Int)/\(sliceBounds lo hi none n).2.2=1:=by
 refine⟨?_,?_,rfl⟩
 ·cases lo with
  |none=>simp[sliceBounds,HT.sIx]
  |some i =>
   simp only[sliceBounds,HT.sIx,Option.getD_none,show (1:Int)>0 by decide,if_true];by_cases h:i<0
   ·simp only[h,if_true] <;> omega
   ·simp only[h,if_false] <;> omega
 ·cases hi with
  |none=>simp[sliceBounds,HT.sIx]
  |some i =>
   simp only[sliceBounds,HT.sIx,Option.getD_none,show (1:Int)>0 by decide,if_true];by_cases h:i<0
   ·simp only[h,if_true] <;> omega
   ·simp only[h,if_false] <;> omega
theorem qM (a:List Value) (lo hi:Option Int):slicePick a.toArray lo hi none=((a.drop (HT.sIx a.length 0 lo)).take (HT.sIx a.length a.length hi-HT.sIx a.length 0 lo)).toArray:=by obtain⟨h1,h2,b⟩:=tZ lo hi a.toArray.size;unfold slicePick;rw[h1,h2,b];simp only[sliceRange_one,pick_run,Lz] <;> rfl
def Le (K:PySem.W.Frag):V->Option Int->Option Int->Hp->VK->Prop:=λx lo hi H Q=>∃a xs,x=.ref a/\SqL K H a xs/\∀p,H p=none->Q (.ref p) (upd H p (.lst (uQ xs lo hi)))
theorem ED:SlR X (Le X.K):=by intro pins s σ H x v vl vu lo hi sl Q I e f pl g h;obtain⟨a,xs,rfl,i,q⟩:=h;cases e;obtain⟨its,r,c,j⟩:=I.list i;have hlen:=r.length;refine⟨"list",_,slot_list_getitem.lookup,c.isList.typeIs,?_⟩;refine wpAny_getItem_list_slice c.isList f pl g .none (by simp) ?_ (by rw[Lz] <;> omega);rw[qM,<-hlen];refine⟨.ref s.heap.objs.size,_,I.laid (t':=s.toks) (o:=.lst (uQ xs lo hi)) (λb ob q=>L1 _ q) (L9 _) ?_,rfl,q _ (I.hok.fresh (L9 _))⟩;exact⟨Mb (ng xs lo hi) j,_,0,(r.drop (HT.sIx xs.length 0 lo)).take (HT.sIx xs.length xs.length hi-HT.sIx xs.length 0 lo),LF _ rfl⟩
def jc:V->Bool
 |.non=>true
 |.bl _=>true
 |.int _=>true
 |.str _=>true
 |_=>false
def eqV:V->V->Bool
 |.non,.non=>true
 |.bl a,.bl b=>a==b
 |.bl a,.int b=>(if a then 1 else 0)==b
 |.int a,.bl b=>a==(if b then 1 else 0)
 |.int a,.int b=>a==b
 |.str a,.str b=>a==b
 |_,_=>false
theorem G7 {A:Around} {x:V} {v:Value} (e:RelV y u) (c:RelV x v) (g:jc y=true) (f:jc x=true):SeqAt.EqAt A s u v (eqV y x):=by
 cases y with
 |non =>
  cases e;cases x with
  |non=>cases c;exact SeqAt.EqAt.same _
  |bl b=>cases c;exact SeqAt.EqAt.none_bool b
  |int b=>obtain⟨t,rfl⟩:=c;exact SeqAt.EqAt.none_int b t
  |str b=>obtain⟨t,rfl⟩:=c;exact SeqAt.EqAt.none_str b t
  |_=>exact absurd (show false=true from f) LK
 |bl a =>
  cases e;cases x with
  |non=>cases c;exact SeqAt.EqAt.bool_none a
  |bl b=>cases c;exact SeqAt.EqAt.bool_bool a b
  |int b=>obtain⟨t,rfl⟩:=c;exact SeqAt.EqAt.bool_int a b t
  |str b=>obtain⟨t,rfl⟩:=c;exact SeqAt.EqAt.bool_str a b t
  |_=>exact absurd (show false=true from f) LK
 |int a =>
  obtain⟨t',rfl⟩:=e;cases x with
  |non=>cases c;exact SeqAt.EqAt.int_none a t'
  |bl b=>cases c;exact SeqAt.EqAt.int_bool a t' b
  |int b=>obtain⟨t,rfl⟩:=c;exact SeqAt.EqAt.int_int a t' b t
  |str b=>obtain⟨t,rfl⟩:=c;exact SeqAt.EqAt.int_str a t' b t
  |_=>exact absurd (show false=true from f) LK
 |str a =>
  obtain⟨t',rfl⟩:=e;cases x with
  |non=>cases c;exact SeqAt.EqAt.str_none a t'
  |bl b=>cases c;exact SeqAt.EqAt.str_bool a t' b
  |int b=>obtain⟨t,rfl⟩:=c;exact SeqAt.EqAt.str_int a t' b t
  |str b=>obtain⟨t,rfl⟩:=c;exact SeqAt.EqAt.str_str a t' b t
  |_=>exact absurd (show false=true from f) LK
 |_=>exact absurd (show false=true from g) LK
def eqU (x:V) (u:Value):Bool:=match u with
 |.none=>eqV .non x
 |.bool b=>eqV (.bl b) x
 |.int i _=>eqV (.int i) x
 |.str z _=>eqV (.str z) x
 |_=>false
theorem xP {x:V} (r:RelV y u) (f:jc y=true):eqU x u=eqV y x:=by
 cases y with
 |non=>cases r;rfl
 |bl b=>cases r;rfl
 |int i=>obtain⟨t,rfl⟩:=r;rfl
 |str z=>obtain⟨t,rfl⟩:=r;rfl
 |_=>exact absurd (show false=true from f) LK
theorem ua {x:V}:∀{xs:List V} {us:List Value},Vals xs us->xs.all jc=true->us.any (eqU x)=xs.any λy=>eqV y x
 |_,_,.nil,_=>rfl
 |y::xs,u::us,.cons r t,f=>by rw[MX,L8]at f;rw[MQ,MQ,xP r f.1,ua t f.2]
theorem kX {A:Around} {s:Shared} {x:V} {v:Value} (b:RelV x v) (c:jc x=true):∀{xs:List V} {us:List Value},Vals xs us->xs.all jc=true->∀u∈us,SeqAt.EqAt A s u v (eqU x u)
 |_,_,.nil,_=>λu a=>by cases a
 |y::xs,u::us,.cons r t,f=>λe a=>by
  rw[MX,L8]at f;rcases L7.mp a with rfl|a
  ·rw[xP r f.1];exact G7 r b f.1 c
  ·exact kX b c t f.2 e a
def inV (x:V) (xs:List V):Bool:=xs.any λy=>eqV y x
def rIn (K:PySem.W.Frag) (neg:Bool):R2:=λx y H Q=>∃p xs,y=.ref p/\(SqL K H p xs\/SqT K H p xs)/\jc x=true/\xs.all jc=true/\Q (.bl (if neg then !inV x xs else inV x xs)) H
theorem sO:OpR X (compareOp .In) (rIn X.K false):=by
 intro pins s σ H x y v u Q I c f h;obtain⟨p,xs,rfl,b,e,fs,q⟩:=h;cases f;rcases b with b|b
 ·obtain⟨a,r,pl,g⟩:=I.list b;refine SeqAt.in_listAt (eqU x) pl.isList (λw hw=>kX c e r fs w (by simpa using hw)) ⟨.bl _,H,I,rfl,?_⟩;rw[show a.toArray.any (eqU x)=a.any (eqU x) by simp,ua r fs];exact q
 ·obtain⟨a,r,pl,g⟩:=I.tuple b;refine SeqAt.in_tupleAt (eqU x) pl (λw hw=>kX c e r fs w (by simpa using hw)) ⟨.bl _,H,I,rfl,?_⟩;rw[show a.toArray.any (eqU x)=a.any (eqU x) by simp,ua r fs];exact q
theorem iN:km X (.builtin "len") (λxs H Q=>∃p ys,xs=[.ref p]/\(SqL X.K H p ys\/SqT X.K H p ys)/\Q (.int ys.length) H):=by
 intro pins s σ H xs us Q I r h;obtain⟨p,ys,rfl,a,q⟩:=h;obtain⟨u,rfl,e⟩:=vals1 r;cases e;have hn:=sS;rcases a with a|a
 ·obtain⟨b,c,pl,f⟩:=I.list a;have hlen:=c.length;exact Calls.call_len_list pl.isList (by simp only[Lz] <;> omega) ⟨.int ys.length,H,I.tok _,⟨s.toks+1,by rw[Lz,hlen]⟩,q⟩
 ·obtain⟨b,c,pl,f⟩:=I.tuple a;have hlen:=c.length;exact len_tuple pl (by simp only[Lz] <;> omega) ⟨.int ys.length,H,I.tok _,⟨s.toks+1,by rw[Lz,hlen]⟩,q⟩
theorem sV:km X (.type "list") (λxs H Q=>∃p ys,xs=[.ref p]/\(SqL X.K H p ys\/SqT X.K H p ys)/\∀l,H l=none->Q (.ref l) (upd H l (.lst ys))):=by
 intro pins s σ H xs us Q I r h;obtain⟨p,ys,rfl,f,q⟩:=h;obtain⟨u,rfl,j⟩:=vals1 r;cases j;have fin:∀(a:List Value),Vals ys a->ys.length<=sizeLine->∀(h':Heap) (c':Nat),(∀b o',s.heap.get? b=some o'->h'.get? b=some o') ->
   h'.get? s.heap.objs.size=some { cls:=.type "list",dict:=none,data:=.seq a.toArray c',slots:=#[] }->EP X pins σ Q (.ref s.heap.objs.size) { s with heap:=h' }:=λa c g h' c' kp e =>
  ⟨.ref s.heap.objs.size,_,I.laid (t':=s.toks) kp (L9 _) (show dh X.prog X.w _ h' _ (.lst ys) from⟨g,a,c',c,e⟩),rfl,q _ (I.hok.fresh (L9 _))⟩
 rcases f with f|f
 ·obtain⟨a,c,pl,g⟩:=I.list f;have hlen:=c.length;obtain⟨o,i,hc,n,hd⟩:=pl.isList;exact call_list_seq p (.inl rfl) i hc hd (λh' c' kp e=>fin a c g h' c' kp e) (by simp only[Lz] <;> omega)
 ·obtain⟨a,c,pl,g⟩:=I.tuple f;have hlen:=c.length;obtain⟨o,i,hc,n,hd⟩:=pl;exact call_list_seq p (.inr rfl) i hc hd (λh' c' kp e=>fin a c g h' c' kp e) (by simp only[Lz] <;> omega)
theorem qB:km X (.type "tuple") (λxs H Q=>∃p ys,xs=[.ref p]/\((SqL X.K H p ys/\∀l,H l=none->Q (.ref l) (upd H l (.tup ys)))\/(SqT X.K H p ys/\Q (.ref p) H))):=by
 intro pins s σ H xs us Q I r h;obtain⟨p,ys,rfl,h⟩:=h;obtain⟨u,rfl,j⟩:=vals1 r;cases j;rcases h with⟨c,q⟩|⟨c,q⟩
 ·obtain⟨a,f,pl,g⟩:=I.list c;have hlen:=f.length;refine call_tuple_list pl.isList (λh' kp=>?_) (by simp only[Lz] <;> omega);have i:Inv X pins σ H { s with heap:=h' }:=I.kept (t':=s.toks) kp;have m:Inv X pins σ (upd H h'.objs.size (.tup ys)) { s with heap:=h'.push { cls:=.type "tuple",data:=.seq a.toArray } } :=
   i.laid (t':=s.toks) (λb o e=>L1 _ e) (L9 _) (show dh X.prog X.w _ _ _ (.tup ys) from⟨g,a,f,tJ.new _ _⟩)
  exact⟨.ref h'.objs.size,_,m,rfl,q _ (i.hok.fresh (L9 _))⟩
 ·obtain⟨a,f,pl,g⟩:=I.tuple c;exact call_tuple_same pl ⟨.ref p,H,I,rfl,q⟩
def tyV (K:PySem.W.Frag) (T:String) (x:V) (H:Hp):Prop:=match x with
 |.str _=>T="str"
 |.int _=>T="int"
 |.ref p=>(T="list"/\∃xs,SqL K H p xs)\/(T="tuple"/\∃o,K.lookup p=some o/\o.cls=.type "tuple"/\o.dict=none) \/
  (T="dict"/\((∃kvs,H p=some (.dK kvs))\/∃kvs,H p=some (.dT kvs)))\/(T="set"/\∃S n,H p=some (.set S n))
 |_=>False
theorem Ho {T:String} {x:V} {v:Value} (I:Inv X pins σ H s) (r:RelV x v) (ty:tyV X.K T x H) :
  s.TypeIs v T/\∀a,v=.ref a->∃f,s.heap.get? a=some f/\f.dict=none:=by
 cases x with
 |str z =>obtain⟨t,rfl⟩:=r;cases (show T="str" from ty);exact⟨typeIs_str s z t,λ_ e=>nomatch e⟩
 |int i =>obtain⟨t,rfl⟩:=r;cases (show T="int" from ty);exact⟨typeIs_int s i t,λ_ e=>nomatch e⟩
 |ref p =>
  cases r;rcases ty with⟨rfl,xs,g⟩|⟨rfl,o,b,hc,hd⟩|⟨rfl,b⟩|⟨rfl,S,n,b⟩
  ·obtain⟨its,_,pl,_⟩:=I.list g;refine⟨pl.isList.typeIs,λa e=>?_⟩;cases e;obtain⟨o,n,e,c,hd,_⟩:=pl;exact⟨o,e,hd⟩
  ·refine⟨⟨o,I.kIn p o b,hc⟩,λa e=>?_⟩;cases e;exact⟨o,I.kIn _ o b,hd⟩
  ·have z:∃o,s.heap.get? p=some o/\o.ExactDict:=by
    rcases b with⟨kvs,b⟩|⟨kvs,b⟩
    ·obtain⟨_,_,_,_,o,_,_,e,ex,_⟩:=I.hok p _ b;exact⟨o,e,ex⟩
    ·obtain⟨_,_,_,_,o,_,_,e,ex,_⟩:=I.hok p _ b;exact⟨o,e,ex⟩
   obtain⟨o,e,ex⟩:=z;refine⟨⟨o,e,ex.1⟩,λa e2=>?_⟩;cases e2;exact⟨o,e,ex.2.1⟩
  ·obtain⟨o,_,_,_,e,ex,_⟩:=I.hok p _ b;refine⟨⟨o,e,ex.1⟩,λa e2=>?_⟩;cases e2;exact⟨o,e,ex.2.1⟩
 |_=>exact False.elim ty
def tBM (K:PySem.W.Frag) (T:String) (r:V->List V->Hp->VK->Prop) (to:TE) (t:TA):TE:=λσ H Q=>to σ H λx H1=>tyV K T x H1/\t σ H1 λxs H2=>r x xs H2 Q
variable {o:Expr} {es:List Expr} {to:TE} {t:TA} {name:Str} {apos:Pos} {T id:String} {r:V->List V->Hp->VK->Prop}
theorem Ct (p:PlainAttrs T) (slot:Slot T name id) (g:typeOf (.builtin id)=pure (.type "method_descriptor")) (hm:MtR X id r) (q:PE X o to) (ha:PA X (e::es) t)
  (b:attributeBase o name X.env (eval o X.env)=eval o X.env:=by rfl)
  (f:((backTo cpos (starEach (e::es) X.env)).all (λx=>!x.1)&&(backToKw cpos (keywordEach [] X.env)).all (λx=>x.1.isSome)
  &&decide ((e::es).length+([]:List Keyword).length+(if ([]:List Keyword).isEmpty then 0 else 1)<30))=true:=by rfl)
  (c:(apos.endLine==cpos.line)=true:=by rfl) (u:starEach (e::es) X.env=(false,eval e X.env)::starEach es X.env:=by rfl) (a:(backTo cpos (starEach es X.env)).any (·.1)=false:=by rfl) :
  PE X (.Call (.Attribute o name apos) (e::es) [] cpos) (tBM X.K T r to t):=by
 intro pins s σ H Q I h;refine wpAny_Call_method_late b f c rfl (thn (q pins s σ H _ I h) λv w i=>?_);obtain⟨x,H1,l,m,ty,y⟩:=i;obtain⟨h1,h2⟩:=Ho l m ty;refine⟨T,id,p,slot,g,h1,h2,?_⟩;have n:=ha cpos pins w σ H1 _ l y;rw[u]at n ⊢;refine Calls.callWith_builtin (by show (false||(backTo cpos (starEach es X.env)).any (·.1))=false;rw[a] <;> rfl) (Calls.evalArgs_plain ?_);exact thn n λus s2 j=>(by obtain⟨vs,H2,z,A,B⟩:=j;exact hm pins s2 σ H2 x vs v us Q z m A B)
end
def MtM (X:Cx) (id:String) (r:V->List V->Hp->VK->Prop):Prop :=
 ∀(pins:List (Addr×Obj)) (s:Shared) (σ:St) (H:Hp) (x:V) (xs:List V) (v:Value) (us:List Value) (Q:VK),Inv X pins σ H s->RelV x v->Vals xs us->r x xs H Q ->
  wpAny (model X.prog X.w) X.A (call (.builtin id) (v::us)) (EP X pins σ Q) X.xe s
theorem Vals.one {x:V} (h:Vals [x] us):∃u,us=[u]/\RelV x u:=by
 cases h with
 |cons r t=>cases t;exact⟨_,rfl,r⟩
theorem Vals.eraseIdx:∀{xs:List V} {us:List Value} (i:Nat),Vals xs us->Vals (xs.eraseIdx i) (us.eraseIdx i)
 |_,_,_,.nil=>.nil
 |_,_,0,.cons _ t=>t
 |_,_,i+1,.cons r t=>.cons r (Vals.eraseIdx i t)
theorem Vals.rep {xs:List V} {us:List Value} (h:Vals xs us):∀k:Nat,Vals (List.replicate k xs).flatten (List.replicate k us).flatten
 |0=>.nil
 |k+1=>by rw[Mo,Mo,Mu,Mu];exact Vals.append h (Vals.rep h k)
theorem qX {α:Type}:∀(l:List α) (i:Nat),(l.eraseIdx i).length<=l.length
 |[],_=>L9 _
 |_::_,0=>N1 _
 |_::r,i+1=>Nat.succ_le_succ (qX r i)
theorem foldl_rep (a:List Value):∀(k:Nat) (acc:List Value),
  List.foldl (λx1 x2=>x1++x2) acc.toArray (List.replicate k a.toArray)=(acc++(List.replicate k a).flatten).toArray
 |0,acc=>by simp
 |k+1,acc=>by
  have e:acc.toArray++a.toArray=(acc++a).toArray:=by simp
  have e2:(acc++a)++(List.replicate k a).flatten=acc++(List.replicate (k+1) a).flatten:=by rw[Mo,Mu,MF]
  rw[<-e2,<-foldl_rep a k (acc++a),<-e,Mo,N6]
section
variable {l:Addr} {zs:List V}
theorem Inv.lset {f:Array Value->Array Value} {t':Nat} (I:Inv X pins σ H s) (b:H l=some (.lst xs))
  (e:s.heap.get? l=some { cls:=.type "list",data:=.seq a.toArray n }) (c:f a.toArray=its'.toArray) (hv:Vals ys its') (g:ys.length<=sizeLine) :
  Inv X pins σ (upd H l (.lst ys)) { s with heap:=s.heap.update l (Obj.mapSeq f),toks:=t' }:=by
 have q:=PySem.IsL.update e f;rw[c]at q;refine I.write (x:=l) (e:=l) (by rw[b];exact trivial) (.inl rfl) (λb' u h i=>(Ma s.heap (Obj.mapSeq f) (Ne.symm h)).trans i) ⟨_,q⟩ ?_;exact⟨g,its',_,hv,q⟩
theorem Inv.lnew {t':Nat} (I:Inv X pins σ H s) (hv:Vals ys a) (b:ys.length<=sizeLine) :
  Inv X pins σ (upd H s.heap.objs.size (.lst ys)) { s with heap:=s.heap.push { cls:=.type "list",data:=.seq a.toArray },toks:=t' } :=
 I.laid (λ_ _ q=>L1 _ q) (L9 _) ⟨b,a,0,hv,LF _ rfl⟩
theorem Inv.fresh (I:Inv X pins σ H s):H s.heap.objs.size=none:=I.hok.fresh (L9 _)
theorem Inv.lstM (I:Inv X pins σ H s) (b:H l=some (.lst xs)):xs.length<=sizeLine/\∃(a:List Value) (n:Nat),Vals xs a/\xs.length=a.length/\s.heap.get? l=some { cls:=.type "list",data:=.seq a.toArray n }:=by obtain⟨z,a,n,r,e⟩:=I.hok l _ b;exact⟨z,a,n,r,r.length,e⟩
theorem Bw (h:n<=sizeLine):Builtin.List.listTooLong n=false:=by unfold Builtin.List.listTooLong;exact decide_eq_false (by omega)
end
section
def Fy:V->List V->Hp->VK->Prop:=λx vs H Q=>∃l xs y,x=.ref l/\vs=[y]/\H l=some (.lst xs)/\xs.length<sizeLine/\Q .non (upd H l (.lst (xs++[y])))
theorem mG:MtM X "list.append" Fy:=by intro pins s σ H x vs v us Q I c f h;obtain⟨l,xs,y,rfl,rfl,b,hz,q⟩:=h;cases c;obtain⟨u,rfl,g⟩:=f.one;obtain⟨z,a,n,r,hl,e⟩:=I.lstM b;refine call_meets F.slot_list_append ⟨_,e,rfl⟩ F.entry_list_append (F.args_list_append_2 _ _) (PySem.list_append l a.toArray n u (by rw[Lz];omega)) ⟨e,?_⟩;refine⟨.non,_,I.lset (its':=a++[u]) b e (by simp) (r.append (.cons g .nil)) ?_,rfl,q⟩;rw[LB,M7];omega
def GX:V->List V->Hp->VK->Prop:=λx vs H Q=>∃l xs i k y,x=.ref l/\vs=[.int i]/\H l=some (.lst xs)/\-(2 ^ 63)<=i/\i<2 ^ 63/\seqIndex? i xs.length=some k/\xs[k]?=some y/\Q y (upd H l (.lst (xs.eraseIdx k)))
theorem CJ:MtM X "list.pop" GX:=by
 intro pins s σ H x vs v us Q I f g h;obtain⟨l,xs,i,k,y,rfl,rfl,c,h1,h2,j,m,q⟩:=h;cases f;obtain⟨u,rfl,o⟩:=g.one;obtain⟨t,rfl⟩:=o;obtain⟨z,a,n,r,hl,e⟩:=I.lstM c;obtain⟨w,hw,b⟩:=r.get m;refine call_meets F.slot_list_pop ⟨_,e,rfl⟩ F.entry_list_pop (F.args_list_pop_2 _ _)
  (MeetsSeq.list_pop_at l a.toArray n i t k w (fitsIndex_both h1 h2) (by rw[Lz,<-hl];exact j) (by rw[<-Nh];exact hw) (by rw[Lz];omega)) ⟨e,?_⟩
 refine⟨y,_,I.lset (its':=a.eraseIdx k) c e ?_ (r.eraseIdx k) ?_,b,q⟩
 ·show a.toArray.eraseIdxIfInBounds k=(a.eraseIdx k).toArray;rw[List.eraseIdxIfInBounds_toArray]
 ·have:=qX xs k;omega
def Js:R2:=λx y H Q=>∃l b xs zs,x=.ref l/\y=.ref b/\H l=some (.lst xs)/\H b=some (.lst zs)/\xs.length+zs.length<=sizeLine/\∀p,H p=none->Q (.ref p) (upd H p (.lst (xs++zs)))
theorem Hr:OpR X (binaryOp .Add) Js:=by
 intro pins s σ H x y v u Q I f g h;obtain⟨l,b,xs,zs,rfl,rfl,i,hB,hz,q⟩:=h;cases f;cases g;obtain⟨z,c,n,r,hl,e⟩:=I.lstM i;obtain⟨z2,a,n2,j,hl2,e2⟩:=I.lstM hB;refine PySem.P.add_list e e2 ?_ (by rw[Lz,Lz];omega);have ea:c.toArray++a.toArray=(c++a).toArray:=by simp
 rw[ea];exact⟨.ref _,_,I.lnew (t':=s.toks) (r.append j) (by rw[LB];omega),rfl,q _ I.fresh⟩
def JV:R2:=λx y H Q=>∃l k xs,x=.ref l/\y=.int k/\H l=some (.lst xs)/\-(2 ^ 63)<=k/\k<2 ^ 63/\xs.length*k.toNat<=sizeLine /\
 ∀p,H p=none->Q (.ref p) (upd H p (.lst (List.replicate k.toNat xs).flatten))
theorem len_rep (xs:List α) (k:Nat):(List.replicate k xs).flatten.length=k*xs.length:=by
 induction k with
 |zero=>simp
 |succ k ih=>rw[Mo,Mu,LB,ih,Nat.succ_mul,Nat.add_comm]
theorem GQ:OpR X (binaryOp .Mult) JV:=by
 intro pins s σ H x y v u Q I o p h;obtain⟨l,k,xs,rfl,rfl,w,h1,h2,j,q⟩:=h;cases o;obtain⟨t,rfl⟩:=p;obtain⟨z,b,n,r,hl,e⟩:=I.lstM w;have hlen:b.toArray.size*k.toNat<=sizeLine:=by rw[Lz,<-hl];exact j
 have f:¬ b.toArray.size*k.toNat>(2 ^ 63-1) / 8:=by
  have:(sizeLine:Nat)<=(2 ^ 63-1) / 8:=by decide
  omega
 have g:¬ (!Builtin.List.listFitsIndex k)=true:=by rw[fitsIndex_both h1 h2];exact LK
 have c:¬ Builtin.List.listTooLong (b.toArray.size*k.toNat)=true:=by rw[Bw hlen];exact LK
 have i:List.foldl (λx1 x2=>x1++x2) #[] (List.replicate (if b.toArray.isEmpty=true then 0 else k.toNat) b.toArray)=(List.replicate k.toNat b).flatten.toArray:=by
  have A:∀m:Nat,List.foldl (λx1 x2=>x1++x2) #[] (List.replicate m b.toArray)=(List.replicate m b).flatten.toArray:=λm=>by have:=foldl_rep b m [];rw[M4]at this;exact this
  rw[A];cases b with
  |nil=>simp
  |cons a r'=>rw[if_neg (by simp)]
 refine wpAny_binaryOp_repeat_ref (T:="list") (U:="int") (by decide) ⟨_,e,rfl⟩ (λs'=>typeIs_int s' k t) noFill_list_mul F.fills_int_mul F.slot_int_rmul repeat_list F.slot_int_index.lookup
  (call_meets F.slot_int_rmul (typeIs_int s k t) F.entry_int_rmul (F.args_int_rmul_2 _ _) (int___rmul___int_list k t l b.toArray n)
   ⟨e,rfl,⟨_,e,rfl⟩,call_meets F.slot_list_mul ⟨_,e,rfl⟩ F.entry_list_mul (F.args_list_mul_2 _ _) (AutoListH.list___mul___list_int_3 l b.toArray n k t g f c) ⟨e,?_⟩⟩)
 rw[i];exact⟨.ref _,_,I.lnew (t':=s.toks) (r.rep k.toNat) (by rw[len_rep,Nat.mul_comm];exact j),rfl,q _ I.fresh⟩
end
section
variable {A:Around}
end
section
end
end L2
namespace Att
open PySem PySem.W PySem.Calls PyProof.Rows
theorem nF {P:Params}:∀(ns:List Int) (vs:List Value),WellAll P h vs (ns.map WData.int)->IntsAre vs ns:=by
 intro ns
 induction ns with
 |nil =>intro vs w;rw[Mr]at w;cases w;exact .nil
 |cons n ns ih =>
  intro vs w;rw[L4]at w;cases w with
  |cons a b =>cases a;exact .cons _ _ (ih _ b)
theorem Ah {l:OpenLaw} (hn:l.most=some n) {P:Params} {args:List WData} {vals:List Value}
  (b:l.row.toRowW.claim.pre args=true) (f:WellAll P h vals args) :
  ∃a vs ns,vals=[Value.ref a]/\args=[WData.list (ns.map WData.int)]/\h.get? a=some { cls:=.type "list",data:=.seq vs.toArray }/\IntsAre vs ns/\ns.length<=n:=by
 have g:WShape.hasAll [] args [.list .int]=true:=(pre_splitW b).1;have hc:l.pre.holds [] { args:=args }=true:=(pre_splitW b).2;obtain⟨d,r,rfl,h1,h2⟩:=hasAllW_cons g;obtain rfl:=hasAllW_nil h2;obtain⟨xs,rfl,i⟩:=hasW_list h1;obtain⟨ns,rfl⟩:=items_int i;have hlen:ns.length<=n:=by
  unfold OpenLaw.pre at hc;have c:(WTm.not (.lt (.lit (.int (n:Int))) (.len (.arg 0)))).holds [] { args:=[.list (ns.map .int)] }=true:=by have c:=(holds_andW hc).1;rw[hn]at c;exact c
  have e:=condW_of c (w_not (w_lt w_lit (w_len_list (w_arg rfl))));rw[L5]at e;refine Nat.le_of_not_lt λq=>?_
  have j:(n:Int)<((ns.length:Nat):Int):=by omega
  first
   |(rw[decide_eq_true j]at e;exact absurd e (by decide))
   |(simp at e;omega)
 cases f with
 |cons w1 w2 =>
  cases w2;cases w1 with
  |list ho hall=>exact⟨_,_,ns,rfl,rfl,ho,nF ns _ hall,hlen⟩
theorem zM (l:OpenLaw) (args:List WData):l.row.toRowW.claim.post args (.bool true) args=true :=
 postW_of (r:=l.row.toRowW) (X:=(true==true))
  (show WShape.has [] (.bool true) .bool=true by first|rfl|decide|simp[WShape.has,WShape.arms,WShape.armsAll])
  (show (WTm.eq .res (.lit (.bool true))).value [] { args:=args,res:=some (.bool true),after:=args }=some (.bool (true==true)) from w_eq_bool (w_res rfl) w_lit) rfl
theorem uJ {l:OpenLaw} {d:DefRec}
  (hn:l.most=some n) (h:d.params.defaults=[])
  (call:∀(w:World) (s₀ b:Shared) (mg i:Str->Option Value) (c:Addr) (o:Obj) (pm cd doc:Value) (a:Addr) (vs:List Value) (ns:List Int),
   Ground q loose [] XP w s₀ mg i b.heap->YP w b.heap ->
   b.heap.get? c=some o->o.data=.func (docDef d.name d.params d.body d.scope pm cd doc)->b.heap.CodeRec cd d.name->mg d.name=some (.ref c) ->
   b.heap.get? a=some { cls:=.type "list",data:=.seq vs.toArray }->IntsAre vs ns->ns.length<=n->b.gens=#[] ->
   codeAny (model l.prog w) callerA (.call (.ref c) ⟨[.ref a],[]⟩) (λr s'=>r=.ok (.ret (.bool true))/\OldK b.heap s'.heap/\s'.os=b.os/\AllBare s'.gens) b) :
  WalkO q loose XP YP l.row.toRowW d [] (λf vs=>PySem.call f vs):=by
 intro w s₀ b mg i G Y c o pm cd doc t kV u hd j s m v args vals as e hlay hrd p hlo;obtain rfl:t=.none:=Dflts.none s h;obtain rfl:kV=.none:=Dflts.noKw s;obtain⟨a,vs,ns,rfl,rfl,g,hints,hlen⟩:=Ah hn e p;refine enter_call (codeAny_mono (call w s₀ b mg i c o pm cd doc a vs ns G Y u (fd_plain hd) j m g hints hlen v) λr s' x=>?_);obtain⟨rfl,h2,y,z⟩:=x;exact⟨.inl ⟨.bool true,.bool true,[],rfl,λ_=>rfl,.bool true,zM l _,λ_=>⟨List.Pairwise.nil,λ_ hm=>(nomatch hm)⟩⟩,h2,y,z⟩
section
variable {A:Around} {K:Frag}
end
end Att
namespace L2
open PySem PySem.Spec PyProof.Rows
theorem rL:∀{vs:List Value} {ns:List Int},IntsAre vs ns->Vals (ns.map V.int) vs
 |_,_,.nil=>.nil
 |_,_,.cons n t h=>.cons ⟨t,rfl⟩ (rL h)
def Hm (H:Hp):Prop:=∀b,H b=none\/(∃o xs,H b=some (.frz o (.lst xs)))\/∃q,H b=some (.tbl q)
def mO (K:PySem.W.Frag) (h:Heap):Prop:=(∀P q,TabOf K P q->h.get? P=some { cls:=.none,data:=.fields #[] }/\K.lookup P=none/\isCodeTable h P)/\∀P q a,TabOf K P q->TabOf K P a->q=a
section
open Classical
def kq (K:PySem.W.Frag):Hp:=λb=>if h:∃q,TabOf K b q then some (.tbl h.choose) else none
theorem df (K:PySem.W.Frag) (b:Addr):kq K b=none\/∃q,TabOf K b q/\kq K b=some (.tbl q):=by
 unfold kq;split
 ·rename_i h;exact .inr ⟨_,h.choose_spec,rfl⟩
 ·exact .inl rfl
theorem sJ (a:mO K h) {P:Addr} {q:Str} (t:TabOf K P q):kq K P=some (.tbl q):=by
 rcases df K P with e|⟨b,t',e⟩
 ·unfold kq at e;rw[dif_pos ⟨q,t⟩]at e;cases e
 ·rw[e,a.2 P q b t t']
end
def mT (mg:Str->Option Value) (base:Heap):Prop:=∃bm o,mg "__builtins__"=some (.ref bm)/\bm≠builtinsNs/\bm≠mainGlobals/\base.get? bm=some o/\o.cls=.type "module"/\o.dict=some builtinsNs/\o.data=.plain
theorem law_call {O:Str->Option Value} {k:Nat} {Q:Addr} {c:Shared} {vs:List Value}
  (KX:K.In c.heap) (E:c.heap.Ns mainGlobals mg) (i:c.heap.Ns builtinsNs O) (R:∀x:Str,x≠"__name__"->O x=bootBuiltins x) (G:c.heap.NoLimit) (hg:c.gens=#[])
  (ha:c.heap.get? a=some { cls:=.type "list",data:=.seq vs.toArray }) (hi:IntsAre vs ns) (hl:ns.length<=sizeLine) (hr:bY k callerA)
  (S:mT mg c.heap) (F:∀base:Heap,K.In base->base.Ns mainGlobals mg->mT mg base->gj P w K mg base CX k Q fd [x] sp) (A:∀(s:Shared) (u:Value),BindsTo s fd ⟨[u],[]⟩ [(x,u)])
  (T:∀H:Hp,Hm H->SqL K H a (ns.map V.int)->sp [.ref a] H (λv _=>v=.bl true) λ_ _ _=>False)
  (U:∀H e s',CX [] H c (λ_ _ _=>False) e s'->False) (j:mO K c.heap) :
  codeAny (model P w) callerA (.call (.ref Q) ⟨[.ref a],[]⟩) (λr s'=>r=.ok (.ret (.bool true))/\OldK c.heap s'.heap/\s'.os=c.os/\AllBare s'.gens) c:=by
 have rv:=rL hi;have I:=hi.length
 -- from an abstract heap in which nothing but the script may be tracked
 have core:∀H:Hp,Hm H->SqL K H a (ns.map V.int)->HOk P w H c.heap->(∀b,H b≠none->b=a\/∃q,TabOf K b q)->(H a≠none->K.lookup a=none)->(∀P q,TabOf K P q->H P=some (.tbl q)) ->
   codeAny (model P w) callerA (.call (.ref Q) ⟨[.ref a],[]⟩) (λr s'=>r=.ok (.ret (.bool true))/\OldK c.heap s'.heap/\s'.os=c.os/\AllBare s'.gens) c:=by
  intro H hO hS hok N hK X;have f:∀{b:Addr} {o:Obj},c.heap.get? b=some o->H b=none->(qH c.heap H).get? b=some o:=λe n=>Di e n
  have Y:∀{b:Addr} {o:Obj} {es:Array DictEntry} {J:Nat},c.heap.get? b=some o->o.data=.dict es J->H b=none:=λ{b o es J} e d=>by
   cases q:H b with
   |none=>rfl
   |some u =>
    rcases N b (by rw[q];simp) with g|⟨B,g⟩
    case inr=>rw[(j.1 b B g).1]at e;cases e;cases d
    subst g;rw[ha]at e;cases e;have d':Data.seq vs.toArray _=Data.dict es J:=d;cases d'
  have l:∀{b:Addr} {m:Str->Option Value},c.heap.Ns b m->(qH c.heap H).Ns b m:=λ{b m} qz2=>(by obtain⟨o,es,J,e,d,r⟩:=qz2;exact⟨o,es,J,f e (Y e d),d,r⟩)
  have L:K.In (qH c.heap H):=λb o e=>f (KX b o e) (by
   cases q:H b with
   |none=>rfl
   |some u =>
    rcases N b (by rw[q];simp) with g|⟨B,g⟩
    case inr=>rw[(j.1 b B g).2.1]at e;cases e
    subst g;rw[hK (by rw[q];simp)]at e;cases e)
  have hM:Mod K mg (qH c.heap H):=⟨L,l E,⟨O,l i,R⟩,let ⟨mc,h1,h2⟩:=G;⟨mc,l h1,h2⟩⟩
  have e0:uc P w K mg (qH c.heap H) callerA [] c H:=⟨rfl,hM,λb o e=>FI e,Nat.le_of_eq (zV _ _),trivial,λb i=>absurd (show b∈([]:List Addr) from i) (by simp),hok,.of_eq hg,X⟩
  have Z:mT mg (qH c.heap H):=by
   obtain⟨bm,ob,b1,b2,b3,M,b5,b6,b7⟩:=S;refine⟨bm,ob,b1,b2,b3,f M ?_,b5,b6,b7⟩;cases q:H bm with
   |none=>rfl
   |some u =>
    rcases N bm (by rw[q];simp) with g|⟨B,g⟩
    case inr=>rw[(j.1 bm B g).1]at M;cases M;cases b5
    subst g;rw[ha]at M;cases M;simp at b5
  refine codeAny_mono ((F _ L (l E) Z).run callerA [] c H ⟨[.ref a],[]⟩ [.ref a] [.ref a] _ _ hr e0 (A c (.ref a)) (.cons rfl .nil) (T H hO hS)) λr s' h=>?_
  cases r with
  |error e=>exact (U H e s' h).elim
  |ok fl =>
   cases fl with
   |next=>exact False.elim h
   |brk=>exact False.elim h
   |cont=>exact False.elim h
   |ret u =>
    obtain⟨v,H',os,bare,un,p,r',q⟩:=h;have q':v=.bl true:=q;subst q';obtain rfl:u=Value.bool true:=r';have old:∀b o,c.heap.get? b=some o->s'.heap.get? b=some o\/(isCodeTable c.heap b/\o.cls=.none/\∃vs more,o.data=.fields vs/\s'.heap.get? b=some { o with data:=.fields (vs++more) }):=λb o e=>?old
    case old =>
     cases q:H b with
     |none=>exact .inl <|un.keep b o e q (by intro z;exact absurd (show b∈([]:List Addr) from z) (by simp)) (by simp)
     |some u =>
      rcases hO b with z|⟨ob,xs,z⟩|⟨B,z⟩
      ·rw[q]at z;cases z
      ·have z2:=un.frzs b ob _ z;obtain⟨e1,_⟩:=hok b _ z;obtain⟨e2,_⟩:=p b _ z2;rw[e]at e1;cases e1;exact .inl e2
      ·have z2:=un.tbls b B z;obtain⟨ps,e2,_⟩:=p b _ z2;rcases N b (by rw[z];simp) with g|⟨q2,g⟩
       ·obtain⟨ps0,D,_⟩:=hok b _ z;rw[g]at D;rw[ha]at D;cases D
       ·obtain⟨D,_,e4⟩:=j.1 b q2 g;rw[e]at D;cases D;exact .inr ⟨e4,rfl,#[],ps,rfl,by simpa using e2⟩
    exact⟨rfl,⟨λb o e=>(old b o e).imp id λz=>.inl z,λb o e=>by rcases old b o e with z|⟨_,_,_,_,_,z⟩ <;> exact⟨_,z⟩⟩,os,bare⟩
 have tok:∀b q,TabOf K b q->dh P w (λ_=>none) c.heap b (.tbl q):=λb q t=>⟨#[],(j.1 b q t).1,trivial,λpos cv z=>nomatch z⟩
 have y:∀(H:Hp) b q,TabOf K b q->dh P w H c.heap b (.tbl q):=λH b q t=>⟨#[],(j.1 b q t).1,trivial,λpos cv z=>nomatch z⟩
 have na:∀q,¬ TabOf K a q:=λq t=>by have:=(j.1 a q t).1;rw[ha]at this;cases this
 cases hk:K.lookup a with
 |some o =>
  have e:=KX a o hk;rw[ha]at e;cases e;refine core (kq K) (λb=>(df K b).imp id λC=>(by obtain⟨q,_,e⟩:=C;exact .inr ⟨q,e⟩)) (.inr ⟨_,vs.toArray,_,hk,rfl,rfl,rfl,by rw[Lz,I];exact hl,by simpa using rv⟩) (λb u z=>?_) (λb z=>?_) (λz=>?_) λP q t=>sJ j t
  ·rcases df K b with e|⟨q,t,e⟩
   ·rw[z]at e;cases e
   ·rw[z]at e;cases e;exact y _ b q t
  ·rcases df K b with e|⟨q,t,e⟩
   ·exact absurd e z
   ·exact .inr ⟨q,t⟩
  ·rcases df K a with e|⟨q,t,e⟩
   ·exact absurd e z
   ·exact absurd t (na q)
 |none =>
  have eT:∀b,b≠a->(λb=>if b=a then some (HO.frz { cls:=.type "list",data:=.seq vs.toArray } (.lst (ns.map V.int))) else kq K b) b=kq K b:=λb h=>if_neg h
  have eA:(λb=>if b=a then some (HO.frz { cls:=.type "list",data:=.seq vs.toArray } (.lst (ns.map V.int))) else kq K b) a=some (HO.frz { cls:=.type "list",data:=.seq vs.toArray } (.lst (ns.map V.int))):=if_pos rfl;refine core (λb=>if b=a then some (.frz { cls:=.type "list",data:=.seq vs.toArray } (.lst (ns.map V.int))) else kq K b) (λb=>?_) (.inl (.inr ⟨{ cls:=.type "list",data:=.seq vs.toArray },if_pos rfl⟩)) (λb u z=>?_) (λb z=>?_) (λ_=>hk) λP q t=>?_
  ·by_cases i:b=a
   ·exact .inr (.inl ⟨_,_,if_pos i⟩)
   ·rw[eT b i];exact (df K b).imp id λC=>(by obtain⟨q,_,e⟩:=C;exact .inr ⟨q,e⟩)
  ·by_cases i:b=a
   ·subst i;rw[eA]at z;cases z;exact⟨ha,by rw[L5];exact hl,vs,_,rv,ha⟩
   ·rw[eT b i]at z;rcases df K b with e|⟨q,t,e⟩
    · rw[z]at e;cases e
    · rw[z]at e;cases e;exact y _ b q t
  ·by_cases i:b=a
   ·exact .inl i
   ·rcases df K b with e|⟨q,t,e⟩
    · exact absurd ((if_neg i).trans e) z
    · exact .inr ⟨q,t⟩
  ·exact (if_neg (λz=>na q (by rw[<-z];exact t))).trans (sJ j t)
abbrev KOf {K:PySem.W.Frag} {h:Heap} (_:K.In h):PySem.W.Frag:=K
theorem yf {l:PySem.W.OpenLaw} {k:Nat} {d:DefRec} {K:Params->PySem.W.Frag} {CX:World->CXT} {sp:World->Sp}
  (hn:l.most=some n) (r:n<=sizeLine) (t:d.params.defaults=[]) (I:bY k callerA)
  (J:∀(w:World) (h:Heap),YP w h->(K w.params).In h)
  (F:∀(w:World) (mg:Str->Option Value) (p:Addr) (h:Heap),(K w.params).In h->h.Ns mainGlobals mg->mg d.name=some (.ref p) ->
   ∃fd:FuncData,(∀(s:Shared) (u:Value),BindsTo s fd ⟨[u],[]⟩ [(x,u)]) /\
    ∀base:Heap,(K w.params).In base->base.Ns mainGlobals mg->mT mg base->gj l.prog w (K w.params) mg base (CX w) k p fd [x] (sp w))
  (y:∀(w:World) (H:Hp) (a:Addr) (ns:List Int),ns.length<=n->Hm H->SqL (K w.params) H a (ns.map V.int)->sp w [.ref a] H (λv _=>v=.bl true) λ_ _ _=>False)
  (A:∀(w:World) (H:Hp) (s:Shared) (e:Value) (s':Shared),CX w [] H s (λ_ _ _=>False) e s'->False) (B:∀(w:World) (h:Heap) (c:List Str) (i:ExcName->Option Value) (mg E:Str->Option Value),PyProof.Rows.Top q c i mg E h->(K w.params).In h->mO (K w.params) h) :
  PySem.W.WalkO q loose XP YP l.row.toRowW d [] (λf vs=>PySem.call f vs):=by
 refine Att.uJ hn t λw s₀ j mg E p o pm cd doc a vs ns G Y ho hd hcd C m hints hlen L=>?_
 have D:=J w _ Y;obtain⟨fd,N,O⟩:=F w mg p _ D G.T.g C;exact law_call D G.T.g G.T.b G.T.builtins G.T.nolimit L m hints (Mb hlen r) I (by obtain⟨bm,P,M⟩:=PySem.W.bmod_of_top G.T;exact⟨bm,P,M.name,M.ne,(λz=>by obtain⟨o,es,ep,e1,e2,_⟩:=M.ns;rw[<-z,M.obj]at e1;cases e1;rw[M.data]at e2;cases e2),M.obj,M.cls,M.dict,M.data⟩) O N (λH Q R=>y w H a ns hlen Q R) (λH e s'=>A w H j e s') (B w _ _ _ _ _ G.T D)
def inClass (s:Stmt) (j:Nat):Stmt:=match s with
 |.ClassDef _ _ _ body _ _ _ _ _ _ _=>body.getD j (.Pass ⟨0,0,0,0⟩)
 |_=>.Pass ⟨0,0,0,0⟩
def ff (s:Stmt):Arguments:=match s with
 |.FunctionDef _ a _ _ _ _ _ _ _ _=>a
 |_=>{ posonlyargs:=[],args:=[],vararg:=none,kwonlyargs:=[],kw_defaults:=[],kwarg:=none,defaults:=[] }
def b0 (s:Stmt):List Stmt:=match s with
 |.FunctionDef _ _ b _ _ _ _ _ _ _=>b
 |_=>[]
def aB (s:Stmt):Scope:=match s with
 |.FunctionDef _ _ _ _ _ _ sc _ _ _=>sc
 |_=>{ kind:=.function,names:=[],isGenerator:=false,isCoroutine:=false }
abbrev CX0:CXT:=λ_ _ _ _ _ _=>False
abbrev E0:XK:=λ_ _ _=>False
theorem Kh:Passes CX0 X E0:=λ_ _ _ _ _ _ _ h=>h.elim
structure Fun (K:PySem.W.Frag) (x qual:Str) (st:Stmt) (f:Addr) (fd:FuncData):Prop where
 ex:∃(oc:Value) (od:Option Addr) (kV doc pm:Value) (an:Option Addr) (cdv ct:Value) (osl:Array (Option Value)),
  fd=PySem.W.fnOf x qual (ff st) (b0 st) (aB st) .none kV doc pm an cdv ct/\K.lookup f=some ⟨oc,od,.func fd,osl⟩/\PySem.W.codeIn K cdv qual=true
 kp:PySem.W.keepIn K (.ref f)=true
section
theorem Fun.ok {k:Nat} (F:Fun K x qual st f fd) (S:cR N ps (aB st)) (len:∀vs H Q E,sp vs H Q E->vs.length=ps.length)
  (a:∀(cdv:Value) (A:Around) (outer:List Env) (s:Shared) (H:Hp) (vs:List V) (Q:VK) (E:XK),bY k (A.deeper (envOfC qual (aB st) s.heap.objs.size f cdv))->sp vs H Q E ->
   ∃t,PSs (cU CX0 P w K mg base N qual (aB st) f cdv A outer s H E).nox (b0 st) t/\t { nx:=λ_ H'=>Q .non H',rt:=Q } (start N vs) H):gj P w K mg base CX0 (k+1) f fd ps sp:=by
 obtain⟨oc,od,kV,doc,pm,an,cdv,ct,osl,rfl,e,b⟩:=F.ex;refine CU e b S len λA outer s H vs Q E g c=>?_
 obtain⟨t,h,q⟩:=a cdv A outer s H vs Q E g c;exact⟨t,h.nox,q⟩
theorem Fun.binds (F:Fun K x qual st f fd)
  (h:∀(kV doc pm:Value) (an:Option Addr) (cdv ct:Value) (us:List Value),us.length=ps.length->bindArgs (PySem.W.fnOf x qual (ff st) (b0 st) (aB st) .none kV doc pm an cdv ct) ⟨us,[]⟩=pure (ps.zip us)):Binds K fd ps []:=by
 obtain⟨oc,od,kV,doc,pm,an,cdv,ct,osl,rfl,lk,hcd⟩:=F.ex;exact .all (h kV doc pm an cdv ct)
theorem xD {kV doc cdv:Value} (l:K.lookup f=some ⟨oc,od,.func (PySem.W.fnOf x qual (ff st) (b0 st) (aB st) .none kV doc pm an cdv ct),osl⟩)
 (c:PySem.W.codeIn K cdv qual=true) (k:PySem.W.keepIn K (.ref f)=true):Fun K x qual st f (PySem.W.fnOf x qual (ff st) (b0 st) (aB st) .none kV doc pm an cdv ct):=⟨⟨oc,od,kV,doc,pm,an,cdv,ct,osl,rfl,l,c⟩,k⟩
end
section
theorem pv (i:Nat) (b:X.N[i]?=some x:=by rfl) (hv:Vis X.env.scope x:=by first|exact Or.inl rfl|exact Or.inr (Or.inl rfl)|exact Or.inr (Or.inr rfl)) (hd:(x==("__debug__":Str))=false:=by decide)
 (a:(x==("__classdict__":Str))=false:=by decide):PE X (.Name x pos) (Ko i):=kK b hv hd a
end
theorem JP {c A B:Prop} [Decidable c] (h1:c->A) (h2:¬ c->B):if c then A else B:=by
 by_cases h:c
 ·rw[if_pos h];exact h1 h
 ·rw[if_neg h];exact h2 h
def av (H H':Hp):Prop:=∀b o,H b=some o->H' b=some o
theorem av.refl (H:Hp):av H H:=λ_ _ h=>h
theorem av.trans {H2:Hp} (a:av H H1) (b:av H1 H2):av H H2:=λc o h=>b c o (a c o h)
theorem av.free (e:av H H') {l:Addr} (h:H' l=Option.none):H l=Option.none:=by
 cases q:H l with
 |none=>rfl
 |some o =>rw[e l o q]at h;cases h
theorem av.seq (e:av H H') (h:SqL K H a xs):SqL K H' a xs:=by
 rcases h with (h|⟨o,h⟩)|h
 ·exact .inl (.inl (e _ _ h))
 ·exact .inl (.inr ⟨o,e _ _ h⟩)
 ·exact .inr h
end L2
set_option maxHeartbeats 4000000
namespace L2
open PySem PySem.Spec PyProof.Rows
variable {es:List Expr} {t:Addr} {f:PyData->PyData->Option PyData} {g:TG} {E:XK}
def rB (CX:CXT) (P:Program) (w:World) (K:PySem.W.Frag) (mg:Str->Option Value) (base:Heap) (N:List Str) (qual:Str) (scope:Scope) (f:Addr) (cd:Value) (cl:List (Str×Addr)) (A:Around) (outer:List Env) (s:Shared) (H:Hp) (E:XK):Cx where
 prog:=P
 w:=w
 K:=K
 mg:=mg
 base:=base
 A:=A.deeper (PySem.W.envX qual scope s.heap.objs.size f cd cl)
 N:=N
 s₀:=s
 H₀:=H
 env:=PySem.W.envX qual scope s.heap.objs.size f cd cl
 outer:=outer
 stack:=PySem.W.envX qual scope s.heap.objs.size f cd cl::outer
 ex:=[]
 calm:=true
 fn:=λ_=>false
 pn:=[]
 xe:=λe s'=>wpAny (model P w) (A.deeper (PySem.W.envX qual scope s.heap.objs.size f cd cl)) (leaving (PySem.W.envX qual scope s.heap.objs.size f cd cl) e) (λ_ a=>CX outer H s E e a) (λb a=>CX outer H s E b a) s'
theorem rm {α:Type} {y:Str} {u:α}:∀{l:List (Str×α)},(l.map (·.1)).Nodup->(y,u)∈l->l.lookup y=some u
 |[],_,h=>by cases h
 |(z,w)::l,nd,h=>by
  rw[LU];rw[L4,M3]at nd;rcases L7.mp h with h|h
  ·cases h;simp
  ·have m:y∈l.map (·.1):=List.mem_map_of_mem (f:=(·.1)) h;have:y≠z:=λq=>nd.1 (by subst q;exact m)
   rw[show (y==z)=false by simpa using this];exact rm nd.2 h
theorem zJ {y:Str} {u:α} {us:List α} (nd:ps.Nodup) (hl:us.length=ps.length) (h1:ps[i]?=some y) (h2:us[i]?=some u):(ps.zip us).reverse.lookup y=some u:=by
 refine rm ?_ ?_
 ·rw[List.map_reverse,List.map_fst_zip (by omega)];exact (List.reverse_perm ps).symm.nodup nd
 ·rw[List.mem_reverse];refine M1 (i:=i) ?_;rw[List.getElem?_zip_eq_some];exact⟨h1,h2⟩
structure lr (N ps:List Str) (sc:Scope):Prop where
 kind:sc.kind=.function
 co:sc.isCoroutine=false
 gen:sc.isGenerator=false
 nd:N.Nodup
 pre:N.take ps.length=ps
 par:∀x∈ps,sc.names.lookup x=some .local
 nocell:∀x∈sc.names,x.2≠.cell
structure G5 (s:Shared) (H:Hp) (cl:List (Str×Addr)) (sc:Scope) (N:List Str) (n:Nat) (ws:List (Option V)):Prop where
 inj:∀x y c,cl.lookup x=some c->cl.lookup y=some c->x=y
 has:∀x,sc.names.lookup x=some .free->∃c,cl.lookup x=some c
 cell:∀x c,cl.lookup x=some c->∃v,s.heap.IsCell c v
 free:∀x c,cl.lookup x=some c->H c=none
 len:N.length=n+ws.length
 val:∀(i:Nat) (x:Str) (v:V),N[n+i]?=some x->ws[i]?=some (some v)->∃u c,RelV v u/\sc.names.lookup x=some .free/\cl.lookup x=some c/\s.heap.IsCell c (some u)
theorem Ex {f:Addr} {A:Around} {h1:Heap} {tk:Nat}
  (S:lr N ps scope) (hd:A.handled=none) (g:uc P w K mg base A outer s H) (hl:vs.length=ps.length) (r:Vals vs us) (C:G5 s H cl scope N ps.length ws)
  (t:h1.Ns s.heap.objs.size (λx=>(ps.zip us).reverse.lookup x)) (B:∀b o,s.heap.get? b=some o->h1.get? b=some o) :
  Inv (rB CX P w K mg base N qual scope f cd cl A outer s H E) [] (vs.map some++ws) H { s with heap:=h1,toks:=tk }:=by
 have j:∀b:Addr,b∉(rB CX P w K mg base N qual scope f cd cl A outer s H E).ex:=λb z=>absurd (show b∈([]:List Addr) from z) (by simp)
 have G:∀c v,s.heap.IsCell c v->h1.IsCell c v:=λc v q=>by obtain⟨o,e,d⟩:=q;exact⟨o,B _ _ e,d⟩
 refine⟨⟨g.mod,S.kind,rfl,rfl,L9 _,λy z c h1 h2=>C.inj y z c h1 h2,λy m=>?_,λy c z _=>(by cases z),λ_=>hd,Around.frames_deeper g.frames,.inr ⟨rfl,rfl⟩,λb z=>absurd z (j b),g.bs,g.bsz,λb _ _=>j b,λb z=>absurd z (j b),g.funs,g.frf⟩,
  rfl,g.bare,Un.kept B,⟨_,t,λi y v h1 h2 h3=>?_⟩,λy c h=>?_,g.hok.fresh (L9 _),λy c h=>C.free y c h,λp n=>absurd (show p∈([]:List (Addr×Obj)) from n) (by simp),g.hok.kept B,?_,g.tab⟩
 ·have m:scope.names.lookup y=some .cell\/scope.names.lookup y=some .free:=m;rcases m with m|m
  ·exact absurd rfl (S.nocell _ (PySem.mem_of_lookup m))
  ·exact C.has y m
 ·have h1:N[i]?=some y:=h1;by_cases hi:i<vs.length
  ·have ha:vs[i]?=some v:=by
    rw[LP (by simpa using hi),LG]at h2;cases e:vs[i]? with
    |none=>rw[e]at h2;cases h2
    |some a=>rw[e]at h2;cases h2;rfl
   obtain⟨u,I,D⟩:=r.get ha;have n:ps[i]?=some y:=by rw[<-S.pre,List.getElem?_take_of_lt (by omega)];exact h1
   have F:ps.Nodup:=by rw[<-S.pre];exact S.nd.sublist (List.take_sublist _ _)
   refine⟨u,D,.inl ⟨S.par y (M1 n),?_⟩⟩;exact zJ F (by rw[<-r.length,hl]) n I
  ·rw[LS (by simpa using hi),L5]at h2;have e:N[ps.length+(i-vs.length)]?=some y:=by rw[<-hl,Nat.add_sub_cancel' (by omega)];exact h1
   obtain⟨u,c,D,k,l,q⟩:=C.val _ _ _ e h2;exact⟨u,D,.inr ⟨.inr k,c,l,G _ _ q⟩⟩
 ·obtain⟨v,q⟩:=C.cell y c h;exact⟨v,G _ _ q⟩
 ·show _=N.length;rw[LB,L5,hl,C.len]
theorem FQ {k:Nat} {name:Str} {f c':Addr} {h:Value} {A:Around} {Q:VK} {t:TE}
  (S:lr N ps scope) (p:bY (k+1) A) (j:uc P w K mg base A outer s H) (hl:vs.length=ps.length) (r:Vals vs us) (C:G5 s H cl scope N ps.length ws)
  (x:s.heap.get? f=some (PySem.W.kla_obj name qual params body scope cl pm c' h)) (l:s.heap.CodeRec (.ref c') qual)
  (z:bindArgs (PySem.W.kla_fn name qual params body scope cl pm (.ref c') h) ⟨us,[]⟩=pure (ps.zip us))
  (c:PE (rB CX P w K mg base N qual scope f (.ref c') cl A outer s H E) body t) (B:t (vs.map some++ws) H Q) :
  codeAny (model P w) A (.call (.ref f) ⟨us,[]⟩) (CR CX outer P w H s Q E) s:=by
 have lim:s.heap.NoLimit:=j.mod.nolimit.keeps λb o e=>(j.bs b o e).1
 refine PySem.W.kla_callFunE p.depth x rfl S.co S.gen rfl l ?_;rw[z];refine wpAny_pure (wpAny_newFunctionEnv S.nocell (λy D=>S.par y.1 (N5 (a:=y.1) (b:=y.2) D).1) (λh₁ m i=>⟨lim.fresh _ i,?_⟩) S.kind);have g:∀b o,s.heap.get? b=some o->h₁.get? b=some o:=λb o e=>i.extBut b o (LC (Ly e)) (L1 _ e)
 have I:=Ex (CX:=CX) (qual:=qual) (f:=f) (cd:=.ref c') (E:=E) (tk:=s.toks+(ps.zip us).length) S p.hd j hl r C m g;exact PySem.W.kla_codeExpr (wpAny_mono (c [] _ _ H Q I B) (λu s' n=>(by obtain⟨v,H',J,F,q⟩:=n;exact⟨v,H',J.os,J.bare,J.base,J.hok,F,q⟩)) λ_ _ y=>y)
def mI:List (Str×NameKind)->List (Str×Addr)->List (Str×Addr)->List (Str×Addr)
 |[],_,acc=>acc
 |(n,k)::r,cells,acc=>mI r cells (if k==.free then (match cells.lookup n with|some c=>(n,c)::acc|none=>acc) else acc)
theorem i5 (env:Env):∀(names:List (Str×NameKind)) (acc:List (Str×Addr)),(∀y∈names,y.2=.free->∃c,env.cells.lookup y.1=some c) ->
  (forIn names acc (λ(x:Str×NameKind) (cs:List (Str×Addr))=>match x with
   | (name,kind)=>if (kind==NameKind.free)=true then do let c <-cellOf env name;pure (ForInStep.yield ((name,c)::cs)) else pure (ForInStep.yield cs)):Sem (List (Str×Addr)))=pure (mI names env.cells acc)
 |[],acc,_=>rfl
 |(n,k)::r,acc,h=>by
  rw[N7];have b:∀y∈r,y.2=.free->∃c,env.cells.lookup y.1=some c:=λy g=>h y (L3 _ g)
  dsimp only[mI];by_cases hk:k=.free
  ·subst hk;obtain⟨c,hc⟩:=h (n,.free) L6 rfl;have a:env.cells.lookup n=some c:=hc;have e:cellOf env n=pure c:=by unfold cellOf;rw[a]
   rw[if_pos (show (NameKind.free==NameKind.free)=true by decide),if_pos (show (NameKind.free==NameKind.free)=true by decide),e,a];exact i5 env r ((n,c)::acc) b
  ·have f:¬ (k==NameKind.free)=true:=by simpa using hk
   rw[if_neg f,if_neg f];exact i5 env r acc b
theorem jd (h:∀y∈scope.names,y.2=.free->∃c,env.cells.lookup y.1=some c):closureFor scope env=pure (mI scope.names env.cells []):=by have e:=i5 env scope.names [] h;unfold closureFor;rw[<-bind_pure (forIn scope.names [] _)]at e;exact e
theorem oZ:∀(names:List (Str×NameKind)) (cells acc:List (Str×Addr)) (x:Str) (c:Addr),(∀x c,acc.lookup x=some c->cells.lookup x=some c)->(mI names cells acc).lookup x=some c->cells.lookup x=some c
 |[],_,_,x,c,h,e=>h x c e
 |(n,k)::r,cells,acc,x,c,h,e=>by
  refine oZ r cells _ x c (λy d a=>?_) e;split at a
  ·split at a
   ·rename_i c' b;rw[LU]at a;by_cases hyn:(y==n)=true
    ·rw[hyn]at a;have f:y=n:=eq_of_beq hyn;subst f;cases a;exact b
    ·have:(y==n)=false:=by simpa using hyn
     rw[this]at a;exact h y d a
   ·exact h y d a
  ·exact h y d a
theorem rZ:∀(names:List (Str×NameKind)) (cells acc:List (Str×Addr)) (x:Str),(∃c,acc.lookup x=some c)->∃c,(mI names cells acc).lookup x=some c
 |[],_,_,_,h=>h
 |(n,k)::r,cells,acc,x,h=>by
  refine rZ r cells _ x ?_;split
  ·split
   ·rw[LU];cases (x==n)
    ·exact h
    ·exact⟨_,rfl⟩
   ·exact h
  ·exact h
theorem kY:∀(names:List (Str×NameKind)) (cells acc:List (Str×Addr)) (x:Str) (c:Addr),(x,NameKind.free)∈names->cells.lookup x=some c->∃c,(mI names cells acc).lookup x=some c
 |[],_,_,_,_,h,_=>by simp at h
 |(n,k)::r,cells,acc,x,c,h,e=>by
  rcases L7.mp h with h|h
  ·injection h with h1 h2
   subst h1;subst h2;refine rZ r cells _ x ?_;rw[if_pos (by decide),e];exact⟨c,by simp[LU]⟩
  ·exact kY r cells _ x c h e
def blk (X:Cx) (M:List Str) (scope:Scope) (own:List Str) (C:Addr) (s2:Shared) (H2:Hp) (fp:List Addr):Cx where
 prog:=X.prog
 w:=X.w
 K:=X.K
 mg:=X.mg
 base:=X.base
 A:=X.A
 N:=M++own
 s₀:=s2
 H₀:=H2
 env:=compEnvC scope (mI scope.names X.env.cells []) C X.env
 outer:=X.stack
 stack:=X.stack
 ex:=fp
 fn:=λ_=>false
 calm:=X.calm
 pn:=[]
 xe:=λ_ _=>False
structure jP (X:Cx) (M:List Str) (scope:Scope) (own:List Str):Prop where
 kind:scope.kind=.function
 nocell:∀y∈scope.names,y.2≠.cell
 names:∀y∈scope.names,y.2=.local->scope.names.lookup y.1=some .local
 free:∀y∈scope.names,y.2=.free->Vis X.env.scope y.1/\X.env.scope.names.lookup y.1≠some .local
 own:∀x∈own,scope.names.lookup x=some .local
 outer:∀p∈X.N.zip M,(p.1=p.2/\scope.names.lookup p.2≠some .local)\/scope.names.lookup p.2=none
 len:M.length=X.N.length
def sC (N M:List Str) (a scope:Scope) (own:List Str):Bool :=
 (scope.kind==.function)&&scope.names.all (λy=>y.2 != .cell)&&scope.names.all (λy=>y.2 != .local||scope.names.lookup y.1==some .local) &&
 scope.names.all (λy=>y.2 != .free||(a.names.lookup y.1==some .cell||a.names.lookup y.1==some .free)) &&
 own.all (λx=>scope.names.lookup x==some .local)&&(N.zip M).all (λp=>(p.1==p.2&&scope.names.lookup p.2 != some .local)||scope.names.lookup p.2==none)&&(M.length==N.length)
theorem jP.of (h:sC X.N M X.env.scope scope own=true):jP X M scope own:=by
 unfold sC at h;simp only[L8,LD,Bool.or_eq_true,bne_iff_ne,beq_iff_eq,ne_eq]at h;obtain⟨⟨⟨⟨⟨⟨h1,h2⟩,b⟩,c⟩,f⟩,g⟩,i⟩:=h;refine⟨h1,h2,λy a e=>(b y a).resolve_left λz=>z e,λy a e=>?_,f,g,i⟩;rcases (c y a).resolve_left λz=>z e with q|q
 ·exact⟨.inr (.inl q),by rw[q];intro z;cases z⟩
 ·exact⟨.inr (.inr q),by rw[q];intro z;cases z⟩
theorem dZ {env:Env}:∀{names:List (Str×NameKind)} {x:Str} {k:NameKind},
  (names.map λ(n,k)=>if (k==NameKind.free&&env.scope.kind==.function&&env.kindOf n==some .cell) then (n,NameKind.cell) else (n,k)).lookup x=some k->(k=.cell\/k=.free)->(∀y∈names,y.2≠.cell)->(x,NameKind.free)∈names
 |[],_,_,h,_,_=>by simp at h
 |(n,k')::r,x,k,h,a,hn=>by
  have b:∀y∈r,y.2≠NameKind.cell:=λy c=>hn y (L3 _ c)
  rw[L4,LU]at h;by_cases hc:(k'==NameKind.free&&env.scope.kind==.function&&env.kindOf n==some .cell)=true
  ·have f:k'=.free:=by have:=hc;simp only[L8]at this;exact eq_of_beq this.1.1
   simp only[if_pos hc]at h;cases hx:x==n with
   |true =>have:x=n:=eq_of_beq hx;subst this;subst f;exact L6
   |false =>rw[hx]at h;exact L3 _ (dZ h a b)
  ·simp only[if_neg hc]at h;cases hx:x==n with
   |true =>
    rw[hx]at h;have e:k'=k:=Option.some.inj h;have:x=n:=eq_of_beq hx;subst this;subst e;rcases a with a|a
    ·exact absurd a (hn _ L6)
    ·subst a;exact L6
   |false =>rw[hx]at h;exact L3 _ (dZ h a b)
theorem d6 {env:Env}:∀{names:List (Str×NameKind)} {x:Str} {k:NameKind},
  (names.map λ(n,k)=>if (k==NameKind.free&&env.scope.kind==.function&&env.kindOf n==some .cell) then (n,NameKind.cell) else (n,k)).lookup x=some k->(∃k0,names.lookup x=some k0/\(k=k0\/(k=.cell/\k0=.free)))
 |[],_,_,h=>by simp at h
 |(n,k')::r,x,k,h=>by
  rw[L4,LU]at h;rw[LU];by_cases hc:(k'==NameKind.free&&env.scope.kind==.function&&env.kindOf n==some .cell)=true
  ·have a:k'=.free:=by have:=hc;simp only[L8]at this;exact eq_of_beq this.1.1
   simp only[if_pos hc]at h;cases hx:x==n with
   |true =>rw[hx]at h;exact⟨k',rfl,.inr ⟨(Option.some.inj h).symm,a⟩⟩
   |false =>rw[hx]at h;exact d6 h
  ·simp only[if_neg hc]at h;cases hx:x==n with
   |true =>rw[hx]at h;exact⟨k',rfl,.inl (Option.some.inj h).symm⟩
   |false =>rw[hx]at h;exact d6 h
section
variable {H2:Hp} {s2:Shared}
theorem Inv.blk {h1:Heap} {t':Nat} (I:Inv X pins σ H2 s2) (B:jP X M scope own) (H:∀b∈fp,pU X pins H2 b) (J:∀b∈fp,b<s2.heap.objs.size)
  (A:D=s2.heap.objs.size) (G:C=s2.heap.objs.size+1) (hl:h1.get? D=some { cls:=.type "list",data:=.seq ([]:List Value).toArray 0 })
  (hn:h1.Ns C (λ_=>none)) (g:∀b o,s2.heap.get? b=some o->h1.get? b=some o) :
  Inv (L2.blk X M scope own C s2 H2 fp) [] (σ++List.replicate own.length none) (upd H2 D (.lst [])) { s2 with heap:=h1,toks:=t' }:=by
 have a:∀x c,(mI scope.names X.env.cells []).lookup x=some c->X.env.cells.lookup x=some c:=λx c e=>oZ _ _ _ _ _ (λ_ _ z=>by simp at z) e
 have K:∀x c,(mI scope.names X.env.cells []).lookup x=some c->c<s2.heap.objs.size:=λx c e=>by obtain⟨v,q⟩:=I.cell x c (a x c e);exact q.lt
 have n:H2 D=none:=I.hok.fresh (by rw[A];exact L9 _);have freeC:H2 C=none:=I.hok.fresh (by rw[G];exact N1 _);have L:C≠D:=by rw[G,A];exact Nat.succ_ne_self _
 have W:Un (frs X.stack) fp H2 (upd H2 D (.lst [])) s2.heap h1:=Un.laid g (by rw[A];exact L9 _) n;refine⟨⟨I.ok.mod,?_,I.ok.glob,I.ok.blt,?_,?_,?_,?_,I.ok.hd,I.ok.frames,.inl rfl,?_,I.bs,Mb I.ok.bsz I.sz,?_,?_,I.stack,I.stkFree⟩,rfl,I.bare,W,?_,?_,?_,?_,?_,?_,?_,λP q t=>W.tbls P q (I.tab P q t)⟩
 ·exact B.kind
 ·show s2.heap.objs.size<=C;rw[G];exact N1 _
 ·intro x y c e1 e2;exact I.ok.inj x y c (a x c e1) (a y c e2)
 ·intro x h;have hm:(x,NameKind.free)∈scope.names:=by
   rcases h with h|h
   ·exact dZ h (.inl rfl) B.nocell
   ·exact dZ h (.inr rfl) B.nocell
  obtain⟨hv,s⟩:=B.free _ hm rfl;have hh:X.env.kindOf x=some .cell\/X.env.kindOf x=some .free:=by
   rcases hv with z|z|z
   ·exact absurd z s
   ·exact .inl z
   ·exact .inr z
  obtain⟨c,e⟩:=I.ok.has x hh;exact kY _ _ _ x c hm e
 ·intro x c O _;exact absurd (show false=true from O) (by decide)
 ·intro b w;refine⟨?_,λx c e z=>?_⟩
  ·show b≠C;rw[G];exact LC (Mg (J b w))
  ·exact (H b w).2.2.2.2.1 x c (a x c e) z
 ·intro b o e w;obtain⟨_,_,_,f3,_⟩:=H b w;rcases f3 with z|z
  ·exact I.ok.noex b o e z
  ·exact absurd (LH (Ly (I.ok.bs b o e).1) z) (Mp _)
 ·intro b w hs;obtain⟨_,f1,f2,_⟩:=H b w;rcases L7.mp (I.stkSub b hs) with z|z
  ·exact f1 z
  ·exact f2 z
 ·refine⟨_,hn,λi x v e1 e2 Y=>?_⟩;have hi:i<σ.length:=by
   by_cases hi:i<σ.length
   ·exact hi
   ·rw[LS (by omega),Nf]at e2;split at e2 <;> cases e2
  rw[LP hi]at e2;have E:i<X.N.length:=by rw[<-I.len];exact hi
  have Q:i<M.length:=by rw[B.len];exact E
  have R:M[i]?=some x:=by
   have:(M++own)[i]?=some x:=e1
   rwa[LP Q]at this
  obtain⟨y,Z⟩:∃y,X.N[i]?=some y:=⟨_,L0 E⟩
  have hz:(y,x)∈X.N.zip M:=M1 (i:=i) (by rw[List.getElem?_zip_eq_some];exact⟨Z,R⟩);have S:∃k,scope.names.lookup x=some k:=by
   rcases Y with z|z|z
   ·obtain⟨k0,f,_⟩:=d6 (show _=some NameKind.local from z);exact⟨k0,f⟩
   ·obtain⟨k0,f,_⟩:=d6 (show _=some NameKind.cell from z);exact⟨k0,f⟩
   ·obtain⟨k0,f,_⟩:=d6 (show _=some NameKind.free from z);exact⟨k0,f⟩
  have j:y=x/\scope.names.lookup x≠some .local:=by
   rcases B.outer _ hz with q|q
   ·exact q
   ·obtain⟨k,g⟩:=S;rw[q]at g;cases g
  have T:X.N[i]?=some x:=by rw[<-j.1];exact Z
  have h:(relabel scope X.env).names.lookup x=some .cell\/(relabel scope X.env).names.lookup x=some .free:=by
   rcases Y with z|z
   ·obtain⟨k0,f,g⟩:=d6 (show _=some NameKind.local from z);rcases g with g|⟨g,_⟩
    ·subst g;exact absurd f j.2
    ·cases g
   ·exact z
  have hm:(x,NameKind.free)∈scope.names:=by
   rcases h with h|h
   ·exact dZ h (.inl rfl) B.nocell
   ·exact dZ h (.inr rfl) B.nocell
  obtain⟨hv,s⟩:=B.free _ hm rfl;obtain⟨m,_,U⟩:=I.loc;obtain⟨u,r,l⟩:=U i x v T e2 hv;refine⟨u,r,.inr ⟨h,?_⟩⟩;rcases l with⟨z,_⟩|⟨_,c,hc,z⟩
  ·exact absurd z s
  ·obtain⟨c',F⟩:=kY scope.names X.env.cells [] x c hm hc;have:=a x c' F;rw[hc]at this;cases this;exact⟨c,F,z.keeps g⟩
 ·intro x c e;obtain⟨v,q⟩:=I.cell x c (a x c e);exact⟨v,q.keeps g⟩
 ·show upd H2 D (.lst []) C=none;rw[ay L];exact freeC
 ·intro x c e;have h1:=K x c e;rw[ay (by rw[A];exact LC h1)];exact I.freeC x c (a x c e)
 ·intro p hp;exact absurd (show p∈([]:List (Addr×Obj))++[] from hp) (by simp)
 ·exact I.hok.laid g (by rw[A];exact L9 _) ⟨Me _,[],0,.nil,hl⟩
 ·show (σ++List.replicate own.length none).length=(M++own).length;rw[LB,LB,List.length_replicate,I.len,B.len]
theorem Inv.unblk {a:St} (I:Inv X pins σ H2 s2) (i:∀b∈fp,pU X pins H2 b) (f:s2.heap.objs.size<=C)
  (J:Inv (L2.blk X M scope own C s2 H2 fp) [] a H' s') (j:Heap.SameBut C s'.heap h'):Inv X pins σ H' { s' with heap:=h' }:=by
 have h:H' C=none:=J.free;have k:∀b o,b≠C->s'.heap.get? b=some o->h'.get? b=some o:=λb o g e=>(j.2 b g).trans e
 have old:∀b o,s2.heap.get? b=some o->b≠C:=λb o e=>LC (LH (Ly e) f)
 have u:Un (frs X.stack) fp H2 H' s2.heap s'.heap:=J.base;refine I.call' (s':={ s' with heap:=h' }) (ch:=fp) J.os ?_ ?_ J.bare λb g=>?_
 ·refine⟨λb o e n h1 h2=>k b o (old b o e) (u.keep b o e n h1 h2),λb o e n h1 h2=>?_,u.free,λb o e h1=>?_,u.tups,u.frzs,u.tbls⟩
  ·obtain⟨l,q⟩:=u.slot b o e n h1 h2;exact⟨l,k b _ (old b o e) q⟩
  ·obtain⟨o',q⟩:=u.there b o e h1;exact⟨o',k b o' (old b o e) q⟩
 ·intro b o e;refine (J.hok b o e).stay (λc v hc q=>k c v ?_ q) (λ_ q=>q) λ_ _ q=>q
  rintro rfl
  rcases hc with z|z
  ·subst z;rw[h]at e;cases e
  ·rw[h]at z;cases z
 ·obtain⟨f0,f1,f2,m,p,r⟩:=i b g;exact⟨m,f1,p,r⟩
end
section
variable {A:Around} {R:Result->Shared->Prop}
theorem sQ {target:Expr} {it acc:Value} (I:Nat->Shared->Prop)
  (turn:∀n s,I n s->wpAny (model prog w) A (pyNext it) (λr a=>match r with
   |none=>R (.ok .next) a
   |some v=>wpAny (model prog w) A (letOwnedTupleGo target it v) (λ_ j=>wpAny (model prog w) A (assign target env v) (λ_ e =>
    wpAny (model prog w) A (forIn ifs true λc r=>if r=true then do let ok <-isTrue c env (eval c env);pure (ForInStep.yield ok) else pure (ForInStep.yield r)) (λok b =>
     if ok=true then wpAny (model prog w) A (eval elt env) (λx f =>
      wpAny (model prog w) A (call (.builtin "list.append") [acc,x]) (λ_ g=>∃m,m<n/\I m g) (λ_ _=>False) f) (λ_ _=>False) b
     else ∃m,m<n/\I m b) (λ_ _=>False) e) (λ_ _=>False) j) (λ_ _=>False) a) (λ_ _=>False) s)
  (n:Nat) (h:I n s) :
  codeAny (model prog w) A (.compLoop (.ListComp elt [⟨target,iter,ifs,0⟩] scope pos) 0 it acc env) R s:=by
 refine codeAny_loop rfl I (λn s t=>?_) n h;show wpAny _ A ((compTurn (.ListComp elt [⟨target,iter,ifs,0⟩] scope pos) 0 it acc env).onRaise (λx=>do noteFrame x env;theTreesLotGoes x)) _ _ s;refine wpAny_noted ?_;rw[compTurn_list];refine wpAny_bind (wpAny_standAt (wpAny_bind (wpAny_mono (turn n s t) (λr a h₁=>?_) λ_ _ h'=>h'.elim)));cases r with
 |none=>exact wpAny_pure h₁
 |some v =>
  refine wpAny_bind (wpAny_mono h₁ (λ_ j q=>?_) λ_ _ h'=>h'.elim);refine wpAny_bind (wpAny_mono q (λ_ e l=>wpAny_bind (wpAny_mono l (λok b i=>?_) λ_ _ h'=>h'.elim)) λ_ _ h'=>h'.elim);cases ok with
  |false=>exact wpAny_pure ⟨rfl,i⟩
  |true =>exact wpAny_bind (wpAny_bind (wpAny_mono i (λx f o=>wpAny_bind (wpAny_mono o (λ_ g p=>wpAny_pure (wpAny_pure ⟨rfl,p⟩)) λ_ _ h'=>h'.elim)) λ_ _ h'=>h'.elim))
end
def wo:TT:=λ_ H Q=>Q true H
inductive PTs (X:Cx):List Expr->TT->Prop
 |nil:PTs X [] wo
 |one {c:Expr} {t:TT} (h:PT X c t):PTs X [c] t
theorem PTs.run {t:TT} (h:PTs X ifs t) {Q:Bool->Hp->Prop} (I:Inv X pins σ H s) (q:t σ H Q) :
  wpAny (model X.prog X.w) X.A (forIn ifs true λc r=>if r=true then do let ok <-isTrue c X.env (eval c X.env);pure (ForInStep.yield ok) else pure (ForInStep.yield r)) (TP X pins σ Q) X.xe s:=by
 cases h with
 |nil=>exact wpAny_tests_nil ⟨H,I,q⟩
 |one h=>exact wpAny_tests_one (h pins s σ H Q I q)
def LCR (J:It) (n:Nat) (g:TG) (tt:TT) (te:TE) (σ:St) (H1:Hp) (Q:VK):Prop:=∀D,H1 D=none->∃W:Nat->Nat->List V->Hp->Prop,(∃m,W 0 m [] (upd H1 D (.lst []))) /\
 ∀i m ys H,W i m ys H->H D=some (.lst ys)/\((J.stop i H/\Q (.ref D) H)\/(J.go i H/\∀x H' e,e.length=n->J.yld i H x H'->g x (σ++e) H' λc H2=>tt c H2 λb h =>
  if b=true then te c h λv j=>j D=some (.lst ys)/\ys.length<sizeLine/\(∃a,c=σ++a/\a.length=n)/\∃f,f < m/\W (i+1) f (ys++[v]) (upd j D (.lst (ys++[v])))
  else (∃a,c=σ++a/\a.length=n)/\∃f,f < m/\W (i+1) f ys h))
def tLC (n:Nat) (a:TI) (g:TG) (tt:TT) (te:TE):TE:=λσ H Q=>a σ H λJ H1=>LCR J n g tt te σ H1 Q
theorem p6 {wi:TI} {tt:TT} {te:TE} {use:Option (Value->Sem Unit)} {Qf:Value->Shared->Prop} (hc:X.calm=true) (hi:PI X tg iter wi)
  (hg:∀C s2 H2 fp,PG (blk X M scope own C s2 H2 fp) tg g) (ht:∀C s2 H2 fp,PTs (blk X M scope own C s2 H2 fp) ifs tt) (he:∀C s2 H2 fp,PE (blk X M scope own C s2 H2 fp) elt te)
  (hB:sC X.N M X.env.scope scope own=true) (hs:∀x,foldedSetIterable iter X.env x=pure x) {Q:VK} (I:Inv X pins σ H s) (h:tLC own.length wi g tt te σ H Q)
  (fin:∀(C D:Addr) (O:Shared) (L:Hp),(∀h',Heap.SameBut C O.heap h'->Inv X pins σ L { O with heap:=h' })->(∃m,O.heap.Ns C m)->L C=none->C≠X.env.locals->(∀x c,X.env.cells.lookup x=some c->c≠C)->(∀p∈X.pn++pins,p.1≠C)->X.s₀.heap.objs.size<=C->Q (.ref D) L ->
   compPost (model X.prog X.w) X.A X.xe use Qf (.ref D) C (.ok .next) O) :
  wpAny (model X.prog X.w) X.A (comprehension (.ListComp elt [⟨tg,iter,ifs,0⟩] scope pos) scope X.env cpos (newList []) false (eval iter X.env) use) Qf X.xe s:=by
 have B:jP X M scope own:=jP.of hB;have P:closureFor scope X.env=pure (mI scope.names X.env.cells []):=jd λy hy hf=>by
  obtain⟨hv,hnl⟩:=B.free y hy hf;have hh:X.env.kindOf y.1=some .cell\/X.env.kindOf y.1=some .free:=by
   rcases hv with z|z|z
   ·exact absurd z hnl
   ·exact .inl z
   ·exact .inr z
  exact I.ok.has y.1 hh
 refine wpAny_comprehension_free (use:=use) rfl hs P B.kind B.names (thn (hi pins s σ H _ I h) λv s1 h1=>thn h1 λitv s2 h2=>?_);obtain⟨it,fp,tn,J,H2,e,R,T,S,f2,hD⟩:=h2;subst e;have U:∀b∈fp,b<s2.heap.objs.size:=λb l=>by obtain⟨o,q,_⟩:=T.obj _ _ S b l;exact Ly q
 obtain⟨W,⟨m0,w0⟩,turn⟩:=hD s2.heap.objs.size (R.hok.fresh (L9 _));refine wpAny_newObj_type (wpAny_newFunctionEnv B.nocell (by intro y hy;simp at hy) (λh₁ j f=>?_) B.kind);dsimp only at j f ⊢;generalize hG:s2.heap.push { cls:=.type "list",dict:=none,data:=.seq ([]:List Value).toArray }=G at j f ⊢;have hC:G.objs.size=s2.heap.objs.size+1:=by rw[<-hG,Heap.size_push]
 have hk:∀b o,s2.heap.get? b=some o->h₁.get? b=some o:=λb o e=>f.extBut b o (by rw[hC];exact LC (Mg (Ly e))) (L1 _ (hG▸L1 _ e))
 have hDC:s2.heap.objs.size≠G.objs.size:=by rw[hC];exact LC (My _)
 have hl:h₁.get? s2.heap.objs.size=some { cls:=.type "list",data:=.seq ([]:List Value).toArray 0 }:=f.extBut _ _ hDC (L1 _ (hG▸LF _ rfl));have hns:h₁.Ns G.objs.size (λ_=>none):=by
  have e:(λx=>([]:List (Str×Value)).reverse.lookup x)=λ_=>none:=by funext x;rfl
  rw[<-e];exact j
 have I3:=λt'=>R.blk (t':=t') (C:=G.objs.size) (D:=s2.heap.objs.size) B f2 U rfl hC hl hns hk
 have t:∀{H':Hp},(∀b∈fp,H' b=none)->∀b∈fp,pU (blk X M scope own G.objs.size s2 H2 fp) [] H' b:=λhn b l=>by
  refine⟨hn b l,?_,?_,.inl l,λx c e z=>?_,λp hp=>absurd (show p∈([]:List (Addr×Obj))++[] from hp) (by simp)⟩
  ·show b≠G.objs.size;rw[hC];exact LC (Mg (U b l))
  ·exact (I3 0).ok.exfs b l
  ·exact ((I3 0).ok.exf b l).2 x c e z
 have loop:∀s3:Shared,(∃t',s3={ s2 with heap:=h₁,toks:=t' })->codeAny (model X.prog X.w) X.A (.compLoop (.ListComp elt [⟨tg,iter,ifs,0⟩] scope pos) 0 (.ref it) (.ref s2.heap.objs.size) (compEnvC scope (mI scope.names X.env.cells []) G.objs.size X.env))
   (compPost (model X.prog X.w) X.A X.xe use Qf (.ref s2.heap.objs.size) G.objs.size) s3:=by
  rintro s3 ⟨t',rfl⟩
  refine sQ (λn s'=>∃i ys K H',K.length=own.length/\Inv (blk X M scope own G.objs.size s2 H2 fp) [] (σ++K) H' s'/\tn i s'.heap/\(∀b∈fp,H' b=none)/\W i n ys H') ?_ m0
   ⟨0,[],_,_,by simp,I3 t',T.keep _ _ _ S λb l o e=>hk b o e,λb l=>by rw[ay (LC (U b l))];exact (f2 b l).1,w0⟩
  rintro n s4 ⟨i,ys,K,L,hl',I4,st4,fr4,w4⟩
  obtain⟨hDl,alt⟩:=turn i n ys L w4;rcases alt with⟨stop,qn⟩|⟨go,step⟩
  ·refine thn (T.done (blk X M scope own G.objs.size s2 H2 fp) rfl rfl rfl hc i [] s4 _ L _ I4 (t fr4) st4 stop) λr O a=>?_
   obtain⟨hr,I5⟩:=a;subst hr;obtain⟨m,hn,_⟩:=I5.loc;have cS:s2.heap.objs.size<=G.objs.size:=by rw[hC];exact N1 _
   refine fin G.objs.size s2.heap.objs.size O L (λh' hs'=>R.unblk (C:=G.objs.size) f2 cS I5 hs') ⟨m,hn⟩ I5.free ?_ (λx c e=>?_) (λp hp=>?_) (Mb R.sz cS) qn
   ·obtain⟨_,hl0,_⟩:=R.loc;exact Mj (LH hl0.lt cS)
   ·obtain⟨_,q⟩:=R.cell x c e;exact LC (LH q.lt cS)
   ·exact LC (LH (Ly (R.pin p hp).1) cS)
  ·refine thn (T.item (blk X M scope own G.objs.size s2 H2 fp) rfl rfl rfl hc i [] s4 _ L _ I4 (t fr4) st4 go) λr O a=>?_
   obtain⟨u,hr,h5⟩:=a;subst hr;refine thn h5 λ_ s6 a=>?_
   obtain⟨x,H6,I6,r6,y6,Y,fr6⟩:=a;have I6':=I6.pinned (t fr6) (T.obj _ _ Y);have kp:∀{E:St} {H7:Hp} {s7:Shared},Inv (blk X M scope own G.objs.size s2 H2 fp) ([]++pe fp s6.heap) E H7 s7->tn (i+1) s7.heap/\∀b∈fp,H7 b=none:=λ{E H7 s7} I7=>by refine⟨T.keep _ _ _ Y λb l o e=>(I7.pin (b,o) (Lw _ (Lw _ (i9 l e)))).1,λb l=>?_⟩;obtain⟨o,e,d⟩:=T.obj _ _ Y b l;exact (I7.pin (b,o) (Lw _ (Lw _ (i9 l e)))).2.1
   refine thn (hg _ _ _ _ _ s6 _ H6 x u _ I6' r6 (step x H6 K hl' y6)) λ_ s7 a=>?_
   obtain⟨E,H7,I7,q7⟩:=a;refine thn ((ht _ _ _ _).run I7 q7) λok s8 a=>?_
   obtain⟨H8,I8,q8⟩:=a;cases ok with
   |false =>
    obtain⟨⟨F,e,Z⟩,m',hm,w8⟩:=(show if false=true then _ else _ from q8)
    subst e;obtain⟨k1,k2⟩:=kp I8;exact⟨m',hm,i+1,ys,F,H8,Z,I8.unpinned,k1,k2,w8⟩
   |true =>
    have q8:te E H8 _:=q8;refine thn (he _ _ _ _ _ s8 E H8 _ I8 q8) λy s9 a=>?_
    obtain⟨v,H9,I9,r9,d9,z9,⟨F,e,Z⟩,m',hm,w9⟩:=a;subst e;refine thn (mG (X:=blk X M scope own G.objs.size s2 H2 fp) _ s9 _ H9 (.ref s2.heap.objs.size) [v] (.ref s2.heap.objs.size) [y] (λ_ H'=>H'=upd H9 s2.heap.objs.size (.lst (ys++[v]))) I9 rfl (.cons r9 .nil) ⟨_,ys,v,rfl,rfl,d9,z9,rfl⟩) λ_ s10 a=>?_
    obtain⟨_,H10,I10,_,e10⟩:=a;subst e10;obtain⟨k1,k2⟩:=kp I10;exact⟨m',hm,i+1,ys++[v],F,_,Z,I10.unpinned,k1,k2,w9⟩
 exact codeAny_compStart_list (loop _ ⟨_,rfl⟩) (T.self _ 0 _ _ _ (T.keep _ _ _ S λb l o e=>hk b o e) (loop _ ⟨_,rfl⟩))
theorem Bq {c:TI} {tt:TT} {te:TE} (hc:X.calm=true) (hi:PI X tg iter c)
  (e:∀C s2 H2 fp,PG (blk X M scope own C s2 H2 fp) tg g) (f:∀C s2 H2 fp,PTs (blk X M scope own C s2 H2 fp) ifs tt) (i:∀C s2 H2 fp,PE (blk X M scope own C s2 H2 fp) elt te)
  (hB:sC X.N M X.env.scope scope own=true:=by rfl) (j:∀x,foldedSetIterable iter X.env x=pure x:=by intro _;rfl):PE X (.ListComp elt [⟨tg,iter,ifs,0⟩] scope pos) (tLC own.length c g tt te):=by
 intro pins s σ H Q I h;rw[eval_ListComp];refine p6 hc hi e f i hB j I h λC D s5 l k a _ _ _ _ _ q=>?_
 obtain⟨m,hn⟩:=a;exact⟨m,hn,λh' b=>⟨.ref D,l,k h' b,rfl,q⟩⟩
theorem pJ {A:TI} {tt:TT} {te:TE} (hc:X.calm=true) (L:X.N.Nodup) (j:X.N[i]?=some x) (O:Loc X.env.scope x)
  (l:swapsWith (.ListComp elt [⟨tg,iter,ifs,0⟩] scope pos) (some (.Name x pos')) spos.line X.env=pure true) (hi:PI X tg iter A)
  (P:∀C s2 H2 fp,PG (blk X M scope own C s2 H2 fp) tg g) (Q:∀C s2 H2 fp,PTs (blk X M scope own C s2 H2 fp) ifs tt) (R:∀C s2 H2 fp,PE (blk X M scope own C s2 H2 fp) elt te)
  (hB:sC X.N M X.env.scope scope own=true:=by rfl) (S:∀x,foldedSetIterable iter X.env x=pure x:=by intro _;rfl) (T:X.fn x=true\/X.env.scope.names.lookup x=some .local:=by first|exact .inl rfl|exact .inr rfl|assumption) :
  PS X (.Assign [.Name x pos'] (.ListComp elt [⟨tg,iter,ifs,0⟩] scope pos) spos) (BX (tLC own.length A g tt te) (jQ i)):=by
 intro pins s σ H D I h;show wpAny _ _ (exec _ X.env) _ _ s;rw[exec_Assign_Name_used _ _ _ _ l];refine wpAny_bind (wpAny_standAt (wpAny_bind ?_));rw[arm_evalThenUse_ListComp];refine wpAny_bind (thn (p6 (use:=some (assign (.Name x pos') X.env)) (Qf:=λ_ s'=>SP X pins D .next s') hc hi P Q R hB S I h λC B E U k p F G J W ns q=>?_) λ_ s' Y=>wpAny_pure (wpAny_pure Y));obtain⟨m,hn⟩:=p;have Z:=k E.heap (Heap.SameBut.refl _ _);show wpAny _ _ (assign (.Name x pos') X.env (.ref B)) _ _ E;refine wpAny_assign_Name (rW (v:=.ref B) Z L j O rfl (λK r t=>?_) T);obtain⟨a,sb,ha⟩:=t;have u:C≠a:=by
  rcases ha with rfl|ha
  ·exact G
  ·exact λz=>J x a ha z.symm
 refine⟨m,hn.sameBut sb u,λh' w=>⟨_,U,?_,q⟩⟩;have f:∀b o,b≠C->K.heap.get? b=some o->h'.get? b=some o:=λb o y e=>(w.2 b y).trans e
 refine r.call' (s':={ K with heap:=h' }) (ch:=[C]) rfl ?_ ?_ r.bare λb y=>?_
 ·refine⟨λb o e _ _ z=>f b o (λq=>z (by rw[q];exact Lx.mpr rfl)) e,λb o e _ _ z=>⟨o.slots,f b o (λq=>z (by rw[q];exact Lx.mpr rfl)) e⟩,λ_ _ _ n _=>n,λb o e z=>⟨o,f b o (λq=>z (by rw[q];exact Lx.mpr rfl)) e⟩,λ_ _ q=>q,λ_ _ _ q=>q,λ_ _ q=>q⟩
 ·intro b o e;refine (r.hok b o e).stay (λc v hc q=>f c v ?_ q) (λ_ q=>q) λ_ _ q=>q
  rintro rfl
  rcases hc with z|z
  ·subst z;rw[F]at e;cases e
  ·rw[F]at z;cases z
 ·rw[Lx.mp y];exact⟨.inr ns,λz=>G z,J,W⟩
mutual
def IsD (K:PySem.W.Frag) (H:Hp):PyData->V->Prop
 |.none,v=>v=.non
 |.bool b,v=>v=.bl b
 |.int i,v=>v=.int i
 |.str x,v=>v=.str x
 |.list ds,v=>∃a xs,v=.ref a/\SqL K H a xs/\eR K H ds xs
 |.tuple ds,v=>∃a xs,v=.ref a/\SqT K H a xs/\eR K H ds xs
 |.dict _,_=>False
def eR (K:PySem.W.Frag) (H:Hp):List PyData->List V->Prop
 |[],vs=>vs=[]
 |d::ds,vs=>∃v r,vs=v::r/\IsD K H d v/\eR K H ds r
end
theorem av.tupS (e:av H H') (h:SqT K H a xs):SqT K H' a xs:=by
 rcases h with (h|⟨o,h⟩)|h
 ·exact .inl (.inl (e _ _ h))
 ·exact .inl (.inr ⟨o,e _ _ h⟩)
 ·exact .inr h
mutual
theorem IsD.same {K:PySem.W.Frag} {H H':Hp} (e:av H H'):∀{d:PyData} {v:V},IsD K H d v->IsD K H' d v
 |.none,_,h=>by unfold IsD at h ⊢;exact h
 |.bool _,_,h=>by unfold IsD at h ⊢;exact h
 |.int _,_,h=>by unfold IsD at h ⊢;exact h
 |.str _,_,h=>by unfold IsD at h ⊢;exact h
 |.list ds,_,h=>by unfold IsD at h ⊢;obtain⟨a,xs,e1,h1,h2⟩:=h;exact⟨a,xs,e1,e.seq h1,eR.same e h2⟩
 |.tuple ds,_,h=>by unfold IsD at h ⊢;obtain⟨a,xs,e1,h1,h2⟩:=h;exact⟨a,xs,e1,e.tupS h1,eR.same e h2⟩
 |.dict _,_,h=>by unfold IsD at h;exact h.elim
theorem eR.same {K:PySem.W.Frag} {H H':Hp} (e:av H H'):∀{ds:List PyData} {vs:List V},eR K H ds vs->eR K H' ds vs
 |[],_,h=>by unfold eR at h ⊢;exact h
 |d::ds,_,h=>by unfold eR at h ⊢;obtain⟨v,r,e1,h1,h2⟩:=h;exact⟨v,r,e1,IsD.same e h1,eR.same e h2⟩
end
section
theorem uq {i:Int}:IsD K H (.int i) (.int i):=by unfold IsD;rfl
theorem Cf {b:Bool}:IsD K H (.bool b) (.bl b):=by unfold IsD;rfl
theorem BD:IsD K H .none .non:=by unfold IsD;rfl
theorem DT:IsD K H (.str x) (.str x):=by unfold IsD;rfl
theorem EL (h:SqT K H a xs) (h2:eR K H ds xs):IsD K H (.tuple ds) (.ref a):=by unfold IsD;exact⟨a,xs,rfl,h,h2⟩
theorem tj (h:SqL K H a xs) (h2:eR K H ds xs):IsD K H (.list ds) (.ref a):=by unfold IsD;exact⟨a,xs,rfl,h,h2⟩
theorem qi:eR K H [] []:=by unfold eR;rfl
theorem qZ {d:PyData} (h:IsD K H d v) (h2:eR K H ds vs):eR K H (d::ds) (v::vs):=by unfold eR;exact⟨v,vs,rfl,h,h2⟩
theorem IsD.ofInt {i:Int} (h:IsD K H (.int i) v):v=.int i:=by unfold IsD at h;exact h
theorem IsD.ofBool {i:Bool} (h:IsD K H (.bool i) v):v=.bl i:=by unfold IsD at h;exact h
theorem IsD.ofNone (h:IsD K H .none v):v=.non:=by unfold IsD at h;exact h
theorem IsD.ofStr (h:IsD K H (.str x) v):v=.str x:=by unfold IsD at h;exact h
theorem IsD.ofTup (h:IsD K H (.tuple ds) v):∃a xs,v=.ref a/\SqT K H a xs/\eR K H ds xs:=by unfold IsD at h;exact h
theorem IsD.ofLst (h:IsD K H (.list ds) v):∃a xs,v=.ref a/\SqL K H a xs/\eR K H ds xs:=by unfold IsD at h;exact h
theorem eR.nil_of (h:eR K H [] vs):vs=[]:=by unfold eR at h;exact h
theorem eR.cons_of {d:PyData} (h:eR K H (d::ds) vs):∃v r,vs=v::r/\IsD K H d v/\eR K H ds r:=by unfold eR at h;exact h
theorem sr:∀(ns:List Int),eR K H (ns.map PyData.int) (ns.map V.int)
 |[]=>qi
 |_::r=>qZ uq (sr r)
end
section
mutual
theorem Inv.reads (I:Inv X pins σ H s):∀{d:PyData} {v:V} {u:Value},IsD X.K H d v->RelV v u->∃as,Reads s.heap u d as
 |.none,_,_,h,r=>by rw[h.ofNone]at r;cases r;exact⟨_,.none⟩
 |.bool _,_,_,h,r=>by rw[h.ofBool]at r;cases r;exact⟨_,.bool _⟩
 |.int _,_,_,h,r=>by rw[h.ofInt]at r;obtain⟨t,rfl⟩:=r;exact⟨_,.int _ _⟩
 |.str _,_,_,h,r=>by rw[h.ofStr]at r;obtain⟨t,rfl⟩:=r;exact⟨_,.str _ _⟩
 |.list ds,_,_,h,r=>by obtain⟨a,xs,e,h1,h2⟩:=h.ofLst;subst e;cases r;obtain⟨b,f,⟨o,n,g,c,_,d⟩,_⟩:=I.list h1;obtain⟨as,i⟩:=Inv.readsAll I h2 f;exact⟨_,.list g c d (by simpa using i)⟩
 |.tuple ds,_,_,h,r=>by obtain⟨a,xs,e,h1,h2⟩:=h.ofTup;subst e;cases r;obtain⟨b,f,⟨o,g,c,n,d⟩,_⟩:=I.tuple h1;obtain⟨as,i⟩:=Inv.readsAll I h2 f;exact⟨_,.tuple g c d (by simpa using i)⟩
 |.dict _,_,_,h,_=>by unfold IsD at h;exact h.elim
theorem Inv.readsAll (I:Inv X pins σ H s):∀{ds:List PyData} {vs:List V} {us:List Value},eR X.K H ds vs->Vals vs us->∃as,ReadsAll s.heap us ds as
 |[],_,_,h,r=>by rw[h.nil_of]at r;cases r;exact⟨_,.nil⟩
 |d::ds,_,_,h,r=>by
  obtain⟨v,t,e,h1,h2⟩:=h.cons_of;subst e;cases r with
  |cons r1 r2 =>obtain⟨as,a⟩:=Inv.reads I h1 r1;obtain⟨bs,b⟩:=Inv.readsAll I h2 r2;exact⟨_,.cons a b⟩
end
open PySem.SeqAt in
theorem yb (a:X.A.units+64<cLine):OpR X (compareOp .Eq) (λx y H Q=>∃d e,IsD X.K H d x/\IsD X.K H e y/\shaped d=true/\shaped e=true/\Q (.bl (PyData.eqv d e)) H):=by intro pins s σ H x y v u Q I b c h;obtain⟨d,e,hd,f,g,i,q⟩:=h;obtain⟨as,j⟩:=I.reads hd b;obtain⟨bs,l⟩:=I.reads f c;exact eq_dataH j l g i a ⟨.bl _,H,I,rfl,q⟩
open PySem.SeqAt in
theorem HX (a:X.A.units+64<cLine):OpR X (compareOp .NotEq) (λx y H Q=>∃d e,IsD X.K H d x/\IsD X.K H e y/\shaped d=true/\shaped e=true/\Q (.bl (!PyData.eqv d e)) H):=by intro pins s σ H x y v u Q I b c h;obtain⟨d,e,hd,f,g,i,q⟩:=h;obtain⟨as,j⟩:=I.reads hd b;obtain⟨bs,l⟩:=I.reads f c;exact ne_dataH j l g i a ⟨.bl _,H,I,rfl,q⟩
def tyD:PyData->String
 |.none=>"NoneType"
 |.bool _=>"bool"
 |.int _=>"int"
 |.str _=>"str"
 |.list _=>"list"
 |.tuple _=>"tuple"
 |.dict _=>"dict"
def tq (d:PyData) (T:String):Bool:=tyD d==T||(T=="int"&&tyD d=="bool")
theorem Gg (K:PySem.W.Frag) {a T:String} (ha:a∈["NoneType", "bool", "int", "str", "list", "tuple"]) (b:T∈["bool", "int", "list", "tuple"]) :
  PySem.W.kitOne K (.type a) (.type T)=some (a==T||(T=="int"&&a=="bool")):=by
 simp only[L7,LL,or_false]at ha b;rcases ha with rfl|rfl|rfl|rfl|rfl|rfl <;> rcases b with rfl|rfl|rfl|rfl <;> rfl
theorem Eg {d:PyData} (h:IsD K H d v):tyD d∈["NoneType", "bool", "int", "str", "list", "tuple"]:=by
 cases d with
 |dict _=>unfold IsD at h;exact h.elim
 |_=>simp[tyD]
theorem uI:km X (.builtin "isinstance") (λxs H Q=>∃d v T,xs=[v,.ty T]/\IsD X.K H d v/\T∈["bool", "int", "list", "tuple"]/\Q (.bl (tq d T)) H):=by
 intro pins s σ H xs us Q I r h;obtain⟨d,v,T,rfl,hd,l,q⟩:=h;obtain⟨u,c,rfl,f,m⟩:=vals2 r;cases m;have e:PySem.W.kitOne X.K (.type (tyD d)) (.type T)=some (tq d T):=Gg X.K (Eg hd) l;have fin:∀tk,EP X pins σ Q (.bool (tq d T)) { s with toks:=tk }:=λtk=>⟨.bl _,H,I.tok tk,rfl,q⟩
 cases d with
 |none=>rw[hd.ofNone]at f;cases f;exact PySem.W.kia_one PySem.W.kitx_none I.kIn True.intro e (λz=>nomatch z) fin
 |bool b=>rw[hd.ofBool]at f;cases f;exact PySem.W.kia_one PySem.W.kitx_bool I.kIn True.intro e (λz=>nomatch z) fin
 |int i=>rw[hd.ofInt]at f;obtain⟨t,rfl⟩:=f;exact PySem.W.kia_one PySem.W.kitx_int I.kIn True.intro e (λz=>nomatch z) fin
 |str x=>rw[hd.ofStr]at f;obtain⟨t,rfl⟩:=f;exact PySem.W.kia_one PySem.W.kitx_str I.kIn True.intro e (λz=>nomatch z) fin
 |list ds =>obtain⟨a,xs,e1,h1,h2⟩:=hd.ofLst;subst e1;cases f;obtain⟨j,p,⟨o,n,g,c,_,_⟩,_⟩:=I.list h1;exact PySem.W.kia_one PySem.W.kitx_list I.kIn ⟨o,g,c⟩ e (λz=>nomatch z) fin
 |tuple ds =>obtain⟨a,xs,e1,h1,h2⟩:=hd.ofTup;subst e1;cases f;obtain⟨j,p,⟨o,g,c,n,_⟩,_⟩:=I.tuple h1;exact PySem.W.kia_one PySem.W.kitx_tuple I.kIn ⟨o,g,c⟩ e (λz=>nomatch z) fin
 |dict _=>unfold IsD at hd;exact hd.elim
theorem oS:∀{bs:List Bool} {us:List Value},Vals (bs.map V.bl) us->LSm.BoolsAre us bs
 |[],_,.nil=>.nil
 |b::r,_,.cons h t=>by cases (show _=Value.bool b from h);exact .cons b (oS t)
theorem Cg (hc:X.calm=true):km X (.builtin "all") (λxs H Q=>∃(a:Addr) (bs:List Bool),xs=[.ref a]/\SqL X.K H a (bs.map V.bl)/\Q (.bl (bs.all id)) H):=by
 intro pins s σ H xs us Q I r h;obtain⟨a,bs,rfl,l,q⟩:=h;obtain⟨u,rfl,m⟩:=vals1 r;cases m;obtain⟨c,n,p,_⟩:=I.list l;have hl:=p.isList;have g:=oS n;have f:a<s.heap.objs.size:=by obtain⟨_,e,_⟩:=hl;exact Ly e
 refine call_all_walk (wpAny_pyIter_list hl ?_);refine⟨s.heap.objs.size,[s.heap.objs.size,a],[s.heap.objs.size],c.toArray.size,_,_,λi=>(bs[i]?).getD true,rfl,Walks.list (A:=X.A.in1) (I.ok.hd hc) _ a (LC f) c.toArray,
  ⟨⟨_,LF _ rfl,rfl,rfl⟩,hl.push _⟩,λi v s' Q' E' o j=>?_,λh' tk t=>?_⟩
 ·obtain⟨b,e,rfl⟩:=g.get i v (by simpa using o);simp only[e,Nt]at j;exact wpAny_truthy_bool j
 ·have e:((List.range c.toArray.size).all λi=>(bs[i]?).getD true)=bs.all id:=by rw[Lz,g.length];exact LSm.range_all bs
  rw[e];exact⟨.bl _,H,I.kept (LSm.kept_iter t),rfl,q⟩
end
structure KW (P:Program) (w:World) (outer:List Env) (H:Hp) (s:Shared) (H':Hp) (B:Heap) (ea:Addr) (cls a0:Value) (s':Shared):Prop where
 os:s'.os=s.os
 bare:AllBare s'.gens
 hok:HOk P w H' B
 keep:∀b o,s.heap.get? b=some o->H b=none->b∉frs outer->B.get? b=some o
 there:∀b o,s.heap.get? b=some o->b∉frs outer->∃o',B.get? b=some o'
 slot:∀b o,s.heap.get? b=some o->b∈frs outer->∃sl,s'.heap.get? b=some { o with slots:=sl }
 free:∀b o,s.heap.get? b=some o->H b=none->H' b=none
 tups:∀b xs,H b=some (.tup xs)->H' b=some (.tup xs)
 frzs:∀b o u,H b=some (.frz o u)->H' b=some (.frz o u)
 tbls:∀b q,H b=some (.tbl q)->H' b=some (.tbl q)
 fly:Heap.FlyingW B outer ea cls a0 s'.heap
def CXW (P:Program) (w:World):CXT:=λouter H s E e s'=>∃ea cls a0 H' B,e=.ref ea/\E cls none H'/\KW P w outer H s H' B ea cls a0 s'
section
variable {f:Addr} {A:Around}
theorem vO {L:Addr} (a:env.frame=some L):frs (env::outer)=L::frs outer:=by unfold frs;rw[N2,a]
theorem u6 {CX:CXT} {g:Shared} {ea:Addr} {cls:Value} {vs:List Value}
  (I:Inv (cU (CXW P w) P w K mg base N qual scope f cd A outer s H E) pins σ H1 g) (p:Heap.MadeExcOf g.heap h' ea cls vs) (r:E cls none H1) :
  (cU (CXW P w) P w K mg base N qual scope f cd A outer s H E).xe (.ref ea) { g with heap:=h' }:=by
 have i:=I.stack;have j:frs (cU (CXW P w) P w K mg base N qual scope f cd A outer s H E).stack=s.heap.objs.size::frs outer:=vO rfl;have l:∀env∈(cU (CXW P w) P w K mg base N qual scope f cd A outer s H E).stack,∀b,env.frame=some b->b∈frs (cU (CXW P w) P w K mg base N qual scope f cd A outer s H E).stack:=λenv v b c=>Nk.mpr ⟨env,v,c⟩
 have out:∀b o,s.heap.get? b=some o->b∉frs outer->b∉frs (cU (CXW P w) P w K mg base N qual scope f cd A outer s H E).stack:=λb o e n z=>by
  rw[j]at z;rcases L7.mp z with z|z
  ·rw[z]at e;exact absurd (Ly e) (Mp _)
  ·exact n z
 refine wpAny_leaves_madeW (base:=PySem.W.hideAll g.heap (frs (cU (CXW P w) P w K mg base N qual scope f cd A outer s H E).stack)) I.ok.frames rfl (λb o q=>PySem.W.of_hideAll _ q) (PySem.W.funFrames_hide i l) p λh2 t x1 x2 x3 x4=>?_
 refine⟨ea,cls,.ref t,H1,_,rfl,r,⟨I.os,I.bare,?_,?_,?_,?_,?_,I.base.tups,I.base.frzs,I.base.tbls,x1⟩⟩
 ·intro a o e;refine (I.hok a o e).stay (λb u c q=>PySem.W.hideAll_get _ q λz=>?_) (λ_ q=>q) λ_ _ q=>q
  have:=I.stkFree b z;rcases c with c|c
  ·rw[c,e]at this;cases this
  ·rw[c]at this;cases this
 ·intro b o e n c;exact PySem.W.hideAll_get _ (I.base.keep b o e n c (LL)) (out b o e c)
 ·intro b o e c;obtain⟨o',q⟩:=I.base.there b o e (LL);exact⟨o',PySem.W.hideAll_get _ q (out b o e c)⟩
 ·intro b o e c;obtain⟨sl,q⟩:=I.base.slot b o e (I.ok.frf b c) c (LL);obtain⟨_,x,h,d2⟩:=I.ok.funs.mem c;have h:s.heap.get? b=some x:=h;rw[e]at h;cases h;obtain⟨m,y⟩:=x4 b _ (p.keeps b _ q) d2;exact⟨m,y⟩
 ·intro b o e n;exact I.base.free b o e n (LL)
theorem Fq:Passes (CXW P w) (cU (CXW P w) P w K mg base N qual scope f cd A outer s H E) E:=by
 intro pins σ H1 s1 e s2 I hc;obtain⟨ea,cls,a0,H2,B,rfl,i,F⟩:=hc;have c:frs (cU (CXW P w) P w K mg base N qual scope f cd A outer s H E).stack=s.heap.objs.size::frs outer:=vO rfl;have out:∀b o,s.heap.get? b=some o->b∉frs outer->b∉frs (cU (CXW P w) P w K mg base N qual scope f cd A outer s H E).stack:=λb o e n z=>by
  rw[c]at z;rcases L7.mp z with z|z
  ·rw[z]at e;exact absurd (Ly e) (Mp _)
  ·exact n z
 refine wpAny_leaves_onW I.ok.frames rfl F.fly λh2 x1 x2=>⟨ea,cls,a0,H2,B,rfl,i,⟨F.os.trans I.os,F.bare,F.hok,?_,?_,?_,?_,?_,?_,?_,x1⟩⟩
 ·intro b o e n a;exact F.keep b o (I.base.keep b o e n a (LL)) (I.base.free b o e n (LL)) (out b o e a)
 ·intro b o e a;obtain⟨o',q⟩:=I.base.there b o e (LL);exact F.there b o' q (out b o e a)
 ·intro b o e a;obtain⟨sl,q⟩:=I.base.slot b o e (I.ok.frf b a) a (LL);obtain⟨_,j,g,d2⟩:=I.ok.funs.mem a;have g:s.heap.get? b=some j:=g;rw[e]at g;cases g;obtain⟨sl1,l⟩:=F.slot b _ q (by rw[c];exact L3 _ a);obtain⟨h,m⟩:=x2 b _ l d2;exact⟨h,m⟩
 ·intro b o e n;obtain⟨o',q⟩:=I.base.there b o e (LL);exact F.free b o' q (I.base.free b o e n (LL))
 ·intro b xs e;exact F.tups b xs (I.base.tups b xs e)
 ·intro b o u e;exact F.frzs b o u (I.base.frzs b o u e)
 ·intro b ps e;exact F.tbls b ps (I.base.tbls b ps e)
end
theorem Ed {a:List Value} (X:K.In h) (q:PySem.W.excIn K C a newId=true) :
  ∃bm N nm r bs hdct sn sub ab col dd k0 k1 k2 k3 k5 mN,h.get? C=some (excClassObj nm r C N bs bm hdct sn sub ab col dd k0 k1 k2 k3 k5 newId)/\h.Ns N mN/\mN "__init__"=none/\OwnTail h a bm:=by
 unfold PySem.W.excIn at q;split at q
 ·rename_i d1 c1 l1 g1;split at q
  ·rename_i C2 b g i j m n2 n hm s;simp only[L8,beq_iff_eq,Nm]at q;obtain⟨⟨⟨⟨⟨t,u⟩,o⟩,v⟩,c⟩,p⟩:=q;subst t;subst u;obtain⟨z1,z2,z3,w,x,y,z,A,B,e,z11⟩:=c1;dsimp only at hm o c p;subst hm;subst o;have hl:l1=#[g,i,j,m,some (.builtin n2),n]:=by obtain⟨l⟩:=l1;have f:l=_:=s;rw[f]
   subst hl;exact⟨b,w,z1,x,z2,y,z,A,B,e,d1,g,i,j,m,n,_,X _ _ g1,.of_isNs (PySem.W.isNs_of_in X c),PySem.W.nsMap_none_of_in X c p,PySem.W.tail_of_in X v⟩
  ·cases q
 ·cases q
def xq (X:Cx) (E:XK):Prop:=∀(pins:List (Addr×Obj)) (σ:St) (H:Hp) (s:Shared) (h':Heap) (ea:Addr) (cls:Value) (vs:List Value),Inv X pins σ H s->Heap.MadeExcOf s.heap h' ea cls vs->E cls none H->X.xe (.ref ea) { s with heap:=h' }
def Hy (C:Addr) (E:XK) (t:TA):TS:=λ_ σ H=>t σ H λvs H1=>vs.length<=sizeLine/\E (.ref C) none H1
theorem B0 {B a:String} {bm:List Value} {m:Pos} {t:TA} (hc:X.calm=true) (M:xq X E) (FB:ExcBaseFacts B newId a bm) (n:Gl X x) (hm:X.mg x=some (.ref C)) (o:PySem.W.excIn X.K C bm newId=true)
  (ha:PA X (e::es) t) (c:(x==("__debug__":Str))=false:=by decide) (j:starEach (e::es) X.env=(false,eval e X.env)::starEach es X.env:=by rfl) (f:(backTo cpos (starEach es X.env)).any (·.1)=false:=by rfl) :
  PS X (.Raise (some (.Call (.Name x m) (e::es) [] cpos)) none pos) (Hy C E t):=by
 intro pins s σ H D I h;obtain⟨tl,N,nm,q,bs,hdct,sn,sub,ab,col,dd,k0,k1,k2,k3,k5,mN,g,p,i,T⟩:=Ed I.mod.kin o;refine wpAny_Raise_call_subT (C:=C) (nm:=nm) (q:=q) (N:=N) (bs:=bs) (bm:=tl) (hdct:=hdct) (sn:=sn) (sub:=sub) (ab:=ab) (col:=col) (dd:=dd) (k0:=k0) (k1:=k1) (k2:=k2) (k3:=k3) (k5:=k5)
  FB (mN:=mN) (T.hasType FB.hasBase) (I.ok.hd hc) (by rw[j];show (false||(backTo cpos (starEach es X.env)).any (·.1))=false;rw[f];rfl) i (nU I n hm ⟨rfl,?_⟩ c)
 have l:=ha cpos pins s σ H _ I h;rw[j]at l ⊢;refine Calls.evalArgs_plain (wpAny_mono l (λus s2 h2=>?_) λ_ _ y=>y);obtain⟨vs,H2,b,r,z,u⟩:=h2;exact⟨rfl,by rw[<-r.length];exact z,b.bk _ _ g,p.keeps b.bk,T.keeps b.bk,λh' ea v=>M pins σ H2 s2 h' ea _ _ b v u⟩
theorem gM (h:H D=none):av H (upd H D o):=λb u e=>by rw[ay (aI e h)];exact e
theorem av.put (s:av H H') (h:H D=none):av H (upd H' D o):=λb u e=>by rw[ay (aI e h)];exact s b u e
mutual
def ee:PyData->Bool
 |.list _=>false
 |.tuple ds=>jN ds
 |.dict _=>false
 |_=>true
def jN:List PyData->Bool
 |[]=>true
 |d::ds=>ee d&&jN ds
end
theorem set_own (σ:St) (x:Option V) (v:V) (a:St) (h:a.length=1):(σ++a).set σ.length (some v)=σ++[some v]:=by obtain⟨y,rfl⟩:=List.length_eq_one_iff.mp h;simp
structure Rows (H H':Hp) (D:Addr) (qs:List Addr) (rs:List (List Int)):Prop where
 d:H' D=some (.lst (qs.map V.ref))
 len:qs.length=rs.length
 at':∀(i:Nat) q r,qs[i]?=some q->rs[i]?=some r->H' q=some (.lst (r.map V.int))
 new:∀q∈qs,H q=none
 nd:qs.Nodup
 nD:D∉qs
section
variable {A:Around} {E:Value->Shared->Prop}
theorem xn {a:Array Value} {x:Value} (hi:s.heap.IsTupleIter it t i) (e:s.heap.IsTuple t a) (f:a[i]?=some x)
  (g:∀h',h'.IsTupleIter it t (i+1)->Heap.SameBut it s.heap h'->Q x { s with heap:=h' }):wpAny (model prog w) A (Builtin.SmallTypes.nextOf (.ref it)) Q E s:=by
 obtain⟨oi,c,h,b⟩:=id hi;obtain⟨ot,j,_,nt,l⟩:=e;unfold Builtin.SmallTypes.nextOf;refine wpAny_bind (wpAny_callSpecial?_slot (name:=Str.ofString "__next__") hi.typeIs F.slot_tuple_iterator_next (wpAny_call_entry F.slot_tuple_iterator_next hi.typeIs F.entry_tuple_iterator_next ?_ (F.args_tuple_iterator_next_1 _)));refine wpAny_bind (m:=field (.ref it) 0) (wpAny_field c b (x:=.ref t) rfl ?_);show wpAny (model prog w) _ (if (Value.ref t==Value.none)=true then _ else _) _ _ s;have n:¬ (Value.ref t==Value.none)=true:=λq=>LK q
 rw[if_neg n];refine wpAny_bind (m:=field (.ref it) 1) (wpAny_field c b (x:=.int i 0) rfl ?_);refine wpAny_bind (m:=seqItems? (.ref t)) (wpAny_seqItems j l ?_);simp only[LV,f];refine wpAny_bind (wpAny_setField c b (by simp) (wpAny_pure ⟨x,rfl,wpAny_pure (g _ ⟨_,MT _ c (Obj.isFreed_of_fields (Obj.data_mapFields b _)),(Obj.cls_mapFields ..).trans h,?_⟩ (Heap.SameBut.update ..))⟩));rw[Obj.data_mapFields b];simp[rawInt]
theorem oq {c:Array Value} (h:A.handled=none) (hi:s.heap.IsTupleIter it t i) (j:s.heap.IsTuple t c) (l:c[i]?=none)
  (n:∀h' e,Heap.ExtBut it s.heap h'->(∃o,h'.get? e=some o/\o.cls=.type "StopIteration")->E (.ref e) { s with heap:=h' }):wpAny (model prog w) A (Builtin.SmallTypes.nextOf (.ref it)) Q E s:=by
 obtain⟨oi,f,ci,g⟩:=id hi;obtain⟨ot,p,_,nt,r⟩:=j;unfold Builtin.SmallTypes.nextOf;refine wpAny_bind (wpAny_callSpecial?_slot (name:=Str.ofString "__next__") hi.typeIs F.slot_tuple_iterator_next (wpAny_call_entry F.slot_tuple_iterator_next hi.typeIs F.entry_tuple_iterator_next ?_ (F.args_tuple_iterator_next_1 _)));refine wpAny_bind (m:=field (.ref it) 0) (wpAny_field f g (x:=.ref t) rfl ?_);show wpAny (model prog w) _ (if (Value.ref t==Value.none)=true then _ else _) _ _ s;have u:¬ (Value.ref t==Value.none)=true:=λq=>LK q
 rw[if_neg u];refine wpAny_bind (m:=field (.ref it) 1) (wpAny_field f g (x:=.int i 0) rfl ?_);refine wpAny_bind (m:=seqItems? (.ref t)) (wpAny_seqItems p r ?_);simp only[LV,l];refine wpAny_bind (wpAny_rule (wpAny_bind (wpAny_setField f g (by simp) ?_)));refine wpAny_bind (m:=newExc (.type "StopIteration") []) ?_;unfold newExc newTuple;refine wpAny_bind (wpAny_newObj_type ?_ (by size_fits ));refine wpAny_bind (m:=firstArgMember _ _) (wpAny_of_eq (a:=Value.none) (by first|rfl|(unfold firstArgMember;rfl)) ?_);refine wpAny_newObj_type ?_ (by size_fits );unfold raiseNew;refine wpAny_bind (wpAny_handled ?_)
 first|rw[show A.in1.handled=none from h]|rw[h]
 refine wpAny_bind (wpAny_pure (wpAny_throw ?_));refine n _ _ (λb o v e=>?_) ⟨_,LF _ rfl,rfl⟩;exact L1 _ (L1 _ ((Ma _ _ (Ne.symm v)).trans e))
theorem mw (j:A.handled=none) (it t:Addr) (c:t≠it) (a:Array Value):Draws prog w A it [it,t] a.size (λi v=>a[i]?=some v) (λi h=>h.IsTupleIter it t i/\h.IsTuple t a) where
 live:=λ_ _ st=>by obtain⟨⟨o,g,_⟩,_⟩:=st;exact⟨o,g⟩
 frame:=λ_ _ _ st k=>by obtain⟨⟨o,g,r⟩,⟨b,g2,e⟩⟩:=st;exact⟨⟨o,k it (by simp) o g,r⟩,⟨b,k t (by simp) b g2,e⟩⟩
 item:=λi s Q E hi st l=>xn st.1 st.2 (x:=a[i]) (by simp[hi]) λh' i' f=>by refine l _ h' s.toks (by simp[hi]) ⟨i',?_⟩ f;obtain⟨b,g2,e⟩:=st.2;exact⟨b,(f.2 t c).trans g2,e⟩
 done:=λs Q E st m=>oq j st.1 st.2 (by simp) m
end
structure mx (z TI TO i1 i2:Addr) (f1 f2:List Addr):Prop where
 TIz:TI≠z
 TOz:TO≠z
 z1:i1≠z
 z2:i2≠z
 TIO:TI≠TO
 TI1:TI≠i1
 TI2:TI≠i2
 TO1:TO≠i1
 TO2:TO≠i2
 i12:i1≠i2
 a1:∀b∈f1,b≠z/\b≠TO/\b≠i2
 a2:∀b∈f2,b≠z/\b≠TO/\b≠i1
section
variable {A:Around} {E:Value->Shared->Prop} {z TI TO i1 i2:Addr} {f1 f2:List Addr} {n1 n2 k:Nat} {P1 P2:Nat->Value->Prop} {S1 S2:Nat->Heap->Prop} {a b:Value}
theorem Bc (n:Draws prog w A i1 f1 n1 P1 S1) (p:Draws prog w A i2 f2 n2 P2 S2) (Z:mx z TI TO i1 i2 f1 f2) (h:IsZip s.heap z TI TO .none) (X:IsPair s.heap TI (.ref i1) (.ref i2)) (Y:IsPair s.heap TO a b)
  (C:S1 k s.heap) (D:S2 k s.heap) (k1:k<n1) (k2:k<n2)
  (hQ:∀h' x y tk,P1 k x->P2 k y->IsZip h' z TI TO (rawInt s.heap.objs.size)->IsPair h' TO x y->S1 (k+1) h'->S2 (k+1) h'->IsPair h' s.heap.objs.size x y ->
   (∀c o,c≠z->c≠TO->c≠i1->c≠i2->s.heap.get? c=some o->h'.get? c=some o)->Q (.ref s.heap.objs.size) { s with heap:=h',toks:=tk }) :
  wpAny (model prog w) A (Builtin.«zip.__next__» ⟨[.ref z],[]⟩) (λfin s'=>∃v,fin=.done (.ret v)/\Q v s') E s:=by
 refine wpAny_bind (m:=field (.ref z) 2) (wpAny_field h rfl (x:=.bool false) rfl ?_);refine wpAny_bind (m:=field (.ref z) 3) (wpAny_field h rfl (x:=.ref TI) rfl ?_);refine wpAny_bind (wpAny_seqItems X rfl ?_);refine wpAny_bind (m:=Builtin.SmallTypes.ownedTupleIsFree (.ref z)) ?_;unfold Builtin.SmallTypes.ownedTupleIsFree;refine wpAny_bind (wpAny_field h rfl (x:=.none) rfl (wpAny_pure ?_));rw[if_pos (by rfl)];refine wpAny_bind (wpAny_rule (wpAny_bind (wpAny_field h rfl (x:=.ref TO) rfl (wpAny_bind (wpAny_setField_rec h (by simp) λg1 F e1=>?_)))));have F:IsZip g1 z TI TO .ellipsis:=F;refine wpAny_bind ?_;simp only[List.zipIdx_cons,List.zipIdx_nil,N7,List.forIn_nil];refine wpAny_bind (wpAny_bind (wpAny_onRaise (wpAny_bind (m:=Builtin.SmallTypes.nextOf (.ref i1)) ?_)));have u1:S1 k g1:=n.frame _ _ _ C λb f o e=>(e1.2 b (Z.a1 b f).1).trans e
 refine n.item k { s with heap:=g1 } _ _ k1 u1 λx g2 N px v1 e2=>wpAny_pure ?_
 have O:IsPair g2 TO a b:=(e2.2 TO Z.TO1).trans ((e1.2 TO Z.TOz).trans Y);refine wpAny_bind (wpAny_seqItems (s:={ s with heap:=g2,toks:=N }) O rfl (wpAny_bind (wpAny_updateSeq_pair O λG H i=>?_)));have H:IsPair G TO x b:=H;refine wpAny_bind (wpAny_letGo (wpAny_pure (wpAny_bind (wpAny_bind (wpAny_onRaise (wpAny_bind (m:=Builtin.SmallTypes.nextOf (.ref i2)) ?_))))));have u2:S2 k G:=p.frame _ _ _ D λb f o e=>(i.2 b (Z.a2 b f).2.1).trans ((e2.2 b (Z.a2 b f).2.2).trans ((e1.2 b (Z.a2 b f).1).trans e))
 refine p.item k { s with heap:=G,toks:=N } _ _ k2 u2 λy P I py v2 j=>wpAny_pure ?_
 have R:IsPair P TO x b:=(j.2 TO Z.TO2).trans H;refine wpAny_bind (wpAny_seqItems (s:={ s with heap:=P,toks:=I }) R rfl (wpAny_bind (wpAny_updateSeq_pair R λg q l=>?_)));have q:IsPair g TO x y:=q;refine wpAny_bind (wpAny_letGo (wpAny_pure (wpAny_pure (wpAny_bind (wpAny_seqItems (s:={ s with heap:=g,toks:=I }) q rfl (wpAny_bind (wpAny_newTuple ?_)))))));have sz:g.objs.size=s.heap.objs.size:=by rw[l.1,j.1,i.1,e2.1,e1.1]
 have S:IsZip g z TI TO .ellipsis:=(l.2 z Z.TOz.symm).trans ((j.2 z Z.z2.symm).trans ((i.2 z Z.TOz.symm).trans ((e2.2 z Z.z1.symm).trans F)));have J:∀c o,c≠z->c≠TO->c≠i1->c≠i2->s.heap.get? c=some o->g.get? c=some o:=λc o c1 r K L e =>
  (l.2 c r).trans ((j.2 c L).trans ((i.2 c r).trans ((e2.2 c K).trans ((e1.2 c c1).trans e))))
 have w1:S1 (k+1) g:=n.frame _ _ _ v1 λb f o e=>(l.2 b (Z.a1 b f).2.1).trans ((j.2 b (Z.a1 b f).2.2).trans ((i.2 b (Z.a1 b f).2.1).trans e))
 have w2:S2 (k+1) g:=p.frame _ _ _ v2 λb f o e=>(l.2 b (Z.a2 b f).2.1).trans e
 have zl:z<g.objs.size:=Ly S;refine wpAny_bind (m:=Builtin.SmallTypes.ownedTupleHandOut (.ref z) (.ref g.objs.size)) ?_;unfold Builtin.SmallTypes.ownedTupleHandOut;have y6:IsZip (g.push { cls:=.type "tuple",data:=.seq #[x,y] }) z TI TO .ellipsis:=L1 _ S;refine wpAny_bind (wpAny_setField_rec y6 (by simp) λg7 M T=>?_);have M:IsZip g7 z TI TO (rawInt g.objs.size):=M;refine wpAny_setField_rec M (by simp) λt u U=>?_
 have u:IsZip t z TI TO (rawInt g.objs.size):=u;have B:∀c o,c≠z->g.get? c=some o->t.get? c=some o:=λc o c1 e=>(U.2 c c1).trans ((T.2 c c1).trans (L1 _ e))
 have W:IsPair t g.objs.size x y:=(U.2 _ (Mj zl)).trans ((T.2 _ (Mj zl)).trans (LF _ rfl));refine wpAny_pure ⟨_,rfl,?_⟩;rw[sz]at u W;show Q (.ref g.objs.size) _;rw[sz];exact hQ t x y I px py u (B _ _ Z.TOz q) (n.frame _ _ _ w1 λb f o e=>B b o (Z.a1 b f).1 e) (p.frame _ _ _ w2 λb f o e=>B b o (Z.a2 b f).1 e) W λc o c1 r K L e=>B c o c1 (J c o c1 r K L e)
theorem B5 (j:Draws prog w A i1 f1 n1 P1 S1) (Z:mx z TI TO i1 i2 f1 f2) {Q:Fin->Shared->Prop} (f:IsZip s.heap z TI TO .none) (r:IsPair s.heap TI (.ref i1) (.ref i2)) (hO:IsPair s.heap TO a b) (g:S1 n1 s.heap)
  (t:∀h' e,(∀c o,c≠z->c≠TO->c≠i1->c≠i2->s.heap.get? c=some o->h'.get? c=some o)->(∃o,h'.get? e=some o/\o.cls=.type "StopIteration")->E (.ref e) { s with heap:=h' }) :
  wpAny (model prog w) A (Builtin.«zip.__next__» ⟨[.ref z],[]⟩) Q E s:=by
 refine wpAny_bind (m:=field (.ref z) 2) (wpAny_field f rfl (x:=.bool false) rfl ?_);refine wpAny_bind (m:=field (.ref z) 3) (wpAny_field f rfl (x:=.ref TI) rfl ?_);refine wpAny_bind (wpAny_seqItems r rfl ?_);refine wpAny_bind (m:=Builtin.SmallTypes.ownedTupleIsFree (.ref z)) ?_;unfold Builtin.SmallTypes.ownedTupleIsFree;refine wpAny_bind (wpAny_field f rfl (x:=.none) rfl (wpAny_pure ?_));rw[if_pos (by rfl)];refine wpAny_bind (wpAny_rule (wpAny_bind (wpAny_field f rfl (x:=.ref TO) rfl (wpAny_bind (wpAny_setField_rec f (by simp) λg1 h e1=>?_)))));have h:IsZip g1 z TI TO .ellipsis:=h;refine wpAny_bind ?_;simp only[List.zipIdx_cons,List.zipIdx_nil,N7,List.forIn_nil];refine wpAny_bind (wpAny_bind (wpAny_onRaise (wpAny_bind (m:=Builtin.SmallTypes.nextOf (.ref i1)) ?_)));have u1:S1 n1 g1:=j.frame _ _ _ g λb u o e=>(e1.2 b (Z.a1 b u).1).trans e
 refine j.done { s with heap:=g1 } _ _ u1 λg2 e x2 v=>?_
 obtain⟨oe,ge,l⟩:=v;have n:IsZip g2 z TI TO .ellipsis:=x2 _ _ Z.z1.symm h;have i:e≠z:=λq=>by subst q;rw[n]at ge;cases ge;simp at l
 refine wpAny_setField_rec n (by simp) λy _ p=>t y e (λc o c1 _ B _ q=>(p.2 c c1).trans (x2 _ _ B ((e1.2 c c1).trans q))) ⟨oe,(p.2 e i).trans ge,l⟩
theorem wN (i:Draws prog w A.in1 i1 f1 n1 P1 S1) (j:Draws prog w A.in1 i2 f2 n2 P2 S2) (Z:mx z TI TO i1 i2 f1 f2) {Q:Option Value->Shared->Prop} (g:IsZip s.heap z TI TO .none) (l:IsPair s.heap TI (.ref i1) (.ref i2)) (m:IsPair s.heap TO a b)
  (e:S1 k s.heap) (f:S2 k s.heap) (k1:k<n1) (k2:k<n2)
  (n:∀h' x y tk,P1 k x->P2 k y->IsZip h' z TI TO (rawInt s.heap.objs.size)->IsPair h' TO x y->S1 (k+1) h'->S2 (k+1) h'->IsPair h' s.heap.objs.size x y ->
   (∀c o,c≠z->c≠TO->c≠i1->c≠i2->s.heap.get? c=some o->h'.get? c=some o)->Q (some (.ref s.heap.objs.size)) { s with heap:=h',toks:=tk }):wpAny (model prog w) A (pyNext (.ref z)) Q E s:=by
 have h:s.TypeIs (.ref z) "zip":=⟨_,g,rfl⟩
 unfold pyNext;refine wpAny_bind (wpAny_attempt (wpAny_callSpecial?_slot (name:=Str.ofString "__next__") h F.slot_zip_next (wpAny_call_entry F.slot_zip_next h F.entry_zip_next (Bc i j Z g l m e f k1 k2 λh' x y tk p1 p2 c1 p q r t u=>?_) (F.args_zip_next_1 _))));exact wpAny_pure (n h' x y tk p1 p2 c1 p q r t u)
theorem oE (i:Draws prog w A.in1 i1 f1 n1 P1 S1) (Z:mx z TI TO i1 i2 f1 f2) {Q:Option Value->Shared->Prop} (g:IsZip s.heap z TI TO .none) (j:IsPair s.heap TI (.ref i1) (.ref i2)) (l:IsPair s.heap TO a b) (f:S1 n1 s.heap)
  (m:∀h',(∀c o,c≠z->c≠TO->c≠i1->c≠i2->s.heap.get? c=some o->h'.get? c=some o)->Q none { s with heap:=h' }):wpAny (model prog w) A (pyNext (.ref z)) Q E s:=by
 have h:s.TypeIs (.ref z) "zip":=⟨_,g,rfl⟩
 unfold pyNext;refine wpAny_bind (wpAny_attempt (wpAny_callSpecial?_slot (name:=Str.ofString "__next__") h F.slot_zip_next (wpAny_call_entry F.slot_zip_next h F.entry_zip_next (B5 i Z g j l f λh' e k0 n=>?_) (F.args_zip_next_1 _))));obtain⟨o,p,hc⟩:=n;exact wpAny_bind (wpAny_isInstance (T:="StopIteration") (b:=true) ⟨o,p,hc⟩ isSubtype_stop (wpAny_pure (m _ k0)))
abbrev zH1 (h:Heap) (t:Addr):Heap:=h.push { cls:=.type "tuple_iterator",data:=.fields #[.ref t,.int 0 0] }
abbrev zH2 (h:Heap) (t l:Addr):Heap:=(zH1 h t).push { cls:=.type "list_iterator",data:=.fields #[.ref l,.int 0 0] }
abbrev zH3 (h:Heap) (t l:Addr):Heap:=(zH2 h t l).push { cls:=.type "tuple",data:=.seq #[.ref h.objs.size,.ref (zH1 h t).objs.size] }
abbrev zH4 (h:Heap) (t l:Addr):Heap:=(zH3 h t l).push { cls:=.type "tuple",data:=.seq #[.none,.none] }
abbrev zH5 (h:Heap) (t l:Addr):Heap:=(zH4 h t l).push { cls:=.type "zip",data:=.fields #[.none,.bool false,.bool false,.ref (zH2 h t l).objs.size,.ref (zH3 h t l).objs.size] }
theorem vG (t l:Addr) (xs ys:Array Value):Meets (Builtin.«zip.__new__» ⟨[.type "zip",.ref t,.ref l],[]⟩) (λ_ R s=>s.heap.IsTuple t xs/\s.heap.IsList l ys/\R (.ok (.ret (.ref (zH4 s.heap t l).objs.size))) { s with heap:=zH5 s.heap t l }) :=
 .of_wp λprog w A R s h=>by
  obtain⟨c,g,d,tk,os⟩:=s;obtain⟨e,hl,h⟩:=h;have sb:isSubtype (.type "zip") (.type "zip")=pure true:=by rw[isSubtype_type];kernel_rfl
  have a:Heap.IsTuple (Shared.heap ⟨c,g,d,tk,os⟩) t xs:=e;have b:Heap.IsList (Shared.heap ⟨c.push { cls:=.type "tuple_iterator",data:=.fields #[.ref t,.int 0 0] },g,d,tk,os⟩) l ys:=Heap.IsList.push hl _
  wp_walk using wpAny_pyIter_tuple a,wpAny_pyIter_list b
  exact⟨_,rfl,h⟩
theorem xk {l:Addr} {xs ys:Array Value} (a:s.heap.IsTuple t xs) (hl:s.heap.IsList l ys) (h:Q (.ref (zH4 s.heap t l).objs.size) { s with heap:=zH5 s.heap t l }) :
  wpAny (model prog w) A (call (.type "zip") [.ref t,.ref l]) Q E s:=by
 refine callType_new F.called_zip (by decide) (F.typeCall_zip_2 _ _) (F.newCall_zip_2 _ _) (λobj=>F.args_object_init_3 obj _ _) F.entry_zip_new (vG t l xs ys) ⟨a,hl,?_⟩;exact⟨⟨_,LF _ rfl,rfl⟩,h⟩
end
section
variable {σ:L2.St}
theorem Inv.turnLay {t':Nat} {T:Addr} (I:Inv X pins σ H s) (g:∀b∈ch,pU X pins H b) (h:s.heap.objs.size<=T) (k:∀b u,b∉ch->s.heap.get? b=some u->h'.get? b=some u)
  (new:dh X.prog X.w (upd H T o) h' T o):Inv X pins σ (upd H T o) { s with heap:=h',toks:=t' }:=by
 have hn:H T=none:=I.hok.fresh h;have a:∀b u,H b=some u->b∉ch:=λb u e z=>by rw[(g b z).1]at e;cases e
 have neT:∀b u,s.heap.get? b=some u->b≠T:=λb u e=>LC (LH (Ly e) h)
 refine I.step (g':=s.gens) (d':=s.drawn) (ch:=ch) (λb f=>?_) (λb u _ _ hc e _=>k b u hc e) (λb u _ _ hc e _=>⟨u.slots,k b u hc e⟩) (λb u _ e n=>by rw[ay (neT b u e)];exact n)
  (λb u hc e=>⟨u,k b u hc e⟩) (λb xs e=>by rw[ay (aI e hn)];exact e) (λb u v e=>by rw[ay (aI e hn)];exact e) (λb ps e=>by rw[ay (aI e hn)];exact e) (λm hm=>?_) (λb u e=>?_) I.bare
 ·obtain⟨f0,f1,f2,j,l,p⟩:=g b f;exact⟨j,f1,l,p⟩
 ·obtain⟨i,es,t,x,r⟩:=hm;exact⟨i,es,t,k _ i (λz=>(g _ z).2.1 rfl) x,r⟩
 ·by_cases f:b=T
  ·subst f;rw[aG]at e;cases e;exact new
  ·rw[ay f]at e;refine (I.hok b u e).stay (λc v hc q=>k c v ?_ q) (λc q=>by rw[ay (aI q hn)];exact q) (λc xs q=>by rw[ay (aI q hn)];exact q) λc o' w' q=>by rw[ay (aI q hn)];exact q
   rcases hc with z|z
   ·rw[z];exact a b u e
   ·exact a c _ z
theorem Inv.turneds {t':Nat} (I:Inv X pins σ H s) (f:∀b∈ch,pU X pins H b) (k:∀b u,b∉ch->s.heap.get? b=some u->h'.get? b=some u):Inv X pins σ H { s with heap:=h',toks:=t' }:=by
 have a:∀b u,H b=some u->b∉ch:=λb u e z=>by rw[(f b z).1]at e;cases e
 refine I.step (g':=s.gens) (d':=s.drawn) (ch:=ch) (λb h=>?_) (λb u _ _ hc e _=>k b u hc e) (λb u _ _ hc e _=>⟨u.slots,k b u hc e⟩) (λb u _ e n=>n)
  (λb u hc e=>⟨u,k b u hc e⟩) (λb xs e=>e) (λb u v e=>e) (λb ps e=>e) (λm hm=>?_) (λb u e=>?_) I.bare
 ·obtain⟨f0,f1,f2,i,j,l⟩:=f b h;exact⟨i,f1,j,l⟩
 ·obtain⟨g,es,o,p,r⟩:=hm;exact⟨g,es,o,k _ g (λz=>(f _ z).2.1 rfl) p,r⟩
 ·refine (I.hok b u e).stay (λc v hc q=>k c v ?_ q) (λ_ q=>q) λ_ _ q=>q
  rcases hc with z|z
  ·rw[z];exact a b u e
  ·exact a c _ z
end
def Itz (K:PySem.W.Frag) (a b:Addr) (n:Nat):It :=
 ⟨λi H=>i<n/\∃xs ys,SqT K H a xs/\SqL K H b ys/\xs.length=n/\ys.length=n,
  λi H v H'=>∃t x y,v=.ref t/\H t=none/\H'=upd H t (.tup [x,y])/\(∀xs,SqT K H a xs->xs[i]?=some x)/\∀ys,SqL K H b ys->ys[i]?=some y,
  λi H=>i=n/\∃xs ys,SqT K H a xs/\SqL K H b ys/\xs.length=n/\ys.length=n⟩
theorem BZ {z TI TO i1 i2:Addr} (Z:mx z TI TO i1 i2 [i1,a] [i2,b]) :
  Turn P w K (.Tuple elts x1 tp) (Itz K a b n) [z,TI,TO,i1,i2] z (λi h=>IsZip h z TI TO .none/\IsPair h TI (.ref i1) (.ref i2)/\(∃u v,IsPair h TO u v)/\h.IsTupleIter i1 a i/\h.IsListIter i2 b i) where
 mem:=by simp
 obj:=λi h st c hc=>by
  obtain⟨h1,h2,⟨u,v,r⟩,⟨t,j,_,d4⟩,⟨C,m,_,d5⟩⟩:=st;simp only[L7,LL,or_false]at hc;rcases hc with rfl|rfl|rfl|rfl|rfl
  ·exact⟨_,h1,λv q=>by cases q⟩
  ·exact⟨_,h2,λv q=>by cases q⟩
  ·exact⟨_,r,λv q=>by cases q⟩
  ·exact⟨_,j,λv q=>by rw[d4]at q;cases q⟩
  ·exact⟨_,m,λv q=>by rw[d5]at q;cases q⟩
 keep:=λi h h' st k=>by obtain⟨h1,h2,⟨u,v,r⟩,⟨t,j,r4⟩,⟨C,m,r5⟩⟩:=st;exact⟨k z (by simp) _ h1,k TI (by simp) _ h2,⟨u,v,k TO (by simp) _ r⟩,⟨t,k i1 (by simp) _ j,r4⟩,⟨C,k i2 (by simp) _ m,r5⟩⟩
 item:=by
  intro X hP hw hK hc i pins s σ H E I R st hg;subst hP hw hK;obtain⟨hi,xs,ys,S,hy,lx,ly⟩:=hg;obtain⟨h1,h2,⟨u,v,r⟩,D,T⟩:=st;obtain⟨f,U,p,_⟩:=I.tuple S;obtain⟨G,J,p',_⟩:=I.list hy;have la:=U.length;have lb:=J.length;have Y:X.A.in1.handled=none:=I.ok.hd hc;have na:a≠i1:=λq=>by obtain⟨o,g,c,_⟩:=p;obtain⟨t,j,L,_⟩:=D;rw[q,j]at g;cases g;rw[L]at c;exact absurd (Value.type.inj c) (by decide)
  have nb:b≠i2:=λq=>by obtain⟨o,n,g,c,_⟩:=p';obtain⟨C,m,c5,_⟩:=T;rw[q,m]at g;cases g;rw[c5]at c;exact absurd (Value.type.inj c) (by decide)
  have pt:s.heap.IsTuple a f.toArray:=p;refine wN (mw Y i1 a na f.toArray) (Draws.list Y i2 b nb G.toArray) Z h1 h2 r ⟨D,pt⟩ ⟨T,p'.isList⟩ (by simp;omega) (by simp;omega) λh' x y tk px py c1 c2 c3 L c5 c6=>⟨_,rfl,?_⟩
  refine wpAny_letOwnedTupleGo_zip (s:={ s with heap:=h',toks:=tk }) c1 λh2' d1 d2=>?_
  have zl:z<s.heap.objs.size:=Ly h1;have F:∀c o,c≠z->h'.get? c=some o->h2'.get? c=some o:=λc o hc e=>(d2.2 c hc).trans e
  have nT:s.heap.objs.size≠z:=Mj zl;obtain⟨M,ex,rx⟩:∃M,xs[i]?=some M/\RelV M x:=by
   have l:i<xs.length:=by omega
   obtain⟨u',e1,e2⟩:=U.get (L0 l);refine⟨xs[i],L0 l,?_⟩;have N:f[i]?=some x:=by simpa using px
   rw[e1]at N;cases N;exact e2
  obtain⟨O,ey,ry⟩:∃O,ys[i]?=some O/\RelV O y:=by
   have l:i<ys.length:=by omega
   obtain⟨u',e1,e2⟩:=J.get (L0 l);refine⟨ys[i],L0 l,?_⟩;have Q:G[i]?=some y:=by simpa using py
   rw[e1]at Q;cases Q;exact e2
  have fr:H s.heap.objs.size=none:=I.hok.fresh (L9 _);refine⟨.ref s.heap.objs.size,upd H s.heap.objs.size (.tup [M,O]),?_,rfl,⟨_,M,O,rfl,fr,rfl,λxs' h=>by rw[I.tuple_inj h S];exact ex,λys' h=>by rw[I.list_inj h hy];exact ey⟩,?_,λc B=>?_⟩
  ·refine I.turnLay (t':=tk) (ch:=[z,TI,TO,i1,i2]) R (L9 _) (λc o hn e=>?_) ⟨by show 2<=sizeLine;decide,[x,y],.cons rx (.cons ry .nil),⟨_,F _ _ nT c5,rfl,rfl,_,rfl⟩⟩;simp only[L7,LL,or_false,not_or]at hn;exact F c o hn.1 (c6 c o hn.1 hn.2.2.1 hn.2.2.2.1 hn.2.2.2.2 e)
  ·obtain⟨⟨t,j,r4⟩,_⟩:=c3;obtain⟨⟨C,m,r5⟩,_⟩:=L;exact⟨d1,F _ _ Z.TIz (c6 _ _ Z.TIz Z.TIO Z.TI1 Z.TI2 h2),⟨x,y,F _ _ Z.TOz c2⟩,⟨t,F _ _ Z.z1 j,r4⟩,⟨C,F _ _ Z.z2 m,r5⟩⟩
  ·have h0:=(R c B).1;obtain⟨oc,gc⟩:∃oc,s.heap.get? c=some oc:=by
    simp only[L7,LL,or_false]at B;rcases B with rfl|rfl|rfl|rfl|rfl
    ·exact⟨_,h1⟩
    ·exact⟨_,h2⟩
    ·exact⟨_,r⟩
    ·obtain⟨t,j,_⟩:=D;exact⟨_,j⟩
    ·obtain⟨C,m,_⟩:=T;exact⟨_,m⟩
   rw[ay (LC (Ly gc))];exact h0
 done:=by
  intro X hP hw hK hc i pins s σ H E I R st hg;subst hP hw hK;obtain⟨hi,xs,ys,S,hy,lx,ly⟩:=hg;obtain⟨h1,h2,⟨u,v,r⟩,D,T⟩:=st;obtain⟨f,U,p,_⟩:=I.tuple S;have la:=U.length;have Y:X.A.in1.handled=none:=I.ok.hd hc;have na:a≠i1:=λq=>by obtain⟨o,g,c,_⟩:=p;obtain⟨t,j,L,_⟩:=D;rw[q,j]at g;cases g;rw[L]at c;exact absurd (Value.type.inj c) (by decide)
  have pt:s.heap.IsTuple a f.toArray:=p;have e:f.toArray.size=i:=by simp;omega
  refine oE (mw Y i1 a na f.toArray) Z h1 h2 r ⟨by rw[e];exact D,pt⟩ λh' k=>⟨rfl,?_⟩
  refine I.turneds (t':=s.toks) (ch:=[z,TI,TO,i1,i2]) R λc o hn q=>?_
  simp only[L7,LL,or_false,not_or]at hn;exact k c o hn.1 hn.2.2.1 hn.2.2.2.1 hn.2.2.2.2 q
 self:=λ_ _ _ _ _ st h=>wpAny_pyIter_zip st.1 h
theorem boot_zip:bootBuiltins "zip"=some (.type "zip"):=by decide +kernel
def Lc (K:PySem.W.Frag) (ta:TA):TI:=λσ H R=>ta σ H λvs H1=>∃a b xs ys,vs=[.ref a,.ref b]/\SqT K H1 a xs/\SqL K H1 b ys/\ys.length=xs.length/\R (Itz K a b xs.length) H1
theorem Ja {a b:Expr} (A:Gl X "zip") (hm:X.mg "zip"=none) (ha:PA X [a,b] ta) (B:starEach [a,b] X.env=[(false,eval a X.env),(false,eval b X.env)]:=by rfl) (r:starEach [b] X.env=[(false,eval b X.env)]:=by rfl) :
  PI X (.Tuple elts x1 tp) (.Call (.Name "zip" p) [a,b] [] pos) (Lc X.K ta):=by
 intro pins s σ H R I h;refine Call_ (fQ I A hm boot_zip (PyProof.Rows.callWith_type1 (thn (ha pos pins s σ H _ I h) λus f v=>?_) (by rw[B,r]) (by rw[r];rfl)));obtain⟨vs,H1,t,C,D⟩:=v;obtain⟨l,m,xs,ys,e,E,F,hl,q⟩:=D;subst e;obtain⟨u1,u2,e1,G,J⟩:=vals2 C;subst e1;cases G;cases J;obtain⟨w,rv,pt,_⟩:=t.tuple E;obtain⟨jts,rw',pl,_⟩:=t.list F;have u:f.heap.IsTuple l w.toArray:=pt;have x:l<f.heap.objs.size:=by obtain⟨_,g,_⟩:=u;exact Ly g
 have bl:m<f.heap.objs.size:=by obtain⟨_,_,g,_⟩:=pl;exact Ly g
 refine xk u pl.isList ?_;have z1:(zH1 f.heap l).objs.size=f.heap.objs.size+1:=Heap.size_push ..;have z2:(zH2 f.heap l m).objs.size=f.heap.objs.size+2:=by rw[Heap.size_push,z1]
 have z3:(zH3 f.heap l m).objs.size=f.heap.objs.size+3:=by rw[Heap.size_push,z2]
 have y:(zH4 f.heap l m).objs.size=f.heap.objs.size+4:=by rw[Heap.size_push,z3]
 have z:IsZip (zH5 f.heap l m) (zH4 f.heap l m).objs.size (zH2 f.heap l m).objs.size (zH3 f.heap l m).objs.size .none:=LF _ rfl;have L:IsPair (zH5 f.heap l m) (zH3 f.heap l m).objs.size .none .none:=L1 _ (LF _ rfl);have M:IsPair (zH5 f.heap l m) (zH2 f.heap l m).objs.size (.ref f.heap.objs.size) (.ref (zH1 f.heap l).objs.size):=L1 _ (L1 _ (LF _ rfl));have g2:(zH5 f.heap l m).IsListIter (zH1 f.heap l).objs.size m 0:=⟨_,L1 _ (L1 _ (L1 _ (LF _ rfl))),rfl,rfl⟩
 have g1:(zH5 f.heap l m).IsTupleIter f.heap.objs.size l 0:=⟨_,L1 _ (L1 _ (L1 _ (L1 _ (LF _ rfl)))),rfl,rfl⟩
 have N:∀c o,f.heap.get? c=some o->(zH5 f.heap l m).get? c=some o:=λc o e=>L1 _ (L1 _ (L1 _ (L1 _ (L1 _ e))))
 have O:Inv X pins σ H1 { f with heap:=zH5 f.heap l m }:=t.kept (t':=f.toks) N;have Z:mx (zH4 f.heap l m).objs.size (zH2 f.heap l m).objs.size (zH3 f.heap l m).objs.size f.heap.objs.size (zH1 f.heap l).objs.size [f.heap.objs.size,l] [(zH1 f.heap l).objs.size,m]:=by
  rw[z1,z2,z3,y];have n:∀i j:Nat,i≠j->f.heap.objs.size+i≠f.heap.objs.size+j:=λi j h q=>h (Nat.add_left_cancel q)
  refine⟨n 2 4 (by decide),n 3 4 (by decide),n 0 4 (by decide),n 1 4 (by decide),n 2 3 (by decide),n 2 0 (by decide),n 2 1 (by decide),n 3 0 (by decide),n 3 1 (by decide),n 0 1 (by decide),λc hc=>?_,λc hc=>?_⟩
  ·simp only[L7,LL,or_false]at hc;rcases hc with rfl|rfl
   ·exact⟨n 0 4 (by decide),n 0 3 (by decide),n 0 1 (by decide)⟩
   ·exact⟨LC (LH x (Ml _ _)),LC (LH x (Ml _ _)),LC (LH x (Ml _ _))⟩
  ·simp only[L7,LL,or_false]at hc;rcases hc with rfl|rfl
   ·exact⟨n 1 4 (by decide),n 1 3 (by decide),n 1 0 (by decide)⟩
   ·exact⟨LC (LH bl (Ml _ _)),LC (LH bl (Ml _ _)),LC bl⟩
 have big:∀c∈[(zH4 f.heap l m).objs.size,(zH2 f.heap l m).objs.size,(zH3 f.heap l m).objs.size,f.heap.objs.size,(zH1 f.heap l).objs.size],f.heap.objs.size<=c:=λc hc=>by
  simp only[L7,LL,or_false]at hc;rcases hc with rfl|rfl|rfl|rfl|rfl
  ·rw[y];exact Ml _ _
  ·rw[z2];exact Ml _ _
  ·rw[z3];exact Ml _ _
  ·exact L9 _
  ·rw[z1];exact Ml _ _
 refine wpAny_pyIter_zip z ⟨_,_,_,_,H1,rfl,O,BZ Z,⟨z,M,⟨_,_,L⟩,g1,g2⟩,λc hc=>?_,q⟩;exact t.fpOk (big c hc) (t.hok.fresh (big c hc))
inductive Rs (α:Type) where
 |ok (a:α)
 |rz (C:Addr)
 |no
namespace Rs
def bind {α β:Type}:Rs α->(α->Rs β)->Rs β
 |ok a,f=>f a
 |rz C,_=>rz C
 |no,_=>no
def eO {α:Type}:Option α->Rs α
 |some a=>ok a
 |none=>no
def calm {α:Type}:Rs α->Rs α
 |ok a=>ok a
 |_=>no
@[simp]theorem ag (a:α) (f:α->Rs β):(ok a).bind f=f a:=rfl
@[simp]theorem eF (C:Addr) (f:α->Rs β):(rz C).bind f=rz C:=rfl
@[simp]theorem bw (f:α->Rs β):(no:Rs α).bind f=no:=rfl
@[simp]theorem ai (a:α):eO (some a)=ok a:=rfl
@[simp]theorem Ih:eO (none:Option α)=no:=rfl
@[simp]theorem dm (a:α):(ok a).calm=ok a:=rfl
end Rs
variable {gf:List PyData->Rs PyData}
def del (H:Hp) (A:List Addr):Hp:=λb=>if b∈A then none else H b
theorem yi:del H []=H:=by funext b;simp[del]
theorem gJ (h:b∈A):del H A b=none:=by simp[del,h]
theorem aL (h:b∉A):del H A b=H b:=by simp[del,h]
theorem aZ (h:del H A b=some o):b∉A/\H b=some o:=by
 by_cases z:b∈A
 ·rw[gJ z]at h;cases h
 ·rw[aL z]at h;exact⟨z,h⟩
theorem aw:av (del H A) H:=λ_ _ e=>(aZ e).2
theorem av.del (s:av H H'):av (del H A) (L2.del H' A):=λb o e=>by obtain⟨z,e⟩:=aZ e;rw[aL z];exact s b o e
def HN:HO->Bool
 |.lst _=>true
 |.dK _=>true
 |.dT _=>true
 |_=>false
def Ls (H:Hp) (A:List Addr):Prop:=∀a∈A,∃o,H a=some o/\HN o=true
theorem Ls.same (h:Ls H A) (s:av H H'):Ls H' A:=λa ha=>by obtain⟨o,e,q⟩:=h a ha;exact⟨o,s _ _ e,q⟩
theorem Ls.nil:Ls H []:=λ_ h=>by cases h
theorem Ls.new {p:Addr} (h:Ls H A) (a:H p=none):p∉A:=λz=>by obtain⟨xs,e,_⟩:=h p z;rw[a]at e;cases e
def aj (ns:List Int):PyData:=.dict [(.none,.list (ns.map .int))]
abbrev dtK (l:List ((Int×Int)×Int)):List (PyData×PyData):=(.bool true,.none)::l.map λp=>(.tuple [.int p.1.1,.int p.1.2],.int p.2)
abbrev dtO (l:List ((Int×Int)×Int)):HO:=.dT (l.map λp=>([.inl p.1.1,.inl p.1.2],V.int p.2))
def Il (kvs:List (PyData×PyData)) (o:HO):Prop:=(∃l:List (Int×Int),kvs=l.map (λp=>(PyData.int p.1,PyData.int p.2))/\o=.dK (l.map λp=>(.inl p.1,V.int p.2)))\/∃l,kvs=dtK l/\o=dtO l
mutual
def Is (K:PySem.W.Frag) (H:Hp):PyData->V->Prop
 |.none,v=>v=.non
 |.bool b,v=>v=.bl b
 |.int i,v=>v=.int i
 |.str x,v=>v=.str x
 |.list ds,v=>∃a xs,v=.ref a/\H a=some (.lst xs)/\Iss K H ds xs
 |.tuple ds,v=>∃a xs,v=.ref a/\H a=some (.tup xs)/\Iss K H ds xs
 |.dict kvs,v=>((∃a ns,v=.ref a/\kvs=[(PyData.none,PyData.list (List.map PyData.int ns))]/\SqL K H a (List.map V.int ns)) \/
  ∃(a:Addr) (o:HO),v=.ref a/\Il kvs o/\H a=some o) \/
  ∃(a C dx:Addr) (fs:List (Str×V)),v=.ref a/\H a=some (.ins C dx fs)/\fs.lookup ("@":Str)=none/\(Isk K H kvs (("",.int (C:Int))::fs)\/Isk K H kvs (("",.int (C:Int))::("@",.int (a:Int))::fs))
def Iss (K:PySem.W.Frag) (H:Hp):List PyData->List V->Prop
 |[],vs=>vs=[]
 |d::ds,vs=>∃v r,vs=v::r/\Is K H d v/\Iss K H ds r
def Isk (K:PySem.W.Frag) (H:Hp):List (PyData×PyData)->List (Str×V)->Prop
 |[],fs=>fs=[]
 |(k,d)::r,fs=>∃f v fs',fs=(f,v)::fs'/\k=.str f/\Is K H d v/\Isk K H r fs'
end
def ck (C a:Addr) (fds:List (Str×PyData)):PyData:=.dict ((.str "",.int (C:Int))::(.str "@",.int (a:Int))::fds.map λp=>(.str p.1,p.2))
def DQ (C:Addr) (fds:List (Str×PyData)):PyData:=.dict ((.str "",.int (C:Int))::fds.map λp=>(.str p.1,p.2))
section
theorem bL {i:Int}:Is K H (.int i) (.int i):=by unfold Is;rfl
theorem is_bool {b:Bool}:Is K H (.bool b) (.bl b):=by unfold Is;rfl
theorem is_none:Is K H .none .non:=by unfold Is;rfl
theorem DJ:Is K H (.str x) (.str x):=by unfold Is;rfl
theorem ig (h:H a=some (.tup xs)) (h2:Iss K H ds xs):Is K H (.tuple ds) (.ref a):=by unfold Is;exact⟨a,xs,rfl,h,h2⟩
theorem jv (h:H a=some (.lst xs)) (h2:Iss K H ds xs):Is K H (.list ds) (.ref a):=by unfold Is;exact⟨a,xs,rfl,h,h2⟩
theorem AB (h:SqL K H a (ns.map V.int)):Is K H (aj ns) (.ref a):=by unfold aj Is;exact .inl (.inl ⟨a,ns,rfl,rfl,h⟩)
theorem cK:Iss K H [] []:=by unfold Iss;rfl
theorem cq {d:PyData} (h:Is K H d v) (h2:Iss K H ds vs):Iss K H (d::ds) (v::vs):=by unfold Iss;exact⟨v,vs,rfl,h,h2⟩
theorem iS {d:PyData} (h:Is K H d v):Iss K H [d] [v]:=cq h cK
theorem Is.ofInt {i:Int} (h:Is K H (.int i) v):v=.int i:=by unfold Is at h;exact h
theorem Is.ofBool {i:Bool} (h:Is K H (.bool i) v):v=.bl i:=by unfold Is at h;exact h
theorem Is.ofNone (h:Is K H .none v):v=.non:=by unfold Is at h;exact h
theorem Is.ofStr (h:Is K H (.str x) v):v=.str x:=by unfold Is at h;exact h
theorem Is.ofTup (h:Is K H (.tuple ds) v):∃a xs,v=.ref a/\H a=some (.tup xs)/\Iss K H ds xs:=by unfold Is at h;exact h
theorem Is.ofLst (h:Is K H (.list ds) v):∃a xs,v=.ref a/\H a=some (.lst xs)/\Iss K H ds xs:=by unfold Is at h;exact h
theorem Is.ofScript (h:Is K H (aj ns) v):∃a,v=.ref a/\SqL K H a (ns.map V.int):=by
 unfold aj Is at h;rcases h with (h|⟨a,l,_,e,_⟩)|⟨a,C,dx,fs,_,_,_,h|h⟩
 case inl.inr=>rcases e with⟨m,e,_⟩|⟨m,e,_⟩ <;> first|(cases e;done)|(cases m <;> cases e)
 case inr.inl=>unfold Isk at h;obtain⟨f,_,_,_,h,_⟩:=h;cases h
 case inr.inr=>unfold Isk at h;obtain⟨f,_,_,_,h,_⟩:=h;cases h
 obtain⟨a,g,e,e2,h⟩:=h;have i:ns.map PyData.int=g.map PyData.int:=by injection e2 with e2 _;injection e2 with _ e2;injection e2
 have j:ns=g:=by
  have inj:∀(a b:List Int),a.map PyData.int=b.map PyData.int->a=b:=by
   intro a
   induction a with
   |nil=>intro b c;cases b with|nil=>rfl|cons _ _=>simp at c
   |cons x r ih =>
    intro b c;cases b with
    |nil=>simp at c
    |cons y s =>simp only[L4,List.cons.injEq,PyData.int.injEq]at c;rw[c.1,ih s c.2]
  exact inj _ _ i
 subst j;exact⟨a,e,h⟩
theorem Iss.nil_of (h:Iss K H [] vs):vs=[]:=by unfold Iss at h;exact h
theorem Iss.cons_of {d:PyData} (h:Iss K H (d::ds) vs):∃v r,vs=v::r/\Is K H d v/\Iss K H ds r:=by unfold Iss at h;exact h
theorem Iss.length:∀{ds:List PyData} {vs:List V},Iss K H ds vs->vs.length=ds.length
 |[],_,h=>by rw[h.nil_of];rfl
 |_::_,_,h=>by obtain⟨v,r,e,_,h2⟩:=h.cons_of;rw[e,LI,LI,Iss.length h2]
mutual
theorem Is.same (e:av H H'):∀{d:PyData} {v:V},Is K H d v->Is K H' d v
 |.none,_,h=>by unfold Is at h ⊢;exact h
 |.bool _,_,h=>by unfold Is at h ⊢;exact h
 |.int _,_,h=>by unfold Is at h ⊢;exact h
 |.str _,_,h=>by unfold Is at h ⊢;exact h
 |.list ds,_,h=>by unfold Is at h ⊢;obtain⟨a,xs,e1,h1,h2⟩:=h;exact⟨a,xs,e1,e _ _ h1,Iss.same e h2⟩
 |.tuple ds,_,h=>by unfold Is at h ⊢;obtain⟨a,xs,e1,h1,h2⟩:=h;exact⟨a,xs,e1,e _ _ h1,Iss.same e h2⟩
 |.dict _,_,h=>by
  unfold Is at h ⊢;rcases h with (⟨a,ns,e1,e2,h2⟩|⟨a,l,e1,e2,h2⟩)|⟨a,C,dx,fs,e1,h1,hn,h2|h2⟩
  ·exact .inl (.inl ⟨a,ns,e1,e2,e.seq h2⟩)
  ·exact .inl (.inr ⟨a,l,e1,e2,e _ _ h2⟩)
  ·exact .inr ⟨a,C,dx,fs,e1,e _ _ h1,hn,.inl (Isk.same e h2)⟩
  ·exact .inr ⟨a,C,dx,fs,e1,e _ _ h1,hn,.inr (Isk.same e h2)⟩
theorem Iss.same (e:av H H'):∀{ds:List PyData} {vs:List V},Iss K H ds vs->Iss K H' ds vs
 |[],_,h=>by unfold Iss at h ⊢;exact h
 |d::ds,_,h=>by unfold Iss at h ⊢;obtain⟨v,r,e1,h1,h2⟩:=h;exact⟨v,r,e1,Is.same e h1,Iss.same e h2⟩
theorem Isk.same (e:av H H'):∀{ds:List (PyData×PyData)} {fs:List (Str×V)},Isk K H ds fs->Isk K H' ds fs
 |[],_,h=>by unfold Isk at h ⊢;exact h
 |(k,d)::ds,_,h=>by unfold Isk at h ⊢;obtain⟨f,v,r,e1,e2,h1,h2⟩:=h;exact⟨f,v,r,e1,e2,Is.same e h1,Isk.same e h2⟩
end
theorem nN:Isk K H [] []:=by unfold Isk;rfl
theorem dS {f:Str} {d:PyData} {r:List (PyData×PyData)} {fs:List (Str×V)} (h:Is K H d v) (h2:Isk K H r fs):Isk K H ((.str f,d)::r) ((f,v)::fs):=by unfold Isk;exact⟨f,v,fs,rfl,rfl,h,h2⟩
theorem Hf {fds:List (Str×PyData)} {fs:List (Str×V)} (h:H a=some (.ins C dx fs)) (hn:fs.lookup ("@":Str)=none) (h2:Isk K H (fds.map λp=>(.str p.1,p.2)) fs):Is K H (DQ C fds) (.ref a):=by unfold DQ Is;exact .inr ⟨a,C,dx,fs,rfl,h,hn,.inl (dS bL h2)⟩
theorem Dm {fds:List (Str×PyData)} {fs:List (Str×V)} (h:H a=some (.ins C dx fs)) (hn:fs.lookup ("@":Str)=none) (h2:Isk K H (fds.map λp=>(.str p.1,p.2)) fs):Is K H (ck C a fds) (.ref a):=by unfold ck Is;exact .inr ⟨a,C,dx,fs,rfl,h,hn,.inr (dS bL (dS bL h2))⟩
theorem Hn (b:Ls H A) (h:H a=some (.tup xs)):del H A a=some (.tup xs):=by rw[aL (λq=>by obtain⟨ys,e2,c⟩:=b a q;rw[h]at e2;cases e2;cases c)];exact h
mutual
theorem Is.dl {A:List Addr} (b:Ls H A):∀{d:PyData} {v:V},ee d=true->Is K H d v->Is K (del H A) d v
 |.none,_,_,h=>by unfold Is at h ⊢;exact h
 |.bool _,_,_,h=>by unfold Is at h ⊢;exact h
 |.int _,_,_,h=>by unfold Is at h ⊢;exact h
 |.str _,_,_,h=>by unfold Is at h ⊢;exact h
 |.list _,_,n,_=>by unfold ee at n;cases n
 |.dict _,_,n,_=>by unfold ee at n;cases n
 |.tuple ds,_,n,h=>by unfold ee at n;obtain⟨a,xs,e,h1,h2⟩:=h.ofTup;subst e;exact ig (Hn b h1) (Iss.dl b n h2)
theorem Iss.dl {A:List Addr} (a:Ls H A):∀{ds:List PyData} {vs:List V},jN ds=true->Iss K H ds vs->Iss K (del H A) ds vs
 |[],_,_,h=>by rw[h.nil_of];exact cK
 |d::ds,_,n,h=>by unfold jN at n;obtain⟨n1,n2⟩:=Md.mp n;obtain⟨v,r,e,h1,h2⟩:=h.cons_of;subst e;exact cq (Is.dl a n1 h1) (Iss.dl a n2 h2)
end
mutual
def aC:PyData->Bool
 |.list ds=>cN ds
 |.tuple ds=>cN ds
 |.dict _=>false
 |_=>true
def cN:List PyData->Bool
 |[]=>true
 |d::ds=>aC d&&cN ds
end
mutual
theorem Is.isd:∀{d:PyData} {v:V},aC d=true->Is K H d v->IsD K H d v
 |.none,_,_,h=>by rw[h.ofNone];exact BD
 |.bool _,_,_,h=>by rw[h.ofBool];exact Cf
 |.int _,_,_,h=>by rw[h.ofInt];exact uq
 |.str _,_,_,h=>by rw[h.ofStr];exact DT
 |.list ds,_,n,h=>by unfold aC at n;obtain⟨a,xs,e,h1,h2⟩:=h.ofLst;subst e;exact tj (SqL.of h1) (Iss.isd n h2)
 |.tuple ds,_,n,h=>by unfold aC at n;obtain⟨a,xs,e,h1,h2⟩:=h.ofTup;subst e;exact EL (SqT.of h1) (Iss.isd n h2)
 |.dict _,_,n,_=>by unfold aC at n;cases n
theorem Iss.isd:∀{ds:List PyData} {vs:List V},cN ds=true->Iss K H ds vs->eR K H ds vs
 |[],_,_,h=>by rw[h.nil_of];exact qi
 |d::ds,_,n,h=>by unfold cN at n;obtain⟨n1,n2⟩:=Md.mp n;obtain⟨v,r,e,h1,h2⟩:=h.cons_of;subst e;exact qZ (Is.isd n1 h1) (Iss.isd n2 h2)
end
def fO:PyData->Bool
 |.none=>true
 |.bool _=>true
 |.int _=>true
 |.str _=>true
 |_=>false
theorem IsD.is {d:PyData} (n:fO d=true) (h:IsD K H d v):Is K H d v:=by
 cases d with
 |none=>rw[h.ofNone];exact is_none
 |bool _=>rw[h.ofBool];exact is_bool
 |int _=>rw[h.ofInt];exact bL
 |str _=>rw[h.ofStr];exact DJ
 |_=>cases n
theorem xm {d:PyData} (n:fO d=true):ee d=true:=by
 cases d with
 |list _=>cases n
 |tuple _=>cases n
 |dict _=>cases n
 |_=>unfold ee;rfl
theorem Iss.get:∀{ds:List PyData} {vs:List V} {i:Nat} {v:V},Iss K H ds vs->vs[i]?=some v->∃d,ds[i]?=some d/\Is K H d v
 |[],_,i,v,h,e=>by rw[h.nil_of]at e;simp at e
 |d::ds,_,i,v,h,e=>by
  obtain⟨w,r,e1,h1,h2⟩:=h.cons_of;subst e1;cases i with
  |zero=>simp at e;subst e;exact⟨d,rfl,h1⟩
  |succ i=>simpa using Iss.get (i:=i) h2 (by simpa using e)
theorem Iss.getD:∀{ds:List PyData} {vs:List V} {i:Nat} {d:PyData},Iss K H ds vs->ds[i]?=some d->∃v,vs[i]?=some v/\Is K H d v
 |[],_,i,v,h,e=>by simp at e
 |d::ds,_,i,v,h,e=>by
  obtain⟨w,r,e1,h1,h2⟩:=h.cons_of;subst e1;cases i with
  |zero=>simp at e;subst e;exact⟨w,rfl,h1⟩
  |succ i=>simpa using Iss.getD (i:=i) h2 (by simpa using e)
theorem Iss.append:∀{ds es:List PyData} {vs us:List V},Iss K H ds vs->Iss K H es us->Iss K H (ds++es) (vs++us)
 |[],_,_,_,h,h'=>by rw[h.nil_of];exact h'
 |d::ds,es,_,us,h,h'=>by obtain⟨v,r,e,h1,h2⟩:=h.cons_of;subst e;exact cq h1 (Iss.append h2 h')
theorem Iss.take:∀{ds:List PyData} {vs:List V} (n:Nat),Iss K H ds vs->Iss K H (ds.take n) (vs.take n)
 |[],_,n,h=>by rw[h.nil_of];simpa using cK
 |d::ds,_,0,h=>by simpa using cK
 |d::ds,_,n+1,h=>by obtain⟨v,r,e,h1,h2⟩:=h.cons_of;subst e;exact cq h1 (Iss.take n h2)
theorem Iss.drop:∀{ds:List PyData} {vs:List V} (n:Nat),Iss K H ds vs->Iss K H (ds.drop n) (vs.drop n)
 |[],_,n,h=>by rw[h.nil_of];simpa using cK
 |d::ds,_,0,h=>h
 |d::ds,_,n+1,h=>by obtain⟨v,r,e,h1,h2⟩:=h.cons_of;subst e;exact Iss.drop n h2
theorem Iss.set {d:PyData} {v:V} (hv:Is K H d v):∀{ds:List PyData} {vs:List V} (i:Nat),Iss K H ds vs->Iss K H (ds.set i d) (vs.set i v)
 |[],_,n,h=>by rw[h.nil_of];simpa using cK
 |e::ds,_,0,h=>by obtain⟨u,r,z,h1,h2⟩:=h.cons_of;subst z;exact cq hv h2
 |e::ds,_,n+1,h=>by obtain⟨u,r,z,h1,h2⟩:=h.cons_of;subst z;exact cq h1 (Iss.set hv n h2)
theorem Iss.eraseIdx:∀{ds:List PyData} {vs:List V} (i:Nat),Iss K H ds vs->Iss K H (ds.eraseIdx i) (vs.eraseIdx i)
 |[],_,n,h=>by rw[h.nil_of];simpa using cK
 |e::ds,_,0,h=>by obtain⟨u,r,z,h1,h2⟩:=h.cons_of;subst z;exact h2
 |e::ds,_,n+1,h=>by obtain⟨u,r,z,h1,h2⟩:=h.cons_of;subst z;exact cq h1 (Iss.eraseIdx n h2)
theorem Iss.rep {ds:List PyData} {vs:List V} (h:Iss K H ds vs):∀k:Nat,Iss K H (List.replicate k ds).flatten (List.replicate k vs).flatten
 |0=>cK
 |k+1=>by rw[Mo,Mo,Mu,Mu];exact h.append (Iss.rep h k)
theorem uX:∀(ns:List Int),Iss K H (ns.map PyData.int) (ns.map V.int)
 |[]=>cK
 |_::r=>cq bL (uX r)
theorem Iss.ofInts:∀{ns:List Int} {vs:List V},Iss K H (ns.map PyData.int) vs->vs=ns.map V.int
 |[],_,h=>h.nil_of
 |n::r,_,h=>by obtain⟨v,t,e,h1,h2⟩:=h.cons_of;rw[e,h1.ofInt,Iss.ofInts h2];rfl
theorem Iss.ofBools:∀{ns:List Bool} {vs:List V},Iss K H (ns.map PyData.bool) vs->vs=ns.map V.bl
 |[],_,h=>h.nil_of
 |n::r,_,h=>by obtain⟨v,t,e,h1,h2⟩:=h.cons_of;rw[e,h1.ofBool,Iss.ofBools h2];rfl
theorem Is.isNone {d:PyData} (h:Is K H d v):(v=.non)↔d=.none:=by
 cases d with
 |none=>simp[h.ofNone]
 |bool b=>simp[h.ofBool]
 |int i=>simp[h.ofInt]
 |str x=>simp[h.ofStr]
 |list ds=>obtain⟨a,xs,e,_⟩:=h.ofLst;simp[e]
 |tuple ds=>obtain⟨a,xs,e,_⟩:=h.ofTup;simp[e]
 |dict _=>unfold Is at h;rcases h with (⟨a,ns,e,_⟩|⟨a,l,e,_⟩)|⟨a,C,dx,fs,e,_⟩ <;> simp[e]
theorem bD {p:Addr} (h:H p=none):av H (upd H p o):=gM h
theorem jU {p:Addr} (h:p∈A):del (upd H p o) A=del H A:=by
 funext b;by_cases z:b∈A
 ·rw[gJ z,gJ z]
 ·rw[aL z,aL z,ay (by rintro rfl;exact z h)]
theorem lK {p:Addr} (b:Ls H A) (a:H p=none) (h:Iss K (del H A) ds xs):Is K (del (upd H p (.tup xs)) A) (.tuple ds) (.ref p) :=
 ig (by rw[aL (b.new a)];exact aG) (h.same (av.del (bD a)))
theorem j7 {p:Addr} (b:Ls H A) (a:H p=none) (h:Iss K (del H A) ds xs):Is K (del (upd H p (.lst xs)) A) (.list ds) (.ref p) :=
 jv (by rw[aL (b.new a)];exact aG) (h.same (av.del (bD a)))
end
abbrev Ds:=List (Option PyData)
variable {tgt:PyData->Option Ds} {gs:Ds->Rs (List PyData)} {δ:Ds} {ge:Ds->Rs PyData} {cond:Ds->Rs Bool}
structure dq (K:PySem.W.Frag) (H:Hp) (A:List Addr) (δ:Ds) (σ:St):Prop where
 ls:Ls H A
 len:δ.length=σ.length
 get:∀(i:Nat) (d:PyData),δ[i]?=some (some d)->∃v,σ[i]?=some (some v)/\Is K (del H A) d v
theorem dq.same (R:dq K H A δ σ) (s:av H H'):dq K H' A δ σ :=
 ⟨R.ls.same s,R.len,λi d e=>by obtain⟨v,e1,h⟩:=R.get i d e;exact⟨v,e1,h.same s.del⟩⟩
def gR (K:PySem.W.Frag) (E:XK) (A:List Addr) (H:Hp) (r:Rs PyData) (Q:VK):Prop:=match r with
 |.ok d=>∀v H',av H H'->Is K (del H' A) d v->Q v H'
 |.rz C=>∀H',av H H'->E (.ref C) none H'
 |.no=>False
def Ld (K:PySem.W.Frag) (E:XK) (A:List Addr) (H:Hp) (r:Rs (List PyData)) (Q:List V->Hp->Prop):Prop:=match r with
 |.ok d=>∀v H',av H H'->Iss K (del H' A) d v->Q v H'
 |.rz C=>∀H',av H H'->E (.ref C) none H'
 |.no=>False
def wB (E:XK) (H:Hp) (r:Rs Bool) (Q:Bool->Hp->Prop):Prop:=match r with
 |.ok d=>∀H',av H H'->Q d H'
 |.rz C=>∀H',av H H'->E (.ref C) none H'
 |.no=>False
def eD (K:PySem.W.Frag) (E:XK) (g:Ds->Rs PyData):TE:=λσ H Q=>∃A δ,dq K H A δ σ/\gR K E A H (g δ) Q
def aD (K:PySem.W.Frag) (E:XK) (g:Ds->Rs (List PyData)):TA:=λσ H Q=>∃A δ,dq K H A δ σ/\Ld K E A H (g δ) Q
def cD (K:PySem.W.Frag) (E:XK) (g:Ds->Rs Bool):TT:=λσ H Q=>∃A δ,dq K H A δ σ/\wB E H (g δ) Q
def PD (X:Cx) (E:XK) (e:Expr) (g:Ds->Rs PyData):Prop:=PE X e (eD X.K E g)
def PAD (X:Cx) (E:XK) (es:List Expr) (g:Ds->Rs (List PyData)):Prop:=PA X es (aD X.K E g)/\∀δ ds,g δ=.ok ds->ds.length=es.length
def PCD (X:Cx) (E:XK) (e:Expr) (g:Ds->Rs Bool):Prop:=PT X e (cD X.K E g)
def PWD (X:Cx) (E:XK) (e:Expr) (g:Ds->Rs Bool):Prop:=PW X e (cD X.K E g)
theorem PE.imp {t t':TE} (h:PE X e t) (k:∀σ H Q,t' σ H Q->t σ H Q):PE X e t':=λpins s σ H Q I q=>h pins s σ H Q I (k σ H Q q)
theorem PT.imp {t t':TT} (h:PT X e t) (k:∀σ H Q,t' σ H Q->t σ H Q):PT X e t':=λpins s σ H Q I q=>h pins s σ H Q I (k σ H Q q)
theorem PW.imp {t t':TT} (h:PW X e t) (k:∀σ H Q,t' σ H Q->t σ H Q):PW X e t':=λw pins s σ H Q I q=>h w pins s σ H Q I (k σ H Q q)
theorem PA.imp {e:List Expr} {t t':TA} (h:PA X e t) (k:∀σ H Q,t' σ H Q->t σ H Q):PA X e t':=λp pins s σ H Q I q=>h p pins s σ H Q I (k σ H Q q)
theorem PS.imp {e:Stmt} {t t':TS} (h:PS X e t) (k:∀D σ H,t' D σ H->t D σ H):PS X e t':=λpins s σ H D I q=>h pins s σ H D I (k D σ H q)
theorem PSs.imp {e:List Stmt} {t t':TS} (h:PSs X e t) (k:∀D σ H,t' D σ H->t D σ H):PSs X e t':=λpins s σ H D I q=>h pins s σ H D I (k D σ H q)
theorem gR.mono {r:Rs PyData} {Q:VK} (h:gR K E A H r Q) (s:av H H1):gR K E A H1 r Q:=by
 cases r with
 |ok d=>exact λv H' s' q=>h v H' (s.trans s') q
 |rz C=>exact λH' s'=>h H' (s.trans s')
 |no=>exact h
theorem wB.mono {r:Rs Bool} {Q:Bool->Hp->Prop} (h:wB E H r Q) (s:av H H1):wB E H1 r Q:=by
 cases r with
 |ok d=>exact λH' s'=>h H' (s.trans s')
 |rz C=>exact λH' s'=>h H' (s.trans s')
 |no=>exact h
theorem eD.run {g:Ds->Rs PyData} {Q:VK} (R:dq K H A δ σ)
  (ok:∀d,g δ=.ok d->∀v H',av H H'->dq K H' A δ σ->Is K (del H' A) d v->Q v H') (rz:∀C,g δ=.rz C->∀H',av H H'->E (.ref C) none H') (no:g δ=.no->False):eD K E g σ H Q:=by
 refine⟨A,δ,R,?_⟩;cases e:g δ with
 |ok d=>exact λv H' s q=>ok d e v H' s (R.same s) q
 |rz C=>exact λH' s=>rz C e H' s
 |no=>exact no e
theorem aD.run {g:Ds->Rs (List PyData)} {Q:List V->Hp->Prop} (R:dq K H A δ σ)
  (ok:∀d,g δ=.ok d->∀v H',av H H'->dq K H' A δ σ->Iss K (del H' A) d v->Q v H') (rz:∀C,g δ=.rz C->∀H',av H H'->E (.ref C) none H') (no:g δ=.no->False):aD K E g σ H Q:=by
 refine⟨A,δ,R,?_⟩;cases e:g δ with
 |ok d=>exact λv H' s q=>ok d e v H' s (R.same s) q
 |rz C=>exact λH' s=>rz C e H' s
 |no=>exact no e
theorem cD.run {g:Ds->Rs Bool} {Q:Bool->Hp->Prop} (R:dq K H A δ σ)
  (ok:∀d,g δ=.ok d->∀H',av H H'->dq K H' A δ σ->Q d H') (rz:∀C,g δ=.rz C->∀H',av H H'->E (.ref C) none H') (no:g δ=.no->False):cD K E g σ H Q:=by
 refine⟨A,δ,R,?_⟩;cases e:g δ with
 |ok d=>exact λH' s=>ok d e H' s (R.same s)
 |rz C=>exact λH' s=>rz C e H' s
 |no=>exact no e
structure Bm (X:Cx) (c P:Addr):Prop where
 tab:TabOf X.K P (X.env.qual++"<lambda>")
 code:X.env.code=.ref c
 hd:PySem.W.CodeHd X.base c P
 bl:∃bm o,X.mg "__builtins__"=some (.ref bm)/\bm≠builtinsNs/\bm≠mainGlobals/\X.base.get? bm=some o/\o.cls=.type "module"/\o.dict=some builtinsNs/\o.data=.plain
theorem lA {a b:Int} {t u:Nat} {c:Value}:∀{l:List Value},TriplesOk l->TriplesOk (l++[.int a t,.int b u,c])
 |[],_=>by simp[TriplesOk]
 |[_],h=>by simp[TriplesOk]at h
 |[x,y],h=>by cases x <;> cases y <;> (unfold TriplesOk at h;exact h.elim)
 |x::y::z::r,h=>by
  cases x <;> first|(unfold TriplesOk at h;exact h.elim)|skip
  cases y <;> first|(unfold TriplesOk at h;exact h.elim)|skip
  unfold TriplesOk at h;show TriplesOk (_::_::_::(r++_));unfold TriplesOk;exact lA h
theorem oB {pos:Pos} {a b:Int} {t u:Nat} {c f:Value}:∀{l:List Value},TriplesOk l->codeAmong pos (l++[.int a t,.int b u,c])=some f->codeAmong pos l=some f\/f=c
 |[],_,e=>by
  simp only[M4,codeAmong]at e;split at e
  ·cases e;exact .inr rfl
  ·cases e
 |[_],h,_=>by simp[TriplesOk]at h
 |[x,y],h,_=>by cases x <;> cases y <;> (unfold TriplesOk at h;exact h.elim)
 |x::y::z::r,h,e=>by
  cases x <;> first|(unfold TriplesOk at h;exact h.elim)|skip
  cases y <;> first|(unfold TriplesOk at h;exact h.elim)|skip
  unfold TriplesOk at h;simp only[M6,codeAmong]at e ⊢;split at e
  ·rename_i q;rw[if_pos q];exact .inl e
  ·rename_i q;rw[if_neg q];exact oB h e
def Ln (qual:Str) (mk:Addr->Value->Obj):TE:=λ_ H Q=>∀f c' a H',H f=none->H' f=some (.frz (mk c' a) (.own f))->av H H' ->
 (∃o vs t,H' c'=some (.frz o (.own c'))/\o.data=.fields vs/\vs[1]?=some (.str qual t))->Q (.ref f) H'
theorem HI {P:Addr} {g:List (Str×Addr)} (T:Bm X c P) (x:closureFor scope X.env=pure g) (A:defaultsOf params X.env=([],[]):=by rfl) :
  PE X (.Lambda params body scope pos) (Ln (X.env.qual++"<lambda>") λc' f=>PySem.W.kla_obj "<lambda>" (X.env.qual++"<lambda>") params body scope g ((X.mg "__name__").getD .none) c' f):=by
 intro pins s σ H Q I h;have i:=I.tab P _ T.tab;obtain⟨ps,B,L,hc⟩:=I.hok P _ i;obtain⟨bm,ob,b1,b2,b3,R,b5,b6,b7⟩:=T.bl;have S:∀b o,X.base.get? b=some o->b≠P:=λb o e z=>by have:=(I.bs b o e).2;rw[z,i]at this;cases this
 have C:s.heap.BuiltinsAt X.mg P:=⟨bm,ob,b1,b2,b3,S _ _ R,I.bk _ _ R,b5,b6,b7⟩
 have U:s.heap.Ns mainGlobals X.mg:=I.mod.glob.keeps I.bk;have M:mainGlobals≠P:=by obtain⟨o,es,Y,e,_⟩:=I.mod.glob;exact S _ _ e
 have Z:=T.hd.keeps I.bk;have fin:∀{H1:Hp} {h1:Heap} {tk:Nat} {o:Obj},Inv X pins σ H1 { s with heap:=h1,toks:=tk }->o.isFreed=false->Inv X pins σ (upd H1 h1.objs.size (.frz o (.own h1.objs.size))) { s with heap:=h1.push o,toks:=tk }:=λ{H1 h1 tk o} J j =>
  J.laid (h':=h1.push o) (t':=tk) (λb u q=>L1 _ q) (L9 _) ⟨LF _ j,o,LF _ j⟩
 refine PySem.W.kla_eval A ?_;cases hf:codeAmong pos ps.toList with
 |some N =>
  obtain⟨c',o,vs,t,rfl,D,d1,d2⟩:=hc pos N hf;refine PySem.W.kla_makeFunctionHit (mg:=X.mg) x I.ok.glob U T.code Z B L hf C λf h' tk hk hsz=>?_
  have n:H h'.objs.size=none:=I.hok.fresh hsz;exact⟨.ref _,_,fin (I.kept (h':=h') (t':=tk) hk) rfl,rfl,h _ c' f _ n aG (gM n) ⟨o,vs,t,by rw[ay (aI D n)];exact D,d1,d2⟩⟩
 |none =>
  refine PySem.W.kla_makeFunction (mg:=X.mg) x I.ok.glob U T.code Z B L hf M C λc' f h' tk E l O F G=>?_
  obtain⟨c₂,oc,vs,t,e2,K,hd,hv⟩:=F;cases e2;have hn:H c'=none:=I.hok.fresh l;have cP:c'≠P:=λz=>by rw[z,i]at hn;cases hn
  have a:∀b u,H b=some u->b≠c':=λb u e z=>by rw[z,hn]at e;cases e
  have J:Inv X pins σ (upd H c' (.frz oc (.own c'))) { s with heap:=h',toks:=tk }:=by
   refine I.step (g':=s.gens) (d':=s.drawn) (ch:=[]) (λ_ z=>nomatch z) (λb o _ _ _ e n=>?_) (λb o _ _ _ e n=>⟨o.slots,?_⟩) (λb o _ e n=>?_) (λb o _ e=>?_) (λb xs e=>?_) (λb o u e=>?_) (λb qs e=>?_) (λm hm=>?_) (λb u e=>?_) I.bare
   ·exact E b o (λz=>by rw[z,i]at n;cases n) e
   ·exact E b o (λz=>by rw[z,i]at n;cases n) e
   ·rw[ay (LC (LH (Ly e) l))];exact n
   ·by_cases z:b=P
    ·subst z;exact⟨_,G⟩
    ·exact⟨o,E b o z e⟩
   ·rw[ay (a b _ e)];exact e
   ·rw[ay (a b _ e)];exact e
   ·rw[ay (a b _ e)];exact e
   ·obtain⟨o,es,Y,ho,r⟩:=hm;refine⟨o,es,Y,E _ o (λz=>?_) ho,r⟩;have:=I.free;rw[z,i]at this;cases this
   ·by_cases z:b=c'
    ·subst z;rw[aG]at e;cases e;exact⟨K,oc,K⟩
    ·rw[ay z]at e;by_cases y:b=P
     ·subst y;rw[i]at e;cases e;refine⟨ps++#[rawInt pos.line,rawInt pos.col,.ref c'],G,?_,λpos' N e=>?_⟩
      ·rw[Array.toList_append];exact lA L
      ·rw[Array.toList_append]at e;rcases oB L e with e|rfl
       ·obtain⟨c2,o,vs,t,rfl,q,d⟩:=hc pos' N e;exact⟨c2,o,vs,t,rfl,by rw[ay (a _ _ q)];exact q,d⟩
       ·exact⟨c',oc,vs,t,rfl,aG,hd,hv⟩
     ·refine (I.hok b u e).stay (λp v w q=>E p v (λy'=>?_) q) (λp q=>?_) (λp xs q=>?_) λp o' u' q=>?_
      ·subst y';rcases w with w|w
       ·exact y w.symm
       ·rw[i]at w;cases w
      ·rw[ay (a p _ q)];exact q
      ·rw[ay (a p _ q)];exact q
      ·rw[ay (a p _ q)];exact q
  have n:upd H c' (.frz oc (.own c')) h'.objs.size=none:=J.hok.fresh (L9 _);have n0:H h'.objs.size=none:=I.hok.fresh (Mb l (Nq O));exact⟨.ref _,_,fin J rfl,rfl,h _ c' f _ n0 aG ((gM hn).trans (gM n)) ⟨oc,vs,t,by rw[ay (aI aG n)];exact aG,hd,hv⟩⟩
abbrev Cx.in1 (X:Cx):Cx:={ X with A:=X.A.in1 }
section
theorem Inv.in1 (I:Inv X pins σ H s):Inv X.in1 pins σ H s :=
 ⟨⟨I.ok.mod,I.ok.kind,I.ok.glob,I.ok.blt,I.ok.above,I.ok.inj,I.ok.has,I.ok.cab,I.ok.hd,I.ok.frames,I.ok.stk,I.ok.exf,I.ok.bs,I.ok.bsz,I.ok.noex,I.ok.exfs,I.ok.funs,I.ok.frf⟩,I.os,I.bare,I.base,I.loc,I.cell,I.free,I.freeC,I.pin,I.hok,I.len,I.tab⟩
theorem Inv.of1 (I:Inv X.in1 pins σ H s):Inv X pins σ H s :=
 ⟨⟨I.ok.mod,I.ok.kind,I.ok.glob,I.ok.blt,I.ok.above,I.ok.inj,I.ok.has,I.ok.cab,I.ok.hd,I.ok.frames,I.ok.stk,I.ok.exf,I.ok.bs,I.ok.bsz,I.ok.noex,I.ok.exfs,I.ok.funs,I.ok.frf⟩,I.os,I.bare,I.base,I.loc,I.cell,I.free,I.freeC,I.pin,I.hok,I.len,I.tab⟩
end
def bst (lt:Nat->Nat->Bool):Nat->Nat
 |0=>0
 |j+1=>if lt (j+1) (bst lt j) then j+1 else bst lt j
theorem ui (lt:Nat->Nat->Bool):∀j,bst lt j<=j
 |0=>L9 _
 |j+1=>by
  unfold bst;split
  ·exact L9 _
  ·exact Nat.le_succ_of_le (ui lt j)
structure lz (X:Cx) (σ:St) (pins:List (Addr×Obj)) (q l:Addr) (xs:List V) (Φ:Hp->Prop) (κ:Nat->V->Hp->Prop) (lt:Nat->Nat->Bool):Prop where
 lst:∀H,Φ H->H l=some (.lst xs)
 turn:∀(i:Nat) (x:V),xs[i]?=some x->∀(pins':List (Addr×Obj)) (H:Hp) (s:Shared) (u:Value),(∀p∈pins,p∈pins')->Inv X.in1 pins' σ H s->Φ H->RelV x u ->
  wpAny (model X.prog X.w) X.A.in1 (call (.ref q) [u]) (EP X.in1 pins' σ λv H'=>Φ H'/\κ i v H'/\∀j v',κ j v' H->κ j v' H') (λ_ _=>False) s
 cmp:∀(i j:Nat) (x y:V) (pins':List (Addr×Obj)) (H:Hp) (s:Shared) (u v:Value),Inv X.in1 pins' σ H s->Φ H->κ i x H->κ j y H->RelV x u->RelV y v ->
  wpAny (model X.prog X.w) X.A.in1 (richCompare .Lt u v) (λr s'=>r=.bool (lt i j)/\Inv X.in1 pins' σ H s') (λ_ _=>False) s
section
variable {q l:Addr} {Φ:Hp->Prop} {lt:Nat->Nat->Bool} {R:Result->Shared->Prop}
theorem Inv.turnPin {ps:List (Addr×Obj)} {o o':Obj} {t':Nat} (I:Inv X ((it,o)::ps) σ H s) (k:∀b u,b≠it->s.heap.get? b=some u->h'.get? b=some u) (f:h'.get? it=some o')
  (h1:X.s₀.heap.objs.size<=it) (g:∀p∈X.pn++ps,p.1≠it) (hc:∀v,o'.data≠.cell v):Inv X ((it,o')::ps) σ H { s with heap:=h',toks:=t' }:=by
 obtain⟨e,n,ne,h,d⟩:=I.pin (it,o) (Lw _ (.head _));have i:Inv X ps σ H s:=I.pins_of λp a=>I.pin p (Lw _ (.tail _ a))
 have J:Inv X ps σ H { s with heap:=h',toks:=t' }:=i.turned k n ne (.inr h1) (λx c hl z=>by obtain⟨v,o2,e2,d2⟩:=I.cell x c hl;subst z;rw[e]at e2;cases e2;exact d v d2) g
 refine J.pins_of λp a=>?_
 rcases L7.mp a with rfl|a
 ·exact⟨f,n,ne,h,hc⟩
 ·exact J.pin p (Lw _ a)
theorem Inv.swap {ps:List (Addr×Obj)} {a b:Addr×Obj} (I:Inv X (a::b::ps) σ H s):Inv X (b::a::ps) σ H s:=I.pins_of λp c=>I.pin p (Lw _ (by
 rcases L7.mp c with rfl|c
 ·exact .tail _ (.head _)
 ·rcases L7.mp c with rfl|c
  ·exact .head _
  ·exact .tail _ (.tail _ c)))
theorem F2 (KK:lz X σ pins q l xs Φ κ lt) (hh:X.A.handled=none)
  (hR:∀H' s' x u,xs[bst lt (xs.length-1)]?=some x->RelV x u->Inv X pins σ H' s'->Φ H'->R (.ok (.ret u)) s') :
  ∀(r j:Nat) (H:Hp) (s:Shared) (h g:Value) (xb kb:V) (c:Nat) (It S:Addr) (E:Obj),xs.length-(j+1)=r->j+1<=xs.length->X.s₀.heap.objs.size<=It->X.s₀.heap.objs.size<=S->S≠It ->
   (∀p∈X.pn++pins,p.1≠It)->(∀p∈X.pn++pins,p.1≠S) ->
   Inv X.in1 ((S,seqObj "list" #[h,g] c)::(It,E)::pins) σ H s->E.cls=.type "list_iterator"->E.data=.fields #[.ref l,.int ((j+1:Nat):Int) 0]->Φ H->xs[bst lt j]?=some xb->RelV xb h->κ (bst lt j) kb H->RelV kb g ->
   codeAny (model X.prog X.w) X.A (.builtin "min.loop" ⟨[.ref It,.ref q,.ref S],[]⟩) R s:=by
 have y:(toString "min"++toString ".loop":String)="min.loop":=by decide
 intro r
 induction r with
 |zero =>
  intro j H s h g xb kb c It S E hr hj zI zS i N nS I O P B hb rb Q rk;have hin:j+1=xs.length:=by omega
  have pS:=I.pin (S,seqObj "list" #[h,g] c) (Lw _ (.head _));have G:=I.pin (It,E) (Lw _ (.tail _ (.head _)));have hl:=KK.lst H B;obtain⟨m,n,rv,eL,_⟩:=I.lst hl;have T:l≠It:=aI hl G.2.1;have hsz:m.toArray.size=xs.length:=by rw[Lz,<-rv.length]
  have W:=Walks.list (prog:=X.prog) (w:=X.w) (A:=X.A.in1) hh It l T m.toArray;refine codeAny_builtin PySem.F.entry_min_loop ?_;rw[Around.under_plainId PySem.F.plain_min_loop _];show wpAny _ X.A.in1 (seqItems? (.ref S) >>= _) _ _ _;refine wpAny_bind (wpAny_seqItems pS.1 rfl ?_);show wpAny _ X.A.in1 (tryCatch (pyNext (.ref It)) _ >>= _) _ _ _;refine wpAny_bind (wpAny_tryCatch (W.done _ _ _ ⟨by rw[hsz,<-hin];exact⟨E,G.1,O,P⟩,⟨_,eL,rfl,n,rfl⟩⟩ λh' t U=>?_));have I1:Inv X.in1 ((S,seqObj "list" #[h,g] c)::pins) σ H { s with heap:=h',toks:=t }:=by
   have I0:Inv X.in1 ((S,seqObj "list" #[h,g] c)::pins) σ H s:=I.pins_of λp a=>I.pin p (Lw _ (by
    rcases L7.mp a with rfl|a
    ·exact .head _
    ·exact .tail _ (.tail _ a)))
   refine I0.turned (λb o Y e=>U b o (by simpa using Y) e) G.2.1 G.2.2.1 (.inr zI) (λx cc Z z=>?_) λp a=>?_
   ·obtain⟨v,o2,e2,d2⟩:=I.cell x cc Z;subst z;rw[G.1]at e2;cases e2;exact G.2.2.2.2 v d2
   ·rcases LW.mp a with a|a
    ·exact N p (LZ _ a)
    ·rcases L7.mp a with rfl|a
     ·exact i
     ·exact N p (Lw _ a)
  have C:=I1.pin (S,seqObj "list" #[h,g] c) (Lw _ (.head _));have s1:=Heap.SameBut.update h' S (Obj.mapSeq λ_=>(#[]:Array Value));show wpAny _ X.A.in1 (updateSeq S (λ_=>#[]) >>= _) _ _ _;refine wpAny_bind ?_;refine wpAny_updateSeq C.1 rfl (wpAny_bind (wpAny_letGo (wpAny_pure ?_)));have I2:Inv X.in1 pins σ H { s with heap:=h'.update S (Obj.mapSeq λ_=>(#[]:Array Value)),toks:=t }:=by
   have I0:Inv X.in1 pins σ H { s with heap:=h',toks:=t }:=I1.pins_of λp a=>I1.pin p (Lw _ (.tail _ a))
   refine I0.turned (h':=h'.update S (Obj.mapSeq λ_=>(#[]:Array Value))) (t':=t) (λb o Y e=>(s1.2 b Y).trans e) C.2.1 C.2.2.1 (.inr zS) (λx cc Z z=>?_) nS;obtain⟨v,o2,e2,d2⟩:=I1.cell x cc Z;subst z;rw[C.1]at e2;cases e2;exact C.2.2.2.2 v d2
  exact hR H _ xb h (by rw[<-hin];exact hb) rb I2.of1 B
 |succ r ih =>
  intro j H s h g xb kb c It S E hr hj zI zS i N nS I O P B hb rb Q rk;have K:j+1<xs.length:=by omega
  have pS:=I.pin (S,seqObj "list" #[h,g] c) (Lw _ (.head _));have G:=I.pin (It,E) (Lw _ (.tail _ (.head _)));have hl:=KK.lst H B;obtain⟨m,n,rv,eL,_⟩:=I.lst hl;have T:l≠It:=aI hl G.2.1;have hsz:m.toArray.size=xs.length:=by rw[Lz,<-rv.length]
  have W:=Walks.list (prog:=X.prog) (w:=X.w) (A:=X.A.in1) hh It l T m.toArray;refine codeAny_builtin PySem.F.entry_min_loop ?_;rw[Around.under_plainId PySem.F.plain_min_loop _];show wpAny _ X.A.in1 (seqItems? (.ref S) >>= _) _ _ _;refine wpAny_bind (wpAny_seqItems pS.1 rfl ?_);show wpAny _ X.A.in1 (tryCatch (pyNext (.ref It)) _ >>= _) _ _ _;refine wpAny_bind (wpAny_tryCatch (W.item (j+1) _ _ _ (by rw[hsz];exact K) ⟨⟨E,G.1,O,P⟩,⟨_,eL,rfl,n,rfl⟩⟩ λv h' t hP hst' U=>?_));have hv:m[j+1]?=some v:=by simpa using hP
  obtain⟨x,hx⟩:∃x,xs[j+1]?=some x:=⟨_,L0 K⟩
  obtain⟨v',hv',rx⟩:=rv.get hx;rw[hv]at hv';cases hv';obtain⟨L,hoI',hoc,hod⟩:=id hst'.1;have J:Inv X.in1 ((It,L)::(S,seqObj "list" #[h,g] c)::pins) σ H { s with heap:=h',toks:=t } :=
   I.swap.turnPin (λb o Y e=>U b o (by simpa using Y) e) hoI' zI (λp a=>by
    rcases LW.mp a with a|a
    ·exact N p (LZ _ a)
    ·rcases L7.mp a with rfl|a
     ·exact i
     ·exact N p (Lw _ a)) λvv z=>by rw[hod]at z;cases z
  show wpAny _ X.A.in1 (tryCatch (holding [v] (call (.ref q) [v])) _ >>= _) _ _ _;refine wpAny_bind (wpAny_tryCatch (wpAny_holding (wpAny_mono (KK.turn (j+1) x hx _ H _ v (λp a=>.tail _ (.tail _ a)) J B rx) (λf s2 he=>?_) λ_ _ hF=>hF.elim)));obtain⟨kv,H2,J2,rk2,D,M,hst⟩:=he;show wpAny _ X.A.in1 (tryCatch (holding [v,f] (richCompare .Lt f g >>= _)) _ >>= _) _ _ _;refine wpAny_bind (wpAny_tryCatch (wpAny_holding (wpAny_bind (wpAny_mono (KK.cmp (j+1) (bst lt j) kv kb _ H2 s2 f g J2 D M (hst _ _ Q) rk2 rk) (λrr s3 hc3=>?_) λ_ _ hF=>hF.elim))));obtain⟨rfl,J3⟩:=hc3;refine wpAny_bind (wpAny_holding (wpAny_truthy_bool ?_));refine wpAny_bind (wpAny_letGo (wpAny_pure ?_));have pS3:=J3.pin (S,seqObj "list" #[h,g] c) (Lw _ (.tail _ (.head _)));cases hb':lt (j+1) (bst lt j) with
  |true =>
   have s1:=Heap.SameBut.update s3.heap S (Obj.mapSeq λ_=>#[v,f]);obtain⟨c2,hc2⟩:∃c2,(s3.heap.update S (Obj.mapSeq λ_=>#[v,f])).get? S=some (seqObj "list" #[v,f] c2):=⟨_,get?_update_seq pS3.1 λ_=>#[v,f]⟩
   simp only[if_true];refine wpAny_bind ?_;refine wpAny_updateSeq pS3.1 rfl (wpAny_bind (wpAny_letGo ?_));rw[y];have J4:Inv X.in1 ((S,seqObj "list" #[v,f] c2)::(It,L)::pins) σ H2 { s3 with heap:=s3.heap.update S (Obj.mapSeq λ_=>#[v,f]),toks:=s3.toks } :=
    J3.swap.turnPin (λb o Y e=>(s1.2 b Y).trans e) hc2 zS (λp a=>by
     rcases LW.mp a with a|a
     ·exact nS p (LZ _ a)
     ·rcases L7.mp a with rfl|a
      ·exact i.symm
      ·exact nS p (Lw _ a)) λvv z=>by cases z
   have eb:bst lt (j+1)=j+1:=by unfold bst;rw[if_pos hb']
   exact wpAny_pure ⟨plainId_quiet PySem.F.plain_min_loop _,ih (j+1) H2 _ v f x kv c2 It S L (by omega) K zI zS i N nS J4 hoc hod D (by rw[eb];exact hx) rx (by rw[eb];exact M) rk2⟩
  |false =>
   simp only[LR,if_false];refine wpAny_bind (wpAny_letGo ?_);rw[y];have eb:bst lt (j+1)=bst lt j:=by rw[bst,if_neg (by rw[hb'];decide)]
   exact wpAny_pure ⟨plainId_quiet PySem.F.plain_min_loop _,ih (j+1) H2 _ h g xb kb c It S L (by omega) K zI zS i N nS J3.swap hoc hod D (by rw[eb];exact hb) rb (by rw[eb];exact hst _ _ Q) rk⟩
theorem Ir {E:Value->Shared->Prop} (KK:lz X σ pins q l xs Φ κ lt) (hh:X.A.handled=none) (I:Inv X pins σ H s) (t:Φ H) (h:0<xs.length)
  (hQ:∀H' s' x u,xs[bst lt (xs.length-1)]?=some x->RelV x u->Inv X pins σ H' s'->Φ H'->Q u s') :
  wpAny (model X.prog X.w) X.A (call (.builtin "min") [.ref l] [(Str.ofString "key",.ref q)]) Q E s:=by
 have f:(toString "min"++toString ".loop":String)="min.loop":=by decide
 have hl:=KK.lst H t;obtain⟨g,n,rv,O,_⟩:=I.lst hl;have P:s.heap.IsList l g.toArray:=⟨_,O,rfl,n,rfl⟩
 refine kmk_tree PySem.F.kind_min PySem.F.plain_min PySem.F.entry_min (kmk_min_key _ _) ?_;show wpAny _ X.A.in1 (Builtin.Builtins.bindParams "min" ["key", "default"] 0 ⟨[],[(Str.ofString "key",.ref q)]⟩ >>= _) _ _ s;refine wpAny_bind (wpAny_of_eq (show Builtin.Builtins.bindParams "min" ["key", "default"] 0 ⟨[],[(Str.ofString "key",.ref q)]⟩=pure [some (.ref q),none] from rfl) ?_);refine wpAny_bind (wpAny_pure ?_);refine wpAny_bind (wpAny_pyIter_list P ?_);refine wpAny_bind (wpAny_newList ?_ (Me _));rw[f];have R:(s.heap.push { cls:=.type "list_iterator",data:=.fields #[.ref l,.int 0 0] }).objs.size=s.heap.objs.size+1:=size_push' ..;have T:l<s.heap.objs.size:=Ly O;have U:l≠s.heap.objs.size:=LC T;have i:(s.heap.push { cls:=.type "list_iterator",data:=.fields #[.ref l,.int 0 0] }).objs.size≠s.heap.objs.size:=by rw[R];exact Mj (My _)
 have Y:∀p∈X.pn++pins,p.1≠s.heap.objs.size:=λp a=>LC (Ly (I.pin p a).1)
 have Z:∀p∈X.pn++pins,p.1≠(s.heap.push { cls:=.type "list_iterator",data:=.fields #[.ref l,.int 0 0] }).objs.size:=λp a=>by rw[R];exact LC (Mg (Ly (I.pin p a).1))
 refine wpAny_pure ⟨plainId_quiet PySem.F.plain_min_loop _,?_⟩;have gI:((s.heap.push { cls:=.type "list_iterator",data:=.fields #[.ref l,.int 0 0] }).push (seqObj "list" #[] 0)).get? s.heap.objs.size=some { cls:=.type "list_iterator",data:=.fields #[.ref l,.int 0 0] } :=
  L1 _ (LF _ rfl)
 have gS:((s.heap.push { cls:=.type "list_iterator",data:=.fields #[.ref l,.int 0 0] }).push (seqObj "list" #[] 0)).get? (s.heap.push { cls:=.type "list_iterator",data:=.fields #[.ref l,.int 0 0] }).objs.size=some (seqObj "list" #[] 0):=LF _ rfl;have zI:X.s₀.heap.objs.size<=s.heap.objs.size:=I.sz;have zS:X.s₀.heap.objs.size<=(s.heap.push { cls:=.type "list_iterator",data:=.fields #[.ref l,.int 0 0] }).objs.size:=by rw[R];exact Nat.le_succ_of_le zI
 generalize eSa:(s.heap.push { cls:=.type "list_iterator",data:=.fields #[.ref l,.int 0 0] }).objs.size=S at *;generalize eIa:s.heap.objs.size=It at *;have I0:Inv X.in1 pins σ H { s with heap:=(s.heap.push { cls:=.type "list_iterator",data:=.fields #[.ref l,.int 0 0] }).push (seqObj "list" #[] 0),toks:=s.toks }:=I.in1.kept λb u e=>L1 _ (L1 _ e)
 have j:s.heap.objs.size<=It:=Nat.le_of_eq eIa;have m:s.heap.objs.size<=S:=by omega
 have I1:Inv X.in1 ((S,seqObj "list" #[] 0)::(It,{ cls:=.type "list_iterator",data:=.fields #[.ref l,.int 0 0] })::pins) σ H { s with heap:=(s.heap.push { cls:=.type "list_iterator",data:=.fields #[.ref l,.int 0 0] }).push (seqObj "list" #[] 0),toks:=s.toks }:=by
  refine I0.pins_of λp a=>?_
  rcases L7.mp a with rfl|a
  ·exact⟨gS,I.hok.fresh m,Mj (LH I.lt m),I.nofs m,λv z=>by cases z⟩
  ·rcases L7.mp a with rfl|a
   ·exact⟨gI,I.hok.fresh j,Mj (LH I.lt j),I.nofs j,λv z=>by cases z⟩
   ·exact I0.pin p (Lw _ a)
 have hsz:g.toArray.size=xs.length:=by rw[Lz,<-rv.length]
 have W:=Walks.list (prog:=X.prog) (w:=X.w) (A:=X.A.in1) hh It l U g.toArray;refine codeAny_builtin PySem.F.entry_min_loop ?_;rw[Around.under_plainId PySem.F.plain_min_loop _];show wpAny _ X.A.in1 (seqItems? (.ref _) >>= _) _ _ _;refine wpAny_bind (wpAny_seqItems gS rfl ?_);show wpAny _ X.A.in1 (tryCatch (pyNext (.ref It)) _ >>= _) _ _ _;refine wpAny_bind (wpAny_tryCatch (W.item 0 _ _ _ (by rw[hsz];exact h) ⟨⟨_,gI,rfl,rfl⟩,⟨_,L1 _ (L1 _ O),rfl,n,rfl⟩⟩ λv h' tk' hP y hk'=>?_));have hv:g[0]?=some v:=by simpa using hP
 obtain⟨x,B⟩:∃x,xs[0]?=some x:=⟨_,L0 h⟩
 obtain⟨v',C,rx⟩:=rv.get B;rw[hv]at C;cases C;obtain⟨r,D,hoc,G⟩:=id y.1;have J:Inv X.in1 ((It,r)::(S,seqObj "list" #[] 0)::pins) σ H { s with heap:=h',toks:=tk' } :=
  I1.swap.turnPin (λb o nb e=>hk' b o (by simpa using nb) e) D zI (λp a=>by
   rcases LW.mp a with a|a
   ·exact Y p (LZ _ a)
   ·rcases L7.mp a with rfl|a
    ·exact i
    ·exact Y p (Lw _ a)) λvv z=>by rw[G]at z;cases z
 show wpAny _ X.A.in1 (tryCatch (holding [v] (call (.ref q) [v])) _ >>= _) _ _ _;refine wpAny_bind (wpAny_tryCatch (wpAny_holding (wpAny_mono (KK.turn 0 x B _ H _ v (λp a=>.tail _ (.tail _ a)) J t rx) (λc s2 he=>?_) λ_ _ hF=>hF.elim)));obtain⟨kv,H2,J2,rk2,K,L,_⟩:=he;have M:=J2.pin (S,seqObj "list" #[] 0) (Lw _ (.tail _ (.head _)));have s1:=Heap.SameBut.update s2.heap S (Obj.mapSeq λ_=>#[v,c]);obtain⟨N,hc2⟩:∃N,(s2.heap.update S (Obj.mapSeq λ_=>#[v,c])).get? S=some (seqObj "list" #[v,c] N):=⟨_,get?_update_seq M.1 λ_=>#[v,c]⟩
 show wpAny _ X.A.in1 (updateSeq S (λ_=>#[v,c]) >>= _) _ _ _;refine wpAny_bind ?_;refine wpAny_updateSeq M.1 rfl ?_;rw[f];have J4:Inv X.in1 ((S,seqObj "list" #[v,c] N)::(It,r)::pins) σ H2 { s2 with heap:=s2.heap.update S (Obj.mapSeq λ_=>#[v,c]),toks:=s2.toks } :=
  J2.swap.turnPin (λb o nb e=>(s1.2 b nb).trans e) hc2 zS (λp a=>by
   rcases LW.mp a with a|a
   ·exact Z p (LZ _ a)
   ·rcases L7.mp a with rfl|a
    ·exact i.symm
    ·exact Z p (Lw _ a)) λvv z=>by cases z
 exact wpAny_pure ⟨plainId_quiet PySem.F.plain_min_loop _,F2 KK hh (λH' s' x u B ru J a=>hQ H' s' x u B ru J a) _ 0 H2 _ v c x kv N It S r rfl h zI zS i Y Z J4 hoc G K B rx L rk2⟩
end
def af (i:Nat):Ds->Rs PyData:=λδ=>match δ[i]? with
 |some (some d)=>.ok d
 |_=>.no
def gC (d:PyData):Ds->Rs PyData:=λ_=>.ok d
def g1 (f:PyData->Option PyData) (a:Ds->Rs PyData):Ds->Rs PyData:=λδ=>(a δ).bind λx=>Rs.eO (f x)
def g2 (f:PyData->PyData->Option PyData) (a b:Ds->Rs PyData):Ds->Rs PyData:=λδ=>(a δ).bind λx=>(b δ).bind λy=>Rs.eO (f x y)
def gF (f:List PyData->Option PyData) (as:Ds->Rs (List PyData)):Ds->Rs PyData:=λδ=>(as δ).bind λds=>Rs.eO (f ds)
def ah:Ds->Rs (List PyData):=λ_=>.ok []
def ae (a:Ds->Rs PyData) (r:Ds->Rs (List PyData)):Ds->Rs (List PyData):=λδ=>(a δ).bind λx=>(r δ).bind λxs=>.ok (x::xs)
def eP (as:Ds->Rs (List PyData)):Ds->Rs PyData:=λδ=>(as δ).bind λds=>.ok (.tuple ds)
def kh (as:Ds->Rs (List PyData)):Ds->Rs PyData:=λδ=>(as δ).bind λds=>.ok (.list ds)
def aq (gf:List PyData->Rs PyData) (as:Ds->Rs (List PyData)):Ds->Rs PyData:=λδ=>(as δ).bind gf
def truth:PyData->Rs Bool
 |.bool b=>.ok b
 |_=>.no
def gT (a:Ds->Rs PyData):Ds->Rs Bool:=λδ=>(a δ).bind truth
def fI (a:Ds->Rs Bool):Ds->Rs Bool:=λδ=>(a δ).bind λb=>.ok (!b)
def uj (a b:Ds->Rs Bool):Ds->Rs Bool:=λδ=>(a δ).bind λx=>if x=true then b δ else .ok false
def cOr (a b:Ds->Rs Bool):Ds->Rs Bool:=λδ=>(a δ).bind λx=>if x=true then .ok true else b δ
def zC (a b:Ds->Rs PyData):Ds->Rs PyData:=λδ=>(a δ).bind λx=>(truth x).bind λt=>if t=true then b δ else .ok (.bool false)
def gOr (a b:Ds->Rs PyData):Ds->Rs PyData:=λδ=>(a δ).bind λx=>(truth x).bind λt=>if t=true then .ok (.bool true) else b δ
def K7 (a:Ds->Rs PyData):Ds->Rs PyData:=λδ=>(a δ).bind λx=>(truth x).bind λt=>.ok (.bool (!t))
def gIf (c:Ds->Rs Bool) (a b:Ds->Rs PyData):Ds->Rs PyData:=λδ=>(c δ).bind λx=>if x=true then a δ else b δ
section
variable {a b c:Expr} {ga gb gc:Ds->Rs PyData}
theorem HH (i:Nat) (c:X.N[i]?=some x) (hv:Vis X.env.scope x) (hd:(x==("__debug__":Str))=false)
  (a:(x==("__classdict__":Str))=false):PD X E (.Name x pos) (af i) :=
 (kK c hv hd a).imp λσ H Q b=>by
  obtain⟨A,δ,R,o⟩:=b;unfold af at o;split at o
  ·rename_i d e;obtain⟨v,e1,h⟩:=R.get i d e;exact⟨v,e1,o v H (av.refl H) h⟩
  ·exact o.elim
theorem Bt {d:PyData} (h:PE X e (tC v)) (hi:∀K H,Is K H d v):PD X E e (gC d):=h.imp λσ H Q a=>(by obtain⟨A,δ,R,o⟩:=a;exact o v H (av.refl H) (hi _ _))
theorem GK {i j pos}:PD X E (.Constant (.int i) j pos) (gC (.int i)):=Bt fW λ_ _=>bL
theorem Kf {i j pos}:PD X E (.Constant (.bool i) j pos) (gC (.bool i)):=Bt J7 λ_ _=>is_bool
theorem HK {j pos}:PD X E (.Constant .none j pos) (gC .none):=Bt IH λ_ _=>is_none
theorem Hc {i j pos}:PD X E (.Constant (.str i) j pos) (gC (.str i)):=Bt IM λ_ _=>DJ
theorem Fd {i:Int} (hm:∃t,X.mg x=some (.int i t)) (a:Gl X x) (hd:(x==("__debug__":Str))=false):PD X E (.Name x pos) (gC (.int i)):=by obtain⟨t,hm⟩:=hm;exact Bt (FR (v:=.int i) a hm ⟨_,rfl⟩ hd) λ_ _=>bL
def OpD (K:PySem.W.Frag) (f:PyData->PyData->Option PyData) (r:R2):Prop :=
 ∀(d1 d2 d:PyData) (x y:V) (H:Hp) (A:List Addr) (Q:VK),f d1 d2=some d->Ls H A->Is K (del H A) d1 x->Is K (del H A) d2 y->(∀v H',av H H'->Is K (del H' A) d v->Q v H')->r x y H Q
theorem g2.read {r:R2} {Q:VK} (b:OpD K f r) (R:dq K H A δ σ) (o:gR K E A H (g2 f ga gb δ) Q) :
  tOp r (eD K E ga) (eD K E gb) σ H Q:=by
 unfold g2 at o;refine eD.run R (λd1 e1 v H1 a c h1=>?_) (λC e1 H' s'=>?_) (λe1=>?_)
 ·rw[e1]at o;refine eD.run c (λd2 e2 u H2 s2 R2 h2=>?_) (λC e2 H' s'=>?_) (λe2=>?_)
  ·simp only[Rs.ag,e2]at o;cases e3:f d1 d2 with
   |none=>rw[e3]at o;exact o.elim
   |some d =>rw[e3]at o;exact b d1 d2 d v u H2 A Q e3 R2.ls (h1.same s2.del) h2 λw H' s q=>o w H' (a.trans (s2.trans s)) q
  ·simp only[Rs.ag,e2,Rs.eF]at o;exact o H' (a.trans s')
  ·simp only[Rs.ag,e2,Rs.bw]at o;exact o
 ·rw[e1]at o;exact o H' s'
 ·rw[e1]at o;exact o
theorem fU {r:R2} (g:OpD X.K f r) (ha:PD X E a ga) (h:PD X E b gb) (mk:∀{ta tb:TE},PE X a ta->PE X b tb->PE X e (tOp r ta tb)):PD X E e (g2 f ga gb) :=
 (mk ha h).imp λσ H Q c=>(by obtain⟨A,δ,R,o⟩:=c;exact g2.read g R o)
theorem j9 {r:R2} (g:OpD X.K f r) (ha:PD X E a ga) (i:PD X E b gb) (mk:∀{ta tb:TE},PE X a ta->PE X b tb->PT X e (Gj (tOp r ta tb))):PCD X E e (gT (g2 f ga gb)) :=
 (mk ha i).imp λσ H Q c=>by
  obtain⟨A,δ,R,o⟩:=c;refine g2.read (Q:=λx H'=>∃k,x=.bl k/\Q k H') g R ?_;unfold gT at o;cases q:g2 f ga gb δ with
  |no=>rw[q]at o;exact o
  |rz C=>rw[q]at o;exact o
  |ok d =>
   rw[q]at o;cases d with
   |bool k=>exact λv H' s h=>⟨k,h.ofBool,o H' s⟩
   |_=>exact o.elim
def dI (f:Int->Int->Option PyData):PyData->PyData->Option PyData
 |.int i,.int j=>f i j
 |_,_=>none
theorem yK {f:Int->Int->Option PyData} {d1 d2 d:PyData} (h:dI f d1 d2=some d):∃i j,d1=.int i/\d2=.int j/\f i j=some d:=by
 unfold dI at h;split at h
 ·exact⟨_,_,rfl,rfl,h⟩
 ·cases h
def gx:=dI λi j=>some (.int (i-j))
def ej:=dI λi j=>if 0<j then some (.int (i % j)) else none
def i0:=dI λi j=>if 0<j/\j<1073741824 then some (.int (i / j)) else none
def DL:=dI λi j=>if 0<=j/\j<=1000000/\i.natAbs<2 ^ 64 then some (.int (i ^ j.toNat)) else none
def dLt:=dI λi j=>some (.bool (decide (i<j)))
def dLe:=dI λi j=>some (.bool (decide (i<=j)))
def dGt:=dI λi j=>some (.bool (decide (j<i)))
def dGe:=dI λi j=>some (.bool (decide (j<=i)))
theorem jR {f:Int->Int->PyData} {v:Int->Int->V} (hv:∀i j K H,Is K H (f i j) (v i j)):OpD K (dI λi j=>some (f i j)) (rI0 v):=λd1 d2 d x y H A Q e hA h1 h2 k=>by obtain⟨i,j,rfl,rfl,e⟩:=yK e;cases e;exact⟨i,j,h1.ofInt,h2.ofInt,k _ H (av.refl H) (hv _ _ _ _)⟩
theorem Cq {C a:Int->Int->Prop} [∀i j,Decidable (a i j)] {f:Int->Int->PyData} {v:Int->Int->V} (hc:∀i j,a i j->C i j) (hv:∀i j K H,Is K H (f i j) (v i j)):OpD K (dI λi j=>if a i j then some (f i j) else none) (rI C v):=λd1 d2 d x y H A Q e hA h1 h2 k=>by
 obtain⟨i,j,rfl,rfl,e2⟩:=yK e;by_cases z:a i j
 ·simp only[if_pos z]at e2;cases e2;exact⟨i,j,h1.ofInt,h2.ofInt,hc i j z,k _ H (av.refl H) (hv _ _ _ _)⟩
 ·simp only[if_neg z]at e2;cases e2
theorem HJ (ha:PD X E a ga) (c:PD X E b gb):PD X E (.BinOp a .Sub b pos) (g2 gx ga gb):=fU (jR λ_ _ _ _=>bL) ha c (eN HC)
theorem HA (ha:PD X E a ga) (c:PD X E b gb):PD X E (.BinOp a .Mod b pos) (g2 ej ga gb):=fU (Cq (λ_ _ h=>h) λ_ _ _ _=>bL) ha c (eN pj)
theorem HD (ha:PD X E a ga) (c:PD X E b gb):PD X E (.BinOp a .FloorDiv b pos) (g2 i0 ga gb):=fU (Cq (C:=JA) (λ_ _ h=>h) λ_ _ _ _=>bL) ha c (eN Fz)
theorem GP (ha:PD X E a ga) (c:PD X E b gb):PD X E (.BinOp a .Pow b pos) (g2 DL ga gb):=fU (Cq (C:=Kp) (λ_ _ h=>h) λ_ _ _ _=>bL) ha c (eN Ht)
theorem Kj (ha:PD X E a ga) (c:PD X E b gb):PD X E (.Compare a [.Lt] [b] pos) (g2 dLt ga gb):=fU (jR λ_ _ _ _=>is_bool) ha c λh1 h2=>kU Dt h1 h2 (i3 _)
theorem Kq (ha:PD X E a ga) (c:PD X E b gb):PD X E (.Compare a [.LtE] [b] pos) (g2 dLe ga gb):=fU (jR λ_ _ _ _=>is_bool) ha c λh1 h2=>kU yZ h1 h2 (i3 _)
theorem IA (ha:PD X E a ga) (c:PD X E b gb):PCD X E (.Compare a [.Lt] [b] pos) (gT (g2 dLt ga gb)):=j9 (jR λ_ _ _ _=>is_bool) ha c λh1 h2=>iY Dt h1 h2 (i3 _)
theorem Hj (ha:PD X E a ga) (c:PD X E b gb):PCD X E (.Compare a [.LtE] [b] pos) (gT (g2 dLe ga gb)):=j9 (jR λ_ _ _ _=>is_bool) ha c λh1 h2=>iY yZ h1 h2 (i3 _)
theorem Hi (ha:PD X E a ga) (c:PD X E b gb):PCD X E (.Compare a [.Gt] [b] pos) (gT (g2 dGt ga gb)):=j9 (jR λ_ _ _ _=>is_bool) ha c λh1 h2=>iY Jv h1 h2 (i3 _)
open PySem.SeqAt in
def dEq (x y:PyData):Option PyData:=if aC x&&aC y&&shaped x&&shaped y then some (.bool (PyData.eqv x y)) else none
open PySem.SeqAt in
def dNe (x y:PyData):Option PyData:=if aC x&&aC y&&shaped x&&shaped y then some (.bool (!PyData.eqv x y)) else none
open PySem.SeqAt in
theorem DE:OpD K dEq (λx y H Q=>∃d e,IsD K H d x/\IsD K H e y/\shaped d=true/\shaped e=true/\Q (.bl (PyData.eqv d e)) H):=λd1 d2 d x y H A Q e hA h1 h2 k=>by
 unfold dEq at e;split at e
 ·rename_i z;simp only[L8]at z;cases e;exact⟨d1,d2,(h1.same aw).isd z.1.1.1,(h2.same aw).isd z.1.1.2,z.1.2,z.2,k _ H (av.refl H) is_bool⟩
 ·cases e
open PySem.SeqAt in
theorem GS:OpD K dNe (λx y H Q=>∃d e,IsD K H d x/\IsD K H e y/\shaped d=true/\shaped e=true/\Q (.bl (!PyData.eqv d e)) H):=λd1 d2 d x y H A Q e hA h1 h2 k=>by
 unfold dNe at e;split at e
 ·rename_i z;simp only[L8]at z;cases e;exact⟨d1,d2,(h1.same aw).isd z.1.1.1,(h2.same aw).isd z.1.1.2,z.1.2,z.2,k _ H (av.refl H) is_bool⟩
 ·cases e
theorem KA (c:X.A.units+64<cLine) (ha:PD X E a ga) (e:PD X E b gb):PD X E (.Compare a [.Eq] [b] pos) (g2 dEq ga gb):=fU DE ha e λh1 h2=>kU (yb c) h1 h2 (i3 _)
theorem IF (c:X.A.units+64<cLine) (ha:PD X E a ga) (e:PD X E b gb):PCD X E (.Compare a [.Eq] [b] pos) (gT (g2 dEq ga gb)):=j9 DE ha e λh1 h2=>iY (yb c) h1 h2 (i3 _)
theorem HZ (c:X.A.units+64<cLine) (ha:PD X E a ga) (e:PD X E b gb):PCD X E (.Compare a [.NotEq] [b] pos) (gT (g2 dNe ga gb)):=j9 GS ha e λh1 h2=>iY (HX c) h1 h2 (i3 _)
def eV:PyData->Bool
 |.none=>true
 |_=>false
def jk (x:PyData):Option PyData:=some (.bool (eV x))
def jr (x:PyData):Option PyData:=some (.bool (!eV x))
theorem g1.read {tt:(VK)->VK} {f:PyData->Option PyData} {Q:VK} (R:dq K H A δ σ) (o:gR K E A H (g1 f ga δ) Q)
  (b:∀d1 d x H',f d1=some d->Ls H' A->av H H'->Is K (del H' A) d1 x->(∀v H2,av H' H2->Is K (del H2 A) d v->Q v H2)->tt Q x H'):eD K E ga σ H (tt Q):=by
 unfold g1 at o;refine eD.run R (λd1 e1 v H1 a c h1=>?_) (λC e1 H' s'=>?_) (λe1=>?_)
 ·simp only[e1,Rs.ag]at o;cases e3:f d1 with
  |none=>rw[e3]at o;exact o.elim
  |some d=>rw[e3]at o;exact b d1 d v H1 e3 c.ls a h1 λw H' s q=>o w H' (a.trans s) q
 ·rw[e1]at o;exact o H' s'
 ·rw[e1]at o;exact o
theorem wI {d:PyData} (h:Is K H d v):decide (v=.non)=eV d:=by
 by_cases z:v=.non
 ·rw[decide_eq_true z,h.isNone.mp z];rfl
 ·rw[decide_eq_false z];have:d≠.none:=λq=>z (h.isNone.mpr q)
  cases d <;> first|(exact absurd rfl this)|rfl
theorem HE {j pos'} (ha:PD X E a ga):PD X E (.Compare a [.Is] [.Constant .none j pos'] pos) (g1 jk ga) :=
 (Hd (CQ ha)).imp λσ H Q ⟨A,δ,R,o⟩=>g1.read (tt:=λQ x H1=>Q (.bl (decide (x=.non))) H1) R o λd1 d x H' e _ _ h k=>by cases e;rw[wI h];exact k _ H' (av.refl _) is_bool
theorem xT {t:TE} (h:PT X e (tB t)) (k:∀σ H Q,eD X.K E ga σ H Q->t σ H Q):PCD X E e (gT ga):=h.imp λσ H Q ⟨A,δ,R,o⟩=>k σ H _ ⟨A,δ,R,by
 unfold gT at o;cases q:ga δ with
 |no=>rw[q]at o;exact o
 |rz C=>rw[q]at o;exact o
 |ok d =>
  rw[q]at o;cases d with
  |bool c=>exact λv H' s h=>⟨c,h.ofBool,o H' s⟩
  |_=>exact o.elim⟩
theorem FJ (h:PD X E e ga) (a:∀whole,isTrue e X.env whole=(do let v <-whole;standAt e.pos;holding [v] (truthy v))):PCD X E e (gT ga):=xT (Iv h a) λ_ _ _ h=>h
theorem E9 {j pos'} (ha:PD X E a ga):PCD X E (.Compare a [.Is] [.Constant .none j pos'] pos) (gT (g1 jk ga)) :=
 xT (xH (CQ ha)) λσ H Q ⟨A,δ,R,o⟩=>g1.read (tt:=λQ x H1=>Q (.bl (decide (x=.non))) H1) R o λd1 d x H' e _ _ h k=>by cases e;rw[wI h];exact k _ H' (av.refl _) is_bool
theorem Dx {j pos'} (ha:PD X E a ga):PCD X E (.Compare a [.IsNot] [.Constant .none j pos'] pos) (gT (g1 jr ga)) :=
 xT (xH (Ga ha)) λσ H Q ⟨A,δ,R,o⟩=>g1.read (tt:=λQ x H1=>Q (.bl (!decide (x=.non))) H1) R o λd1 d x H' e _ _ h k=>by cases e;rw[wI h];exact k _ H' (av.refl _) is_bool
theorem Cp {ca:Ds->Rs Bool} {f:Bool->Rs Bool} {Q:Bool->Hp->Prop} {t:Bool->Hp->Prop} (R:dq K H A δ σ) (o:wB E H ((ca δ).bind f) Q)
  (k:∀b H1,av H H1->dq K H1 A δ σ->wB E H1 (f b) Q->t b H1):cD K E ca σ H t:=by
 refine cD.run R (λb e H1 a c=>?_) (λC e H' s'=>?_) (λe=>?_)
 ·rw[e]at o;exact k b H1 a c (wB.mono (show wB E H (f b) Q from o) a)
 ·rw[e]at o;exact o H' s'
 ·rw[e]at o;exact o
variable {ca cb:Ds->Rs Bool} {rest:List Expr}
theorem El (ha:PCD X E a ca):PCD X E (.UnaryOp .Not a pos) (fI ca):=(Jj ha).imp λσ H Q c=>(by obtain⟨A,δ,R,o⟩:=c;exact Cp R o λb H1 s1 R1 o=>o H1 (av.refl _))
theorem Ce (ha:PCD X E a ca):PWD X E (.BoolOp .And [a] pos) ca:=Ge ha
theorem Ep (ha:PCD X E a ca):PWD X E (.BoolOp .Or [a] pos) ca:=IP ha
theorem ym (ha:PCD X E a ca) (c:PWD X E (.BoolOp .And (b::rest) pos) cb):PWD X E (.BoolOp .And (a::b::rest) pos) (uj ca cb):=PW.imp (G0 ha c) λσ H Q ⟨A,δ,R,o⟩=>Cp R o λb H1 s1 e o=>by
 cases b with
 |true=>exact⟨A,δ,e,o⟩
 |false=>exact o H1 (av.refl _)
theorem Ck (ha:PCD X E a ca) (c:PWD X E (.BoolOp .Or (b::rest) pos) cb):PWD X E (.BoolOp .Or (a::b::rest) pos) (cOr ca cb):=PW.imp (Kb ha c) λσ H Q ⟨A,δ,R,o⟩=>Cp R o λb H1 s1 e o=>by
 cases b with
 |false=>exact⟨A,δ,e,o⟩
 |true=>exact o H1 (av.refl _)
theorem Gw (h:PWD X E e ca):PCD X E e ca:=PW.pt h
theorem Gp {f:PyData->Rs PyData} {Q:VK} {t:VK} (R:dq K H A δ σ) (o:gR K E A H ((ga δ).bind f) Q)
  (k:∀d v H1,av H H1->dq K H1 A δ σ->Is K (del H1 A) d v->gR K E A H1 (f d) Q->t v H1):eD K E ga σ H t:=by
 refine eD.run R (λd e v H1 a b h1=>?_) (λC e H' s'=>?_) (λe=>?_)
 ·rw[e]at o;exact k d v H1 a b h1 (gR.mono (show gR K E A H (f d) Q from o) a)
 ·rw[e]at o;exact o H' s'
 ·rw[e]at o;exact o
theorem oR {d:PyData} {f:Bool->Rs PyData} {Q:VK} (o:gR K E A H ((truth d).bind f) Q):∃t,d=.bool t/\gR K E A H (f t) Q:=by
 cases d with
 |bool t=>exact⟨t,rfl,o⟩
 |_=>exact o.elim
theorem Ia {op} (ha:PD X E a ga):PD X E (.BoolOp op [a] pos) ga:=HV ha
theorem ID (ha:PD X E a ga) (c:PD X E (.BoolOp .And (b::rest) pos) gb):PD X E (.BoolOp .And (a::b::rest) pos) (zC ga gb):=(Hh ha c).imp λσ H Q ⟨A,δ,R,o⟩=>Gp R o λd v H1 s1 e h1 o=>by
 obtain⟨t,rfl,o⟩:=oR o;refine⟨t,h1.ofBool,?_⟩;cases t with
 |true=>exact⟨A,δ,e,o⟩
 |false=>exact o _ H1 (av.refl _) is_bool
theorem Ks (ha:PD X E a ga) (c:PD X E (.BoolOp .Or (b::rest) pos) gb):PD X E (.BoolOp .Or (a::b::rest) pos) (gOr ga gb):=(Kr ha c).imp λσ H Q ⟨A,δ,R,o⟩=>Gp R o λd v H1 s1 e h1 o=>by
 obtain⟨t,rfl,o⟩:=oR o;refine⟨t,h1.ofBool,?_⟩;cases t with
 |false=>exact⟨A,δ,e,o⟩
 |true=>exact o _ H1 (av.refl _) is_bool
theorem Kz (hc:PCD X E c ca) (ha:PD X E a ga) (h:PD X E b gb):PD X E (.IfExp c a b pos) (gIf ca ga gb):=(CO hc ha h).imp λσ H Q f=>by
 obtain⟨A,δ,R,o⟩:=f;unfold gIf at o;refine cD.run R (λt e H1 i g=>?_) (λC e H' s'=>?_) (λe=>?_)
 ·rw[e]at o;have o:=gR.mono (show gR X.K E A H (if t=true then ga δ else gb δ) Q from o) i;cases t with
  |true=>exact⟨A,δ,g,o⟩
  |false=>exact⟨A,δ,g,o⟩
 ·rw[e]at o;exact o H' s'
 ·rw[e]at o;exact o
def lp:PyData->Option PyData
 |.int i=>some (.int (-i))
 |_=>none
theorem Jk (ha:PD X E a ga):PD X E (.UnaryOp .USub a pos) (g1 lp ga):=(Kg Hu ha).imp λσ H Q ⟨A,δ,R,o⟩=>g1.read (tt:=λQ x H1=>∃i,x=.int i/\Q (.int (-i)) H1) R o λd1 d x H' e _ _ h k=>by
 cases d1 with
 |int i=>cases e;exact⟨i,h.ofInt,k _ H' (av.refl _) bL⟩
 |_=>cases e
theorem FU:PAD X E [] ah:=⟨fR.imp λσ H Q a=>(by obtain⟨A,δ,R,o⟩:=a;exact o [] H (av.refl _) cK),λδ ds e=>by cases e;rfl⟩
theorem BL (ha:PD X E a ga) (b:PAD X E es gs) (f:starEach (a::es) X.env=(false,eval a X.env)::starEach es X.env):PAD X E (a::es) (ae ga gs):=by
 refine⟨(d7 ha b.1 f).imp λσ H Q ⟨A,δ,R,o⟩=>?_,λδ ds e=>?_⟩
 ·unfold ae at o;refine eD.run R (λd e v H1 c g h1=>?_) (λC e H' s'=>?_) (λe=>?_)
  ·simp only[e,Rs.ag]at o;refine aD.run g (λds e2 vs H2 s2 R2 h2=>?_) (λC e2 H' s'=>?_) (λe2=>?_)
   ·simp only[e2,Rs.ag]at o;exact o _ H2 (c.trans s2) (cq (h1.same s2.del) h2)
   ·simp only[e2,Rs.eF]at o;exact o H' (c.trans s')
   ·simp only[e2,Rs.bw]at o;exact o
  ·simp only[e,Rs.eF]at o;exact o H' s'
  ·simp only[e,Rs.bw]at o;exact o
 ·unfold ae at e;cases q:ga δ with
  |ok d =>
   cases q2:gs δ with
   |ok l =>simp only[q,q2,Rs.ag]at e;cases e;simp[b.2 δ l q2]
   |rz C=>simp only[q,q2,Rs.ag,Rs.eF]at e;cases e
   |no=>simp only[q,q2,Rs.ag,Rs.bw]at e;cases e
  |rz C=>simp only[q,Rs.eF]at e;cases e
  |no=>simp only[q,Rs.bw]at e;cases e
theorem rP {f:List PyData->Rs PyData} {Q:VK} {t:List V->Hp->Prop} (R:dq K H A δ σ) (o:gR K E A H ((gs δ).bind f) Q)
  (k:∀ds vs H1,gs δ=.ok ds->av H H1->dq K H1 A δ σ->Iss K (del H1 A) ds vs->gR K E A H1 (f ds) Q->t vs H1):aD K E gs σ H t:=by
 refine aD.run R (λd e v H1 a b h1=>?_) (λC e H' s'=>?_) (λe=>?_)
 ·rw[e]at o;exact k d v H1 e a b h1 (gR.mono (show gR K E A H (f d) Q from o) a)
 ·rw[e]at o;exact o H' s'
 ·rw[e]at o;exact o
theorem Jc {x1} (h:PAD X E es gs) (hl:es.length<=1000):PD X E (.Tuple es x1 pos) (eP gs):=(Hb h.1).imp λσ H Q ⟨A,δ,R,o⟩=>rP R o λds vs H1 e s1 b h1 o=>by have n:=h.2 δ ds e;have m:=h1.length;exact⟨by rw[sizeLine_eq];omega,λp a=>o _ _ (bD a) (lK b.ls a h1)⟩
theorem GF (h:PAD X E es gs) (hl:es.length<=1000):PD X E (.List es pos) (kh gs):=(wD h.1).imp λσ H Q ⟨A,δ,R,o⟩=>rP R o λds vs H1 e s1 b h1 o=>by have n:=h.2 δ ds e;have m:=h1.length;exact⟨by rw[sizeLine_eq];omega,λp a=>o _ _ (bD a) (j7 b.ls a h1)⟩
def spD (K:PySem.W.Frag) (n:Nat) (gf:List PyData->Rs PyData):Sp:=λvs H Q E=>∃A ds,Ls H A/\Iss K (del H A) ds vs/\ds.length=n/\gR K E A H (gf ds) Q
structure ia (P:Program) (w:World) (K:PySem.W.Frag) (mg:Str->Option Value) (base:Heap) (k:Nat) (x:Str) (n:Nat) (gf:List PyData->Rs PyData):Prop where
 ex:∃f fd ps,gj P w K mg base (CXW P w) k f fd ps (spD K n gf)/\mg x=some (.ref f)/\PySem.W.keepIn K (.ref f)=true/\Binds K fd ps []
theorem vK:Passes (CXW X.prog X.w) X E0:=λ_ _ _ _ _ _ _ a=>(by obtain⟨_,_,_,_,_,_,h,_⟩:=a;exact h.elim)
theorem DZ {k:Nat} (D:ia X.prog X.w X.K X.mg X.base k x (e::es).length gf) (h:bY j X.A) (i:Passes (CXW X.prog X.w) X E) (ha:PAD X E (e::es) gs) (l:k<=j) (m:Gl X x)
  (a:(x==("__debug__":Str))=false) (n:starEach (e::es) X.env=(false,eval e X.env)::starEach es X.env) (b:(backTo pos (starEach es X.env)).any (·.1)=false) :
  PD X E (.Call (.Name x p) (e::es) [] pos) (aq gf gs):=by
 obtain⟨f,fd,ps,F,hm,c,q⟩:=D.ex;refine (zv F (h.mono l) m hm c q .nil i ha.1 a n b).imp λσ H Q g=>?_
 obtain⟨A,δ,R,o⟩:=g;refine rP R o λds vs H1 e s1 r h1 o=>?_
 refine⟨A,ds,r.ls,by simpa using h1,ha.2 δ ds e,o⟩
def FnD (K:PySem.W.Frag) (f:List PyData->Option PyData) (r:List V->Hp->VK->Prop):Prop :=
 ∀(ds:List PyData) (d:PyData) (vs:List V) (H:Hp) (A:List Addr) (Q:VK),f ds=some d->Ls H A->Iss K (del H A) ds vs->(∀v H',av H H'->Is K (del H' A) d v->Q v H')->r vs H Q
theorem gO {r:List V->Hp->VK->Prop} {f:List PyData->Option PyData} (a:FnD X.K f r) (ha:PAD X E es gs) (mk:∀{t:TA},PA X es t->PE X e (tCB r t)):PD X E e (gF f gs) :=
 (mk ha.1).imp λσ H Q ⟨A,δ,R,o⟩=>rP R o λds vs H1 e s1 b h1 o=>by
  cases q:f ds with
  |none=>rw[q]at o;exact o.elim
  |some d=>rw[q]at o;exact a ds d vs H1 A Q q b.ls h1 o
end
section
variable {a b c:Expr} {ga gb gc:Ds->Rs PyData}
def Gm (K:PySem.W.Frag):R2:=λx y H Q=>∃a b xs ys,x=.ref a/\y=.ref b/\SqT K H a xs/\SqT K H b ys/\xs.length+ys.length<=sizeLine /\
 (xs=[]->Q (.ref b) H)/\(xs≠[]->ys=[]->Q (.ref a) H)/\(xs≠[]->ys≠[]->∀p,H p=none->Q (.ref p) (upd H p (.tup (xs++ys))))
theorem Fi:OpR X (binaryOp .Add) (Gm X.K):=by
 intro pins s σ H x y v u Q I i j h;obtain⟨a,b,xs,ys,rfl,rfl,ha,l,o,p,q,r⟩:=h;by_cases hx:xs=[]
 ·cases i;cases j;obtain⟨vs,t,p1,_⟩:=I.tuple ha;obtain⟨ws,r2,p2,_⟩:=I.tuple l;obtain⟨⟨cls,dd,data,w⟩,m,hc,n,hd⟩:=id p1;obtain⟨⟨cls2,f,data2,g⟩,c,e,n2,hd2⟩:=id p2;simp only at hc hd e hd2;subst hc hd e hd2;have hv:vs=[]:=t.nil_iff.mpr hx;exact concat_meets ⟨_,m,rfl⟩ ⟨_,c,rfl⟩ noFill_tuple_add seq_tuple_add PySem.F.slot_tuple_add PySem.F.entry_tuple_add (PySem.F.args_tuple_add_2 _ _)
   (tuple_addW0 a b vs.toArray ws.toArray n n2 dd f w g (by simp[hv])) ⟨m,c,⟨.ref b,H,I,rfl,p hx⟩⟩
 ·exact Fp pins s σ H _ _ v u Q I i j ⟨a,b,xs,ys,rfl,rfl,ha,l,hx,o,q hx,r hx⟩
def aX:PyData->PyData->Option PyData
 |.int i,.int j=>some (.int (i+j))
 |.list x,.list y=>if x.length+y.length<=1000000 then some (.list (x++y)) else none
 |.tuple x,.tuple y=>if x.length+y.length<=1000000 then some (.tuple (x++y)) else none
 |_,_=>none
theorem F4:OpD K aX (λx y H Q=>rI0 (λi j=>.int (i+j)) x y H Q\/Js x y H Q\/Gm K x y H Q):=λd1 d2 d x y H A Q e h h1 h2 k=>by
 unfold aX at e;split at e
 ·cases e;exact .inl ⟨_,_,h1.ofInt,h2.ofInt,k _ H (av.refl _) bL⟩
 ·rename_i l1 l2;split at e
  ·rename_i l;cases e;obtain⟨p,xs,rfl,f,a⟩:=h1.ofLst;obtain⟨q,ys,rfl,g,b⟩:=h2.ofLst;refine .inr (.inl ⟨p,q,xs,ys,rfl,rfl,aw _ _ f,aw _ _ g,by rw[a.length,b.length,sizeLine_eq];omega,λr c=>k _ _ (bD c) (j7 h c (a.append b))⟩)
  ·cases e
 ·rename_i l1 l2;split at e
  ·rename_i l;cases e;obtain⟨p,xs,rfl,f,a⟩:=h1.ofTup;obtain⟨q,ys,rfl,g,b⟩:=h2.ofTup;refine .inr (.inr ⟨p,q,xs,ys,rfl,rfl,SqT.of (aw _ _ f),SqT.of (aw _ _ g),by rw[a.length,b.length,sizeLine_eq];omega,λz=>?_,λ_ z=>?_,λ_ _ r c=>k _ _ (bD c) (lK h c (a.append b))⟩)
   ·subst z;have:l1=[]:=MP.mp (by rw[<-a.length];rfl);subst this;exact k _ H (av.refl _) (ig g b)
   ·subst z;have:l2=[]:=MP.mp (by rw[<-b.length];rfl);subst this;rw[Mi]at k;exact k _ H (av.refl _) (ig f a)
  ·cases e
 ·cases e
theorem GO (ha:PD X E a ga) (c:PD X E b gb):PD X E (.BinOp a .Add b pos) (g2 aX ga gb):=fU F4 ha c (eN (lZ.or (Hr.or Fi)))
def dIx:PyData->PyData->Option PyData
 |.list x,.int i=>atI x i
 |.tuple x,.int i=>atI x i
 |_,_=>none
theorem yq {i:Int} {d:PyData} (h:Iss K H ds vs) (e:atI ds i=some d):∃v,atI vs i=some v/\Is K H d v:=by
 unfold atI at e ⊢;rw[h.length];cases q:ixN ds.length i with
 |none=>rw[q]at e;cases e
 |some j=>rw[q]at e;exact h.getD e
theorem Hw:OpD K dIx (λx y H Q=>Jq K x y H Q\/JL K x y H Q):=λd1 d2 d x y H A Q e hA h1 h2 k=>by
 unfold dIx at e;split at e
 ·obtain⟨p,xs,rfl,a,b⟩:=h1.ofLst;obtain⟨v,c,hv⟩:=yq b e;exact .inl ⟨p,xs,_,v,rfl,h2.ofInt,SqL.of (aw _ _ a),c,k _ H (av.refl _) hv⟩
 ·obtain⟨p,xs,rfl,a,b⟩:=h1.ofTup;obtain⟨v,c,hv⟩:=yq b e;exact .inr ⟨p,xs,_,v,rfl,h2.ofInt,SqT.of (aw _ _ a),c,k _ H (av.refl _) hv⟩
 ·cases e
theorem J6 (ha:PD X E a ga) (c:PD X E b gb) (e:yy b):PD X E (.Subscript a b pos) (g2 dIx ga gb):=fU Hw ha c λh1 h2=>CK (sX.or IL) h1 h2 e
def bM:List PyData->Option PyData
 |[.list x]=>some (.int x.length)
 |[.tuple x]=>some (.int x.length)
 |_=>none
theorem kG {d:PyData} (h:Iss K H [d] vs):∃v,vs=[v]/\Is K H d v:=by obtain⟨v,r,rfl,h1,h2⟩:=h.cons_of;rw[h2.nil_of];exact⟨v,rfl,h1⟩
theorem ES {d e:PyData} (h:Iss K H [d,e] vs):∃v u,vs=[v,u]/\Is K H d v/\Is K H e u:=by obtain⟨v,r,rfl,h1,h2⟩:=h.cons_of;obtain⟨u,rfl,a⟩:=kG h2;exact⟨v,u,rfl,h1,a⟩
theorem EJ:FnD K bM (λxs H Q=>∃p ys,xs=[.ref p]/\(SqL K H p ys\/SqT K H p ys)/\Q (.int ys.length) H):=λds d vs H A Q e hA h k=>by
 unfold bM at e;split at e
 ·cases e;obtain⟨v,rfl,a⟩:=kG h;obtain⟨p,xs,rfl,b,c⟩:=a.ofLst;exact⟨p,xs,rfl,.inl (SqL.of (aw _ _ b)),k _ H (av.refl _) (by rw[c.length];exact bL)⟩
 ·cases e;obtain⟨v,rfl,a⟩:=kG h;obtain⟨p,xs,rfl,b,c⟩:=a.ofTup;exact⟨p,xs,rfl,.inr (SqT.of (aw _ _ b)),k _ H (av.refl _) (by rw[c.length];exact bL)⟩
 ·cases e
theorem IC (hm:X.mg "len"=none) (ha:PAD X E (a::es) gs) (c:Gl X "len") (e:starEach (a::es) X.env=(false,eval a X.env)::starEach es X.env) (b:(backTo pos (starEach es X.env)).any (·.1)=false) :
 PD X E (.Call (.Name "len" p) (a::es) [] pos) (gF bM gs):=gO EJ ha λh=>gN iN c hm PySem.boot_len h (by decide) (by decide) e b
theorem A8:bootBuiltins "int"=some (.type "int"):=by decide +kernel
theorem uM:bootBuiltins "tuple"=some (.type "tuple"):=by decide +kernel
theorem tR:bootBuiltins "list"=some (.type "list"):=by decide +kernel
theorem zF:bootBuiltins "isinstance"=some (.builtin "isinstance"):=by decide +kernel
theorem HG:bootBuiltins "all"=some (.builtin "all"):=by decide +kernel
theorem Ie:bootBuiltins "min"=some (.builtin "min"):=by decide +kernel
theorem Ig:bootBuiltins "max"=some (.builtin "max"):=by decide +kernel
def gX:List PyData->Option (List Int)
 |[]=>some []
 |.int i::r=>(gX r).map (i::·)
 |_::_=>none
theorem eI:∀{ds:List PyData} {ns:List Int},gX ds=some ns->ds=ns.map PyData.int
 |[],_,h=>by cases h;rfl
 |.int i::r,ns,h=>by
  unfold gX at h;cases q:gX r with
  |none=>rw[q]at h;cases h
  |some l=>rw[q]at h;cases h;rw[eI q];rfl
 |.none::_,_,h=>by cases h
 |.bool _::_,_,h=>by cases h
 |.str _::_,_,h=>by cases h
 |.list _::_,_,h=>by cases h
 |.tuple _::_,_,h=>by cases h
 |.dict _::_,_,h=>by cases h
theorem fu:∀(ns:List Int),gX (ns.map PyData.int)=some ns
 |[]=>rfl
 |n::r=>by rw[L4];unfold gX;rw[fu r];rfl
def ic:List PyData->Option (List Bool)
 |[]=>some []
 |.bool i::r=>(ic r).map (i::·)
 |_::_=>none
theorem nh:∀{ds:List PyData} {ns:List Bool},ic ds=some ns->ds=ns.map PyData.bool
 |[],_,h=>by cases h;rfl
 |.bool i::r,ns,h=>by
  unfold ic at h;cases q:ic r with
  |none=>rw[q]at h;cases h
  |some l=>rw[q]at h;cases h;rw[nh q];rfl
 |.none::_,_,h=>by cases h
 |.int _::_,_,h=>by cases h
 |.str _::_,_,h=>by cases h
 |.list _::_,_,h=>by cases h
 |.tuple _::_,_,h=>by cases h
 |.dict _::_,_,h=>by cases h
theorem n5:∀(ns:List Bool),ic (ns.map PyData.bool)=some ns
 |[]=>rfl
 |n::r=>by rw[L4];unfold ic;rw[n5 r];rfl
def nC:List PyData->Option PyData
 |[.list x]=>(ic x).map λns=>.bool (ns.all id)
 |_=>none
theorem EH:FnD K nC (λxs H Q=>∃(a:Addr) (ns:List Bool),xs=[.ref a]/\SqL K H a (ns.map V.bl)/\Q (.bl (ns.all id)) H):=λds d vs H A Q e hA h k=>by
 unfold nC at e;split at e
 ·rename_i x;cases q:ic x with
  |none=>rw[q]at e;cases e
  |some ns =>rw[q]at e;cases e;obtain⟨v,rfl,f⟩:=kG h;obtain⟨p,xs,rfl,b,c⟩:=f.ofLst;rw[nh q]at c;rw[c.ofBools]at b;exact⟨p,ns,rfl,SqL.of (aw _ _ b),k _ H (av.refl _) is_bool⟩
 ·cases e
theorem G4 (hc:X.calm=true) (hm:X.mg "all"=none) (ha:PAD X E (a::es) gs) (c:Gl X "all") (e:starEach (a::es) X.env=(false,eval a X.env)::starEach es X.env) (b:(backTo pos (starEach es X.env)).any (·.1)=false) :
 PD X E (.Call (.Name "all" p) (a::es) [] pos) (gF nC gs):=gO EH ha λh=>gN (Cg hc) c hm HG h (by decide) (by decide) e b
def kj:List PyData->Option PyData
 |[.int i,.int j]=>some (.int (if j<i then j else i))
 |_=>none
def iC:List PyData->Option PyData
 |[.int i,.int j]=>some (.int (if j>i then j else i))
 |_=>none
theorem Bn:FnD K kj (λxs H Q=>∃i j,xs=[.int i,.int j]/\Q (.int (if j<i then j else i)) H):=λds d vs H A Q e hA h k=>by
 unfold kj at e;split at e
 ·cases e;obtain⟨v,u,rfl,h1,h2⟩:=ES h;rw[h1.ofInt,h2.ofInt];exact⟨_,_,rfl,k _ H (av.refl _) bL⟩
 ·cases e
theorem C6:FnD K iC (λxs H Q=>∃i j,xs=[.int i,.int j]/\Q (.int (if j>i then j else i)) H):=λds d vs H A Q e hA h k=>by
 unfold iC at e;split at e
 ·cases e;obtain⟨v,u,rfl,h1,h2⟩:=ES h;rw[h1.ofInt,h2.ofInt];exact⟨_,_,rfl,k _ H (av.refl _) bL⟩
 ·cases e
theorem EZ (hc:X.calm=true) (hm:X.mg "min"=none) (ha:PAD X E (a::es) gs) (c:Gl X "min") (e:starEach (a::es) X.env=(false,eval a X.env)::starEach es X.env) (b:(backTo pos (starEach es X.env)).any (·.1)=false) :
 PD X E (.Call (.Name "min" p) (a::es) [] pos) (gF kj gs):=gO Bn ha λh=>gN (zO hc) c hm Ie h (by decide) (by decide) e b
theorem E8 (hc:X.calm=true) (hm:X.mg "max"=none) (ha:PAD X E (a::es) gs) (c:Gl X "max") (e:starEach (a::es) X.env=(false,eval a X.env)::starEach es X.env) (b:(backTo pos (starEach es X.env)).any (·.1)=false) :
 PD X E (.Call (.Name "max" p) (a::es) [] pos) (gF iC gs):=gO C6 ha λh=>gN (zE hc) c hm Ig h (by decide) (by decide) e b
def AA:List PyData->Option PyData
 |[.int i]=>some (.int i)
 |[.bool k]=>some (.int (if k then 1 else 0))
 |_=>none
theorem Ez:FnD K AA (λxs H Q=>(∃i,xs=[.int i]/\Q (.int i) H)\/∃k,xs=[.bl k]/\Q (.int (if k then 1 else 0)) H):=λds d vs H A Q e hA h k=>by
 unfold AA at e;split at e
 ·cases e;obtain⟨v,rfl,h1⟩:=kG h;rw[h1.ofInt];exact .inl ⟨_,rfl,k _ H (av.refl _) bL⟩
 ·cases e;obtain⟨v,rfl,h1⟩:=kG h;rw[h1.ofBool];exact .inr ⟨_,rfl,k _ H (av.refl _) bL⟩
 ·cases e
theorem BM (hm:X.mg "int"=none) (ha:PAD X E (a::es) gs) (c:Gl X "int") (e:starEach (a::es) X.env=(false,eval a X.env)::starEach es X.env) (b:(backTo pos (starEach es X.env)).any (·.1)=false) :
 PD X E (.Call (.Name "int" p) (a::es) [] pos) (gF AA gs):=gO Ez ha λh=>lX zR c hm A8 h (by decide) (by decide) e b
def jJ:List PyData->Option PyData
 |[.list x]=>some (.tuple x)
 |[.tuple x]=>some (.tuple x)
 |_=>none
def vR:List PyData->Option PyData
 |[.list x]=>some (.list x)
 |[.tuple x]=>some (.list x)
 |_=>none
theorem AF:FnD K jJ (λxs H Q=>∃p ys,xs=[.ref p]/\((SqL K H p ys/\∀l,H l=none->Q (.ref l) (upd H l (.tup ys)))\/(SqT K H p ys/\Q (.ref p) H))):=λds d vs H A Q e f h k=>by
 unfold jJ at e;split at e
 ·cases e;obtain⟨v,rfl,b⟩:=kG h;obtain⟨p,xs,rfl,a,c⟩:=b.ofLst;exact⟨p,xs,rfl,.inl ⟨SqL.of (aw _ _ a),λl hl=>k _ _ (bD hl) (lK f hl c)⟩⟩
 ·cases e;obtain⟨v,rfl,b⟩:=kG h;obtain⟨p,xs,rfl,a,c⟩:=b.ofTup;exact⟨p,xs,rfl,.inr ⟨SqT.of (aw _ _ a),k _ H (av.refl _) (ig a c)⟩⟩
 ·cases e
theorem De:FnD K vR (λxs H Q=>∃p ys,xs=[.ref p]/\(SqL K H p ys\/SqT K H p ys)/\∀l,H l=none->Q (.ref l) (upd H l (.lst ys))):=λds d vs H A Q e f h k=>by
 unfold vR at e;split at e
 ·cases e;obtain⟨v,rfl,a⟩:=kG h;obtain⟨p,xs,rfl,b,c⟩:=a.ofLst;exact⟨p,xs,rfl,.inl (SqL.of (aw _ _ b)),λl hl=>k _ _ (bD hl) (j7 f hl c)⟩
 ·cases e;obtain⟨v,rfl,a⟩:=kG h;obtain⟨p,xs,rfl,b,c⟩:=a.ofTup;exact⟨p,xs,rfl,.inr (SqT.of (aw _ _ b)),λl hl=>k _ _ (bD hl) (j7 f hl c)⟩
 ·cases e
theorem xU (hm:X.mg "tuple"=none) (ha:PAD X E (a::es) gs) (c:Gl X "tuple") (e:starEach (a::es) X.env=(false,eval a X.env)::starEach es X.env) (b:(backTo pos (starEach es X.env)).any (·.1)=false) :
 PD X E (.Call (.Name "tuple" p) (a::es) [] pos) (gF jJ gs):=gO AF ha λh=>lX qB c hm uM h (by decide) (by decide) e b
theorem AV (hm:X.mg "list"=none) (ha:PAD X E (a::es) gs) (c:Gl X "list") (e:starEach (a::es) X.env=(false,eval a X.env)::starEach es X.env) (b:(backTo pos (starEach es X.env)).any (·.1)=false) :
 PD X E (.Call (.Name "list" p) (a::es) [] pos) (gF vR gs):=gO De ha λh=>lX sV c hm tR h (by decide) (by decide) e b
def kM (T:String) (d:PyData):Option PyData:=if aC d then some (.bool (tq d T)) else none
theorem AD {T:Str} {b:String} {c:Pos} (hm:X.mg "isinstance"=none) (f:X.mg T=none) (q:bootBuiltins T=some (.type b)) (r:b∈["bool", "int", "list", "tuple"]) (ha:PD X E a ga)
  (s:Gl X "isinstance") (g:Gl X T) (hn:T≠"__name__") (i:(T==("__debug__":Str))=false) (n:starEach [a,.Name T c] X.env=(false,eval a X.env)::starEach [.Name T c] X.env)
  (j:starEach [.Name T c] X.env=(false,eval (.Name T c) X.env)::starEach [] X.env) (l:(backTo pos (starEach [.Name T c] X.env)).any (·.1)=false) :
  PD X E (.Call (.Name "isinstance" p) [a,.Name T c] [] pos) (g1 (kM b) ga):=by
 refine (gN uI s hm zF (d7 ha (d7 (Fm (v:=.ty b) g f q rfl hn i) fR j) n) (by decide) (by decide) n l).imp λσ H Q m=>?_
 obtain⟨A,δ,R,o⟩:=m;refine g1.read (tt:=λQ x H1=>∃d v T,[x,V.ty b]=[v,.ty T]/\IsD X.K H1 d v/\T∈["bool", "int", "list", "tuple"]/\Q (.bl (tq d T)) H1) R o λd1 d x H' e _ _ h k=>?_
 unfold kM at e;split at e
 ·rename_i z;cases e;exact⟨d1,x,b,rfl,(h.same aw).isd z,r,k _ H' (av.refl _) is_bool⟩
 ·cases e
end
def zL (K:PySem.W.Frag) (J:It) (ds:List PyData) (G:Hp):Prop:=∀(H1:Hp) (B:List Addr),av G H1->Ls H1 B->(∀b∈B,G b=none) ->
 (∀i,i<ds.length->J.go i H1)/\J.stop ds.length H1/\∀i x H2,i<ds.length->J.yld i H1 x H2->av H1 H2/\∃d,ds[i]?=some d/\Is K (del H2 B) d x
def outI (K:PySem.W.Frag) (E:XK) (A:List Addr) (H:Hp) (r:Rs (List PyData)) (R:It->Hp->Prop):Prop:=match r with
 |.ok ds=>∀J H',av H H'->zL K J ds (del H' A)->R J H'
 |.rz C=>∀H',av H H'->E (.ref C) none H'
 |.no=>False
def iD (K:PySem.W.Frag) (E:XK) (g:Ds->Rs (List PyData)):TI:=λσ H R=>∃A δ,dq K H A δ σ/\outI K E A H (g δ) R
def PID (X:Cx) (E:XK) (tg iter:Expr) (g:Ds->Rs (List PyData)):Prop:=PI X tg iter (iD X.K E g)
theorem PI.imp {it:Expr} {t t':TI} (h:PI X tg it t) (k:∀σ H R,t' σ H R->t σ H R):PI X tg it t':=λpins s σ H R I q=>h pins s σ H R I (k σ H R q)
theorem PI.or {it:Expr} {t t':TI} (h:PI X tg it t) (h':PI X tg it t'):PI X tg it (λσ H R=>t σ H R\/t' σ H R):=λpins s σ H R I q=>q.elim (h pins s σ H R I) (h' pins s σ H R I)
section
variable {a:Expr} {ga:Ds->Rs PyData}
def yh:PyData->Rs (List PyData)
 |.list ds=>.ok ds
 |.tuple ds=>.ok ds
 |_=>.no
theorem kS (s:av G H1) (hB:∀b∈B,G b=none):av G (del H1 B):=λb o e=>by rw[aL (λz=>by rw[hB b z]at e;cases e)];exact s b o e
theorem AS {p:Addr} (b:G p=some (.lst xs)) (h:Iss K G ds xs):zL K (Itl K p) ds G:=λH1 B s _ hB=>by have hl:=h.length;have a:SqL K H1 p xs:=SqL.of (s _ _ b);refine⟨λi hi=>⟨xs,xs[i]'(by omega),a,L0 _⟩,⟨xs,a,by omega⟩,λi x H2 hi y=>?_⟩;obtain⟨rfl,y⟩:=y;obtain⟨d,e,hd⟩:=h.get (y xs a);exact⟨av.refl _,d,e,hd.same (kS s hB)⟩
theorem BW {p:Addr} (b:G p=some (.tup xs)) (h:Iss K G ds xs):zL K (Itt K p) ds G:=λH1 B s _ hB=>by have hl:=h.length;have a:SqT K H1 p xs:=SqT.of (s _ _ b);refine⟨λi hi=>⟨xs,xs[i]'(by omega),a,L0 _⟩,⟨xs,a,by omega⟩,λi x H2 hi y=>?_⟩;obtain⟨rfl,y⟩:=y;obtain⟨d,e,hd⟩:=h.get (y xs a);exact⟨av.refl _,d,e,hd.same (kS s hB)⟩
def bT (g:Ds->Rs PyData):Ds->Rs (List PyData):=λδ=>(g δ).bind yh
theorem Eh (h:PD X E a ga):PID X E tg a (bT ga):=(PI.or (Fo h) (GY h)).imp λσ H R c=>by
 obtain⟨A,δ,f,o⟩:=c;unfold bT at o;cases q:ga δ with
 |no=>rw[q]at o;exact o.elim
 |rz C=>rw[q]at o;exact .inl (eD.run f (λd e=>by rw[q]at e;cases e) (λj e H' s=>by rw[q]at e;cases e;exact o H' s) (λe=>by rw[q]at e;cases e))
 |ok d =>
  rw[q]at o;cases d with
  |list ds =>refine .inl (eD.run f (λd e v H1 g l h1=>?_) (λj e=>by rw[q]at e;cases e) (λe=>by rw[q]at e;cases e));rw[q]at e;cases e;obtain⟨p,xs,rfl,b,i⟩:=h1.ofLst;exact⟨p,rfl,⟨xs,SqL.of (aw _ _ b)⟩,o _ H1 g (AS b i)⟩
  |tuple ds =>refine .inr (eD.run f (λd e v H1 g l h1=>?_) (λj e=>by rw[q]at e;cases e) (λe=>by rw[q]at e;cases e));rw[q]at e;cases e;obtain⟨p,xs,rfl,b,i⟩:=h1.ofTup;exact⟨p,rfl,⟨xs,SqT.of (aw _ _ b)⟩,o _ H1 g (BW b i)⟩
  |_=>exact o.elim
def bA (lo:Int) (n:Nat):List PyData:=(List.range n).map λ(i:Nat)=>PyData.int (lo+(i:Int))
theorem cO (lo:Int) (n:Nat):(bA lo n).length=n:=by simp[bA]
theorem xo {lo:Int}:zL K (Itr lo n) (bA lo n) G:=λH1 B s _ hB=>by refine⟨λi hi=>by rw[cO]at hi;exact hi,by rw[cO];exact L9 _,λi x H2 hi y=>?_⟩;obtain⟨rfl,rfl⟩:=y;rw[cO]at hi;exact⟨av.refl _,_,by simp[bA,hi],bL⟩
def F3:List PyData->Rs (List PyData)
 |[.int j]=>if -(2 ^ 62)<=j/\j<2 ^ 62 then .ok (bA 0 j.toNat) else .no
 |_=>.no
def JD:List PyData->Rs (List PyData)
 |[.int i,.int j]=>if -(2 ^ 62)<=i/\i<2 ^ 62/\-(2 ^ 62)<=j/\j<2 ^ 62 then .ok (bA i (j-i).toNat) else .no
 |_=>.no
def fM (g:Ds->Rs (List PyData)):Ds->Rs (List PyData):=λδ=>(g δ).bind F3
def JU (g:Ds->Rs (List PyData)):Ds->Rs (List PyData):=λδ=>(g δ).bind JD
theorem xB {f:List PyData->Rs (List PyData)} {R:It->Hp->Prop} {t:List V->Hp->Prop} (b:dq K H A δ σ) (o:outI K E A H ((gs δ).bind f) R)
  (k:∀ds vs H1,gs δ=.ok ds->av H H1->dq K H1 A δ σ->Iss K (del H1 A) ds vs->outI K E A H1 (f ds) R->t vs H1):aD K E gs σ H t:=by
 refine aD.run b (λd e v H1 a c h1=>?_) (λC e H' s'=>?_) (λe=>?_)
 ·rw[e]at o;refine k d v H1 e a c h1 ?_;have o:outI K E A H (f d) R:=o;cases q:f d with
  |ok ds=>rw[q]at o;exact λJ H' s j=>o J H' (a.trans s) j
  |rz C=>rw[q]at o;exact λH' s=>o H' (a.trans s)
  |no=>rw[q]at o;exact o
 ·rw[e]at o;exact o H' s'
 ·rw[e]at o;exact o
theorem xc (hm:X.mg "range"=none) (ha:PAD X E [a] gs) (b:Gl X "range") (c:starEach [a] X.env=[(false,eval a X.env)]) :
  PID X E tg (.Call (.Name "range" p) [a] [] pos) (fM gs):=(zy b hm ha.1 c).imp λσ H R ⟨A,δ,Rp,o⟩=>xB Rp o λds vs H1 e s1 R1 h1 o=>by
 unfold F3 at o;split at o
 ·split at o
  ·rename_i z;obtain⟨v,rfl,h⟩:=kG h1;rw[h.ofInt];exact⟨_,rfl,z.1,z.2,o _ H1 (av.refl _) xo⟩
  ·exact o.elim
 ·exact o.elim
def TgD (K:PySem.W.Frag) (n0 n:Nat) (tgt:PyData->Option Ds) (g:TG):Prop:=∀(d:PyData) (v:V) (σ a:St) (H:Hp) (A:List Addr) (Q:St->Hp->Prop) (own:Ds),σ.length=n0->a.length=n->Ls H A->Is K (del H A) d v->tgt d=some own ->
 own.length=n/\((∀vs:St,vs.length=n->(∀(i:Nat) e,own[i]?=some (some e)->∃u,vs[i]?=some (some u)/\Is K (del H A) e u)->Q (σ++vs) H)->g v (σ++a) H Q)
def aO:PyData->Option Ds:=λd=>some [some d]
theorem DC:TgD K n0 1 aO (jQ n0):=λd v σ a H A Q own h1 h2 hA hd e=>by
 cases e;refine⟨rfl,λk=>?_⟩;unfold jQ;subst h1;rw[set_own σ none v a h2];refine k _ rfl λi e z=>?_
 match i,z with
 |0,z=>cases z;exact⟨v,rfl,hd⟩
def jL:PyData->Option Ds
 |.tuple [x,y]=>some [some x,some y]
 |_=>none
theorem vt:TgD K n0 2 jL (L2.IE K 2 (L2.yG (jQ n0) (L2.yG (jQ (n0+1)) L2.GG))):=λd v σ a H A Q own h1 h2 hA hd e=>by
 unfold jL at e;split at e
 ·rename_i x y;cases e;refine⟨rfl,λk=>?_⟩;obtain⟨p,xs,rfl,b,c⟩:=hd.ofTup;obtain⟨u,w,rfl,f,hw⟩:=ES c;subst h1;refine⟨p,_,rfl,SqT.of (aw _ _ b),rfl,u,[w],rfl,w,[],rfl,rfl,?_⟩
  match a,h2 with
  |[s1,s2],_ =>
   have:((σ++[s1,s2]).set σ.length (some u)).set (σ.length+1) (some w)=σ++[some u,some w]:=by rw[Ni _ _ (L9 _),Ni _ _ (by omega)];simp
   rw[this];refine k _ rfl λi e z=>?_
   match i,z with
   |0,z=>cases z;exact⟨u,rfl,f⟩
   |1,z=>cases z;exact⟨w,rfl,hw⟩
 ·cases e
def eM (cond:Ds->Rs Bool) (elt:Ds->Rs PyData) (tgt:PyData->Option Ds) (δ:Ds):List PyData->Rs (List PyData)
 |[]=>.ok []
 |d::r=>match tgt d with
  |none=>.no
  |some own=>(cond (δ++own)).calm.bind λb=>if b=true then (elt (δ++own)).calm.bind λx=>(eM cond elt tgt δ r).bind λxs=>.ok (x::xs) else eM cond elt tgt δ r
def a9 (n0:Nat) (src:Ds->Rs (List PyData)) (cond:Ds->Rs Bool) (elt:Ds->Rs PyData) (tgt:PyData->Option Ds):Ds->Rs (List PyData):=λδ=>if δ.length=n0 then (src δ).bind λds=>if ds.length<=1000000 then eM cond elt tgt δ ds else .no else .no
def bS:Ds->Rs Bool:=λ_=>.ok true
def E3 (K:PySem.W.Frag) (E:XK) (A:List Addr) (H:Hp) (r:Rs (List PyData)) (Q:VK):Prop:=match r with
 |.ok ds=>∀a xs H',H a=none->av H H'->H' a=some (.lst xs)->Iss K (del H' (a::A)) ds xs->Q (.ref a) H'
 |.rz C=>∀H',av H H'->E (.ref C) none H'
 |.no=>False
def lD (K:PySem.W.Frag) (E:XK) (g:Ds->Rs (List PyData)):TE:=λσ H Q=>∃A δ,dq K H A δ σ/\E3 K E A H (g δ) Q
def PLD (X:Cx) (E:XK) (e:Expr) (g:Ds->Rs (List PyData)):Prop:=PE X e (lD X.K E g)
def gL (g:Ds->Rs (List PyData)):Ds->Rs PyData:=λδ=>(g δ).bind λds=>.ok (.list ds)
theorem mF {a:Addr}:av (del H (a::A)) (del H A):=λb o e=>by obtain⟨z,e⟩:=aZ e;rw[aL (λq=>z (L3 _ q))];exact e
theorem Iw {g:Ds->Rs (List PyData)} (h:PLD X E e g):PD X E e (gL g):=PE.imp h λσ H Q ⟨A,δ,R,o⟩=>⟨A,δ,R,by
 unfold gL at o;cases q:g δ with
 |no=>rw[q]at o;exact o
 |rz C=>rw[q]at o;exact o
 |ok ds =>rw[q]at o;intro a xs H' hn s hl hi;exact o _ H' s (jv (by rw[aL (R.ls.new hn)];exact hl) (hi.same mF))⟩
theorem FO (h:PAD X E es gs) (hl:es.length<=1000):PLD X E (.List es pos) gs:=(wD h.1).imp λσ H Q a=>by
 obtain⟨A,δ,R,o⟩:=a;refine aD.run R (λds e vs H1 f R1 h1=>?_) (λC e H' s'=>by rw[e]at o;exact o H' s') (λe=>by rw[e]at o;exact o);rw[e]at o;have n:=h.2 δ ds e;have m:=h1.length;refine⟨by rw[sizeLine_eq];omega,λp c=>o p vs _ (f.free c) (f.trans (bD c)) aG (h1.same ?_)⟩;refine λb o e=>?_
 obtain⟨z,e⟩:=aZ e;have:b≠p:=aI e c;rw[aL (by simp[this,z]),ay this];exact e
theorem BY {T:Ds->Rs (List PyData)} {tt:TT} (hT:TgD K n0 own.length tgt g) (U:∀σ H Q,cD K E0 cond σ H Q->tt σ H Q) :
  ∀σ H Q,lD K E (a9 n0 T cond ge tgt) σ H Q->tLC own.length (iD K E T) g tt (eD K E0 ge) σ H Q:=by
 intro σ H Q ⟨A,δ,R,o⟩;unfold a9 at o;by_cases hn0:δ.length=n0
 case neg=>rw[if_neg hn0]at o;exact o.elim
 rw[if_pos hn0]at o;have X:σ.length=n0:=by rw[<-R.len];exact hn0
 refine⟨A,δ,R,?_⟩;cases q:T δ with
 |no=>rw[q]at o;exact o
 |rz C=>rw[q]at o;exact o
 |ok ds =>
  rw[q]at o;have o:E3 K E A H (if ds.length<=1000000 then eM cond ge tgt δ ds else .no) Q:=o;by_cases hz:ds.length<=1000000
  case neg=>rw[if_neg hz]at o;exact o.elim
  rw[if_pos hz]at o;intro J H1 Y hJ D p;have P:=R.same Y;have nD:D∉A:=P.ls.new p;cases qo:eM cond ge tgt δ ds with
  |rz C =>
   exfalso;have:∀l,eM cond ge tgt δ l≠.rz C:=by
    intro l
    induction l with
    |nil=>intro z;cases z
    |cons d r ih =>
     intro z;unfold eM at z;split at z
     ·cases z
     ·rename_i f _;cases c1:cond (δ++f) with
      |ok b =>
       simp only[c1,Rs.dm,Rs.ag]at z;split at z
       ·cases h:ge (δ++f) with
        |ok x =>
         simp only[h,Rs.dm,Rs.ag]at z;cases j:eM cond ge tgt δ r with
         |ok l=>simp only[j,Rs.ag]at z;cases z
         |rz C'=>simp only[j,Rs.eF]at z;cases z;exact ih j
         |no=>simp only[j,Rs.bw]at z;cases z
        |rz C'=>simp only[h,Rs.calm,Rs.bw]at z;cases z
        |no=>simp only[h,Rs.calm,Rs.bw]at z;cases z
       ·exact ih z
      |rz C'=>simp only[c1,Rs.calm,Rs.bw]at z;cases z
      |no=>simp only[c1,Rs.calm,Rs.bw]at z;cases z
   exact this ds qo
  |no=>rw[qo]at o;exact o.elim
  |ok out =>
   rw[qo]at o;have base:av (del H1 A) (del (upd H1 D (.lst [])) (D::A)):=λb o e=>by obtain⟨z,e⟩:=aZ e;have nb:b≠D:=aI e p;rw[aL (by simp[nb,z]),ay nb];exact e
   refine⟨λi m ys H'=>m=ds.length-i/\i<=ds.length/\av H1 H'/\H' D=some (.lst ys)/\ys.length<=i/\∃w rest,eM cond ge tgt δ (ds.drop i)=.ok rest/\out=w++rest/\Iss K (del H' (D::A)) w ys,
    ⟨ds.length,by simp,Me _,bD p,aG,L9 _,[],out,qo,rfl,cK⟩,?_⟩
   rintro i m ys H' ⟨rfl,hi,s,hl,hy,w,rest,c1,h,j⟩
   refine⟨hl,?_⟩;have sG:av (del H1 A) H':=aw.trans s;have B:∀b∈D::A,(del H1 A) b=none:=λb F=>by
    rcases L7.mp F with z|z
    ·rw[z,aL nD];exact p
    ·exact gJ z
   obtain⟨jg,js,jy⟩:=hJ H' (D::A) sG (λb F=>by
    rcases L7.mp F with z|z
    ·exact⟨_,by rw[z];exact hl,rfl⟩
    ·exact (P.ls.same s) b z) B
   by_cases hlt:i<ds.length
   ·refine .inr ⟨jg i hlt,λx H2 Z G y=>?_⟩;obtain⟨s2,d,ed,hd⟩:=jy i x H2 hlt y;have edr:ds.drop i=d::ds.drop (i+1):=by
     rw[MG hlt];have:ds[i]=d:=by have:=L0 hlt;rw[this]at ed;exact Option.some.inj ed
     rw[this]
    rw[edr]at c1;unfold eM at c1;cases et:tgt d with
    |none=>rw[et]at c1;cases c1
    |some ow =>
     rw[et]at c1;have l2:H2 D=some (.lst ys):=s2 _ _ hl;have I:Ls H2 (D::A):=λb F=>by
      rcases L7.mp F with z|z
      ·exact⟨_,by rw[z];exact l2,rfl⟩
      ·exact (P.ls.same (s.trans s2)) b z
     obtain⟨hol,hgo⟩:=hT d x σ Z H2 (D::A) (λc H2=>tt c H2 λb H3 =>
      if b=true then eD K E0 ge c H3 λv L=>L D=some (.lst ys)/\ys.length<sizeLine/\(∃a,c=σ++a/\a.length=own.length)/\∃m',m' < ds.length-i/\_
      else (∃a,c=σ++a/\a.length=own.length)/\∃m',m' < ds.length-i/\_) ow X G I hd et
     refine hgo λvs n M=>?_
     have N:av (del H1 A) (del H2 (D::A)):=kS (sG.trans s2) B;have RE:dq K H2 (D::A) (δ++ow) (σ++vs):=by
      refine⟨I,by rw[LB,LB,R.len,n,hol],λk e S=>?_⟩;by_cases hk:k<δ.length
      ·rw[LP hk]at S;obtain⟨u,e1,hu⟩:=P.get k e S;exact⟨u,by rw[LP (by rw[<-R.len];exact hk)];exact e1,hu.same N⟩
      ·rw[LS (by omega)]at S;obtain⟨u,e1,hu⟩:=M _ e S;exact⟨u,by rw[LS (by rw[<-R.len];omega),<-R.len];exact e1,hu⟩
     have bad:∀r:Rs Bool,r=.rz 0->r.calm=.no:=λr e=>by rw[e];rfl
     refine U _ _ _ (cD.run RE (λb O H3 t R3=>?_) (λC O=>?_) (λO=>?_))
     ·simp only[O,Rs.dm,Rs.ag]at c1;cases b with
      |true =>
       simp only[if_true]at c1;refine eD.run R3 (λxd ex v L s4 R4 hv=>?_) (λC ex=>?_) (λex=>?_)
       ·simp only[ex,Rs.dm,Rs.ag]at c1;cases cr:eM cond ge tgt δ (ds.drop (i+1)) with
        |ok rs =>
         simp only[cr,Rs.ag]at c1;cases c1;have l4:L D=some (.lst ys):=s4 _ _ (t _ _ l2);have dU:del (upd L D (.lst (ys++[v]))) (D::A)=del L (D::A):=jU (L6);refine⟨l4,by rw[sizeLine_eq];omega,⟨vs,rfl,n⟩,ds.length-(i+1),by omega,rfl,hlt,?_,aG,by simp;omega,w++[xd],rs,cr,by rw[h];simp,?_⟩
         ·exact av.put (((s.trans s2).trans t).trans s4) p
         ·rw[dU];exact (j.same (av.del (s2.trans (t.trans s4)))).append (iS hv)
        |rz C=>simp only[cr,Rs.eF]at c1;cases c1
        |no=>simp only[cr,Rs.bw]at c1;cases c1
       ·simp only[ex,Rs.calm,Rs.bw]at c1;cases c1
       ·simp only[ex,Rs.calm,Rs.bw]at c1;cases c1
      |false =>simp only[LR,if_false]at c1;exact⟨⟨vs,rfl,n⟩,ds.length-(i+1),by omega,rfl,hlt,(s.trans s2).trans t,t _ _ l2,by omega,w,rest,c1,h,j.same (av.del (s2.trans t))⟩
     ·simp only[O,Rs.calm,Rs.bw]at c1;cases c1
     ·simp only[O,Rs.calm,Rs.bw]at c1;cases c1
   ·have e:i=ds.length:=by omega
    subst e;rw[Nu]at c1;cases c1;rw[Mi]at h;subst h;exact .inl ⟨js,o D ys H' (Y.free p) (Y.trans s) hl j⟩
def fB:Expr->List Str
 |.Name x _=>[x]
 |.Tuple [.Name x _,.Name y _] _ _=>[x,y]
 |_=>[]
def Gs (own N:List Str):List Str:=N.map λx=>bif own.elem x then x++"__" else x
abbrev bk (X:Cx) (tg:Expr) (scope:Scope):=blk X (Gs (fB tg) X.N) scope (fB tg)
abbrev G9 (X:Cx) (tg:Expr) (scope:Scope):Bool:=sC X.N (Gs (fB tg) X.N) X.env.scope scope (fB tg)
inductive PIf (X:Cx):List Expr->(Ds->Rs Bool)->Prop
 |nil:PIf X [] bS
 |one {c:Expr} {g:Ds->Rs Bool} (h:PCD X E0 c g):PIf X [c] g
def J5 (K:PySem.W.Frag) (ifs:List Expr) (g:Ds->Rs Bool):TT:=match ifs with
 |[]=>wo
 |_=>cD K E0 g
theorem PIf.pts {g:Ds->Rs Bool} (h:PIf X ifs g):PTs X ifs (J5 X.K ifs g):=by
 cases h with
 |nil=>exact .nil
 |one h=>exact .one h
theorem PIf.tt {g:Ds->Rs Bool} (h:PIf X ifs g):∀σ H Q,cD K E0 g σ H Q->J5 K ifs g σ H Q:=by
 cases h with
 |nil=>exact λσ H Q a=>(by obtain⟨A,δ,R,o⟩:=a;exact o H (av.refl _))
 |one h=>exact λ_ _ _ h=>h
theorem BF {a:Ds->Rs (List PyData)} (hc:X.calm=true) (hi:PID X E tg iter a)
  (c:TgD X.K n0 (fB tg).length tgt g) (e:∀C s2 H2 fp,PG (bk X tg scope C s2 H2 fp) tg g) (b:∀C s2 H2 fp,PIf (bk X tg scope C s2 H2 fp) ifs cond) (f:∀C s2 H2 fp,PD (bk X tg scope C s2 H2 fp) E0 elt ge)
  (hB:G9 X tg scope=true) (h:∀x,foldedSetIterable iter X.env x=pure x):PLD X E (.ListComp elt [⟨tg,iter,ifs,0⟩] scope pos) (a9 n0 a cond ge tgt) :=
 (Bq (own:=fB tg) (te:=eD X.K E0 ge) hc hi e (λC s2 H2 fp=>(b C s2 H2 fp).pts) (λC s2 H2 fp=>f C s2 H2 fp) hB h).imp (BY c (PIf.tt (b 0 X.s₀ X.H₀ [])))
def PLS (X:Cx) (E:XK) (i:Nat) (st:Stmt) (a:Ds->Rs (List PyData)):Prop:=PS X st (BX (lD X.K E a) (jQ i))
theorem vh {c:Ds->Rs (List PyData)} (a:swapsWith (.ListComp elt [⟨tg,iter,ifs,0⟩] scope pos) (some (.Name x pos')) spos.line X.env=pure true) (hc:X.calm=true) (f:X.N.Nodup) (hi:PID X E tg iter c)
  (j:TgD X.K n0 (fB tg).length tgt g) (l:∀C s2 H2 fp,PG (bk X tg scope C s2 H2 fp) tg g) (e:∀C s2 H2 fp,PIf (bk X tg scope C s2 H2 fp) ifs cond) (m:∀C s2 H2 fp,PD (bk X tg scope C s2 H2 fp) E0 elt ge)
  (b:X.N[i]?=some x) (n:Loc X.env.scope x) (hB:G9 X tg scope=true) (o:∀x,foldedSetIterable iter X.env x=pure x) (p:X.fn x=true\/X.env.scope.names.lookup x=some .local) :
  PLS X E i (.Assign [.Name x pos'] (.ListComp elt [⟨tg,iter,ifs,0⟩] scope pos) spos) (a9 n0 c cond ge tgt) :=
 PS.imp (pJ (own:=fB tg) (te:=eD X.K E0 ge) hc f b n a hi l (λC s2 H2 fp=>(e C s2 H2 fp).pts) (λC s2 H2 fp=>m C s2 H2 fp) hB o p) λD σ H h=>BY j (PIf.tt (e 0 X.s₀ X.H₀ [])) σ H _ h
end
inductive Sr where
 |nx (δ:Ds)
 |rt (d:PyData)
 |rz (C:Addr)
 |bk (δ:Ds)
 |ct (δ:Ds)
 |no
def gY (K:PySem.W.Frag) (G:Hp):PyData->HO->Prop
 |.list ds,.lst xs=>Iss K G ds xs
 |.dict kvs,o=>Il kvs o
 |_,_=>False
theorem gY.same {G':Hp} {d:PyData} (h:gY K G d o) (s:av G G'):gY K G' d o:=by
 unfold gY at h ⊢;split at h
 ·exact Iss.same s h
 ·exact h
 ·exact h.elim
theorem gY.is {d:PyData} (h:gY K G d o) (ha:G a=some o):Is K G d (.ref a):=by
 unfold gY at h;split at h
 ·exact jv ha h
 ·unfold Is;exact .inl (.inr ⟨a,_,rfl,h,ha⟩)
 ·exact h.elim
theorem gY.lst (h:gY K G (.list ds) o):∃xs,o=.lst xs/\Iss K G ds xs:=by
 unfold gY at h;split at h
 ·rename_i e;cases e;exact⟨_,rfl,h⟩
 ·rename_i e;cases e
 ·exact h.elim
structure bN (K:PySem.W.Frag) (H0:Hp) (A0:List Addr) (H:Hp) (A:List Addr) (O:List Nat) (δ:Ds) (σ:St):Prop where
 same:av H0 H
 ls0:Ls H0 A0
 new:∀a∈A,H0 a=none
 ls:Ls H A
 len:δ.length=σ.length
 pl:∀(i:Nat) d,i∉O->δ[i]?=some (some d)->∃v,σ[i]?=some (some v)/\Is K (del H (A++A0)) d v
 own:∀(i:Nat) d,i∈O->δ[i]?=some (some d)->∃a o d',σ[i]?=some (some (.ref a))/\a∈A/\H a=some o/\d=d'/\gY K (del H (A++A0)) d' o
 inj:∀(i j:Nat) d e a,i∈O->j∈O->δ[i]?=some (some d)->δ[j]?=some (some e)->σ[i]?=some (some (.ref a))->σ[j]?=some (some (.ref a))->i=j
def mask (O:List Nat) (δ:Ds):Ds:=if O=[] then δ else δ.mapIdx λi d=>if i∈O then none else d
theorem iz (δ:Ds):mask [] δ=δ:=by simp[mask]
theorem Cm {d:PyData} (h:(mask O δ)[i]?=some (some d)):i∉O/\δ[i]?=some (some d):=by
 unfold mask at h;split at h
 ·rename_i z;subst z;exact⟨by simp,h⟩
 ·rw[MH]at h;cases q:δ[i]? with
  |none=>rw[q]at h;cases h
  |some x =>
   rw[q]at h;simp only[MD,Option.some.injEq]at h;by_cases z:i∈O
   ·rw[if_pos z]at h;cases h
   ·rw[if_neg z]at h;exact⟨z,by rw[h]⟩
theorem uF:(mask O δ).length=δ.length:=by unfold mask;split <;> simp
theorem vj:av (del H (A++B)) (del H B):=λb o e=>by obtain⟨z,e⟩:=aZ e;rw[aL (λq=>z (Lw _ q))];exact e
section
theorem bN.lsA (R:bN K H0 A0 H A O δ σ):Ls H (A++A0):=λa h=>(LW.mp h).elim (R.ls a) λz=>(R.ls0.same R.same) a z
theorem bN.step (R:bN K H0 A0 H A O δ σ) (s:av H H1):bN K H0 A0 H1 A O δ σ where
 same:=R.same.trans s
 ls0:=R.ls0
 new:=R.new
 ls:=R.ls.same s
 len:=R.len
 pl:=λi d h e=>by obtain⟨v,e1,h1⟩:=R.pl i d h e;exact⟨v,e1,h1.same s.del⟩
 own:=λi d h e=>by obtain⟨a,xs,ds,e1,h1,h2,b,c⟩:=R.own i d h e;exact⟨a,xs,ds,e1,h1,s _ _ h2,b,c.same s.del⟩
 inj:=R.inj
theorem bN.apart (R:bN K H0 A0 H A O δ σ) (h:a∈A):a∉A0:=λz=>by obtain⟨xs,e,_⟩:=R.ls0 a z;rw[R.new a h]at e;cases e
theorem bN.ownL (R:bN K H0 A0 H A O δ σ) (h:i∈O) (e:δ[i]?=some (some (.list ds))):∃a xs b,σ[i]?=some (some (.ref a))/\a∈A/\H a=some (.lst xs)/\PyData.list ds=.list b/\Iss K (del H (A++A0)) b xs:=by obtain⟨a,o,d',e1,h1,h2,c,f⟩:=R.own i _ h e;subst c;obtain⟨xs,rfl,g⟩:=f.lst;exact⟨a,xs,ds,e1,h1,h2,rfl,g⟩
theorem bN.full (R:bN K H0 A0 H A O δ σ):dq K H A0 δ σ where
 ls:=R.ls0.same R.same
 len:=R.len
 get:=λi d e=>by
  by_cases h:i∈O
  ·obtain⟨a,xs,ds,e1,h1,h2,b,c⟩:=R.own i d h e;subst b;exact⟨_,e1,(c.same vj).is (by rw[aL (R.apart h1)];exact h2)⟩
  ·obtain⟨v,e1,h1⟩:=R.pl i d h e;exact⟨v,e1,h1.same vj⟩
theorem bN.part (R:bN K H0 A0 H A O δ σ):dq K H (A++A0) (mask O δ) σ where
 ls:=R.lsA
 len:=by rw[uF];exact R.len
 get:=λi d e=>by obtain⟨h,e⟩:=Cm e;exact R.pl i d h e
theorem get_set {l:List α} {x y:α} (h:(l.set i x)[j]?=some y):(i=j/\y=x)\/(i≠j/\l[j]?=some y):=by
 by_cases z:i=j
 ·subst z;rw[List.getElem?_set_self']at h;cases q:l[i]? with
  |none=>rw[q]at h;cases h
  |some w=>rw[q]at h;simp at h;exact .inl ⟨rfl,h.symm⟩
 ·rw[LX z]at h;exact .inr ⟨z,h⟩
theorem j6 {l:List α} {x y:α} (hn:i≠j) (h:l[j]?=some y):(l.set i x)[j]?=some y:=by rw[LX hn];exact h
theorem bN.set {d:PyData} (R:bN K H0 A0 H A O δ σ) (hi:i∉O) (hl:i<δ.length) (h:Is K (del H (A++A0)) d v):bN K H0 A0 H A O (δ.set i (some d)) (σ.set i (some v)) where
 same:=R.same
 ls0:=R.ls0
 new:=R.new
 ls:=R.ls
 len:=by simp[R.len]
 pl:=λj e b q=>by
  rcases get_set q with⟨z,q⟩|⟨z,q⟩
  ·cases q;subst z;exact⟨v,by rw[M0 (by rw[<-R.len];exact hl)],h⟩
  ·obtain⟨u,e1,h1⟩:=R.pl j e b q;exact⟨u,j6 z e1,h1⟩
 own:=λj e b q=>by
  rcases get_set q with⟨z,q⟩|⟨z,q⟩
  ·subst z;exact absurd b hi
  ·obtain⟨a,xs,ds,e1,h1⟩:=R.own j e b q;exact⟨a,xs,ds,j6 z e1,h1⟩
 inj:=λj k d' e a b c f g p1 p2=>by
  have n1:i≠j:=λz=>hi (z▸b)
  have n2:i≠k:=λz=>hi (z▸c)
  rw[LX n1]at f p1;rw[LX n2]at g p2;exact R.inj j k d' e a b c f g p1 p2
theorem bN.setOwn (R:bN K H0 A0 H A O δ σ) (hi:i∈O) (hl:i<δ.length) (hn:H a=none) (s:av H H1) (ha:H1 a=some (.lst xs)) (h:Iss K (del H1 (a::(A++A0))) ds xs) :
  bN K H0 A0 H1 (a::A) O (δ.set i (some (.list ds))) (σ.set i (some (.ref a))) where
 same:=R.same.trans s
 ls0:=R.ls0
 new:=λb m=>by
  rcases L7.mp m with z|z
  ·rw[z];exact R.same.free hn
  ·exact R.new b z
 ls:=λb m=>by
  rcases L7.mp m with z|z
  ·exact⟨_,by rw[z];exact ha,rfl⟩
  ·exact (R.ls.same s) b z
 len:=by simp[R.len]
 pl:=λj e c q=>by
  rcases get_set q with⟨z,q⟩|⟨z,q⟩
  ·subst z;exact absurd hi c
  ·obtain⟨u,e1,h1⟩:=R.pl j e c q;refine⟨u,j6 z e1,h1.same λb o e=>?_⟩;obtain⟨y,e⟩:=aZ e;have n:b≠a:=aI e hn;rw[aL (by simpa[n] using y)];exact s _ _ e
 own:=λj e c q=>by
  have r:∀b o,del H (A++A0) b=some o->del H1 (a::A++A0) b=some o:=λb o e=>by obtain⟨y,e⟩:=aZ e;have n:b≠a:=aI e hn;rw[aL (by simpa[n] using y)];exact s _ _ e
  rcases get_set q with⟨z,q⟩|⟨z,q⟩
  ·cases q;subst z;exact⟨a,_,_,by rw[M0 (by rw[<-R.len];exact hl)],L6,ha,rfl,h⟩
  ·obtain⟨b,ys,es,e1,h1,h2,t,v⟩:=R.own j e c q;exact⟨b,ys,es,j6 z e1,L3 _ h1,s _ _ h2,t,v.same r⟩
 inj:=λj k d' e b c f g l p1 p2=>by
  have old:∀k,k∈O->i≠k->∀e,δ[k]?=some (some e)->σ[k]?=some (some (.ref a))->False:=λk f _ e q p=>by obtain⟨b,ys,es,e1,h1,h2,_⟩:=R.own k e f q;rw[p]at e1;cases e1;rw[hn]at h2;cases h2
  by_cases z1:i=j
  ·by_cases z2:i=k
   ·rw[<-z1,z2]
   ·subst z1;rw[M0 (by rw[<-R.len];exact hl)]at p1;cases p1;rw[LX z2]at l p2;exact (old k f z2 e l p2).elim
  ·by_cases z2:i=k
   ·subst z2;rw[M0 (by rw[<-R.len];exact hl)]at p2;cases p2;rw[LX z1]at g p1;exact (old j c z1 d' g p1).elim
   ·rw[LX z1]at g p1;rw[LX z2]at l p2;exact R.inj j k d' e b c f g l p1 p2
theorem bN.put {l:PyData} (R:bN K H0 A0 H A O δ σ) (hi:i∈O) (hd:δ[i]?=some (some l)) (p:σ[i]?=some (some (.ref a))) (ha:a∈A) (h:Iss K (del H (A++A0)) ds ys) :
  bN K H0 A0 (upd H a (.lst ys)) A O (δ.set i (some (.list ds))) σ:=by
 have m:del (upd H a (.lst ys)) (A++A0)=del H (A++A0):=jU (LZ _ ha);have hl:i<δ.length:=(LM.mp hd).1;refine⟨λb o e=>?_,R.ls0,R.new,λb s=>?_,by simp[R.len],λj e c q=>?_,λj e c q=>?_,λj k d' e b c r f g p1 p2=>?_⟩
 ·have n:b≠a:=λz=>by rw[z,R.new a ha]at e;cases e
  rw[ay n];exact R.same b o e
 ·by_cases z:b=a
  ·exact⟨_,by rw[z,aG],rfl⟩
  ·rw[ay z];exact R.ls b s
 ·rcases get_set q with⟨z,q⟩|⟨z,q⟩
  ·subst z;exact absurd hi c
  ·rw[m];exact R.pl j e c q
 ·rcases get_set q with⟨z,q⟩|⟨z,q⟩
  ·cases q;subst z;exact⟨a,_,_,p,ha,aG,rfl,by rw[m];exact h⟩
  ·obtain⟨b,zs,es,e1,h1,h2,t,u⟩:=R.own j e c q;have n:b≠a:=λw=>z (R.inj i j _ _ a hi c hd q p (by rw[<-w];exact e1))
   exact⟨b,zs,es,e1,h1,by rw[ay n];exact h2,t,by rw[m];exact u⟩
 ·rcases get_set f with⟨z1,f⟩|⟨z1,f⟩ <;> rcases get_set g with⟨z2,g⟩|⟨z2,g⟩
  ·rw[<-z1,z2]
  ·subst z1;exact R.inj i k l e b hi r hd g p1 p2
  ·subst z2;exact R.inj j i d' l b c hi f hd p1 p2
  ·exact R.inj j k d' e b c r f g p1 p2
def un (H0 G:Hp):Hp:=λb=>match H0 b with|some o=>some o|none=>G b
theorem Dj:av H0 (un H0 G):=λb o e=>by unfold un;rw[e]
theorem K6 (a:av H0 H) (c:av G H):av G (un H0 G):=λb o e=>by
 unfold un;cases q:H0 b with
 |none=>exact e
 |some o2=>have h2:=a b o2 q;rw[c b o e]at h2;exact h2.symm
theorem JM (a:av H0 H) (c:av G H):av (un H0 G) H:=λb o e=>by
 unfold un at e;cases q:H0 b with
 |none=>rw[q]at e;exact c b o e
 |some o2=>rw[q]at e;rw[<-Option.some.inj e];exact a b o2 q
theorem bN.more (R:bN K H0 A0 H A O δ σ):bN K (un H0 (del H (A++A0))) A0 H A O δ σ :=
 ⟨JM R.same aw,R.ls0.same Dj,λa h=>by unfold un;rw[R.new a h];exact gJ (LZ _ h),R.ls,R.len,R.pl,R.own,R.inj⟩
theorem bN.less {b:Hp} (R:bN K b A0 H A O δ σ) (s:av H0 b) (l:Ls H0 A0):bN K H0 A0 H A O δ σ:=⟨s.trans R.same,l,λa h=>s.free (R.new a h),R.ls,R.len,R.pl,R.own,R.inj⟩
end
def mL (K:PySem.W.Frag) (E:XK) (H0:Hp) (A0:List Addr) (O:List Nat) (r:Sr) (D:Ends):Prop:=match r with
 |.nx δ=>∀A σ H,bN K H0 A0 H A O δ σ->D.nx σ H
 |.rt d=>∀v H,av H0 H->Is K (del H A0) d v->D.rt v H
 |.rz C=>∀H,av H0 H->E (.ref C) none H
 |.bk δ=>∀A σ H,bN K H0 A0 H A O δ σ->D.bk σ H
 |.ct δ=>∀A σ H,bN K H0 A0 H A O δ σ->D.ct σ H
 |.no=>False
def sD (K:PySem.W.Frag) (E:XK) (O:List Nat) (G:Ds->Sr):TS:=λD σ H=>∃H0 A0 A δ,bN K H0 A0 H A O δ σ/\mL K E H0 A0 O (G δ) D
def PSD (X:Cx) (E:XK) (O:List Nat) (s:Stmt) (G:Ds->Sr):Prop:=PS X s (sD X.K E O G)
def PBD (X:Cx) (E:XK) (O:List Nat) (ss:List Stmt) (G:Ds->Sr):Prop:=PSs X ss (sD X.K E O G)
def aY:Ds->Sr:=λδ=>.nx δ
def aE (a b:Ds->Sr):Ds->Sr:=λδ=>match a δ with
 |.nx δ'=>b δ'
 |r=>r
def ofR {α:Type} (r:Rs α) (k:α->Sr):Sr:=match r with
 |.ok a=>k a
 |.rz C=>.rz C
 |.no=>.no
@[simp]theorem az (a:α) (k:α->Sr):ofR (.ok a) k=k a:=rfl
@[simp]theorem p7 (C:Addr) (k:α->Sr):ofR (.rz C) k=.rz C:=rfl
@[simp]theorem qv (k:α->Sr):ofR (.no:Rs α) k=.no:=rfl
def sIf (c:Ds->Rs Bool) (a b:Ds->Sr):Ds->Sr:=λδ=>ofR (c δ) λt=>if t=true then a δ else b δ
def bo (g:Ds->Rs PyData):Ds->Sr:=λδ=>ofR (g δ) .rt
def ki (g:Ds->Rs PyData):Ds->Sr:=λδ=>ofR (g δ) λ_=>.nx δ
def aT (O:List Nat) (i:Nat) (g:Ds->Rs PyData):Ds->Sr:=λδ=>if i<δ.length then ofR (g (mask O δ)) λd=>.nx (δ.set i (some d)) else .no
def og (i:Nat) (g:Ds->Rs PyData):Ds->Sr:=λδ=>if i<δ.length then ofR (g δ) λd=>if ee d then .nx (δ.set i (some d)) else .no else .no
def fc (O:List Nat) (i:Nat) (g:Ds->Rs (List PyData)):Ds->Sr:=λδ=>if i<δ.length then ofR (g (mask O δ)) λds=>.nx (δ.set i (some (.list ds))) else .no
def gK (O:List Nat) (i:Nat) (g:Ds->Rs PyData):Ds->Sr:=λδ=>match δ[i]? with
 |some (some (.list ds))=>ofR (g (mask O δ)) λd=>if ds.length<1000000 then .nx (δ.set i (some (.list (ds++[d])))) else .no
 |_=>.no
section
variable {ss:List Stmt} {G G':Ds->Sr} {a b c:Expr} {ga gb:Ds->Rs PyData} {ca:Ds->Rs Bool}
theorem sR:PBD X E O [] aY:=uw.imp λD σ H a=>(by obtain⟨H0,A0,A,δ,R,o⟩:=a;exact o A σ H R)
theorem iE (h1:PSD X E O st G) (h2:PBD X E O ss G'):PBD X E O (st::ss) (aE G G'):=(cx h1 h2).imp λD σ H ⟨H0,A0,A,δ,R,o⟩=>⟨H0,A0,A,δ,R,by
 unfold aE at o;cases q:G δ with
 |nx δ'=>rw[q]at o;exact λa σ' H' b=>⟨H0,A0,a,δ',b,o⟩
 |rt d=>rw[q]at o;exact o
 |rz C=>rw[q]at o;exact o
 |bk d=>rw[q]at o;exact o
 |ct d=>rw[q]at o;exact o
 |no=>rw[q]at o;exact o⟩
theorem nL (h1:PSD X E O st G):PBD X E O [st] G:=(hV h1).imp λD σ H h=>h
theorem CH {a:List Stmt} (hc:PCD X E c ca) (h1:PBD X E O ss G) (h2:PBD X E O a G'):PSD X E O (.If c ss a pos) (sIf ca G G'):=(yM hc h1 h2).imp λD σ H e=>by
 obtain⟨H0,A0,A,δ,R,o⟩:=e;unfold sIf at o;refine cD.run R.full (λt b H1 f R1=>?_) (λC b H' s'=>?_) (λb=>?_)
 ·rw[b]at o;cases t with
  |true=>exact⟨H0,A0,A,δ,R.step f,o⟩
  |false=>exact⟨H0,A0,A,δ,R.step f,o⟩
 ·rw[b]at o;exact o H' (R.same.trans s')
 ·rw[b]at o;exact o
theorem tY (h:PD X E e ga):PSD X E O (.Return (some e) pos) (bo ga):=(pC h).imp λD σ H a=>by
 obtain⟨H0,A0,A,δ,R,o⟩:=a;unfold bo at o;refine eD.run R.full (λd c v H1 f R1 hv=>?_) (λC b H' s'=>?_) (λb=>?_)
 ·rw[c]at o;exact o v H1 (R.same.trans f) hv
 ·rw[b]at o;exact o H' (R.same.trans s')
 ·rw[b]at o;exact o
theorem DB (h:PD X E e ga) (c:swapsWith e none pos.line X.env=pure false):PSD X E O (.Expr e pos) (ki ga):=(nK h c).imp λD σ H a=>by
 obtain⟨H0,A0,A,δ,R,o⟩:=a;unfold ki at o;refine eD.run R.full (λd f v H1 g R1 hv=>?_) (λC b H' s'=>?_) (λb=>?_)
 ·rw[f]at o;exact o A σ H1 (R.step g)
 ·rw[b]at o;exact o H' (R.same.trans s')
 ·rw[b]at o;exact o
theorem Gh (h:PD X E e ga) (c:X.N.Nodup) (f:i∉O) (hi:X.N[i]?=some x) (g:Loc X.env.scope x) (j:swapsWith e (some (.Name x pos')) pos.line X.env=pure false)
  (l:X.fn x=true\/X.env.scope.names.lookup x=some .local):PSD X E O (.Assign [.Name x pos'] e pos) (aT O i ga):=(oT c hi g h j l).imp λD σ H a=>by
 obtain⟨H0,A0,A,δ,R,o⟩:=a;unfold aT at o;split at o
 ·rename_i hl;refine eD.run R.part (λd m v H1 n R1 hv=>?_) (λC b H' s'=>?_) (λb=>?_)
  ·rw[m]at o;exact o A _ H1 ((R.step n).set f hl hv)
  ·rw[b]at o;exact o H' (R.same.trans s')
  ·rw[b]at o;exact o
 ·exact o.elim
theorem BN (h:PD X E e ga) (f:X.N.Nodup) (g:i∉O) (hi:X.N[i]?=some x) (j:Loc X.env.scope x) (l:swapsWith e (some (.Name x pos')) pos.line X.env=pure false)
  (m:X.fn x=true\/X.env.scope.names.lookup x=some .local):PSD X E O (.Assign [.Name x pos'] e pos) (og i ga):=(oT f hi j h l m).imp λD σ H a=>by
 obtain⟨H0,A0,A,δ,R,o⟩:=a;unfold og at o;split at o
 ·rename_i hl;refine eD.run R.full (λd n v H1 c R1 hv=>?_) (λC b H' s'=>?_) (λb=>?_)
  ·rw[n]at o;have o:mL X.K E H0 A0 O (if ee d=true then .nx (δ.set i (some d)) else .no) D:=o;split at o
   ·rename_i hd;exact o A _ H1 ((R.step c).set g hl ((hv.same aw).dl (R.step c).lsA hd))
   ·exact o.elim
  ·rw[b]at o;exact o H' (R.same.trans s')
  ·rw[b]at o;exact o
 ·exact o.elim
theorem Fw {a:Ds->Rs (List PyData)} (h:PLD X E e a) (f:X.N.Nodup) (g:i∈O) (hi:X.N[i]?=some x) (j:Loc X.env.scope x) (l:swapsWith e (some (.Name x pos')) pos.line X.env=pure false)
  (m:X.fn x=true\/X.env.scope.names.lookup x=some .local):PSD X E O (.Assign [.Name x pos'] e pos) (fc O i a):=(oT f hi j h l m).imp λD σ H b=>by
 obtain⟨H0,A0,A,δ,R,o⟩:=b;unfold fc at o;split at o
 ·rename_i hl;refine⟨A++A0,mask O δ,R.part,?_⟩;cases q:a (mask O δ) with
  |ok ds =>rw[q]at o;exact λp xs H' hn s n c=>o (p::A) _ H' (R.setOwn g hl hn s n c)
  |rz C=>rw[q]at o;exact λH' s'=>o H' (R.same.trans s')
  |no=>rw[q]at o;exact o
 ·exact o.elim
theorem Bs {a:Ds->Rs (List PyData)} (h:PLS X E i st a) (e:i∈O):PSD X E O st (fc O i a):=PS.imp h λD σ H b=>by
 obtain⟨H0,A0,A,δ,R,o⟩:=b;unfold fc at o;split at o
 ·rename_i hl;refine⟨A++A0,mask O δ,R.part,?_⟩;cases q:a (mask O δ) with
  |ok ds =>rw[q]at o;exact λp xs H' hn s f c=>o (p::A) _ H' (R.setOwn e hl hn s f c)
  |rz C=>rw[q]at o;exact λH' s'=>o H' (R.same.trans s')
  |no=>rw[q]at o;exact o
 ·exact o.elim
theorem Dr {a:Ds->Rs (List PyData)} (h:PLS X E i st a) (f:i∉O):PSD X E O st (aT O i (gL a)):=PS.imp h λD σ H b=>by
 obtain⟨H0,A0,A,δ,R,o⟩:=b;unfold aT gL at o;split at o
 ·rename_i hl;have e:=R.part;refine⟨A++A0,mask O δ,e,?_⟩;cases q:a (mask O δ) with
  |ok ds =>rw[q]at o;intro p xs H' hn s g c;exact o A _ H' ((R.step s).set f hl (jv (by rw[aL (e.ls.new hn)];exact g) (c.same mF)))
  |rz C=>rw[q]at o;exact λH' s'=>o H' (R.same.trans s')
  |no=>rw[q]at o;exact o
 ·exact o.elim
theorem tyL {p:Addr} (h:H p=some (.lst xs)):tyV K "list" (.ref p) H:=.inl ⟨rfl,xs,SqL.of h⟩
theorem FD {j c:Pos} (h:PD X E e ga) (s:i∈O) (hi:X.N[i]?=some x) (hv:Vis X.env.scope x)
  (hd:(x==("__debug__":Str))=false) (l:(x==("__classdict__":Str))=false) (f:starEach [e] X.env=(false,eval e X.env)::starEach [] X.env)
  (a:attributeBase (.Name x pn) "append" X.env (eval (.Name x pn) X.env)=eval (.Name x pn) X.env)
  (g:((backTo c (starEach [e] X.env)).all (λx=>!x.1)&&(backToKw c (keywordEach [] X.env)).all (λx=>x.1.isSome)&&decide (([e]:List Expr).length+([]:List Keyword).length+(if ([]:List Keyword).isEmpty then 0 else 1)<30))=true)
  (b:(j.endLine==c.line)=true) (u:swapsWith (.Call (.Attribute (.Name x pn) "append" j) [e] [] c) none pos.line X.env=pure false) :
  PSD X E O (.Expr (.Call (.Attribute (.Name x pn) "append" j) [e] [] c) pos) (gK O i ga) :=
 (nK (Ct PySem.F.plainAttrs_list PySem.F.slot_list_append PySem.F.type_list_append mG (kK hi hv hd l) (d7 h fR f) a g b f rfl) u).imp λD σ H m=>by
  obtain⟨H0,A0,A,δ,R,o⟩:=m;unfold gK at o;split at o
  ·rename_i ds q;obtain⟨p,xs,ds',e1,w,hl,e2,t⟩:=R.ownL s q;cases e2;refine⟨_,e1,tyL hl,?_⟩;refine eD.run R.part (λd y v H1 n R1 hv=>?_) (λC r H' s'=>?_) (λr=>?_)
   ·rw[y]at o;have o:mL X.K E H0 A0 O (if ds.length<1000000 then .nx (δ.set i (some (.list (ds++[d])))) else .no) D:=o;split at o
    ·rename_i hz;refine⟨p,xs,v,rfl,rfl,n _ _ hl,by rw[t.length,sizeLine_eq];omega,?_⟩;exact o A _ _ ((R.step n).put s q e1 w ((t.same n.del).append (iS hv)))
    ·exact o.elim
   ·rw[r]at o;exact o H' (R.same.trans s')
   ·rw[r]at o;exact o
  ·exact o.elim
def TgS (K:PySem.W.Frag) (O:List Nat) (tgt:PyData->Ds->Option Ds) (g:TG):Prop:=∀(d:PyData) (v:V) (H0:Hp) (A0:List Addr) (H:Hp) (A:List Addr) (δ a:Ds) (σ:St) (Q:St->Hp->Prop),bN K H0 A0 H A O δ σ->Is K (del H (A++A0)) d v->tgt d δ=some a ->
 (∀b,bN K H0 A0 H A O a b->Q b H)->g v σ H Q
def bE (i:Nat):PyData->Ds->Option Ds:=λd δ=>if i<δ.length then some (δ.set i (some d)) else none
theorem CI (hi:i∉O):TgS K O (bE i) (jQ i):=λd v H0 A0 H A δ δ' σ Q R h e k=>by
 unfold bE at e;split at e
 ·rename_i hl;cases e;exact k _ (R.set hi hl h)
 ·cases e
def mq:List Nat->List PyData->Ds->Option Ds
 |[],[],δ=>some δ
 |i::is,d::ds,δ=>if i<δ.length then mq is ds (δ.set i (some d)) else none
 |_,_,_=>none
def dg (is:List Nat):PyData->Ds->Option Ds
 |.tuple ds,δ=>mq is ds δ
 |_,_=>none
def wK:List Nat->TGs
 |[]=>L2.GG
 |i::is=>L2.yG (jQ i) (wK is)
theorem mY {K:PySem.W.Frag}:∀(is:List Nat) (ds:List PyData) (vs:List V) (H0:Hp) (A0:List Addr) (H:Hp) (A:List Addr) (δ a:Ds) (σ:St) (Q:St->Hp->Prop),(∀i∈is,i∉O)->bN K H0 A0 H A O δ σ->Iss K (del H (A++A0)) ds vs->mq is ds δ=some a ->
  (∀b,bN K H0 A0 H A O a b->Q b H)->wK is vs σ H Q
 |[],[],vs,H0,A0,H,A,δ,a,σ,Q,_,R,h,e,k=>by cases e;exact⟨h.nil_of,k σ R⟩
 |i::is,d::ds,vs,H0,A0,H,A,δ,a,σ,Q,hO,R,h,e,k=>by
  obtain⟨v,r,rfl,h1,h2⟩:=h.cons_of;unfold mq at e;split at e
  ·rename_i hl;exact⟨v,r,rfl,mY is ds r H0 A0 H A _ a _ Q (λj c=>hO j (L3 _ c)) (R.set (hO i L6) hl h1) h2 e k⟩
  ·cases e
 |[],_::_,_,_,_,_,_,_,_,_,_,_,_,_,e,_=>by cases e
 |_::_,[],_,_,_,_,_,_,_,_,_,_,_,_,e,_=>by cases e
theorem qr:∀{is:List Nat} {ds:List PyData} {δ a:Ds},mq is ds δ=some a->ds.length=is.length
 |[],[],_,_,_=>rfl
 |_::is,_::ds,δ,a,e=>by
  unfold mq at e;split at e
  ·simp[qr e]
  ·cases e
 |[],_::_,_,_,e=>by cases e
 |_::_,[],_,_,e=>by cases e
theorem DS {is:List Nat} (hi:∀i∈is,i∉O):TgS K O (dg is) (L2.IE K is.length (wK is)):=λd v H0 A0 H A δ a σ Q R h e k=>by
 unfold dg at e;split at e
 ·obtain⟨p,xs,rfl,c,b⟩:=h.ofTup;exact⟨p,xs,rfl,SqT.of (aw _ _ c),by rw[b.length,qr e],mY is _ xs H0 A0 H A δ a σ Q hi R b e k⟩
 ·cases e
def forL (tgt:PyData->Ds->Option Ds) (body:Ds->Sr):List PyData->Ds->Sr
 |[],δ=>.nx δ
 |d::r,δ=>match tgt d δ with
  |none=>.no
  |some δ1=>match body δ1 with
   |.nx δ2=>forL tgt body r δ2
   |.ct δ2=>forL tgt body r δ2
   |.bk δ2=>.nx δ2
   |.rt v=>.rt v
   |.rz C=>.rz C
   |.no=>.no
def eQ (O:List Nat) (src:Ds->Rs (List PyData)) (tgt:PyData->Ds->Option Ds) (body:Ds->Sr):Ds->Sr:=λδ=>ofR (src (mask O δ)) λds=>forL tgt body ds δ
theorem Ea {s:Ds->Rs (List PyData)} {tgt:PyData->Ds->Option Ds} (P:PassesOwn (model X.prog X.w) X.A X.env X.xe) (hc:X.calm=true) (hi:PID X E tg iter s) (Q:TgS X.K O tgt g) (S:PG X tg g) (t:PBD X E O ss G)
  (T:∀x,foldedSetIterable iter X.env x=pure x):PSD X E O (.For tg iter ss [] pos) (eQ O s tgt G):=(Hv P hc hi S t T).imp λD σ H u=>by
 obtain⟨H0,A0,A,δ,R,o⟩:=u;unfold eQ at o;refine⟨A++A0,mask O δ,R.part,?_⟩;cases q:s (mask O δ) with
 |no=>rw[q]at o;exact o
 |rz C=>rw[q]at o;exact λH' s'=>o H' (R.same.trans s')
 |ok ds =>
  rw[q]at o;intro J H1 L U;have W:=(R.step L).more;have o:mL X.K E H0 A0 O (forL tgt G ds δ) D:=o;refine⟨λi m c H'=>m=ds.length-i/\i<=ds.length/\∃j a,bN X.K (un H0 (del H1 (A++A0))) A0 H' j O a c/\mL X.K E H0 A0 O (forL tgt G (ds.drop i) a) D,⟨ds.length,by simp,Me _,A,δ,W,o⟩,?_⟩
  rintro i m c H' ⟨rfl,hi',j,a,l,o'⟩
  have M:av (del H1 (A++A0)) (un H0 (del H1 (A++A0))):=K6 (R.same.trans L) aw;have hB:∀b∈j++A0,(del H1 (A++A0)) b=none:=λb t=>by
   rcases LW.mp t with z|z
   ·exact M.free (l.new b z)
   ·exact gJ (Lw _ z)
  obtain⟨Y,js,Z⟩:=U H' (j++A0) (M.trans l.same) l.lsA hB;by_cases hlt:i<ds.length
  ·refine .inr ⟨Y i hlt,?_⟩;have B:ds.drop i=ds[i]::ds.drop (i+1):=MG hlt;rw[B]at o';unfold forL at o';refine⟨λn H2=>∃F δ2,bN X.K (un H0 (del H1 (A++A0))) A0 H2 F O δ2 n/\mL X.K E H0 A0 O (forL tgt G (ds.drop (i+1)) δ2) D,λn H2 ⟨F,δ2,R2,o2⟩=>⟨ds.length-(i+1),by omega,rfl,hlt,F,δ2,R2,o2⟩,λx H2 y=>?_⟩;obtain⟨s2,d,N,hd⟩:=Z i x H2 hlt y;have:ds[i]=d:=by have:=L0 hlt;rw[this]at N;exact Option.some.inj N
   rw[this]at o';cases et:tgt d a with
   |none=>rw[et]at o';exact o'.elim
   |some δ1 =>
    simp only[et]at o';refine Q d x _ _ _ _ _ _ _ _ (l.step s2) hd et λσ3 R3=>⟨_,_,_,_,R3,?_⟩
    cases eb:G δ1 with
    |nx δ2=>rw[eb]at o';exact λp f h r=>⟨p,δ2,r,o'⟩
    |ct δ2=>rw[eb]at o';exact λp f h r=>⟨p,δ2,r,o'⟩
    |bk δ2=>rw[eb]at o';exact λp f h r=>o' p f h (r.less Dj R.ls0)
    |rt v=>rw[eb]at o';exact λv4 h I h4=>o' v4 h (Dj.trans I) h4
    |rz C=>rw[eb]at o';exact λh I=>o' h (Dj.trans I)
    |no=>rw[eb]at o';exact o'
  ·have e:i=ds.length:=by omega
   subst e;rw[Nu]at o';exact .inl ⟨js,o' j c H' (l.less Dj R.ls0)⟩
end
section
variable {ss:List Stmt} {G G':Ds->Sr} {a b c:Expr} {ga gb gk:Ds->Rs PyData} {ca:Ds->Rs Bool}
def cm (c:Ds->Rs Bool) (b:Ds->Sr):Nat->Ds->Sr
 |0,_=>.no
 |n+1,δ=>ofR (c δ) λt=>if t=true then (match b δ with
  |.nx δ2=>cm c b n δ2
  |.ct δ2=>cm c b n δ2
  |.bk δ2=>.nx δ2
  |.rt v=>.rt v
  |.rz C=>.rz C
  |.no=>.no) else .nx δ
theorem Ap (fuel:Nat) (j:PassesOwn (model X.prog X.w) X.A X.env X.xe) (hc:PCD X E c ca) (l:PBD X E O ss G):PSD X E O (.While c ss [] pos) (λδ=>cm ca G fuel δ):=(wm j hc l).imp λD σ H e=>by
 obtain⟨H0,A0,A,δ,R,o⟩:=e;refine⟨λm σ H=>∃A δ,bN X.K H0 A0 H A O δ σ/\mL X.K E H0 A0 O (cm ca G m δ) D,⟨fuel,A,δ,R,o⟩,?_⟩
 rintro m σ H ⟨A,δ,R,o⟩
 cases m with
 |zero=>exact o.elim
 |succ m =>
  unfold cm at o;refine cD.run R.full (λt a H1 i R1=>?_) (λC a H' s'=>?_) (λa=>?_)
  ·rw[a]at o;cases t with
   |false=>exact o A σ H1 (R.step i)
   |true =>
    refine⟨λb H'=>∃A δ,bN X.K H0 A0 H' A O δ b/\mL X.K E H0 A0 O (cm ca G m δ) D,λb H' q=>⟨m,My m,q⟩,H0,A0,A,δ,R.step i,?_⟩;have o:mL X.K E H0 A0 O (match G δ with
     |.nx δ2=>cm ca G m δ2
     |.ct δ2=>cm ca G m δ2
     |.bk δ2=>.nx δ2
     |.rt v=>.rt v
     |.rz C=>.rz C
     |.no=>.no) D:=o
    cases eb:G δ with
    |nx δ2=>rw[eb]at o;exact λf g n h=>⟨f,δ2,h,o⟩
    |ct δ2=>rw[eb]at o;exact λf g n h=>⟨f,δ2,h,o⟩
    |bk δ2=>rw[eb]at o;exact o
    |rt v=>rw[eb]at o;exact o
    |rz C=>rw[eb]at o;exact o
    |no=>rw[eb]at o;exact o
  ·rw[a]at o;exact o H' (R.same.trans s')
  ·rw[a]at o;exact o
def oF (i:Nat) (gk ge:Ds->Rs PyData):Ds->Sr:=λδ=>match δ[i]? with
 |some (some (.list ds))=>ofR (ge δ) λd=>ofR (gk δ) λk=>match k with
  |.int k=>match ixN ds.length k with
   |some j=>if ee d then .nx (δ.set i (some (.list (ds.set j d)))) else .no
   |none=>.no
  |_=>.no
 |_=>.no
theorem FW {k:Expr} {ps:Pos} (h:PD X E e ga) (n:PD X E k gk) (g:i∈O) (hi:X.N[i]?=some x) (hv:Vis X.env.scope x)
  (hd:(x==("__debug__":Str))=false) (c:(x==("__classdict__":Str))=false)
  (ha:∀v,assign (.Subscript (.Name x pn) k ps) X.env v=(do
   let ov <-holding [v] (eval (.Name x pn) X.env);let iv <-holding [v,ov] (eval k X.env)
   standAt ps
   holding [v,ov,iv] (setItem ov iv v)
   release [v,ov,iv] []))
  (r:swapsWithSole [.Subscript (.Name x pn) k ps] e pos.line X.env=pure false) (hw:swappedStores [.Subscript (.Name x pn) k ps] e X.env=pure none)
  (h1:(assignEach [.Subscript (.Name x pn) k ps] X.env).map (·.2)=[assign (.Subscript (.Name x pn) k ps) X.env]):PSD X E O (.Assign [.Subscript (.Name x pn) k ps] e pos) (oF i gk ga) :=
 (BJ h (HS (kK hi hv hd c) n set_list ha) r hw h1).imp λD σ H f=>by
  obtain⟨H0,A0,A,δ,R,o⟩:=f;unfold oF at o;split at o
  ·rename_i ds q;obtain⟨p,xs,ds',e1,s,hl,e2,l⟩:=R.ownL g q;cases e2;refine eD.run R.full (λd t v H1 m w hv=>?_) (λC b H' s'=>?_) (λb=>?_)
   ·simp only[t,az]at o;refine⟨_,e1,?_⟩;refine eD.run w (λkd y u H2 s2 R2 z=>?_) (λC b H' s'=>?_) (λb=>?_)
    ·simp only[y,az]at o;split at o
     ·rename_i B;split at o
      ·rename_i j F;split at o
       ·rename_i hn;have a:=m.trans s2;refine⟨p,xs,B,j,rfl,z.ofInt,a _ _ hl,by rw[l.length];exact F,?_⟩;exact o A _ _ ((R.step a).put g q e1 s (Iss.set (((hv.same s2.del).same aw).dl (R.step a).lsA hn) j (l.same a.del)))
       ·exact o.elim
      ·exact o.elim
     ·exact o.elim
    ·simp only[b,p7]at o;exact o H' (R.same.trans (m.trans s'))
    ·simp only[b,qv]at o;exact o
   ·simp only[b,p7]at o;exact o H' (R.same.trans s')
   ·simp only[b,qv]at o;exact o
  ·exact o.elim
structure qL (K:PySem.W.Frag) (mg:Str->Option Value) (x:Str) (C:Addr):Prop where
 m:mg x=some (.ref C)
 e:PySem.W.excIn K C [.type "ValueError",.type "Exception",.type "BaseException",.type "object"] "ValueError.__new__"=true
def iQ (C:Addr) (gs:Ds->Rs (List PyData)):Ds->Sr:=λδ=>ofR (gs δ) λ_=>.rz C
theorem AE {i:Pos} (hc:X.calm=true) (M:xq X E) (g:qL X.K X.mg x C) (ha:PAD X E (e::es) gs) (hl:(e::es).length<=1000) (j:Gl X x)
  (a:(x==("__debug__":Str))=false) (l:starEach (e::es) X.env=(false,eval e X.env)::starEach es X.env) (b:(backTo cpos (starEach es X.env)).any (·.1)=false) :
  PSD X E O (.Raise (some (.Call (.Name x i) (e::es) [] cpos)) none pos) (iQ C gs) :=
 (B0 hc M PySem.F.excBase_ValueError j g.m g.e ha.1 a l b).imp λD σ H c=>by
  obtain⟨H0,A0,A,δ,R,o⟩:=c;unfold iQ at o;refine aD.run R.full (λds h vs H1 n R1 hv=>?_) (λC f H' s'=>?_) (λf=>?_)
  ·simp only[h,az]at o;exact⟨by rw[hv.length,ha.2 δ ds h,sizeLine_eq];omega,o H1 (R.same.trans n)⟩
  ·simp only[f,p7]at o;exact o H' (R.same.trans s')
  ·simp only[f,qv]at o;exact o
end
section
theorem kW {f:Addr} {k:Nat} (F:Fun K x qual st f fd) (S:cR N ps (aB st)) (len:∀vs H Q E,sp vs H Q E->vs.length=ps.length)
  (a:∀(cdv:Value) (A:Around) (outer:List Env) (s:Shared) (H:Hp) (vs:List V) (Q:VK) (E:XK),bY k (A.deeper (envOfC qual (aB st) s.heap.objs.size f cdv))->sp vs H Q E ->
   ∃t,PSs (cU CX P w K mg base N qual (aB st) f cdv A outer s H E) (b0 st) t/\t { nx:=λ_ H'=>Q .non H',rt:=Q } (start N vs) H):gj P w K mg base CX (k+1) f fd ps sp:=by
 obtain⟨oc,od,kV,doc,pm,an,cdv,ct,osl,rfl,e,b⟩:=F.ex;exact CU e b S len λA outer s H vs Q E g c=>a cdv A outer s H vs Q E g c
def bh:Sr->Rs PyData
 |.rt d=>.ok d
 |.nx _=>.ok .none
 |.rz C=>.rz C
 |_=>.no
theorem GD {f:Addr} {A:Around}:xq (cU (CXW P w) P w K mg base N qual scope f cd A outer s H E) E :=
 λ_ _ _ _ _ _ _ _ I a b=>u6 (CX:=CX0) I a b
theorem bN.start (f:Ls H A0) (hi:Iss K (del H A0) ds vs) (hl:ds.length=ps.length) (c:∀i∈O,ps.length<=i) :
  bN K H A0 H [] O (ds.map some++List.replicate (N.length-ps.length) none) (L2.start N vs):=by
 have hv:=hi.length;have at':∀(i:Nat) d,(ds.map some++List.replicate (N.length-ps.length) none)[i]?=some (some d)->i<ds.length/\ds[i]?=some d:=λi d e=>by
  by_cases h:i<ds.length
  ·rw[LP (by simpa using h),LG]at e;refine⟨h,?_⟩;cases q:ds[i]? with
   |none=>rw[q]at e;cases e
   |some z=>rw[q]at e;simp at e;rw[e]
  ·rw[LS (by simpa using h),Nf]at e;split at e <;> cases e
 refine⟨av.refl _,f,(λa h=>by cases h),(λa h=>by cases h),?_,λi d _ e=>?_,λi d h e=>?_,λi j d e a h _ q _ _ _=>?_⟩
 ·unfold L2.start;simp[hv,hl]
 ·obtain⟨b,e⟩:=at' i d e;obtain⟨v,g,hd⟩:=hi.getD e;refine⟨v,?_,hd⟩;unfold L2.start;rw[LP (by simp;omega),LG,g];rfl
 ·obtain⟨b,_⟩:=at' i d e;exact absurd (c i h) (by omega)
 ·obtain⟨b,_⟩:=at' i d q;exact absurd (c i h) (by omega)
theorem ia.of {f:Addr} {k:Nat} {G:Ds->Sr} (F:Fun K x qual st f fd) (S:cR N ps (aB st)) (b:Binds K fd ps []) (m:mg x=some (.ref f)) (e:∀i∈O,ps.length<=i)
  (body:∀(cdv:Value) (A:Around) (outer:List Env) (s:Shared) (H:Hp) (E:XK),bY k (A.deeper (envOfC qual (aB st) s.heap.objs.size f cdv))->PBD (cU (CXW P w) P w K mg base N qual (aB st) f cdv A outer s H E) E O (b0 st) G)
  (g:∀ds,ds.length=ps.length->gf ds≠.no->bh (G (ds.map some++List.replicate (N.length-ps.length) none))=gf ds):ia P w K mg base (k+1) x ps.length gf:=by
 refine⟨f,fd,ps,kW F S (λvs H Q E h=>?_) (λcdv A outer s H vs Q E j h=>?_),m,F.kp,b⟩
 ·obtain⟨A,ds,c,hi,hl,o⟩:=h;rw[hi.length,hl]
 ·obtain⟨A0,ds,c,hi,hl,o⟩:=h;refine⟨_,body cdv A outer s H E j,H,A0,[],_,bN.start c hi hl e,?_⟩;have a:=g ds hl (λz=>by rw[z]at o;exact o);cases q:G (ds.map some++List.replicate (N.length-ps.length) none) with
  |rt d=>rw[q]at a;rw[<-a]at o;exact λv H' s' hv=>o v H' s' hv
  |nx δ=>rw[q]at a;rw[<-a]at o;exact λA' σ H' l=>o .non H' l.same is_none
  |rz C=>rw[q]at a;rw[<-a]at o;exact λH' s'=>o H' s'
  |bk δ=>rw[q]at a;rw[<-a]at o;exact o.elim
  |ct δ=>rw[q]at a;rw[<-a]at o;exact o.elim
  |no=>rw[q]at a;rw[<-a]at o;exact o.elim
theorem ia.old {f:Addr} {k:Nat} (F:gj P w K mg base CX0 k f fd ps sp) (m:mg x=some (.ref f)) (kp:PySem.W.keepIn K (.ref f)=true) (b:Binds K fd ps [])
  (h:∀ds,ds.length=ps.length->gf ds≠.no->∃d,gf ds=.ok d/\fO d=true/\∀vs H Q,Iss K H ds vs->(∀v H',av H H'->IsD K H' d v->Q v H')->sp vs H Q E0):ia P w K mg base k x ps.length gf:=by
 refine⟨f,fd,ps,⟨λvs H Q E h'=>?_,λA outer s H args us vs Q E j l n hv h'=>?_⟩,m,kp,b⟩
 ·obtain⟨A,ds,g,hi,hl,o⟩:=h';rw[hi.length,hl]
 ·obtain⟨A0,ds,g,hi,hl,o⟩:=h';obtain⟨d,e,i,c⟩:=h ds hl (λz=>by rw[z]at o;exact o);rw[e]at o;refine codeAny_mono (F.run A outer s H args us vs Q E0 j l n hv (c vs H Q (hi.same aw) λv H' s' hd=>o v H' s' ((hd.is i).dl (g.same s') (xm i)))) λr s' a=>?_
  cases r with
  |error ev=>exact False.elim a
  |ok fl =>
   cases fl with
   |ret u=>exact a
   |next=>exact False.elim a
   |brk=>exact False.elim a
   |cont=>exact False.elim a
end
open AutoSeq1 (wpAny_loadPart')
theorem lW:fillsNumberSlot (.type "tuple") "mul"=pure false :=
 PySem.fillsNumberSlot_seq (id:="tuple.__mul__") (r:=some (.builtin "tuple.__rmul__")) PySem.F.slot_tuple_mul.lookup (by decide +kernel) PySem.F.slot_tuple_rmul.lookup (by decide +kernel)
theorem tV:seqRepeat? (.type "tuple")=pure (some (.builtin "tuple.__mul__")):=by unfold seqRepeat?;rw[PySem.seqSlot_of (T:="tuple") (name:="__mul__") (id:="tuple.__mul__") PySem.F.slot_tuple_mul.lookup (by decide +kernel),PySem.seqSlot_of (T:="tuple") (name:="__rmul__") (id:="tuple.__rmul__") PySem.F.slot_tuple_rmul.lookup (by decide +kernel)];rfl
theorem sU (a:Int) (t:Tok) (l:Addr) (items:Array Value) (n:Nat) (dd:Option Addr) (b:Array (Option Value)) :
  Meets (Builtin.«int.__rmul__» ⟨[.int a t,.ref l],[]⟩) (λ_ R s=>s.heap.get? l=some { cls:=.type "tuple",dict:=dd,data:=.seq items n,slots:=b }/\R (.ok (.ret Value.notImplemented)) s) :=
 .of_wp λprog w A R s h=>by obtain⟨hp,g,d,tk,os⟩:=s;obtain⟨hl,h⟩:=h;wp_walk;exact⟨_,rfl,h⟩
theorem Dn (l:Addr) (items:Array Value) (n:Nat) (x:Int) (u:Tok) (dd:Option Addr) (a:Array (Option Value)) (h1:(decide (x < -(2 ^ 63))||decide (x≥2 ^ 63))=false) (h2:(items.isEmpty||x==1)=false) (h3:(decide (x<=0)||items.isEmpty)=false)
  (b:decide ((items.size:Int)*x>(2 ^ 63-1) / 8)=false) (h5:Builtin.Tuple.tupleTooMany ((items.size:Int)*x)=false) (hsz:(List.foldl (λx1 x2=>x1++x2) #[] (List.replicate x.toNat items)).size<=sizeLine) :
  Meets (Builtin.«tuple.__mul__» ⟨[.ref l,.int x u],[]⟩) (λ_ R s=>s.heap.get? l=some { cls:=.type "tuple",dict:=dd,data:=.seq items n,slots:=a }/\R (.ok (.ret (Value.ref s.heap.objs.size))) { s with heap:=s.heap.push { cls:=Value.type "tuple",data:=Data.seq (List.foldl (λx1 x2=>x1++x2) #[] (List.replicate x.toNat items)) } }) :=
 .of_wp λprog w A R s h=>by
  obtain⟨hp,g,d,tk,os⟩:=s;obtain⟨hl,h⟩:=h;have f1:=AutoSeq1.idx_int;have f2:=AutoSeq1.sub_tuple_tuple
  wp_walk using wpAny_loadPart' hl
  refine wpAny_ite_false (by rw[h1];rfl) ?_
  wp_walk using wpAny_loadPart' hl
  refine wpAny_ite_false b ?_
  wp_walk using wpAny_loadPart' hl
  exact⟨_,rfl,h⟩
section
variable {a b c:Expr} {ga gb gc:Ds->Rs PyData}
def GB (K:PySem.W.Frag):R2:=λx y H Q=>∃l k xs,x=.ref l/\y=.int k/\SqT K H l xs/\xs≠[]/\2<=k/\k<1000000/\xs.length*k.toNat<=1000000/\∀p,H p=none->Q (.ref p) (upd H p (.tup (List.replicate k.toNat xs).flatten))
theorem EX:OpR X (binaryOp .Mult) (GB X.K):=by
 intro pins s σ H x y v u Q I m p h;obtain⟨l,k,xs,rfl,rfl,hl,i,hk1,hk2,w,q⟩:=h;cases m;obtain⟨t,rfl⟩:=p;obtain⟨a,r,p1,_⟩:=I.tuple hl;obtain⟨⟨cls,dd,data,j⟩,g,hc,n,hd⟩:=id p1;simp only at hc hd;subst hc hd;have hlen:=r.length;have e:a≠[]:=λz=>i (r.nil_iff.mp z)
 have hpos:0<a.length:=Mh.mpr e;have c:List.foldl (λx1 x2=>x1++x2) #[] (List.replicate k.toNat a.toArray)=(List.replicate k.toNat a).flatten.toArray:=by have:=foldl_rep a k.toNat [];rw[M4]at this;exact this
 have f:a.toArray.isEmpty=false:=by simp[e]
 have hmul:(a.length:Int)*k<=1000000:=by
  have e1:((a.length*k.toNat:Nat):Int)=(a.length:Int)*k:=by rw[Int.natCast_mul,MN (by omega)]
  rw[<-e1,<-hlen];omega
 have hsz2:(List.replicate k.toNat a).flatten.length<=1000000:=by rw[len_rep,Nat.mul_comm,<-hlen];exact w
 refine wpAny_binaryOp_repeat_ref (T:="tuple") (U:="int") (by decide) ⟨_,g,rfl⟩ (λs'=>typeIs_int s' k t) lW PySem.F.fills_int_mul PySem.F.slot_int_rmul tV PySem.F.slot_int_index.lookup
  (call_meets PySem.F.slot_int_rmul (typeIs_int s k t) PySem.F.entry_int_rmul (PySem.F.args_int_rmul_2 _ _) (sU k t l a.toArray n dd j)
   ⟨g,rfl,⟨_,g,rfl⟩,call_meets PySem.F.slot_tuple_mul ⟨_,g,rfl⟩ PySem.F.entry_tuple_mul (PySem.F.args_tuple_mul_2 _ _) (Dn l a.toArray n k t dd j ?_ ?_ ?_ ?_ ?_ ?_) ⟨g,?_⟩⟩)
 ·rw[decide_eq_false (by omega),decide_eq_false (by omega)];rfl
 ·rw[f,Bool.false_or];simp;omega
 ·rw[f,Bool.or_false];exact decide_eq_false (by omega)
 ·rw[Lz];exact decide_eq_false (by omega)
 ·rw[Lz];unfold Builtin.Tuple.tupleTooMany;rw[sizeLine_eq];exact decide_eq_false (by omega)
 ·rw[c,Lz,sizeLine_eq];omega
 ·rw[c];refine⟨.ref s.heap.objs.size,_,I.laid (t':=s.toks) (o:=.tup (List.replicate k.toNat xs).flatten) (λb ob q=>L1 _ q) (L9 _) ?_,rfl,q _ (I.hok.fresh (L9 _))⟩;exact⟨by rw[len_rep,Nat.mul_comm,sizeLine_eq];omega,_,r.rep k.toNat,tJ.new _ _⟩
def eX:PyData->PyData->Option PyData
 |.int i,.int j=>if (-(2 ^ 64)<i/\i<2 ^ 64)\/(-(2 ^ 64)<j/\j<2 ^ 64) then some (.int (i*j)) else none
 |.list x,.int k=>if 0<=k/\k<1000000/\x.length*k.toNat<=1000000 then some (.list (List.replicate k.toNat x).flatten) else none
 |.tuple x,.int k=>if x≠[]/\2<=k/\k<1000000/\x.length*k.toNat<=1000000 then some (.tuple (List.replicate k.toNat x).flatten) else none
 |_,_=>none
theorem FL:OpD K eX (λx y H Q=>rI Et (λi j=>.int (i*j)) x y H Q\/JV x y H Q\/GB K x y H Q):=λd1 d2 d x y H A Q e f h1 h2 k=>by
 unfold eX at e;split at e
 ·split at e
  ·rename_i z;cases e;exact .inl ⟨_,_,h1.ofInt,h2.ofInt,z,k _ H (av.refl _) bL⟩
  ·cases e
 ·split at e
  ·rename_i z;cases e;obtain⟨p,xs,rfl,c,a⟩:=h1.ofLst;exact .inr (.inl ⟨p,_,xs,rfl,h2.ofInt,aw _ _ c,by omega,by omega,by rw[a.length,sizeLine_eq];omega,λr b=>k _ _ (bD b) (j7 f b (a.rep _))⟩)
  ·cases e
 ·split at e
  ·rename_i z;cases e;obtain⟨p,xs,rfl,c,a⟩:=h1.ofTup;refine .inr (.inr ⟨p,_,xs,rfl,h2.ofInt,SqT.of (aw _ _ c),λq=>z.1 ?_,z.2.1,z.2.2.1,by rw[a.length];exact z.2.2.2,λr b=>k _ _ (bD b) (lK f b (a.rep _))⟩);exact MP.mp (by rw[<-a.length,q];rfl)
  ·cases e
 ·cases e
theorem IY (ha:PD X E a ga) (c:PD X E b gb):PD X E (.BinOp a .Mult b pos) (g2 eX ga gb):=fU FL ha c (eN (mQ.or (GQ.or EX)))
end
section
variable {A:Around} {E:Value->Shared->Prop}
theorem kf {i j:Value} (a:IsTup s.heap t items) (l:s.heap.IsSliceOf c i j .none) (pl:IsPart i lo) (n:IsPart j hi)
  (hw:HT.sIx items.size 0 lo=0/\HT.sIx items.size items.size hi=items.size) (h:Q (.ref t) s):wpAny (model prog w) A (getItem (.ref t) (.ref c)) Q E s:=by
 obtain⟨os,e,f,hds⟩:=id l;have g:s.TypeIs (.ref c) "slice":=⟨os,e,f⟩
 unfold getItem
 try with_reducible refine wpAny_holding ?_
 first|refine wpAny_bind (wpAny_pure ?_)|skip
 refine wpAny_bind (wpAny_sequenceKey a.typeIs (by decide) ?_);refine wpAny_bind (wpAny_callSpecial?_slot (name:=Str.ofString "__getitem__") a.typeIs PyProof.Rows.slot_tuple_getitem
  (wpAny_call_entry PyProof.Rows.slot_tuple_getitem a.typeIs entry_tuple_getitem ?_ (args_tuple_getitem _ _)))
 show wpAny _ _ (Builtin.Tuple.tupleItemsOf (.ref t) >>= _) _ _ s;refine wpAny_bind (tupleItemsOf_ a ?_);refine wpAny_bind (wpAny_typeOf g ?_);rw[if_pos (by decide)];refine wpAny_bind (HT.iB l pl n ?_);have b:(((HT.sIx items.size 0 lo:Nat):Int)==0&&(1:Int)==1&&(HT.sIx items.size items.size hi-HT.sIx items.size 0 lo)==items.size)=true:=by rw[hw.1,hw.2];simp
 show wpAny _ _ (if (((HT.sIx items.size 0 lo:Nat):Int)==0&&(1:Int)==1&&(HT.sIx items.size items.size hi-HT.sIx items.size 0 lo)==items.size)=true then _ else _) _ _ s;rw[if_pos b];refine wpAny_bind (m:=Builtin.Tuple.tupleIsExact (.ref t)) (wpAny_bind (wpAny_typeOf a.typeIs (wpAny_pure ?_)));rw[if_pos (by decide)]
 first
  |exact wpAny_bind (wpAny_rule (wpAny_pure ⟨_,rfl,wpAny_pure h⟩))
  |(refine wpAny_bind (wpAny_rule ?_);trace_state;exact wpAny_pure ⟨_,rfl,wpAny_pure h⟩)
end
end L2
variable {δ:L2.Ds} {gf:List PyData->L2.Rs PyData} {gs gi src:L2.Ds->L2.Rs (List PyData)} {cond:L2.Ds->L2.Rs Bool} {tgt:PyData->Option L2.Ds} {ga gb:L2.Ds->L2.Rs PyData}
namespace L2
open PySem PySem.Spec PyProof.Rows
section
variable {E:XK} {a b c:Expr} {gc:Ds->Rs PyData} {es:List Expr}
def J9 (K:PySem.W.Frag):V->Option Int->Option Int->Hp->VK->Prop:=λx lo hi H Q=>∃a xs,x=.ref a/\SqT K H a xs/\(HT.sIx xs.length 0 lo=0/\HT.sIx xs.length xs.length hi=xs.length)/\Q (.ref a) H
theorem FE:SlR X (J9 X.K):=by
 intro pins s σ H x v vl vu lo hi sl Q I e f pl g h;obtain⟨a,xs,rfl,i,hw,q⟩:=h;cases e;obtain⟨b,r,c,hz⟩:=I.tuple i;have hlen:b.toArray.size=xs.length:=by rw[Lz,r.length]
 refine⟨"tuple",_,PyProof.Rows.slot_tuple_getitem.lookup,c.typeIs,?_⟩;exact kf c f pl g (by rw[hlen];exact hw) ⟨.ref a,H,I,rfl,q⟩
def cutD (xs:List PyData) (lo hi:Option Int):List PyData:=(xs.drop (HT.sIx xs.length 0 lo)).take (HT.sIx xs.length xs.length hi-HT.sIx xs.length 0 lo)
def D7:PyData->Option Int->Option Int->Option PyData
 |.list x,lo,hi=>some (.list (cutD x lo hi))
 |.tuple x,lo,hi=>some (.tuple (cutD x lo hi))
 |_,_,_=>none
def Bi:PyData->Rs (Option Int)
 |.int i=>.ok (some i)
 |_=>.no
def fH:Ds->Rs (Option Int):=λ_=>.ok none
def fL (g:Ds->Rs PyData):Ds->Rs (Option Int):=λδ=>(g δ).bind Bi
def KL (E:XK) (H:Hp) (r:Rs (Option Int)) (Q:Option Int->Hp->Prop):Prop:=match r with
 |.ok o=>∀H',av H H'->Q o H'
 |.rz C=>∀H',av H H'->E (.ref C) none H'
 |.no=>False
def oD (K:PySem.W.Frag) (E:XK) (g:Ds->Rs (Option Int)):TO:=λσ H Q=>∃A δ,dq K H A δ σ/\KL E H (g δ) Q
def POD (X:Cx) (E:XK) (e:Option Expr) (g:Ds->Rs (Option Int)):Prop:=PO X e (oD X.K E g)
theorem PO.imp {e:Option Expr} {t t':TO} (h:PO X e t) (k:∀σ H Q,t' σ H Q->t σ H Q):PO X e t':=λpins s σ H Q I q=>h pins s σ H Q I (k σ H Q q)
theorem Cy:POD X E none fH:=D8.imp λσ H Q a=>(by obtain⟨A,δ,R,o⟩:=a;exact o H (av.refl _))
theorem C3 (h:PD X E e ga):POD X E (some e) (fL ga):=(E2 h).imp λσ H Q ⟨A,δ,R,o⟩=>⟨A,δ,R,by
 unfold fL at o;cases q:ga δ with
 |no=>rw[q]at o;exact o
 |rz C=>rw[q]at o;exact o
 |ok d =>
  rw[q]at o;cases d with
  |int i=>exact λv H' s h=>⟨i,h.ofInt,o H' s⟩
  |_=>exact o.elim⟩
theorem oD.run {g:Ds->Rs (Option Int)} {Q:Option Int->Hp->Prop} (R:dq K H A δ σ)
  (ok:∀d,g δ=.ok d->∀H',av H H'->dq K H' A δ σ->Q d H') (rz:∀C,g δ=.rz C->∀H',av H H'->E (.ref C) none H') (no:g δ=.no->False):oD K E g σ H Q:=by
 refine⟨A,δ,R,?_⟩;cases e:g δ with
 |ok d=>exact λH' s=>ok d e H' s (R.same s)
 |rz C=>exact λH' s=>rz C e H' s
 |no=>exact no e
def eZ (g:Ds->Rs PyData) (lo hi:Ds->Rs (Option Int)):Ds->Rs PyData:=λδ=>(g δ).bind λd=>(lo δ).bind λl=>(hi δ).bind λh=>Rs.eO (D7 d l h)
theorem Iss.cut (h:Iss K H ds vs) (lo hi:Option Int):Iss K H (cutD ds lo hi) (uQ vs lo hi):=by unfold cutD uQ;rw[h.length];exact (h.drop _).take _
theorem CC {lo hi:Option Expr} {n r:Ds->Rs (Option Int)} (u:PD X E e ga) (hl:POD X E lo n) (w:POD X E hi r):PD X E (.Subscript e (.Slice lo hi none p2) pos) (eZ ga n r) :=
 (CG (ED.or (HU.or FE)) u hl w).imp λσ H Q j=>by
  obtain⟨A,δ,R,o⟩:=j;unfold eZ at o;refine eD.run R (λd x v H1 m y hv=>?_) (λC a H' s'=>by rw[a]at o;exact o H' s') (λa=>by rw[a]at o;exact o);simp only[x,Rs.ag]at o;refine oD.run y (λl z H2 s2 R2=>?_) (λC a H' s'=>by rw[a]at o;exact o H' (m.trans s')) (λa=>by rw[a]at o;exact o);simp only[z,Rs.ag]at o;refine oD.run R2 (λh B H3 s t=>?_) (λC a H' s'=>by rw[a]at o;exact o H' (m.trans (s2.trans s'))) (λa=>by rw[a]at o;exact o);simp only[B,Rs.ag]at o;have f:=hv.same (s2.trans s).del;have b:=m.trans (s2.trans s);cases d with
  |list ds =>obtain⟨p,xs,rfl,g,c⟩:=f.ofLst;exact .inl ⟨p,xs,rfl,SqL.of (aw _ _ g),λq i=>o _ _ (b.trans (bD i)) (j7 t.ls i (c.cut l h))⟩
  |tuple ds =>
   obtain⟨p,xs,rfl,g,c⟩:=f.ofTup;by_cases hw:HT.sIx xs.length 0 l=0/\HT.sIx xs.length xs.length h=xs.length
   ·refine .inr (.inr ⟨p,xs,rfl,SqT.of (aw _ _ g),hw,o _ _ b ?_⟩);have e:cutD ds l h=ds:=by unfold cutD;rw[<-c.length,hw.1,hw.2];simp[c.length]
    show Is X.K _ (.tuple (cutD ds l h)) _;rw[e];exact ig g c
   ·exact .inr (.inl ⟨p,xs,rfl,SqT.of (aw _ _ g),hw,λq i=>o _ _ (b.trans (bD i)) (lK t.ls i (c.cut l h))⟩)
  |_=>exact o.elim
def toV:PyData->V
 |.none=>.non
 |.bool b=>.bl b
 |.int i=>.int i
 |.str x=>.str x
 |_=>.non
def inD (x:PyData) (xs:List PyData):Bool:=inV (toV x) (xs.map toV)
def oN (neg:Bool):PyData->PyData->Option PyData
 |x,.list xs=>if fO x&&xs.all fO then some (.bool (if neg then !inD x xs else inD x xs)) else none
 |x,.tuple xs=>if fO x&&xs.all fO then some (.bool (if neg then !inD x xs else inD x xs)) else none
 |_,_=>none
theorem Is.flat {d:PyData} (h:Is K H d v) (f:fO d=true):v=toV d/\jc v=true:=by
 cases d with
 |none=>rw[h.ofNone];exact⟨rfl,rfl⟩
 |bool b=>rw[h.ofBool];exact⟨rfl,rfl⟩
 |int i=>rw[h.ofInt];exact⟨rfl,rfl⟩
 |str x=>rw[h.ofStr];exact⟨rfl,rfl⟩
 |_=>cases f
theorem Iss.flat {K:PySem.W.Frag} {H:Hp}:∀{ds:List PyData} {vs:List V},Iss K H ds vs->ds.all fO=true->vs=ds.map toV/\vs.all jc=true
 |[],_,h,_=>by rw[h.nil_of];exact⟨rfl,rfl⟩
 |d::ds,_,h,f=>by rw[MX,L8]at f;obtain⟨v,r,rfl,h1,h2⟩:=h.cons_of;obtain⟨e1,f1⟩:=h1.flat f.1;obtain⟨e2,f2⟩:=Iss.flat h2 f.2;exact⟨by rw[e1,e2];rfl,by rw[MX,f1,f2];rfl⟩
theorem Cr {neg:Bool}:OpD K (oN neg) (rIn K neg):=λd1 d2 d x y H A Q e hA h1 h2 k=>by
 unfold oN at e;split at e
 ·split at e
  ·rename_i z;rw[L8]at z;cases e;obtain⟨p,xs,rfl,a,b⟩:=h2.ofLst;obtain⟨e1,f1⟩:=h1.flat z.1;obtain⟨e2,f2⟩:=b.flat z.2;refine⟨p,xs,rfl,.inl (SqL.of (aw _ _ a)),f1,f2,?_⟩;rw[e1,e2];exact k _ H (av.refl _) is_bool
  ·cases e
 ·split at e
  ·rename_i z;rw[L8]at z;cases e;obtain⟨p,xs,rfl,a,b⟩:=h2.ofTup;obtain⟨e1,f1⟩:=h1.flat z.1;obtain⟨e2,f2⟩:=b.flat z.2;refine⟨p,xs,rfl,.inr (SqT.of (aw _ _ a)),f1,f2,?_⟩;rw[e1,e2];exact k _ H (av.refl _) is_bool
  ·cases e
 ·cases e
theorem J8 (ha:PD X E a ga) (c:PD X E b gb) (hm:behindInMarks .In b=false):PD X E (.Compare a [.In] [b] pos) (g2 (oN false) ga gb):=fU Cr ha c λh1 h2=>kU sO h1 h2 hm
theorem Ib (ha:PD X E a ga) (c:PD X E b gb) (hm:behindInMarks .In b=false):PCD X E (.Compare a [.In] [b] pos) (gT (g2 (oN false) ga gb)):=j9 Cr ha c λh1 h2=>iY sO h1 h2 hm
def lV (f e:PyData->PyData->Option PyData) (a b c:Ds->Rs PyData):Ds->Rs PyData:=λδ=>(a δ).bind λx=>(b δ).bind λy=>(Rs.eO (f x y)).bind λz=>(truth z).bind λt=>if t=true then (c δ).bind λw=>Rs.eO (e y w) else .ok (.bool false)
theorem Dq {g:CmpOp} {r p:R2} {f i:PyData->PyData->Option PyData} (y:OpR X (compareOp op) r) (l:OpR X (compareOp g) p) (B:OpD X.K f r) (m:OpD X.K i p) (ha:PD X E a ga) (D:PD X E b gb) (hc:PD X E c gc)
  (hm:lastMarks [op,g] [b,c]=false:=by with_unfolding_all rfl):PD X E (.Compare a [op,g] [b,c] pos) (lV f i ga gb gc):=(CV y l ha D hc hm).imp λσ H Q n=>by
 obtain⟨A,δ,R,o⟩:=n;unfold lV at o;refine eD.run R (λd1 e1 v H1 j F h1=>?_) (λC e H' s'=>by rw[e]at o;exact o H' s') (λe=>by rw[e]at o;exact o);simp only[e1,Rs.ag]at o;refine eD.run F (λd2 e2 u H2 s2 R2 h2=>?_) (λC e H' s'=>by rw[e]at o;exact o H' (j.trans s')) (λe=>by rw[e]at o;exact o);simp only[e2,Rs.ag]at o;cases e3:f d1 d2 with
 |none=>rw[e3]at o;exact o.elim
 |some z =>
  simp only[e3,Rs.ai,Rs.ag]at o;refine B d1 d2 z v u H2 A _ e3 R2.ls (h1.same s2.del) h2 λw G h I=>?_
  obtain⟨t,rfl,o⟩:=oR o;refine⟨t,I.ofBool,?_⟩;cases t with
  |false=>exact o _ G (j.trans (s2.trans h)) is_bool
  |true =>
   have o:gR X.K E A H ((gc δ).bind λw=>Rs.eO (i d2 w)) Q:=o;refine eD.run (R2.same h) (λq J L M s N O=>?_) (λC e H' s'=>by rw[e]at o;exact o H' (j.trans (s2.trans (h.trans s')))) (λe=>by rw[e]at o;exact o);simp only[J,Rs.ag]at o;cases e5:i d2 q with
   |none=>rw[e5]at o;exact o.elim
   |some d=>rw[e5]at o;exact m d2 q d u L M A Q e5 N.ls (h2.same (h.trans s).del) O λx P S T=>o x P (j.trans (s2.trans (h.trans (s.trans S)))) T
theorem Gd (ha:PD X E a ga) (e:PD X E b gb) (hc:PD X E c gc) (hm:lastMarks [.LtE,.LtE] [b,c]=false):PD X E (.Compare a [.LtE,.LtE] [b,c] pos) (lV dLe dLe ga gb gc):=Dq yZ yZ (jR λ_ _ _ _=>is_bool) (jR λ_ _ _ _=>is_bool) ha e hc hm
end
section
variable {E:XK} {a b c:Expr}
def KO (i j c:Int):Nat:=(Builtin.Range.rangeSize i j c).toNat
def IJ (i j c:Int):Bool:=decide (-(1000000)<=i/\i<=1000000/\-(1000000)<=j/\j<=1000000/\-(1000000)<=c/\c<=1000000/\c≠0)&&Builtin.Range.small i j c
def G6 (lo c:Int) (n:Nat):List PyData:=(List.range n).map λ(i:Nat)=>PyData.int (lo+(i:Int)*c)
def Ju:List PyData->Rs (List PyData)
 |[.int i,.int j,.int c]=>if IJ i j c then .ok (G6 i c (KO i j c)) else .no
 |_=>.no
def Jz (g:Ds->Rs (List PyData)):Ds->Rs (List PyData):=λδ=>(g δ).bind Ju
def tLR (ta:TA):TE:=λσ H Q=>ta σ H λvs H1=>∃j:Int,vs=[.int j]/\0<=j/\j<=1000000/\∀p,H1 p=none->Q (.ref p) (upd H1 p (.lst ((List.range j.toNat).map λ(i:Nat)=>V.int (i:Int))))
theorem G8 {s2:Shared} {Q:VK} {j:Int} {tk:Nat} {a:Array Value} {c':Nat} (c:Inv X pins σ H1 s2) (g:∀b o,s2.heap.get? b=some o->h'.get? b=some o)
 (hl:h'.get? s2.heap.objs.size=some { cls:=.type "list",dict:=none,data:=.seq a c',slots:=#[] }) (hi:ItemsOf (λi v=>∃t,v=.int ((0:Int)+(i:Int)*1) t) a j.toNat) (q1:0<=j) (q2:j<=1000000)
 (q:∀p,H1 p=none->Q (.ref p) (upd H1 p (.lst ((List.range j.toNat).map λ(i:Nat)=>V.int (i:Int))))):EP X pins σ Q (.ref s2.heap.objs.size) { s2 with heap:=h',toks:=tk }:=by
 have hv:Vals ((List.range j.toNat).map λ(i:Nat)=>V.int (i:Int)) a.toList:=by
  have aux:∀(l:List Value) (k:Nat),(∀(m:Nat) v,l[m]?=some v->∃t,v=.int ((0:Int)+((k+m:Nat):Int)*1) t)->Vals ((List.range' k l.length).map λ(i:Nat)=>V.int (i:Int)) l:=by
   intro l
   induction l with
   |nil=>intro k _;exact .nil
   |cons x r ih =>
    intro k f;rw[LI,Nv,L4];refine .cons ?_ (ih (k+1) λm v hm=>?_)
    ·obtain⟨t,e⟩:=f 0 x rfl;exact⟨t,by rw[e];simp⟩
    ·obtain⟨t,e⟩:=f (m+1) v (by simpa using hm);exact⟨t,by rw[e,show k+(m+1)=k+1+m by omega]⟩
  have h1:=aux a.toList 0 (λm v hm=>by obtain⟨t,e⟩:=hi.2 m v (by rw[<-Nh];exact hm);exact⟨t,by rw[e];simp⟩)
  rw[Mn,hi.1]at h1;rw[List.range_eq_range'];exact h1
 exact⟨.ref s2.heap.objs.size,_,c.laid (t':=tk) g (L9 _) (show dh X.prog X.w _ h' _ (.lst ((List.range j.toNat).map λ(i:Nat)=>V.int (i:Int))) from⟨by rw[L5,MS,sizeLine_eq];omega,a.toList,c',hv,by simpa using hl⟩),rfl,q _ (c.hok.fresh (L9 _))⟩
theorem tK {c:Pos} (hc:X.calm=true) (v:Gl X "range") (hm:X.mg "range"=none) (g:Gl X "list") (i:X.mg "list"=none) (ha:PA X [a] ta) (w:starEach [a] X.env=[(false,eval a X.env)]:=by rfl)
  (f:starEach [.Call (.Name "range" p) [a] [] pos] X.env=[(false,eval (.Call (.Name "range" p) [a] [] pos) X.env)]:=by rfl) :
  PE X (.Call (.Name "list" p2) [.Call (.Name "range" p) [a] [] pos] [] c) (tLR ta):=by
 intro pins s σ H Q I h;refine Call_ (fQ I g i tR (PyProof.Rows.callWith_type1 ?_ f rfl));rw[f];show wpAny _ _ (spliced ((false,eval (.Call (.Name "range" p) [a] [] pos) X.env)::backTo c [])) _ _ s;refine Calls.spliced_cons (Call_ (fQ I v hm boot_range (PyProof.Rows.callWith_type1 (thn (ha pos pins s σ H _ I h) λus s1 l=>?_) w rfl)));obtain⟨vs,H1,u,x,m⟩:=l;obtain⟨j,e,m,y,q⟩:=m;subst e;cases x with
 |cons r rr =>
  cases rr;obtain⟨t,rfl⟩:=r;refine call_range_1 (Calls.spliced_nil ?_);have e2:Builtin.Range.rangeSize 0 j 1=((j.toNat:Nat):Int):=by rw[rangeSize_one];split <;> omega
  refine call_list_range (n:=j.toNat) (u.ok.hd hc) (IsRange.new ..) (small_one (by omega) (by omega) (by omega) (by omega)) e2 (by omega) λh' tk acc' c' z hl hi=>?_
  exact G8 (u.kept λb o e=>L1 _ e) z hl hi m y q
def uf:List PyData->Rs (List PyData)
 |[.int j]=>if 0<=j/\j<=1000000 then .ok (bA 0 j.toNat) else .no
 |_=>.no
def gLR (g:Ds->Rs (List PyData)):Ds->Rs (List PyData):=λδ=>(g δ).bind uf
theorem zY {b:Pos} (hc:X.calm=true) (hm:X.mg "range"=none) (c:X.mg "list"=none) (ha:PAD X E [a] gs) (r:Gl X "range") (f:Gl X "list") (s:starEach [a] X.env=[(false,eval a X.env)])
  (g:starEach [.Call (.Name "range" p) [a] [] pos] X.env=[(false,eval (.Call (.Name "range" p) [a] [] pos) X.env)]):PLD X E (.Call (.Name "list" p2) [.Call (.Name "range" p) [a] [] pos] [] b) (gLR gs) :=
 (tK hc r hm f c ha.1 s g).imp λσ H Q l=>by
  obtain⟨A,δ,R,o⟩:=l;unfold gLR at o;refine aD.run R (λds e vs H1 m R1 h1=>?_) (λC e H' s'=>by rw[e]at o;exact o H' s') (λe=>by rw[e]at o;exact o);simp only[e,Rs.ag]at o;unfold uf at o;split at o
  ·split at o
   ·rename_i j z;obtain⟨v,rfl,h⟩:=kG h1;rw[h.ofInt];refine⟨j,rfl,z.1,z.2,λq n=>o q _ _ (m.free n) (m.trans (bD n)) aG ?_⟩;have:bA 0 j.toNat=((List.range j.toNat).map λ(i:Nat)=>(i:Int)).map PyData.int:=by unfold bA;rw[LQ];congr 1;funext i;simp
    rw[this,show ((List.range j.toNat).map λ(i:Nat)=>V.int (i:Int))=((List.range j.toNat).map λ(i:Nat)=>(i:Int)).map V.int by rw[LQ];rfl];exact uX _
   ·exact o.elim
  ·exact o.elim
end
theorem uV (t:Addr) (xs:Array Value):Meets (Builtin.«enumerate.__new__» ⟨[.type "enumerate",.ref t],[]⟩) (λ_ R s=>s.heap.IsTuple t xs /\
   R (.ok (.ret (.ref (s.heap.push { cls:=.type "tuple_iterator",data:=.fields #[.ref t,.int 0 0] }).objs.size)))
    { s with heap:=(s.heap.push { cls:=.type "tuple_iterator",data:=.fields #[.ref t,.int 0 0] }).push { cls:=.type "enumerate",data:=.fields #[.none,.bool false,.ref s.heap.objs.size,rawInt 0,.none,.none] } }) :=
 .of_wp λprog w A R s h=>by
  obtain⟨b,g,d,tk,os⟩:=s;obtain⟨hl,h⟩:=h;have hsub:=sub_enumerate;have a:Heap.IsTuple (Shared.heap ⟨b,g,d,tk,os⟩) t xs:=hl
  wp_walk
  refine wpAny_stack_any λst=>wpAny_pure ?_
  split
  ·rename_i c _ _ _ _ _;cases (c==Value.type "enumerate")
   ·wp_walk using wpAny_pyIter_tuple a
    exact⟨_,rfl,h⟩
   ·wp_walk using wpAny_pyIter_tuple a
    exact⟨_,rfl,h⟩
  ·wp_walk using wpAny_pyIter_tuple a
   exact⟨_,rfl,h⟩
theorem xX {A:Around} {l:Addr} (f:s.heap.IsTuple l items)
  (h:∀h',IsEnum h' (s.heap.objs.size+1) s.heap.objs.size 0 .none->h'.IsTupleIter s.heap.objs.size l 0->(∀b o,s.heap.get? b=some o->h'.get? b=some o)->Q (.ref (s.heap.objs.size+1)) { s with heap:=h' }) :
  wpAny (model prog w) A (call (.type "enumerate") [.ref l]) Q E s:=by
 refine callType_new PySem.F.called_enumerate (by decide) (PySem.F.typeCall_enumerate_1 _) (PySem.F.newCall_enumerate_1 _) (λobj=>PySem.F.args_object_init_2 obj _) PySem.F.entry_enumerate_new (uV l items) ⟨f,?_⟩;have a:(s.heap.push { cls:=.type "tuple_iterator",data:=.fields #[.ref l,.int 0 0] }).objs.size=s.heap.objs.size+1:=Heap.size_push ..;show _/\_;rw[a];have c:IsEnum ((s.heap.push { cls:=.type "tuple_iterator",data:=.fields #[.ref l,.int 0 0] }).push
   { cls:=.type "enumerate",data:=.fields #[.none,.bool false,.ref s.heap.objs.size,rawInt 0,.none,.none] }) (s.heap.objs.size+1) s.heap.objs.size 0 .none:=by
  have:=LF (s.heap.push { cls:=.type "tuple_iterator",data:=.fields #[.ref l,.int 0 0] })
   (o:={ cls:=.type "enumerate",data:=.fields #[.none,.bool false,.ref s.heap.objs.size,rawInt 0,.none,.none] }) rfl
  rw[a]at this;exact this
 refine⟨⟨_,c,rfl⟩,h _ c ⟨_,L1 _ (LF _ rfl),rfl,rfl⟩ λb o e=>L1 _ (L1 _ e)⟩
def Ite (P:Hp->List V->Prop) (n:Nat):It :=
 ⟨λi H=>i<n/\∃xs,P H xs/\xs.length=n,
  λi H v H'=>∃t x,v=.ref t/\H t=none/\H'=upd H t (.tup [.int i,x])/\∀xs,P H xs->xs[i]?=some x,
  λi H=>i=n/\∃xs,P H xs/\xs.length=n⟩
theorem sA {e:Addr} {r:Hp->List V->Prop} {S:Nat->Heap->Prop} {B:Heap->Array Value->Prop} (f:e≠it) (z:e≠a)
  (L:∀(A:Around),A.handled=none->∀b:Array Value,Draws P w A it [it,a] b.size (λi v=>b[i]?=some v) (λi h=>S i h/\B h b))
  (hB:∀(X:Cx),X.prog=P->X.w=w->X.K=K->∀{pins:List (Addr×Obj)} {s:Shared} {σ:St} {H:Hp} {xs:List V},Inv X pins σ H s->r H xs->∃b:List Value,Vals xs b/\B s.heap b.toArray)
  (Q:∀(X:Cx),X.prog=P->X.w=w->X.K=K->∀{pins:List (Addr×Obj)} {s:Shared} {σ:St} {H:Hp} {xs ys:List V},Inv X pins σ H s->r H xs->r H ys->xs=ys)
  (M:∀i h,S i h->∃o,h.get? it=some o/\∀v,o.data≠.cell v) (hK:∀i h h',S i h->(∀o,h.get? it=some o->h'.get? it=some o)->S i h') :
  Turn P w K (.Tuple elts x1 tp) (Ite r n) [e,it] e (λi h=>(∃old,IsEnum h e it i old)/\S i h) where
 mem:=by simp
 obj:=λi h st c hc=>by
  obtain⟨⟨old,h1⟩,h2⟩:=st;simp only[L7,LL,or_false]at hc;rcases hc with rfl|rfl
  ·exact⟨_,h1,λv q=>by cases q⟩
  ·exact M i h h2
 keep:=λi h h' st k=>by obtain⟨⟨old,h1⟩,h2⟩:=st;exact⟨⟨old,k e (by simp) _ h1⟩,hK i h h' h2 λo q=>k it (by simp) o q⟩
 item:=by
  intro X C hw g hc i pins s σ H E I t st D;subst C hw g;obtain⟨hi,xs,u,R⟩:=D;obtain⟨⟨old,h1⟩,h2⟩:=st;obtain⟨b,y,F⟩:=hB X rfl rfl rfl I u;have la:=y.length;refine wpAny_pyNext_enum_itemD (L X.A.in1 (I.ok.hd hc) b.toArray) h1 ⟨h2,F⟩ (by simp;omega) f (by simp[f,z]) λx h' tk T U Y Z hsz hk=>⟨_,rfl,?_⟩
  refine wpAny_letOwnedTupleGo_enum (s:={ s with heap:=h',toks:=tk+1 }) U λG d1 d2=>?_
  have N:e<s.heap.objs.size:=Ly h1;have il:it<s.heap.objs.size:=by obtain⟨o,q,_⟩:=M i _ h2;exact Ly q
  have J:∀c o,c≠e->h'.get? c=some o->G.get? c=some o:=λc o hc q=>(d2.2 c hc).trans q
  obtain⟨l,ex,rx⟩:∃l,xs[i]?=some l/\RelV l x:=by
   have m:i<xs.length:=by omega
   obtain⟨u',e1,e2⟩:=y.get (L0 m);refine⟨xs[i],L0 m,?_⟩;have p:b[i]?=some x:=by simpa using T
   rw[e1]at p;cases p;exact e2
  have fr:H s.heap.objs.size=none:=I.hok.fresh (L9 _);refine⟨.ref s.heap.objs.size,upd H s.heap.objs.size (.tup [.int i,l]),?_,rfl,⟨_,l,rfl,fr,rfl,λys h=>by rw[Q X rfl rfl rfl I h u];exact ex⟩,?_,λc j=>?_⟩
  ·refine I.turnLay (t':=tk+1) (ch:=[e,it]) t (L9 _) (λc o hn q=>?_) ⟨by show 2<=sizeLine;decide,[.int i tk,x],.cons ⟨tk,rfl⟩ (.cons rx .nil),⟨_,J _ _ (Mj N) Z,rfl,rfl,_,rfl⟩⟩;simp only[L7,LL,or_false,not_or]at hn;exact J c o hn.1 (hk c o hn.1 hn.2 q)
  ·exact⟨⟨x,by simpa using d1⟩,hK _ _ _ Y.1 λo q=>J it o f.symm q⟩
  ·have O:=(t c j).1;simp only[L7,LL,or_false]at j;rcases j with rfl|rfl
   ·rw[ay (LC N)];exact O
   ·rw[ay (LC il)];exact O
 done:=by
  intro X C hw g hc i pins s σ H E I t st D;subst C hw g;obtain⟨hi,xs,u,R⟩:=D;obtain⟨⟨old,h1⟩,h2⟩:=st;obtain⟨b,y,F⟩:=hB X rfl rfl rfl I u;have la:=y.length;have e':b.toArray.size=i:=by simp;omega
  refine wpAny_pyNext_enum_endD (L X.A.in1 (I.ok.hd hc) b.toArray) h1 ⟨by rw[e'];exact h2,F⟩ λh' k=>⟨rfl,?_⟩
  refine I.turneds (t':=s.toks) (ch:=[e,it]) t λc o hn q=>?_
  simp only[L7,LL,or_false,not_or]at hn;exact k c o hn.2 q
 self:=λ_ _ _ _ _ st h=>by obtain⟨⟨old,h1⟩,_⟩:=st;exact wpAny_pyIter_enum h1 h
theorem EM:bootBuiltins "enumerate"=some (.type "enumerate"):=by decide +kernel
def JG (K:PySem.W.Frag) (ta:TA):TI:=λσ H R=>ta σ H λvs H1=>∃a xs,vs=[.ref a]/\((SqT K H1 a xs/\R (Ite (λH ys=>SqT K H a ys) xs.length) H1)\/(SqL K H1 a xs/\R (Ite (λH ys=>SqL K H a ys) xs.length) H1))
theorem D5 {a:Expr} (F:Gl X "enumerate") (hm:X.mg "enumerate"=none) (ha:PA X [a] ta) (G:starEach [a] X.env=[(false,eval a X.env)]:=by rfl) :
  PI X (.Tuple elts x1 tp) (.Call (.Name "enumerate" p) [a] [] pos) (JG X.K ta):=by
 intro pins s σ H R I h;refine Call_ (fQ I F hm EM (PyProof.Rows.callWith_type1 (thn (ha pos pins s σ H _ I h) λus f x=>?_) G rfl));obtain⟨vs,H1,l,J,L⟩:=x;obtain⟨j,xs,e,q⟩:=L;subst e;obtain⟨u1,e1,M⟩:=vals1 J;subst e1;cases M;have big:∀c∈[f.heap.objs.size+1,f.heap.objs.size],f.heap.objs.size<=c:=λc hc=>by
  simp only[L7,LL,or_false]at hc;rcases hc with rfl|rfl
  ·exact N1 _
  ·exact L9 _
 have m:f.heap.objs.size+1≠f.heap.objs.size:=Nat.succ_ne_self _;rcases q with⟨y,q⟩|⟨y,q⟩
 ·obtain⟨b,n,pt,_⟩:=l.tuple y;have t:f.heap.IsTuple j b.toArray:=pt;have u:j<f.heap.objs.size:=by obtain⟨_,g,_⟩:=t;exact Ly g
  refine xX t λh' w hit z=>wpAny_pyIter_enum w ?_
  have C:Inv X pins σ H1 { f with heap:=h' }:=l.kept (t':=f.toks) z;refine⟨_,_,_,_,H1,rfl,C,sA (a:=j) (S:=λi h=>h.IsTupleIter f.heap.objs.size j i) (B:=λh b=>h.IsTuple j b) m (Mj (Mg u)) (λA D b=>mw D f.heap.objs.size j (LC u) b)
   (λX' _ _ hK {_ _ _ _ _} I h=>?_) (λX' _ _ hK {_ _ _ _ _ _} I h1 h2=>?_) (λi h st=>?_) (λi h E st k=>?_),⟨⟨_,w⟩,hit⟩,λc hc=>l.fpOk (big c hc) (l.hok.fresh (big c hc)),q⟩
  ·rw[<-hK]at h;obtain⟨b,n,p,_⟩:=I.tuple h;exact⟨b,n,p⟩
  ·rw[<-hK]at h1 h2;exact I.tuple_inj h1 h2
  ·obtain⟨o,g,_,d⟩:=st;exact⟨o,g,λv q=>by rw[d]at q;cases q⟩
  ·obtain⟨o,g,r⟩:=st;exact⟨o,k o g,r⟩
 ·obtain⟨b,n,pl,_⟩:=l.list y;have u:j<f.heap.objs.size:=by obtain⟨_,_,g,_⟩:=pl;exact Ly g
  refine call_enumerate_list pl.isList λh' w hit hz z=>wpAny_pyIter_enum w ?_
  have C:Inv X pins σ H1 { f with heap:=h' }:=l.kept (t':=f.toks) z;refine⟨_,_,_,_,H1,rfl,C,sA (a:=j) (S:=λi h=>h.IsListIter f.heap.objs.size j i) (B:=λh b=>h.IsList j b) m (Mj (Mg u)) (λA D b=>Draws.list D f.heap.objs.size j (LC u) b)
   (λX' _ _ hK {_ _ _ _ _} I h=>?_) (λX' _ _ hK {_ _ _ _ _ _} I h1 h2=>?_) (λi h st=>?_) (λi h E st k=>?_),⟨⟨_,w⟩,hit⟩,λc hc=>l.fpOk (big c hc) (l.hok.fresh (big c hc)),q⟩
  ·rw[<-hK]at h;obtain⟨b,n,p,_⟩:=I.list h;exact⟨b,n,p.isList⟩
  ·rw[<-hK]at h1 h2;exact I.list_inj h1 h2
  ·obtain⟨o,g,_,d⟩:=st;exact⟨o,g,λv q=>by rw[d]at q;cases q⟩
  ·obtain⟨o,g,r⟩:=st;exact⟨o,k o g,r⟩
def fe (ds:List PyData):List PyData:=ds.mapIdx λi d=>.tuple [.int i,d]
theorem iI (ds:List PyData):(fe ds).length=ds.length:=by simp[fe]
theorem rV {f:Hp->List V->Prop} (h:Iss K G ds xs) (a:∀H1,av G H1->f H1 xs):zL K (Ite f xs.length) (fe ds) G:=λH1 B s j hB=>by have hl:=h.length;rw[iI];refine⟨λi hi=>⟨by omega,xs,a H1 s,rfl⟩,⟨hl.symm,xs,a H1 s,rfl⟩,λi x H2 hi y=>?_⟩;obtain⟨t,x0,rfl,c,rfl,l⟩:=y;obtain⟨d,e,hd⟩:=h.get (l xs (a H1 s));refine⟨bD c,.tuple [.int i,d],by unfold fe;rw[MH,e];rfl,?_⟩;have m:t∉B:=j.new c;exact ig (by rw[aL m];exact aG) (cq bL (iS (hd.same (λb o q=>by have g:=s b o q;have n:b≠t:=aI g c;rw[aL (λz=>by rw[hB b z]at q;cases q),ay n];exact g))))
section
variable {E:XK} {a b c k:Expr} {gk:Ds->Rs PyData} {es:List Expr}
def oQ:List PyData->Rs (List PyData)
 |[.list ds]=>.ok (fe ds)
 |[.tuple ds]=>.ok (fe ds)
 |_=>.no
def eK (g:Ds->Rs (List PyData)):Ds->Rs (List PyData):=λδ=>(g δ).bind oQ
theorem Dv (hm:X.mg "enumerate"=none) (ha:PAD X E [a] gs) (f:Gl X "enumerate") (g:starEach [a] X.env=[(false,eval a X.env)]) :
  PID X E (.Tuple elts x1 tp) (.Call (.Name "enumerate" p) [a] [] pos) (eK gs):=(D5 f hm ha.1 g).imp λσ H R ⟨A,δ,Rp,o⟩=>xB Rp o λds vs H1 e s1 R1 h1 o=>by
 unfold oQ at o;split at o
 ·obtain⟨v,rfl,h⟩:=kG h1;obtain⟨p,xs,rfl,b,c⟩:=h.ofLst;exact⟨p,xs,rfl,.inr ⟨SqL.of (aw _ _ b),o _ H1 (av.refl _) (rV c λH2 s2=>SqL.of (s2 _ _ b))⟩⟩
 ·obtain⟨v,rfl,h⟩:=kG h1;obtain⟨p,xs,rfl,b,c⟩:=h.ofTup;exact⟨p,xs,rfl,.inl ⟨SqT.of (aw _ _ b),o _ H1 (av.refl _) (rV c λH2 s2=>SqT.of (s2 _ _ b))⟩⟩
 ·exact o.elim
def i4 (y x:Nat) (gk:Ds->Rs PyData):Ds->Sr:=λδ=>match δ[y]?,δ[x]? with
 |some (some (.list ys)),some (some (.list xs))=>ofR (gk δ) λk=>match k with
  |.int k=>if -(1000000)<=k/\k<=1000000/\ys.length<1000000 then (match ixN xs.length k with
   |some j=>match xs[j]? with
    |some d=>.nx ((δ.set x (some (.list (xs.eraseIdx j)))).set y (some (.list (ys++[d]))))
    |none=>.no
   |none=>.no) else .no
  |_=>.no
 |_,_=>.no
theorem xJ {y x:Nat} {a nx:Str} {t L v b h c:Pos} (hk:PD X E k gk) (B:x≠y) (i:y∈O) (l:x∈O) (M:X.N[y]?=some a) (P:X.N[x]?=some nx)
  (Q:Vis X.env.scope a) (S:Vis X.env.scope nx)
  (T:(a==("__debug__":Str))=false) (G:(a==("__classdict__":Str))=false) (U:(nx==("__debug__":Str))=false) (I:(nx==("__classdict__":Str))=false)
  (J:starEach [k] X.env=(false,eval k X.env)::starEach [] X.env) (g:starEach [.Call (.Attribute (.Name nx b) "pop" h) [k] [] c] X.env=(false,eval (.Call (.Attribute (.Name nx b) "pop" h) [k] [] c) X.env)::starEach [] X.env)
  (m:attributeBase (.Name nx b) "pop" X.env (eval (.Name nx b) X.env)=eval (.Name nx b) X.env) (e:attributeBase (.Name a t) "append" X.env (eval (.Name a t) X.env)=eval (.Name a t) X.env)
  (K:((backTo c (starEach [k] X.env)).all (λx=>!x.1)&&(backToKw c (keywordEach [] X.env)).all (λx=>x.1.isSome)&&decide (([k]:List Expr).length+([]:List Keyword).length+(if ([]:List Keyword).isEmpty then 0 else 1)<30))=true)
  (n:((backTo v (starEach [.Call (.Attribute (.Name nx b) "pop" h) [k] [] c] X.env)).all (λx=>!x.1)&&(backToKw v (keywordEach [] X.env)).all (λx=>x.1.isSome)&&decide (([.Call (.Attribute (.Name nx b) "pop" h) [k] [] c]:List Expr).length+([]:List Keyword).length+(if ([]:List Keyword).isEmpty then 0 else 1)<30))=true)
  (q:(h.endLine==c.line)=true) (f:(L.endLine==v.line)=true)
  (hs:swapsWith (.Call (.Attribute (.Name a t) "append" L) [.Call (.Attribute (.Name nx b) "pop" h) [k] [] c] [] v) none pos.line X.env=pure false) :
  PSD X E O (.Expr (.Call (.Attribute (.Name a t) "append" L) [.Call (.Attribute (.Name nx b) "pop" h) [k] [] c] [] v) pos) (i4 y x gk) :=
 (nK (Ct PySem.F.plainAttrs_list PySem.F.slot_list_append PySem.F.type_list_append mG (kK M Q T G) (d7 (Ct PySem.F.plainAttrs_list PySem.F.slot_list_pop PySem.F.type_list_pop CJ (kK P S U I) (d7 hk fR J) m K q J rfl) fR g) e n f g rfl) hs).imp λD σ H W=>by
  obtain⟨H0,A0,A,δ,R,o⟩:=W;unfold i4 at o;split at o
  ·rename_i ys xs Y Z;obtain⟨p,vy,dy,e1,hp,hl,e2,hx⟩:=R.ownL i Y;cases e2;obtain⟨r,vx,dx,f1,hr,hm,f2,hz⟩:=R.ownL l Z;cases f2;have npr:p≠r:=λz=>B (R.inj x y _ _ p l i Z Y (by rw[z];exact f1) e1)
   refine⟨_,e1,tyL hl,_,f1,tyL hm,?_⟩;refine eD.run R.full (λkd ek u H1 s R1 hu=>?_) (λC et H' s'=>by rw[et]at o;exact o H' (R.same.trans s')) (λet=>by rw[et]at o;exact o);simp only[ek,az]at o;split at o
   ·rename_i kk;split at o
    ·rename_i hb;split at o
     ·rename_i j hj;split at o
      ·rename_i d hd;obtain⟨w,hw,hwd⟩:=hz.getD hd;have hj':=hj;obtain⟨g1,g2,g3,g4⟩:=tE hj;have RS:=R.step s;have RS2:=RS.put (ds:=xs.eraseIdx j) (ys:=vx.eraseIdx j) l Z f1 hr ((hz.same s.del).eraseIdx j);refine⟨r,vx,kk,j,w,rfl,by rw[hu.ofInt],s _ _ hm,by omega,by omega,by rw[hz.length];exact g1,hw,?_⟩;have dU:del (upd H1 r (.lst (vx.eraseIdx j))) (A++A0)=del H1 (A++A0):=jU (LZ _ hr);refine⟨p,vy,w,rfl,rfl,by rw[ay npr];exact s _ _ hl,by rw[hx.length,sizeLine_eq];omega,?_⟩;refine o A _ _ (RS2.put (ds:=ys++[d]) i (by rw[LX B];exact Y) e1 hp ?_);rw[dU];exact (hx.same s.del).append (iS (hwd.same s.del))
      ·exact o.elim
     ·exact o.elim
    ·exact o.elim
   ·exact o.elim
  ·exact o.elim
end
theorem u7:isSubtype (.type "tuple") (.type "set")=pure false:=by rw[isSubtype_type];kernel_rfl
theorem u5:isSubtype (.type "tuple") (.type "frozenset")=pure false:=by rw[isSubtype_type];kernel_rfl
section
variable {A:Around}
def seen (ns:List Int) (n:Nat):List Int:=firstMet (λi=>ns.getD i 0) n
theorem z0 {a:Array Value} (G:A.handled=none) (H:s.heap.IsTuple f a) (hi:IntsAre a.toList ns) (l:a.size+1<scanBound)
  (I:∀(h':Heap) (tk:Nat),h'.SetOf (intKind prog w) s.heap.objs.size (λk=>(seen ns a.size).any (·==k)) (seen ns a.size).length->(∀b o,b<s.heap.objs.size->s.heap.get? b=some o->h'.get? b=some o)->Q (.ref s.heap.objs.size) { s with heap:=h',toks:=tk }) :
  wpAny (model prog w) A (call (.type "set") [.ref f]) Q E s:=by
 obtain⟨c,tl,mro⟩:=PySem.F.called_set.mro;have m1:=PySem.F.called_set.made;have m2:=PySem.F.called_set.sub;refine wpAny_call (codeAny_of_tree ?_);show wpAny _ _ (callAny (.type "set") _) _ _ _;refine wpAny_pure ⟨Code.quiet_builtin _ (by decide +kernel),codeAny_builtin PySem.F.entry_type_call ?_⟩;rw[Around.under_plain (weight_type_call_type "set" [.ref f] []) rfl];have m3:=PySem.F.called_set.notType;have m4:=PySem.F.called_set.canCreate;have m5:=PySem.F.typeCall_set_1 (.ref f)
 repeat (any_goals (first|assumption|wp_step))
 refine codeAny_mono (PySem.code_set_new_1 (.ref f) (E:=E) (Q₁:=λy z=>∃led:Bool,y=.ref s.heap.objs.size/\z={ s with heap:=s.heap.push { cls:=.type "set",dict:=none,data:=.set #[] 0 (.fresh 0 0 led) } }) λled=>⟨led,rfl,rfl⟩) λr z n=>?_
 cases r with
 |error ev=>exact n
 |ok fl =>
  cases fl with
  |ret y =>
   obtain⟨led,rfl,rfl⟩:=n;have B:(s.heap.push { cls:=.type "set",dict:=none,data:=.set #[] 0 (.fresh 0 0 led) }).get? s.heap.objs.size=some { cls:=.type "set",dict:=none,data:=.set #[] 0 (.fresh 0 0 led) }:=LF _ rfl;have J:Shared.TypeIs { s with heap:=s.heap.push { cls:=.type "set",dict:=none,data:=.set #[] 0 (.fresh 0 0 led) } } (.ref s.heap.objs.size) "set":=⟨_,B,rfl⟩
   have m6:=PySem.F.called_set.init.lookup;have m7:=PySem.F.called_set.init.bind (.ref s.heap.objs.size)
   repeat (any_goals (first|assumption|wp_step))
   refine codeAny_mono (codeAny_call_builtin (R:=wants (λC s2=>C=.none/\∃h' tk,s2={ s with heap:=h',toks:=tk }/\h'.SetOf (intKind prog w) s.heap.objs.size (λk=>(seen ns a.size).any (·==k)) (seen ns a.size).length /\
     (∀b o,b<s.heap.objs.size->s.heap.get? b=some o->h'.get? b=some o)) E) PySem.F.called_set.init.plain PySem.F.entry_set_init (PySem.check_set_init_1 J ?_)) λK s2 g=>?_
   ·obtain⟨⟨oc,od,oda,osl⟩,go,gc,p,D⟩:=H;simp only at gc D;subst gc;subst D;have go':(s.heap.push { cls:=.type "set",dict:=none,data:=.set #[] 0 (.fresh 0 0 led) }).get? f=some { cls:=.type "tuple",dict:=od,data:=.seq a p,slots:=osl }:=L1 _ go;have n1:=u7;have n2:=u5;have n3:(Value.type "tuple"==Value.type "dict")=false:=by decide
    have L:(s.heap.push { cls:=.type "set",dict:=none,data:=.set #[] 0 (.fresh 0 0 led) }).IsTuple f a:=⟨_,go',rfl,p,rfl⟩
    unfold Builtin.«set.__init__» noKeywords Builtin.Frozenset.updateFrom;generalize zz:pyIter=PI
    wp_walk
    subst zz;refine wpAny_pyIter_tuple L (wpAny_bind (wpAny_runValue ?_));have j:f<s.heap.objs.size:=Ly go;have M:A.in1.in1.in1.handled=none:=by simp[G]
    have ne1:f≠(s.heap.push { cls:=.type "set",dict:=none,data:=.set #[] 0 (.fresh 0 0 led) }).objs.size:=by rw[Heap.size_push];exact LC (Mg j)
    have q:s.heap.objs.size∉[(s.heap.push { cls:=.type "set",dict:=none,data:=.set #[] 0 (.fresh 0 0 led) }).objs.size,f]:=by rw[Heap.size_push];simp only[L7,Lx,LL,or_false,not_or];exact⟨LC (My _),Mj j⟩
    have N:∀(i:Nat) (v:Value),a[i]?=some v->∃t,v=.int ((λi=>ns.getD i 0) i) t:=λi v hv=>IntsAre.int_at hi i v (by rw[Nh];exact hv)
    refine codeAny_set_update_loopS ((Walks.tuple M _ f ne1 a).toS) s.heap.objs.size q (λi=>ns.getD i 0) N l (a.size-0) 0 _ (by omega) (Me _) ⟨⟨_,LF _ rfl,rfl,rfl⟩,⟨_,L1 _ go',rfl,p,rfl⟩⟩ ?_ ?_
    ·have O:((s.heap.push { cls:=.type "set",dict:=none,data:=.set #[] 0 (.fresh 0 0 led) }).push { cls:=.type "tuple_iterator",data:=.fields #[.ref f,.int 0 0] }).get? s.heap.objs.size=some { cls:=.type "set",dict:=none,data:=.set #[] 0 (.fresh 0 0 led) }:=L1 _ B;exact SetOf_congr ((setObjOf_fresh (knd:=intKind prog w) led).setOf O (by unfold scanBound;omega)) (λ_=>rfl) rfl
    ·intro s' m h;obtain⟨h',g',d',u,x⟩:=s';have e1:g'=s.gens:=m.gens;have e2:d'=s.drawn:=m.drawn;have P:x=s.os:=m.os;subst e1;subst e2;subst P;show wpAny _ _ _ _ _ _;refine wpAny_pure ?_;show wpAny _ _ (ret Value.none) _ _ _;refine wpAny_pure ⟨rfl,h',u,rfl,h,λb o l e=>?_⟩;have S:b≠(s.heap.push { cls:=.type "set",dict:=none,data:=.set #[] 0 (.fresh 0 0 led) }).objs.size:=by rw[Heap.size_push];exact LC (Mg l)
     exact m.heap b o (by simp only[L7,Lx,LL,or_false,not_or];exact⟨LC l,S⟩) (L1 _ (L1 _ e))
   ·cases K with
    |error ev=>exact g
    |ok fl2 =>
     cases fl2 with
     |ret C =>
      obtain⟨rfl,h',tk,rfl,h,T⟩:=g
      repeat (any_goals (first|assumption|wp_step))
      exact I _ _ h T
     |_=>exact g.elim
  |_=>exact n.elim
end
section
variable {E:XK} {a b c:Expr} {gc:Ds->Rs PyData} {es:List Expr}
theorem GW:bootBuiltins "set"=some (.type "set"):=by decide +kernel
def tLS (K:PySem.W.Frag) (ta:TA):TE:=λσ H Q=>ta σ H λvs H1=>∃(p:Addr) (ns:List Int),vs=[.ref p]/\SqT K H1 p (ns.map V.int)/\ns.length<=1000/\Q (.int (seen ns ns.length).length) H1
theorem Ai {c:Pos} (hc:X.calm=true) (y:Gl X "set") (hm:X.mg "set"=none) (i:Gl X "len") (j:X.mg "len"=none) (ha:PA X [a] ta) (z:starEach [a] X.env=[(false,eval a X.env)]:=by rfl)
  (f:starEach [.Call (.Name "set" p) [a] [] pos] X.env=(false,eval (.Call (.Name "set" p) [a] [] pos) X.env)::starEach [] X.env:=by rfl) (l:(backTo c (starEach [] X.env)).any (·.1)=false:=by rfl) :
  PE X (.Call (.Name "len" p2) [.Call (.Name "set" p) [a] [] pos] [] c) (tLS X.K ta):=by
 intro pins s σ H Q I h;refine wpAny_Call_Name_kw (fQ I i j PySem.boot_len ?_);refine PyProof.Rows.callWith_builtin1 ?_ f l;rw[f];show wpAny _ _ (spliced ((false,eval (.Call (.Name "set" p) [a] [] pos) X.env)::backTo c [])) _ _ s;refine Calls.spliced_cons (Call_ (fQ I y hm GW (PyProof.Rows.callWith_type1 (thn (ha pos pins s σ H _ I h) λus v m=>?_) z rfl)));obtain⟨vs,H1,n,A,B⟩:=m;obtain⟨q,ns,e,C,hz,fin⟩:=B;subst e;obtain⟨u,rfl,D⟩:=vals1 A;cases D;obtain⟨g,w,pt,_⟩:=n.tuple C;have hl:=w.length;rw[L5]at hl;refine z0 (n.ok.hd hc) (show v.heap.IsTuple q g.toArray from pt) (intsAre_of w) (by rw[Lz];unfold scanBound;omega) λh' tk x E=>Calls.spliced_nil ?_
 have F:Inv X pins σ H1 { v with heap:=h',toks:=tk }:=n.kept λb o e=>E b o (Ly e) e
 have r:g.toArray.size=ns.length:=by rw[Lz];exact hl.symm
 rw[r]at x;obtain⟨o,es',ep,t,G,ex,hd,_,_,J,L,hsz⟩:=x;refine PySem.call_len_set G ex hd L (by unfold scanBound at J;omega) ⟨.int (seen ns ns.length).length,H1,F.tok _,⟨_,by rw[hsz]⟩,fin⟩
def k8:List PyData->Option PyData
 |[.tuple x]=>(gX x).bind λns=>if ns.length<=1000 then some (.int (seen ns ns.length).length) else none
 |_=>none
theorem Al {b:Pos} (hc:X.calm=true) (hm:X.mg "set"=none) (c:X.mg "len"=none) (ha:PAD X E [a] gs) (l:Gl X "set") (f:Gl X "len") (m:starEach [a] X.env=[(false,eval a X.env)])
  (g:starEach [.Call (.Name "set" p) [a] [] pos] X.env=(false,eval (.Call (.Name "set" p) [a] [] pos) X.env)::starEach [] X.env) (h:(backTo b (starEach [] X.env)).any (·.1)=false) :
  PD X E (.Call (.Name "len" p2) [.Call (.Name "set" p) [a] [] pos] [] b) (gF k8 gs):=(Ai hc l hm f c ha.1 m g h).imp λσ H Q ⟨A,δ,R,o⟩=>rP R o λds vs H1 e s1 R1 h1 o=>by
 unfold k8 at o;split at o
 ·rename_i x;cases q:gX x with
  |none=>rw[q]at o;exact o.elim
  |some ns =>
   rw[q]at o;obtain⟨v,rfl,n⟩:=kG h1;obtain⟨p,xs,rfl,i,j⟩:=n.ofTup;rw[eI q]at j;rw[j.ofInts]at i;by_cases z:ns.length<=1000
   ·simp only[MU,if_pos z]at o;exact⟨p,ns,rfl,SqT.of (aw _ _ i),z,o _ H1 (av.refl _) bL⟩
   ·simp only[MU,if_neg z]at o;exact o.elim
 ·exact o.elim
end
open AutoSeq1 (wpAny_loadPart')
open SeqAt (EqAt)
theorem vi {prog:Program} {w:World} {A:Around} {E:Value->Shared->Prop} {s:Shared} {a:Array Value} {x:Value} {e:Value->Bool} {j:Nat} {Q:Option PySem.Fin×Unit->Shared->Prop} (f:j<a.size) (hit:e a[j]=true) (c:∀m (hm:m<a.size),m<j->e a[m]=false)
  (g:∀y,y∈a->EqAt A s y x (e y)) (h:Q (some (.done (.ret (.int j s.toks))),()) { s with toks:=s.toks+1 }):∀(k i m:Nat),i+k=j->j<i+m ->
  wpAny (model prog w) A (forIn (List.range' i m) ((none:Option PySem.Fin),()) λ(i:Nat) _=>match a[i]? with
   |some y=>do
    let b <-eqBool y x
    if b=true then do
      let r <-retInt (i:Int)
      pure (ForInStep.done (some r,()))
     else pure (ForInStep.yield (none,()))
   |_=>pure (ForInStep.yield (none,()))) Q E s
 |0,i,0,h1,h2=>by omega
 |0,i,m+1,h1,h2=>by
  have:i=j:=by omega
  subst this;rw[Nv,N7];have q:a[i]?=some a[i]:=by simp[f]
  simp only[q];refine wpAny_bind (wpAny_bind (g _ (Array.getElem_mem f) prog w _ _ ?_));rw[hit,if_pos rfl];unfold retInt;exact wpAny_bind (wpAny_bind (wpAny_mkInt (wpAny_pure (wpAny_pure (wpAny_pure h)))))
 |k+1,i,0,h1,h2=>by omega
 |k+1,i,m+1,h1,h2=>by
  have hi:i<a.size:=by omega
  rw[Nv,N7];have q:a[i]?=some a[i]:=by simp[hi]
  simp only[q];refine wpAny_bind (wpAny_bind (g _ (Array.getElem_mem hi) prog w _ _ ?_));rw[c i hi (by omega),if_neg LK];exact wpAny_pure (vi f hit c g h k (i+1) m (by omega) (by omega))
theorem Ad (c:Addr) (a:Array Value) (n:Nat) (dd:Option Addr) (f:Array (Option Value)) (x:Value) (e:Value->Bool) (j:Nat) (h:j<a.size) (hit:e a[j]=true) (b:∀m (hm:m<a.size),m<j->e a[m]=false) :
  Meets (Builtin.«tuple.index» ⟨[.ref c,x],[]⟩)
   (λA R s=>s.heap.get? c=some { cls:=.type "tuple",dict:=dd,data:=.seq a n,slots:=f }/\(∀y,y∈a->EqAt A.in1 s y x (e y))/\R (.ok (.ret (.int j s.toks))) { s with toks:=s.toks+1 }):=by
 intro prog w A R s i;obtain⟨hp,g,d,tk,os⟩:=s;obtain⟨hl,l,o⟩:=i;unfold Builtin.«tuple.index»;simp only[Std.Legacy.Range.forIn_eq_forIn_range',Std.Legacy.Range.size];generalize hF:(@forIn Sem (List Nat))=F
 wp_walk using wpAny_loadPart' hl
 subst hF;refine vi h hit b l ?_ j 0 _ (by omega) (by simp;omega);exact wpAny_pure o
section
variable {E:XK} {a o:Expr} {go:Ds->Rs PyData} {es:List Expr}
def HY:V->List V->Hp->VK->Prop:=λx vs H Q=>∃l xs y j,x=.ref l/\vs=[y]/\H l=some (.tup xs)/\jc y=true/\xs.all jc=true/\(xs.findIdx? λz=>eqV z y)=some j/\Q (.int j) H
def tIx (to:TE) (t:TA):TE:=λσ H Q=>to σ H λx H1=>(∃l xs,x=.ref l/\H1 l=some (.tup xs))/\t σ H1 λvs H2=>HY x vs H2 Q
theorem Br {to:TE} {t:TA} {apos:Pos} (U:PE X o to) (ha:PA X [e] t) (c:attributeBase o "index" X.env (eval o X.env)=eval o X.env:=by rfl)
  (r:((backTo cpos (starEach [e] X.env)).all (λx=>!x.1)&&(backToKw cpos (keywordEach [] X.env)).all (λx=>x.1.isSome)&&decide (([e]:List Expr).length+([]:List Keyword).length+(if ([]:List Keyword).isEmpty then 0 else 1)<30))=true:=by rfl)
  (f:(apos.endLine==cpos.line)=true:=by rfl) (W:starEach [e] X.env=(false,eval e X.env)::starEach [] X.env:=by rfl) (b:(backTo cpos (starEach [] X.env)).any (·.1)=false:=by rfl) :
  PE X (.Call (.Attribute o "index" apos) [e] [] cpos) (tIx to t):=by
 intro pins s σ H Q I h;refine wpAny_Call_method_late c r f rfl (thn (U pins s σ H _ I h) λv Y g=>?_);obtain⟨x,H1,O,Z,⟨l,xs,hx,hl⟩,q1⟩:=g;subst hx;cases Z;obtain⟨P,its,rv,R,ge,gc,gd,n,gq⟩:=O.hok l _ hl;refine⟨"tuple", "tuple.index",PySem.F.plainAttrs_tuple,PySem.F.slot_tuple_index,PySem.F.type_tuple_index,⟨R,ge,gc⟩,λa ea=>by cases ea;exact⟨R,ge,gd⟩,?_⟩;have S:=ha cpos pins Y σ H1 _ O q1;rw[W]at S ⊢;refine Calls.callWith_builtin (by show (false||(backTo cpos (starEach [] X.env)).any (·.1))=false;rw[b];rfl) (Calls.evalArgs_plain ?_);refine thn S λus s2 g=>?_
 obtain⟨vs,H2,T,r2,q2⟩:=g;obtain⟨l',i,y,j,e1,e2,D,fy,fs,hj,q⟩:=q2;cases e1;subst e2;obtain⟨hz',its',p,E,w,A,B,n',C⟩:=T.hok l _ D;obtain⟨u,rfl,ru⟩:=vals1 r2;obtain⟨oc,od,oda,osl⟩:=E;simp only at A B C;subst A B C;have hlen:=p.length;obtain⟨G,J,K⟩:=List.findIdx?_eq_some_iff_getElem.mp hj;have at':∀(m:Nat) (hm:m<i.length),eqU y (its'[m]'(by omega))=eqV i[m] y:=λm hm=>by
  obtain⟨w',hw,L⟩:=p.get (L0 hm);have:its'[m]'(by omega)=w':=by have h2:=L0 (show m<its'.length by omega);rw[h2]at hw;exact Option.some.inj hw
  rw[this];exact xP L (LD.mp fs _ (LY hm))
 refine call_meets PySem.F.slot_tuple_index ⟨_,w,rfl⟩ PySem.F.entry_tuple_index (PySem.F.args_tuple_index_2 _ _) (Ad l its'.toArray n' none osl u (eqU y) j (by simp;omega) (by simpa[at' j G] using J) (λm hm M=>?_)) ⟨w,λz P=>kX ru fy p fs z (by simpa using P),⟨.int j,H2,T.tok _,⟨_,rfl⟩,q⟩⟩;have N:m<i.length:=by simp at hm;omega
 have:=K m M;simpa[at' m N] using this
def me (xs:List PyData) (y:PyData):Option PyData:=if fO y&&xs.all fO then ((xs.map toV).findIdx? λz=>eqV z (toV y)).map λj=>.int j else none
def uy (go ga:Ds->Rs PyData):Ds->Rs PyData:=λδ=>(go δ).bind λd=>match d with
 |.tuple xs=>(ga δ).bind λy=>Rs.eO (me xs y)
 |_=>.no
theorem DF {apos:Pos} (r:PD X E o go) (ha:PD X E e ga) (c:attributeBase o "index" X.env (eval o X.env)=eval o X.env)
  (h:((backTo cpos (starEach [e] X.env)).all (λx=>!x.1)&&(backToKw cpos (keywordEach [] X.env)).all (λx=>x.1.isSome)&&decide (([e]:List Expr).length+([]:List Keyword).length+(if ([]:List Keyword).isEmpty then 0 else 1)<30))=true)
  (f:(apos.endLine==cpos.line)=true) (l:starEach [e] X.env=(false,eval e X.env)::starEach [] X.env) (b:(backTo cpos (starEach [] X.env)).any (·.1)=false) :
  PD X E (.Call (.Attribute o "index" apos) [e] [] cpos) (uy go ga):=(Br r (d7 ha fR l) c h f l b).imp λσ H Q i=>by
 obtain⟨A,δ,R,a⟩:=i;unfold uy at a;refine eD.run R (λd1 e1 v H1 m s h1=>?_) (λC g H' s'=>by rw[g]at a;exact a H' s') (λg=>by rw[g]at a;exact a);simp only[e1,Rs.ag]at a;cases d1 with
 |tuple xs =>
  obtain⟨p,vs,rfl,n,t⟩:=h1.ofTup;refine⟨⟨p,vs,rfl,aw _ _ n⟩,?_⟩;have a:gR X.K E A H ((ga δ).bind λy=>Rs.eO (me xs y)) Q:=a;refine eD.run s (λd2 e2 u H2 s2 R2 h2=>?_) (λC g H' s'=>by rw[g]at a;exact a H' (m.trans s')) (λg=>by rw[g]at a;exact a);simp only[e2,Rs.ag]at a;unfold me at a;split at a
  ·rename_i z;rw[L8]at z;obtain⟨f1,f2⟩:=h2.flat z.1;obtain⟨w,B⟩:=t.flat z.2;cases q:((xs.map toV).findIdx? λz=>eqV z (toV d2)) with
   |none=>rw[q]at a;exact a.elim
   |some j =>rw[q]at a;exact⟨p,vs,u,j,rfl,rfl,s2 _ _ (aw _ _ n),f2,B,by rw[f1,w];exact q,a _ H2 (m.trans s2) bL⟩
  ·exact a.elim
 |_=>exact a.elim
end
end L2
namespace L2
open PySem PySem.Spec PyProof.Rows
def we:List Int->Option Int
 |[]=>none
 |x::r=>some (r.foldl (λa b=>if b>a then b else a) x)
theorem fold_max:∀(r:List Int) (x:Int),(r.foldl (λa b=>if b>a then b else a) x)∈x::r/\∀a∈x::r,a<=r.foldl (λa b=>if b>a then b else a) x
 |[],x=>⟨L6,λa ha=>by cases Lx.mp ha;exact MJ _⟩
 |y::r,x=>by
  obtain⟨h1,h2⟩:=fold_max r (if y>x then y else x);rw[N6];have c:=h2 _ L6;refine⟨?_,λa ha=>?_⟩
  ·rcases L7.mp h1 with z|z
   ·rw[z];split <;> simp
   ·exact L3 _ (L3 _ z)
  ·have e:x<=(if y>x then y else x):=by split <;> omega
   have f:y<=(if y>x then y else x):=by split <;> omega
   rcases L7.mp ha with rfl|ha
   ·exact Int.le_trans e c
   ·rcases L7.mp ha with rfl|ha
    ·exact Int.le_trans f c
    ·exact h2 a (L3 _ ha)
theorem EF {M m:Int} (h1:M∈ns) (h2:∀a∈ns,a<=M) (e:we ns=some m):M=m:=by
 cases ns with
 |nil=>cases e
 |cons x r =>cases e;obtain⟨g1,g2⟩:=fold_max r x;have a1:=h2 _ g1;have a2:=g2 _ h1;omega
section
variable {E:XK} {a:Expr} {es:List Expr}
theorem EU:bootBuiltins "max"=some (.builtin "max"):=by decide +kernel
theorem EB:bootBuiltins "min"=some (.builtin "min"):=by decide +kernel
end
section
variable {E:XK}
end
section
variable {E:XK} {a b c:Expr} {gc:Ds->Rs PyData}
end
section
variable {E:XK} {a:Expr} {es:List Expr}
end
section
variable {E:XK} {a:Expr}
end
end L2
namespace PyProof.Rows
open PySem
section
variable {A:Around}
end
end PyProof.Rows
namespace L2
open PySem PySem.Spec PyProof.Rows
section
variable {E:XK} {a:Expr} {es:List Expr}
end
end L2
namespace L2
open PySem PySem.Spec PySem.Calls PyProof.Rows PySem.W PySem.Builtin PySem.Builtin.ObjectAttr PySem.Builtin.Getset_descriptor
section
variable {A:Around} {K:Frag} {x:Addr} {ox:Obj}
structure Gx (h:Heap) (x:Addr) (D:Addr):Prop where
 ex:∃o,h.get? x=some o/\o.cls=.ref D
theorem Gx.type {M:Model} (I:Gx h x D):Looks M h (typeOf (.ref x)) (.ref D):=by obtain⟨o,h1,h2⟩:=I.ex;exact h2▸(Looks.ld h1).andThen .now
end
end L2
namespace L2
open PySem PySem.Spec PyProof.Rows
section
variable {E:XK} {ea:Addr} {oe:Obj}
end
section
variable {E:XK} {ea:Addr} {oe:Obj}
end
section
variable {E:XK} {a b:Expr} {es:List Expr}
def jh (f:Str):List (PyData×PyData)->Option PyData
 |[]=>none
 |(k,d)::r=>match k with
  |.str g=>if g=f then some d else jh f r
  |_=>none
def bq (C:Addr) (f:Str):PyData->Option PyData
 |.dict (k::r)=>match k with
  |(.str z,.int c)=>if z=""/\c=(C:Int) then jh f r else none
  |_=>none
 |_=>none
theorem Isk.jh {K:PySem.W.Frag} {H:Hp}:∀{r:List (PyData×PyData)} {fs:List (Str×V)} {f:Str} {d:PyData},Isk K H r fs->L2.jh f r=some d->∃v,fs.lookup f=some v/\Is K H d v
 |[],_,f,d,_,l=>by simp[L2.jh]at l
 |(k,x)::r,fs,f,d,h,l=>by
  unfold Isk at h;obtain⟨g,v,fs',rfl,rfl,h1,h2⟩:=h;simp only[L2.jh]at l;rw[LU];by_cases z:g=f
  ·subst z;rw[if_pos rfl]at l;cases l;exact⟨v,by simp,h1⟩
  ·rw[if_neg z]at l;have:(f==g)=false:=by simpa using λq=>z q.symm
   rw[this];exact Isk.jh h2 l
theorem FF {f:Str} {d x:PyData} (t:f≠"@") (e:bq C f d=some x) (h:Is K H d v):∃a dx fs u,v=.ref a/\H a=some (.ins C dx fs)/\fs.lookup f=some u/\Is K H x u:=by
 unfold bq at e;split at e
 ·rename_i k r;split at e
  ·rename_i z c;split at e
   ·rename_i q;obtain⟨rfl,rfl⟩:=q;unfold Is at h;rcases h with (⟨a,ns,_,b,_⟩|⟨a,l,_,b,_⟩)|⟨a,p,dx,fs,s,h1,hn,h2|h2⟩
    ·injection b with b _;cases b
    ·rcases b with⟨m,b,_⟩|⟨m,b,_⟩ <;> first|(cases b;done)|(cases m <;> cases b)
    ·unfold Isk at h2;obtain⟨g,u,fs',e1,e2,j,n⟩:=h2;cases e1;have i:=j.ofInt;injection i with i
     obtain rfl:p=C:=Int.ofNat.inj i;obtain⟨u,l,o⟩:=n.jh e;exact⟨a,dx,fs,u,s,h1,l,o⟩
    ·unfold Isk at h2;obtain⟨g,u,fs',e1,e2,j,n⟩:=h2;cases e1;have i:=j.ofInt;injection i with i
     obtain rfl:p=C:=Int.ofNat.inj i;obtain⟨u,l,o⟩:=n.jh e;rw[LU,show (f==("@":Str))=false by simpa using t]at l;exact⟨a,dx,fs,u,s,h1,l,o⟩
   ·cases e
  ·cases e
 ·cases e
theorem HQ {f:Str} (cl:Cls X.K C) (n:eU X.K C f) (ha:PD X E a ga) (b:attributeBase a f X.env (eval a X.env)=eval a X.env) (c:f≠"@"):PD X E (.Attribute a f pos) (g1 (bq C f) ga) :=
 (IB ha b).imp λσ H Q ⟨A,δ,R,o⟩=>g1.read (tt:=λQ x H1=>∃a C dx fs v,x=.ref a/\H1 a=some (.ins C dx fs)/\Cls X.K C/\eU X.K C f/\fs.lookup f=some v/\Q v H1) R o λd1 d x H' e _ _ h k=>by obtain⟨p,dx,fs,u,rfl,g,l,i⟩:=FF c e h;exact⟨p,C,dx,fs,u,rfl,aw _ _ g,cl,n,l,k _ H' (av.refl _) i⟩
def Hq (C:Addr) (names:List Str):Sp:=λvs H Q _=>∃(x dx:Addr) (args:List V),vs=.ref x::args/\args.length=names.length/\H x=some (.ins C dx []) /\
 ∀H':Hp,(∀b,b≠x->H' b=H b)->H' x=some (.ins C dx (names.zip args))->Q .non H'
structure oJ (P:Program) (w:World) (K:PySem.W.Frag) (mg:Str->Option Value) (base:Heap) (k:Nat) (x:Str) (C:Addr) (names:List Str):Prop where
 ex:∃f fd ps,Mk K C f/\gj P w K mg base (CXW P w) k f fd ps (Hq C names)/\Binds K fd ps []/\mg x=some (.ref C)
def sj (C:Addr) (names:List Str):List PyData->Rs PyData:=λds=>if ds.length=names.length then .ok (DQ C (names.zip ds)) else .no
theorem sT {K:PySem.W.Frag} {H:Hp}:∀{names:List Str} {ds:List PyData} {vs:List V},Iss K H ds vs->Isk K H ((names.zip ds).map λp=>(.str p.1,p.2)) (names.zip vs)
 |[],_,_,_=>by simpa using nN
 |_::_,[],_,h=>by rw[h.nil_of];simpa using nN
 |n::ns,d::ds,_,h=>by obtain⟨v,r,rfl,h1,h2⟩:=h.cons_of;simp only[N9,L4];exact dS h1 (sT h2)
theorem xY {f:Str}:∀{names:List Str} {vs:List V},f∉names->(names.zip vs).lookup f=none
 |[],_,_=>rfl
 |_::_,[],_=>rfl
 |n::ns,v::vs,h=>by rw[N9,LU,show (f==n)=false by simpa using λq=>h (by rw[q];exact L6)];exact xY λq=>h (L3 _ q)
theorem F9 {k:Nat} (D:oJ X.prog X.w X.K X.mg X.base k x C names) (m:bY j X.A) (n:Passes (CXW X.prog X.w) X E) (ha:PAD X E (e::es) gs) (r:k+1<=j) (s:Gl X x)
  (a:(x==("__debug__":Str))=false) (t:starEach (e::es) X.env=(false,eval e X.env)::starEach es X.env) (c:(backTo pos (starEach es X.env)).any (·.1)=false) (hn:("@":Str)∉names) :
  PD X E (.Call (.Name x p) (e::es) [] pos) (aq (sj C names) gs):=by
 obtain⟨f,fd,ps,M,F,u,hm⟩:=D.ex;refine (yt M F (m.mono r) s hm u .nil n ha.1 a t c).imp λσ H Q g=>?_
 obtain⟨A,δ,R,o⟩:=g;refine rP R o λds vs H1 e s1 v h1 o=>?_
 unfold sj at o;split at o
 ·rename_i hl;intro x dx nx h ne;refine⟨x,dx,vs++[],rfl,by rw[Mi,h1.length,hl],aG,λH' k1 k2=>⟨rfl,?_⟩⟩;rw[Mi]at k2;have l:av H1 H':=λb q i=>by have n1:b≠x:=aI i nx;rw[k1 b n1,ay n1,ay (aI i h)];exact i
  refine o (.ref x) H' l (Hf (dx:=dx) (fs:=names.zip vs) ?_ (xY hn) (sT (h1.same l.del)));rw[aL (v.ls.new nx)];exact k2
 ·exact o.elim
def wt:PyData->PyData->Option PyData
 |.list x,.int d=>(gX x).map λns=>.int ((we ns).getD d)
 |_,_=>none
end
section
variable {A:Around} {R:Result->Shared->Prop} {I:Addr} {wr:List Addr} {T:Nat->Value->Prop} {St:Nat->Heap->Prop} {dv:Value}
theorem Co (a v:Value):argsOk "max" ⟨[a],[(Str.ofString "default",v)]⟩:=by unfold argsOk;kernel_rfl
theorem ux:(toString "max"++toString ".loop":String)="max.loop":=by decide
theorem qk (W:Walks prog w A.in1 I fp wr n T St) (g:Nat->Nat->Bool) (hc:CmpOf prog w A.in1 .Gt T g) (S:Addr) (m:S∉fp):∀(k j:Nat) (s:Shared) (f:Value) (c:Nat),n=j+1+k->St (j+1) s.heap->T (argBest g j) f ->
  s.heap.get? S=some { cls:=.type "list",dict:=none,data:=.seq #[f,f] c,slots:=#[] }->(∀v h' tk,T (argBest g (n-1)) v->(∀b o,b∉wr->b≠S->s.heap.get? b=some o->h'.get? b=some o)->R (.ok (.ret v)) { s with heap:=h',toks:=tk }) ->
  codeAny (model prog w) A (.builtin "max.loop" ⟨[.ref I,.none,.ref S],[(Str.ofString "default",dv)]⟩) R s
 |0,j,s,f,c,hn,hst,hb,hS,hR=>by
  have r:S∉wr:=λh=>m (W.sub _ h)
  refine codeAny_builtin F.entry_max_loop ?_;rw[Around.under_plainId F.plain_max_loop _];show wpAny _ A.in1 (seqItems? (.ref S) >>= _) _ _ s;refine wpAny_bind (wpAny_seqItems hS rfl ?_);show wpAny _ A.in1 (tryCatch (pyNext (.ref I)) _ >>= _) _ _ s;refine wpAny_bind (wpAny_tryCatch (W.done s _ _ (by rw[show n=j+1 from hn];exact hst) λh1 y k1=>?_));have a:=k1 S _ r hS;show wpAny _ A.in1 (updateSeq S (λ_=>#[]) >>= _) _ _ _;refine wpAny_bind (wpAny_updateSeq a rfl (wpAny_bind (wpAny_letGo (wpAny_pure ?_))));exact hR f _ y (by rw[show n-1=j by omega];exact hb) λb o i l z=>(Ma _ _ (Ne.symm l)).trans (k1 b o i z)
 |k+1,j,s,f,c,hn,hst,hb,hS,hR=>by
  have r:S∉wr:=λh=>m (W.sub _ h)
  refine codeAny_builtin F.entry_max_loop ?_;rw[Around.under_plainId F.plain_max_loop _];show wpAny _ A.in1 (seqItems? (.ref S) >>= _) _ _ s;refine wpAny_bind (wpAny_seqItems hS rfl ?_);show wpAny _ A.in1 (tryCatch (pyNext (.ref I)) _ >>= _) _ _ s;refine wpAny_bind (wpAny_tryCatch (W.item (j+1) s _ _ (by omega) hst λv h1 y hv p k1=>?_));have a:=k1 S _ r hS;show wpAny _ A.in1 (tryCatch (holding [v,v] (richCompare .Gt v f >>= _)) _ >>= _) _ _ _;refine wpAny_bind (wpAny_tryCatch (wpAny_holding (wpAny_bind (hc (j+1) (argBest g j) v f _ _ _ hv hb (wpAny_bind (wpAny_holding (wpAny_truthy_bool (wpAny_bind (wpAny_letGo (wpAny_pure ?_))))))))));cases q:g (j+1) (argBest g j) with
  |true =>
   rw[if_pos rfl];refine wpAny_bind (wpAny_updateSeq a rfl (wpAny_bind (wpAny_letGo ?_)));rw[ux];refine wpAny_pure ⟨plainId_quiet F.plain_max_loop _,qk W g hc S m k (j+1) _ v _ (by omega) (W.frame _ _ _ p λb t o e=>?_) (by unfold argBest;rw[q];exact hv) (MT _ a rfl) λu h2 x p2 k2=>?_⟩
   ·exact (Ma _ _ (λz:S=b=>m (z▸t))).trans e
   ·exact hR u h2 x p2 λb o i l z=>k2 b o i l ((Ma _ _ (Ne.symm l)).trans (k1 b o i z))
  |false =>rw[if_neg (by decide)];refine wpAny_bind (wpAny_letGo ?_);rw[ux];refine wpAny_pure ⟨plainId_quiet F.plain_max_loop _,qk W g hc S m k (j+1) _ f c (by omega) p (by unfold argBest;rw[q];exact hb) a λu h2 x p2 k2=>?_⟩;exact hR u h2 x p2 λb o i l z=>k2 b o i l (k1 b o i z)
variable {l:Addr} {xs:Array (Int×Tok)}
theorem A3 (t:A.handled=none) (hl:s.heap.IsList l (intItems xs))
  (u:xs.size=0->∀h' tk,(∀b o,s.heap.get? b=some o->h'.get? b=some o)->Q dv { s with heap:=h',toks:=tk })
  (h:0<xs.size->∀v h' tk,(intItems xs)[argBest (λi j=>decide (numAt xs i>numAt xs j)) (xs.size-1)]?=some v->(∀b o,s.heap.get? b=some o->h'.get? b=some o)->Q v { s with heap:=h',toks:=tk }) :
  wpAny (model prog w) A (call (.builtin "max") [.ref l] [(Str.ofString "default",dv)]) Q E s:=by
 refine kmk_tree F.kind_max F.plain_max F.entry_max (Co _ _) ?_;show wpAny _ A.in1 (Builtin.Builtins.bindParams "max" ["key", "default"] 0 ⟨[],[(Str.ofString "default",dv)]⟩ >>= _) _ _ s;refine wpAny_bind (wpAny_of_eq (show Builtin.Builtins.bindParams "max" ["key", "default"] 0 ⟨[],[(Str.ofString "default",dv)]⟩=pure [none,some dv] from rfl) (wpAny_bind (wpAny_pure ?_)));refine wpAny_bind (iter_intList hl λs2 e st g m=>wpAny_bind (wpAny_newObj_type ?_));subst e;have W:=Walks.list (prog:=prog) (w:=w) (A:=A.in1) t s.heap.objs.size l m (intItems xs);have hsz:(intItems xs).size=xs.size:=by simp[intItems]
 have a:(s.heap.push { cls:=.type "list_iterator",data:=.fields #[.ref l,.int 0 0] }).objs.size∉[s.heap.objs.size,l]:=λhm=>Mp _ (g _ hm)
 rw[ux];refine wpAny_pure ⟨plainId_quiet F.plain_max_loop _,codeAny_builtin F.entry_max_loop ?_⟩;rw[Around.under_plainId F.plain_max_loop _];show wpAny _ A.in1 (seqItems? (.ref _) >>= _) _ _ _;refine wpAny_bind (wpAny_seqItems (LF _ rfl) rfl ?_);show wpAny _ A.in1 (tryCatch (pyNext (.ref _)) _ >>= _) _ _ _;have c:=W.frame _ _ _ st λb _ o e=>L1 { cls:=.type "list",data:=.seq #[] } e
 have x:(s.heap.push { cls:=.type "list_iterator",data:=.fields #[.ref l,.int 0 0] }).objs.size∉[s.heap.objs.size]:=λz=>a (L7.mpr (.inl (Lx.mp z)))
 have kp:∀b o,s.heap.get? b=some o->b∉[s.heap.objs.size]/\((s.heap.push { cls:=.type "list_iterator",data:=.fields #[.ref l,.int 0 0] }).push { cls:=.type "list",data:=.seq #[] }).get? b=some o/\b≠(s.heap.push { cls:=.type "list_iterator",data:=.fields #[.ref l,.int 0 0] }).objs.size:=λb o e=>by
  have n:b<s.heap.objs.size:=Ly e;refine⟨λz=>?_,L1 _ (L1 _ e),?_⟩
  ·rw[Lx.mp z]at n;exact Mp _ n
  ·rw[Heap.size_push];exact LC (Mg n)
 by_cases hz:xs.size=0
 ·refine wpAny_bind (wpAny_tryCatch (W.done _ _ _ (by rw[hsz,hz];exact c) λh1 r k1=>?_));show wpAny _ A.in1 (rule _ >>= _) _ _ _;refine wpAny_bind (wpAny_rule (wpAny_pure ?_));exact u hz h1 r λb o e=>k1 b o (kp b o e).1 (kp b o e).2.1
 ·refine wpAny_bind (wpAny_tryCatch (W.item 0 _ _ _ (by rw[hsz];omega) c λv h1 r hv p k1=>?_));have f:=k1 _ _ x (LF _ rfl);show wpAny _ A.in1 (updateSeq _ (λ_=>#[v,v]) >>= _) _ _ _;refine wpAny_bind (wpAny_updateSeq f rfl ?_);rw[ux];refine wpAny_pure ⟨plainId_quiet F.plain_max_loop _,qk W _ (CmpOf.ints_gt (numAt xs) λ_ _=>intItems_at) _ a (xs.size-1) 0 _ v _ (by rw[hsz];omega) (W.frame _ _ _ p λb q o e=>?_) hv (MT _ f rfl) λy h2 B p2 k2=>?_⟩
  ·exact (Ma _ _ (λz:(s.heap.push { cls:=.type "list_iterator",data:=.fields #[.ref l,.int 0 0] }).objs.size=b=>a (by rw[z];exact q))).trans e
  ·refine h (by omega) y h2 B (by rw[hsz]at p2;exact p2) λb o e=>k2 b o (kp b o e).1 (kp b o e).2.2 ?_
   exact (Ma _ _ (Ne.symm (kp b o e).2.2)).trans (k1 b o (kp b o e).1 (kp b o e).2.1)
end
section
variable {E:XK} {a b:Expr} {es:List Expr}
theorem zU (h:ns.length=0) (d:Int):(we ns).getD d=d:=by cases ns with|nil=>rfl|cons _ _=>simp at h
theorem eD.weak {g:Ds->Rs PyData} {Q a:VK} (h:eD K E g σ H Q) (k:∀v H',Q v H'->a v H'):eD K E g σ H a:=by
 obtain⟨A,δ,R,o⟩:=h;refine⟨A,δ,R,?_⟩;cases q:g δ with
 |ok d=>rw[q]at o;exact λv H' b h1=>k v H' (o v H' b h1)
 |rz C=>rw[q]at o;exact o
 |no=>rw[q]at o;exact o
theorem Ew (hc:X.calm=true) (hm:X.mg "max"=none) (ha:PD X E a ga) (g:PD X E b gb) (G:Gl X "max") (r:starEach [a] X.env=[(false,eval a X.env)]) :
  PD X E (.Call (.Name "max" p) [a] [⟨some "default",b,kp⟩] pos) (g2 wt ga gb):=by
 have key:PE X (.Call (.Name "max" p) [a] [⟨some "default",b,kp⟩] pos) (tOp (λx y H Q=>∃(p:Addr) (ns:List Int) (d:Int),x=.ref p/\y=.int d/\SqL X.K H p (ns.map V.int)/\Q (.int ((we ns).getD d)) H) (eD X.K E ga) (eD X.K E gb)):=by
  intro pins s σ H Q I h;refine wpAny_Call_Name_kw (fQ I G hm EU ?_ (by decide) (by decide));refine callWith_kw ?_ (by rw[r];rfl) (by rw[r];rfl) rfl rfl;refine thn ((d7 ha fR r) pos pins s σ H (λvs H1=>∃x,vs=[x]/\eD X.K E gb σ H1 λy H2=>∃(p:Addr) (ns:List Int) (d:Int),x=.ref p/\y=.int d/\SqL X.K H2 p (ns.map V.int)/\Q (.int ((we ns).getD d)) H2) I
   (eD.weak h λx H1 q=>⟨x,rfl,q⟩)) λus s1 ⟨vs,H1,I1,r1,x,q0,q1⟩=>?_
  subst q0;obtain⟨u,rfl,J⟩:=vals1 r1;refine thn ((yO g DM) pos pins s1 σ H1 (λvs H2=>∃y,vs=[y]/\∃(p:Addr) (ns:List Int) (d:Int),x=.ref p/\y=.int d/\SqL X.K H2 p (ns.map V.int)/\Q (.int ((we ns).getD d)) H2) I1
   (eD.weak q1 λy H2 q=>⟨y,rfl,q⟩)) λws s2 ⟨zs,H2,I2,r2,y,q2,p,ns,d,ex,ey,hS,q3⟩=>?_
  subst q2;obtain⟨v,rfl,L⟩:=vals1 r2;subst ex ey;obtain rfl:u=Value.ref p:=J;obtain⟨td,rfl⟩:=(show ∃t,v=Value.int d t from L)
  obtain⟨w,M,pl,_⟩:=I2.list hS;have hi:IntsAre w ns:=intsAre_of M;obtain⟨xs,f⟩:=hi.allInts.items;have c:ns=xs.toList.map (·.1):=by rw[<-hi.numsOf,<-nums_intItems,<-f]
  have z:s2.heap.IsList p (intItems xs):=f▸pl.isList;have B:ns.length=xs.size:=by rw[c,L5,Mn]
  refine A3 (I2.ok.hd hc) z (λN h' tk C=>?_) λN v h' tk hv C=>?_
  ·rw[zU (by omega) d]at q3;exact⟨.int d,H2,I2.kept C,⟨_,rfl⟩,q3⟩
  ·obtain⟨t,rfl⟩:=intItems_at hv;obtain⟨h1,h2⟩:=argBest_gt (numAt xs) (xs.size-1);obtain⟨m,D⟩:∃m,we ns=some m:=by
    cases ns with
    |nil=>simp at B;omega
    |cons _ _=>exact⟨_,rfl⟩
   have e:numAt xs (argBest (λi j=>decide (numAt xs i>numAt xs j)) (xs.size-1))=m:=by
    refine EF ?_ (λb g=>?_) D
    ·rw[c,numAt_eq];exact getD_mem (by rw[L5,Mn];omega)
    ·rw[c]at g;obtain⟨j,O,rfl⟩:=mem_getD g;rw[L5,Mn]at O;rw[<-numAt_eq];exact h2 j (by omega)
   rw[D]at q3;exact⟨.int m,H2,I2.kept C,⟨_,by rw[<-e]⟩,q3⟩
 exact key.imp λσ H Q ⟨A,δ,R,o⟩=>g2.read (λd1 d2 d x y H' A' Q' n hA h1 h2 k=>by
  unfold wt at n;split at n
  ·rename_i l dd;obtain⟨ns,q,rfl⟩:=MA.mp n;obtain⟨p,xs,rfl,F,f⟩:=h1.ofLst;rw[eI q]at f;rw[f.ofInts]at F;exact⟨p,ns,dd,rfl,h2.ofInt,SqL.of (aw _ _ F),k _ H' (av.refl _) bL⟩
  ·cases n) R o
end
variable {m:Str} {G:List Addr->Ds->Sr} {xs:List (List Key×Addr×Value)}
theorem Fs {b:Array (Option Value)} {kV e:Value}
  (g:∀(kV doc pm:Value) (an:Option Addr) (cdv ct:Value) (us:List Value),us.length=ps.length->bindArgs (PySem.W.fnOf "__init__" qual (ff st) (b0 st) (aB st) .none kV doc pm an cdv ct) ⟨us,[]⟩=pure (ps.zip us))
  (a:PySem.W.findIn K (.ref C) "__init__"=some (some (.ref f))) (i:PySem.W.isFn K (.ref f)=true)
  (l:K.lookup f=some ⟨oc,od,.func (PySem.W.fnOf "__init__" qual (ff st) (b0 st) (aB st) .none kV e pm an cd ct),b⟩)
  (c:PySem.W.codeIn K cd qual=true) (k:PySem.W.keepIn K (.ref f)=true) (mk:PySem.W.makesIn K C=true) (h:PySem.W.keepIn K (.ref C)=true):∃f fd,Mk K C f/\Fun K "__init__" qual st f fd/\Binds K fd ps [] :=
 have F:=xD (st:=st) l c k
 ⟨f,_,⟨mk,a,i,h⟩,F,F.binds g⟩
theorem lz.more {q l:Addr} {xs:List V} {Φ:Hp->Prop} {lt:Nat->Nat->Bool} (K:lz X σ [] q l xs Φ κ lt):lz X σ pins q l xs Φ κ lt :=
 ⟨K.lst,λi x a pins' H s u _=>K.turn i x a pins' H s u (λ_ h=>nomatch h),K.cmp⟩
def FH (X:Cx) (ta tb:TE):TE:=λσ H Q=>ta σ H λx H1=>tb σ H1 λy H2=>∃(l q:Addr) (xs:List V) (Φ:Hp->Prop) (κ:Nat->V->Hp->Prop) (lt:Nat->Nat->Bool),x=.ref l/\y=.ref q/\0<xs.length/\Φ H2/\lz X σ [] q l xs Φ κ lt /\
 ∀a v,Φ a->xs[bst lt (xs.length-1)]?=some v->Q v a
section
variable {a b:Expr} {ta tb:TE}
theorem AQ (hc:X.calm=true) (hm:X.mg "min"=none) (ha:PE X a ta) (j:PE X b tb) (m:Gl X "min":=by rfl) (f:starEach [a] X.env=[(false,eval a X.env)]:=by rfl) (wk:∀{σ H} {Q c:VK},ta σ H Q->(∀x H,Q x H->c x H)->ta σ H c) (g:∀{σ H} {Q c:VK},tb σ H Q->(∀x H,Q x H->c x H)->tb σ H c) :
  PE X (.Call (.Name "min" p) [a] [⟨some "key",b,kp⟩] pos) (FH X ta tb):=by
 intro pins s σ H Q I h;refine wpAny_Call_Name_kw (fQ I m hm EB ?_ (by decide) (by decide));refine callWith_kw ?_ (by rw[f];rfl) (by rw[f];rfl) rfl rfl;refine thn ((d7 ha fR f) pos pins s σ H (λvs H1=>∃x,vs=[x]/\tb σ H1 λy H2=>∃(l q:Addr) (xs:List V) (Φ:Hp->Prop) (κ:Nat->V->Hp->Prop) (lt:Nat->Nat->Bool),x=.ref l/\y=.ref q/\0<xs.length/\Φ H2/\lz X σ [] q l xs Φ κ lt /\
   ∀e v,Φ e->xs[bst lt (xs.length-1)]?=some v->Q v e) I
  (wk h λx H1 q=>⟨x,rfl,q⟩)) λus s1 ⟨vs,H1,I1,r1,x,q0,q1⟩=>?_
 subst q0;obtain⟨u,rfl,i⟩:=vals1 r1;refine thn ((yO j DM) pos pins s1 σ H1 (λvs H2=>∃y,vs=[y]/\∃(l q:Addr) (xs:List V) (Φ:Hp->Prop) (κ:Nat->V->Hp->Prop) (lt:Nat->Nat->Bool),x=.ref l/\y=.ref q/\0<xs.length/\Φ H2/\lz X σ [] q l xs Φ κ lt /\
   ∀e v,Φ e->xs[bst lt (xs.length-1)]?=some v->Q v e) I1
  (g q1 λy H2 q=>⟨y,rfl,q⟩)) λws s2 ⟨zs,H2,I2,r2,y,q2,l,q,xs,Φ,κ,lt,ex,ey,hn,hΦ,KK,hQ⟩=>?_
 subst q2;obtain⟨v,rfl,n⟩:=vals1 r2;subst ex ey;obtain rfl:u=Value.ref l:=i;obtain rfl:v=Value.ref q:=n;exact Ir KK.more (I2.ok.hd hc) I2 hΦ hn λH' s' x u o i J r=>⟨x,H',J,i,hQ H' x r o⟩
theorem AN {q l c':Addr} {xs:List V} {Φ:Hp->Prop} {lt:Nat->Nat->Bool} {k:Nat} {p:Str} {n:Value} {t:TE}
  (S:lr N [p] scope) (T:bY (k+2) X.A) (f:∀x c,cl.lookup x=some c->X.env.cells.lookup x=some c) (has:∀x,scope.names.lookup x=some .free->∃c,cl.lookup x=some c) (U:N.length=1+cap.length)
  (B:∀(i m:Nat) (x:Str),N[1+i]?=some x->cap[i]?=some m->X.N[m]?=some x/\scope.names.lookup x=some .free/\(X.env.kindOf x=some .cell\/X.env.kindOf x=some .free)/\Vis X.env.scope x)
  (Y:∀u,bindArgs (PySem.W.kla_fn "<lambda>" qual params body scope cl pm (.ref c') n) ⟨[u],[]⟩=pure ([p].zip [u]))
  (D:∀H,Φ H->H l=some (.lst xs)) (L:∀H,Φ H->H q=some (.frz (PySem.W.kla_obj "<lambda>" qual params body scope cl pm c' n) (.own q))/\∃o vs t,H c'=some (.frz o (.own c'))/\o.data=.fields vs/\vs[1]?=some (.str qual t))
  (g:∀(s:Shared) (H:Hp),PE (rB (CXW X.prog X.w) X.prog X.w X.K X.mg X.base N qual scope q (.ref c') cl X.A.in1 X.stack s H E0) body t)
  (turn:∀(i:Nat) (x:V) (H:Hp),xs[i]?=some x->Φ H->t (some x::cap.map λm=>(σ[m]?).join) H λv H'=>Φ H'/\κ i v H'/\∀j O,κ j O H->κ j O H')
  (cmp:∀(i j:Nat) (x y:V) (pins':List (Addr×Obj)) (H:Hp) (s:Shared) (u v:Value),Inv X.in1 pins' σ H s->Φ H->κ i x H->κ j y H->RelV x u->RelV y v ->
   wpAny (model X.prog X.w) X.A.in1 (richCompare .Lt u v) (λr s'=>r=.bool (lt i j)/\Inv X.in1 pins' σ H s') (λ_ _=>False) s):lz X σ [] q l xs Φ κ lt:=by
 refine⟨D,λi x Z pins' H s u _ I F ru=>?_,cmp⟩;obtain⟨h,oc,vs,tt,h1,h2,h3⟩:=L H F;have C:G5 s H cl scope N [p].length (cap.map λm=>(σ[m]?).join):=by
  refine⟨λa b c e1 e2=>I.ok.inj a b c (f a c e1) (f b c e2),has,λa c e=>I.cell a c (f a c e),λa c e=>I.freeC a c (f a c e),by rw[L5];exact U,λj y v e1 e2=>?_⟩;rw[LG]at e2;cases hm:cap[j]? with
  |none=>rw[hm]at e2;cases e2
  |some m =>
   rw[hm]at e2;have G:(σ[m]?).join=some v:=by simpa using e2
   obtain⟨hX,P,J,hv⟩:=B j m y e1 hm;have e4:σ[m]?=some (some v):=by
    cases z:σ[m]? with
    |none=>rw[z]at G;cases G
    |some w=>rw[z]at G;cases w with
     |none=>cases G
     |some w=>cases G;rfl
   obtain⟨mm,hn,hl⟩:=I.loc;obtain⟨u,rv,lk⟩:=hl m y v hX e4 hv;rcases lk with⟨z,_⟩|⟨_,c,M,e6⟩
   ·have z:X.env.kindOf y=some .local:=z;rcases J with J|J <;> (rw[z]at J;cases J)
   ·obtain⟨c2,Q⟩:=has y P;have R:=f y c2 Q;have M:X.env.cells.lookup y=some c:=M;rw[M]at R;cases R;exact⟨u,c,rv,P,Q,e6⟩
 refine wpAny_call (codeAny_mono (FQ (CX:=CXW X.prog X.w) (E:=E0) S T.in1 I.env0 rfl (.cons ru .nil) C (I.hok q _ h).1 ⟨c',oc,vs,tt,rfl,(I.hok c' _ h1).1,h2,h3⟩ (Y u) (g s H) (turn i x H Z F)) λr s' h=>?_);cases r with
 |error e=>obtain⟨_,_,_,_,_,_,z,_⟩:=h;exact z.elim
 |ok fl =>
  cases fl with
  |ret u=>exact I.after h
  |next=>exact False.elim h
  |brk=>exact False.elim h
  |cont=>exact False.elim h
end
section
variable {E:XK} {a b:Expr}
end
section
variable {E:XK}
end
structure iA (P:Program) (w:World) (K:PySem.W.Frag) (mg:Str->Option Value) (base:Heap) (k:Nat) (C:Addr) (m:Str) (n:Nat) (gf:List PyData->Rs PyData):Prop where
 ex:∃f fd ps,Cls K C/\Meth K C m f/\gj P w K mg base (CXW P w) k f fd ps (spD K n gf)/\Binds K fd ps []
def je (m:Str):List (PyData×PyData)->Bool
 |[]=>true
 |(k,_)::r=>match k with
  |.str g=>decide (g≠m)&&je m r
  |_=>false
def isC (C:Addr) (m:Str):PyData->Bool
 |.dict (k::r)=>match k with
  |(.str z,.int c)=>decide (z="")&&decide (c=(C:Int))&&je m r
  |_=>false
 |_=>false
theorem Isk.je {K:PySem.W.Frag} {H:Hp} {m:Str}:∀{r:List (PyData×PyData)} {fs:List (Str×V)},Isk K H r fs->L2.je m r=true->fs.lookup m=none
 |[],_,h,_=>by unfold Isk at h;rw[h];rfl
 |(k,d)::r,fs,h,n=>by unfold Isk at h;obtain⟨f,v,fs',rfl,rfl,h1,h2⟩:=h;simp only[L2.je,L8,decide_eq_true_eq]at n;rw[LU,show (m==f)=false by simpa using λq=>n.1 q.symm];exact Isk.je h2 n.2
theorem Hg {d:PyData} (e:isC C m d=true) (h:Is K H d v):∃a dx fs,v=.ref a/\H a=some (.ins C dx fs)/\fs.lookup m=none:=by
 unfold isC at e;split at e
 ·rename_i k r;split at e
  ·rename_i z c;simp only[L8,decide_eq_true_eq]at e;obtain⟨⟨rfl,rfl⟩,n⟩:=e;unfold Is at h;rcases h with (⟨a,ns,_,b,_⟩|⟨a,l,_,b,_⟩)|⟨a,o,dx,fs,p,h1,hn,h2|h2⟩
   ·injection b with b _;cases b
   ·rcases b with⟨m,b,_⟩|⟨m,b,_⟩ <;> first|(cases b;done)|(cases m <;> cases b)
   ·unfold Isk at h2;obtain⟨g,u,fs',e1,e2,i,j⟩:=h2;cases e1;have f:=i.ofInt;injection f with f
    obtain rfl:o=C:=Int.ofNat.inj f;exact⟨a,dx,fs,p,h1,j.je n⟩
   ·unfold Isk at h2;obtain⟨g,u,fs',e1,e2,i,j⟩:=h2;cases e1;have f:=i.ofInt;injection f with f
    obtain rfl:o=C:=Int.ofNat.inj f;have l:=j.je n;rw[LU]at l;cases q:(m==("@":Str)) with
    |true=>rw[q]at l;cases l
    |false=>rw[q]at l;exact⟨a,dx,fs,p,h1,l⟩
  ·cases e
 ·cases e
def bp (C:Addr) (m:Str) (gf:List PyData->Rs PyData) (ga:Ds->Rs PyData) (gs:Ds->Rs (List PyData)):Ds->Rs PyData:=λδ=>(ga δ).bind λd=>if isC C m d then (gs δ).bind λds=>gf (d::ds) else .no
section
variable {E:XK} {o:Expr} {es:List Expr} {apos:Pos}
theorem bp.read {Q:VK} (hn:∀δ ds,gs δ=.ok ds->ds.length+1=n) (R:dq X.K H A δ σ) (b:gR X.K E A H (bp C m gf ga gs δ) Q):yL C m (spD X.K n gf) [] E (eD X.K E ga) (aD X.K E gs) σ H Q:=by
 unfold bp at b;refine eD.run R (λd f v H1 e g h1=>?_) (λC c H' s'=>?_) (λc=>?_)
 ·simp only[f,Rs.ag]at b;split at b
  ·rename_i hc;obtain⟨a,dx,fs,rfl,h,l⟩:=Hg hc h1;refine⟨a,dx,fs,rfl,aw _ _ h,l,?_⟩;refine aD.run g (λds e2 vs H2 s2 R2 h2=>?_) (λC c H' s'=>?_) (λc=>?_)
   ·simp only[e2,Rs.ag]at b;refine⟨A,d::ds,R2.ls,?_,hn δ ds e2,b.mono (e.trans s2)⟩;rw[Mi];exact cq (h1.same s2.del) h2
   ·rw[c]at b;exact b H' (e.trans s')
   ·rw[c]at b;exact b
  ·exact b.elim
 ·rw[c]at b;exact b H' s'
 ·rw[c]at b;exact b
theorem EW {k:Nat} {pl:Sem Bool} (D:iA X.prog X.w X.K X.mg X.base k C m (es.length+2) gf) (c:bY j X.A) (g:Passes (CXW X.prog X.w) X E) (h:PD X E o ga) (ha:PAD X E (e::es) gs) (i:k<=j)
  (a:starEach (e::es) X.env=(false,eval e X.env)::starEach es X.env) (b:(backTo pos (starEach es X.env)).any (·.1)=false)
  (l:eval (.Call (.Attribute o m apos) (e::es) [] pos) X.env=(do
   let ov <-eval o X.env
   standAt apos.atName
   let (f,first) <-holding [ov] (getMethod ov m pl)
   callWith pos f first (backTo pos (starEach (e::es) X.env)) (backToKw pos (keywordEach [] X.env)))) :
  PD X E (.Call (.Attribute o m apos) (e::es) [] pos) (bp C m gf ga gs):=by
 obtain⟨f,fd,ps,cl,hm,F,n⟩:=D.ex;exact (FT h cl hm F (c.mono i) n .nil g ha.1 a b l).imp λσ H Q ⟨A,δ,R,ou⟩=>bp.read (λδ ds e=>by rw[ha.2 δ ds e];rfl) R ou
theorem DN {k:Nat} {pl:Sem Bool} (D:iA X.prog X.w X.K X.mg X.base k C m 1 gf) (c:bY j X.A) (g:Passes (CXW X.prog X.w) X E) (i:PD X E o ga) (p:k<=j)
  (r:eval (.Call (.Attribute o m apos) [] [] pos) X.env=(do
   let ov <-eval o X.env
   standAt apos.atName
   let (f,first) <-holding [ov] (getMethod ov m pl)
   callWith pos f first (backTo pos (starEach [] X.env)) (backToKw pos (keywordEach [] X.env)))) :
  PD X E (.Call (.Attribute o m apos) [] [] pos) (bp C m gf ga ah):=by
 obtain⟨f,fd,ps,cl,hm,F,s⟩:=D.ex;refine (wc i cl hm F (c.mono p) s .nil g r).imp λσ H Q b=>?_
 obtain⟨A,δ,R,t⟩:=b;have h:=bp.read (gs:=ah) (X:=X) (n:=1) (λδ ds e=>by cases e;rfl) R t;unfold yL at h ⊢;exact h.weak λv H1 ⟨a,dx,fs,e,hp,l,q⟩=>⟨a,dx,fs,e,hp,l,by obtain⟨A',δ',R',o'⟩:=q;exact o' [] H1 (av.refl _) cK⟩
end
def intsOf:List PyData->Option (List Int)
 |[]=>some []
 |.int a::r=>(intsOf r).map (a::·)
 |_::_=>none
def kI:PyData->Option (Bool×List Int)
 |.int a=>some (false,[a])
 |.tuple ds=>(intsOf ds).map λl=>(true,l)
 |_=>none
def ltD (a b:PyData):Bool:=match kI a,kI b with
 |some (_,l),some (_,m)=>HT.lexLt l m
 |_,_=>false
def keysOk (ks:List PyData):Bool:=ks.all (λk=>match kI k with|some (false,_)=>true|_=>false)||ks.all λk=>match kI k with|some (true,_)=>true|_=>false
def allR (g:PyData->Rs PyData):List PyData->Rs (List PyData)
 |[]=>.ok []
 |d::r=>(g d).bind λk=>(allR g r).bind λks=>.ok (k::ks)
theorem uK {g:PyData->Rs PyData}:∀{ds ks:List PyData},allR g ds=.ok ks->ks.length=ds.length/\∀(i:Nat) (d:PyData),ds[i]?=some d->∃k,ks[i]?=some k/\g d=.ok k
 |[],ks,h=>by cases h;exact⟨rfl,λi d e=>by simp at e⟩
 |d::r,ks,h=>by
  unfold allR at h;cases e1:g d with
  |rz _=>rw[e1]at h;cases h
  |no=>rw[e1]at h;cases h
  |ok k =>
   rw[e1]at h;cases e2:allR g r with
   |rz _=>rw[Rs.ag,e2]at h;cases h
   |no=>rw[Rs.ag,e2]at h;cases h
   |ok t =>
    rw[Rs.ag,e2]at h;cases h;obtain⟨hl,a⟩:=uK e2;refine⟨by simp[hl],λi d' e=>?_⟩;cases i with
    |zero=>simp at e;subst e;exact⟨k,rfl,e1⟩
    |succ i=>simpa using a i d' (by simpa using e)
def ud (cap:List Nat) (δ:Ds):Ds:=cap.map λm=>(δ[m]?).join
def okR:Rs (List PyData)->(List PyData->Rs PyData)->Rs PyData
 |.ok a,f=>f a
 |_,_=>.no
def ja (cap:List Nat) (ga gb:Ds->Rs PyData):Ds->Rs PyData:=λδ=>(ga δ).bind λd=>match d with
 |.list ds=>if 0<ds.length then okR (allR (λx=>gb (some x::ud cap δ)) ds) λks=>if keysOk ks then .eO (ds[bst (λi j=>ltD (ks.getD i .none) (ks.getD j .none)) (ds.length-1)]?) else .no else .no
 |_=>.no
theorem yD {d:PyData} {l:List Int} (e:kI d=some (false,l)) (h:Is K H d v):∃n,l=[n]/\v=.int n:=by
 unfold kI at e;split at e
 ·cases e;exact⟨_,rfl,h.ofInt⟩
 ·rename_i ds;cases q:intsOf ds with
  |none=>rw[q]at e;cases e
  |some l=>rw[q]at e;cases e
 ·cases e
theorem sM:∀{ds:List PyData} {l:List Int},intsOf ds=some l->ds=l.map PyData.int
 |[],l,e=>by cases e;rfl
 |d::r,l,e=>by
  cases d <;> first|(cases e;done)|skip
  rename_i a;unfold intsOf at e;cases q:intsOf r with
  |none=>rw[q]at e;cases e
  |some t=>rw[q]at e;cases e;rw[sM q];rfl
theorem vS {d:PyData} {l:List Int} (e:kI d=some (true,l)) (h:Is K H d v):∃a,v=.ref a/\H a=some (.tup (l.map V.int)):=by
 unfold kI at e;split at e
 ·cases e
 ·rename_i ds;cases q:intsOf ds with
  |none=>rw[q]at e;cases e
  |some l' =>rw[q]at e;cases e;obtain⟨a,xs,c,f,b⟩:=h.ofTup;rw[sM q]at b;exact⟨a,c,by rw[f,b.ofInts]⟩
 ·cases e
section
theorem BP {ks:List PyData} (P:X.A.in1.units<cLine) (g:keysOk ks=true) {x:V} {v:Value} {a b:PyData} (I:Inv X.in1 pins σ H s)
  (ea:ks[i]?=some a) (Q:ks[j]?=some b) (F:Is X.K (del H A) a x) (G:Is X.K (del H A) b y) (L:RelV x u) (M:RelV y v) :
  wpAny (model X.prog X.w) X.A.in1 (richCompare .Lt u v) (λr s'=>r=.bool (ltD a b)/\Inv X.in1 pins σ H s') (λ_ _=>False) s:=by
 have J:=I.wish λ_ _=>False
 have N:a∈ks:=M1 ea;have O:b∈ks:=M1 Q;unfold keysOk at g;rcases Bool.or_eq_true_iff.mp g with g|g
 ·have c:=LD.mp g a N;have f:=LD.mp g b O;cases ka:kI a with
  |none=>rw[ka]at c;cases c
  |some p=>obtain⟨o,la⟩:=p;cases o with
   |true=>rw[ka]at c;cases c
   |false=>cases kb:kI b with
    |none=>rw[kb]at f;cases f
    |some p=>obtain⟨t,l⟩:=p;cases t with
     |true=>rw[kb]at f;cases f
     |false =>
      obtain⟨n,rfl,rfl⟩:=yD ka F;obtain⟨m,rfl,rfl⟩:=yD kb G;have e:ltD a b=decide (n<m):=by
       unfold ltD;rw[ka,kb];show HT.lexLt [n] [m]=_;rw[HT.qf,HT.kn];by_cases z:n=m
       ·subst z;simp
       ·simp[z]
      rw[e];refine thn (Dt (X:=X.in1.wish λ_ _=>False) pins s σ H (.int n) (.int m) u v (λr H'=>r=.bl (decide (n<m))/\H'=H) J L M ⟨n,m,rfl,rfl,rfl,rfl⟩) λr s' h=>?_
      obtain⟨R,H',B,C,D,E⟩:=h;subst D E;exact⟨C,B.unwish⟩
 ·have c:=LD.mp g a N;have f:=LD.mp g b O;cases ka:kI a with
  |none=>rw[ka]at c;cases c
  |some p=>obtain⟨o,la⟩:=p;cases o with
   |false=>rw[ka]at c;cases c
   |true=>cases kb:kI b with
    |none=>rw[kb]at f;cases f
    |some p=>obtain⟨t,l⟩:=p;cases t with
     |false=>rw[kb]at f;cases f
     |true =>
      obtain⟨p,rfl,S⟩:=vS ka F;obtain⟨q,rfl,T⟩:=vS kb G;have e:ltD a b=HT.lexLt la l:=by unfold ltD;rw[ka,kb]
      rw[e];refine thn (HB (X:=X.in1.wish λ_ _=>False) P pins s σ H (.ref p) (.ref q) u v (λr H'=>r=.bl (HT.lexLt la l)/\H'=H) J L M ⟨p,q,la,l,rfl,rfl,SqT.of (aw _ _ S),SqT.of (aw _ _ T),rfl,rfl⟩) λr s' h=>?_
      obtain⟨R,H',B,C,D,E⟩:=h;subst D E;exact⟨C,B.unwish⟩
theorem zT {E:XK} {a:Expr} {G p0:Pos} {g:List (Str×Addr)} {P:Addr} {k:Nat} {p:Str}
  (hc:X.calm=true) (hm:X.mg "min"=none) (hr:bY (k+2) X.A) (ha:PD X E a ga) (T:Bm X c P) (U:closureFor scope X.env=pure g) (S:lr N [p] scope)
  (J:∀x c,g.lookup x=some c->X.env.cells.lookup x=some c) (has:∀x,scope.names.lookup x=some .free->∃c,g.lookup x=some c) (hN:N.length=1+cap.length)
  (L:∀(i m:Nat) (x:Str),N[1+i]?=some x->cap[i]?=some m->X.N[m]?=some x/\scope.names.lookup x=some .free/\(X.env.kindOf x=some .cell\/X.env.kindOf x=some .free)/\Vis X.env.scope x)
  (hb:∀(c':Addr) (pm r u:Value),bindArgs (PySem.W.kla_fn "<lambda>" (X.env.qual++"<lambda>") params body scope g pm (.ref c') r) ⟨[u],[]⟩=pure ([p].zip [u]))
  (D:∀(q c':Addr) (s:Shared) (H:Hp),PD (rB (CXW X.prog X.w) X.prog X.w X.K X.mg X.base N (X.env.qual++"<lambda>") scope q (.ref c') g X.A.in1 X.stack s H E0) E0 body gb)
  (hg:Gl X "min":=by rfl) (he:starEach [a] X.env=[(false,eval a X.env)]:=by rfl) (M:defaultsOf params X.env=([],[]):=by rfl) :
  PD X E (.Call (.Name "min" p0) [a] [⟨some "key",.Lambda params body scope G,kp⟩] pos) (ja cap ga gb):=by
 refine (AQ hc hm ha (HI T U M) hg he (λh k=>eD.weak h k) (λh k f c' r H' n e s c=>k _ _ (h f c' r H' n e s c))).imp λσ H Q Y=>?_
 obtain⟨A,δ,R,b⟩:=Y;unfold ja at b;refine eD.run R (λd ed v H1 s1 R1 h1=>?_) (λC Z H' s'=>?_) (λZ=>?_)
 ·rw[ed,Rs.ag]at b;cases d with
  |list ds =>
   by_cases hpos:0<ds.length
   case neg=>simp only[if_neg hpos]at b;exact b.elim
   simp only[if_pos hpos]at b;cases ek:allR (λx=>gb (some x::ud cap δ)) ds with
   |rz _=>rw[ek]at b;exact b.elim
   |no=>rw[ek]at b;exact b.elim
   |ok ks =>
    rw[ek]at b;cases hko:keysOk ks with
    |false=>simp only[okR,hko]at b;exact b.elim
    |true =>
     simp only[okR,hko,if_true]at b;intro f c' r H2 hn hf s2 F;obtain⟨l,xs,rfl,hl,hx⟩:=h1.ofLst;have hlen:=hx.length;obtain⟨hkl,hkg⟩:=uK ek;refine⟨l,f,xs,λH=>av H2 H,λi v H=>∃O,ks[i]?=some O/\Is X.K (del H A) O v,λi j=>ltD (ks.getD i .none) (ks.getD j .none),rfl,rfl,by omega,av.refl _,?_,λH3 v s3 ev=>?_⟩
     ·refine AN (t:=eD X.K E0 gb) (c':=c') (cap:=cap) S hr J has hN L (hb c' _ r) (λH s=>s _ _ (s2 _ _ (aw _ _ hl))) (λH s=>⟨s _ _ hf,?_⟩) (λs H=>D f c' s H) (λi x H ex s=>?_) (λi j x y pins' H s u v I sΦ hx' hy' rx ry=>?_)
      ·obtain⟨o,vs,t,e1,e2,B⟩:=F;exact⟨o,vs,t,s _ _ e1,e2,B⟩
      ·obtain⟨d,e1,hd⟩:=hx.get ex;obtain⟨O,e2,gk⟩:=hkg i d e1;have R':dq X.K H A δ σ:=R.same (s1.trans (s2.trans s));refine⟨A,some d::ud cap δ,⟨R'.ls,by simp[ud],λn d' e=>?_⟩,?_⟩
       ·cases n with
        |zero =>have e:some (some d)=some (some d'):=e;cases e;exact⟨x,rfl,hd.same (av.del (s2.trans s))⟩
        |succ n =>
         have e:(ud cap δ)[n]?=some (some d'):=by simpa using e
         unfold ud at e;rw[LG]at e;cases hm':cap[n]? with
         |none=>rw[hm']at e;cases e
         |some m =>
          rw[hm']at e;have B:(δ[m]?).join=some d':=by simpa using e
          have e4:δ[m]?=some (some d'):=by
           cases z:δ[m]? with
           |none=>rw[z]at B;cases B
           |some w=>rw[z]at B;cases w with
            |none=>cases B
            |some w=>cases B;rfl
          obtain⟨v',e5,h5⟩:=R'.get m d' e4;exact⟨v',by simp[hm',e5],h5⟩
       ·have gk':gb (some d::ud cap δ)=.ok O:=gk;rw[gk'];exact λv H' s' q=>⟨s.trans s',⟨O,e2,q⟩,λj v' qz2=>(by obtain⟨kd',B,e4⟩:=qz2;exact⟨kd',B,e4.same s'.del⟩)⟩
      ·obtain⟨ka,e1,h1'⟩:=hx';obtain⟨kb,e2,h2'⟩:=hy';have:=BP (X:=X) (by have:=hr.un;show X.A.units+1<_;omega) hko I e1 e2 h1' h2' rx ry;rw[LJ,LJ,e1,e2];exact this
     ·rw[hlen]at ev;obtain⟨d,e1,hd⟩:=hx.get ev;rw[e1]at b;exact b v H3 (s1.trans (s2.trans s3)) (hd.same (av.del (s2.trans s3)))
  |_=>exact b.elim
 ·rw[Z]at b;exact b H' s'
 ·rw[Z]at b;exact b
end
section
mutual
theorem Is.off {C dx:Addr} {fs:List (Str×V)} (ha:H a=some (.ins C dx fs)):∀{d:PyData} {v:V},aC d=true->Is K H d v->Is K (del H [a]) d v
 |.none,_,_,h=>by unfold Is at h ⊢;exact h
 |.bool _,_,_,h=>by unfold Is at h ⊢;exact h
 |.int _,_,_,h=>by unfold Is at h ⊢;exact h
 |.str _,_,_,h=>by unfold Is at h ⊢;exact h
 |.dict _,_,n,_=>by unfold aC at n;cases n
 |.list ds,_,n,h=>by unfold aC at n;obtain⟨b,xs,e,h1,h2⟩:=h.ofLst;subst e;exact jv (by rw[aL (λz=>by rw[Lx.mp z,ha]at h1;cases h1)];exact h1) (Iss.off ha n h2)
 |.tuple ds,_,n,h=>by unfold aC at n;obtain⟨b,xs,e,h1,h2⟩:=h.ofTup;subst e;exact ig (by rw[aL (λz=>by rw[Lx.mp z,ha]at h1;cases h1)];exact h1) (Iss.off ha n h2)
theorem Iss.off {C dx:Addr} {fs:List (Str×V)} (ha:H a=some (.ins C dx fs)):∀{ds:List PyData} {vs:List V},cN ds=true->Iss K H ds vs->Iss K (del H [a]) ds vs
 |[],_,_,h=>by rw[h.nil_of];exact cK
 |d::ds,_,n,h=>by unfold cN at n;obtain⟨n1,n2⟩:=Md.mp n;obtain⟨v,r,e,h1,h2⟩:=h.cons_of;subst e;exact cq (Is.off ha n1 h1) (Iss.off ha n2 h2)
end
def kL:List (PyData×PyData)->Bool
 |[]=>true
 |(_,d)::r=>aC d&&kL r
theorem Isk.off {C dx:Addr} {fs:List (Str×V)} (ha:H a=some (.ins C dx fs)):∀{ds:List (PyData×PyData)} {gs:List (Str×V)},kL ds=true->Isk K H ds gs->Isk K (del H [a]) ds gs
 |[],_,_,h=>by unfold Isk at h ⊢;exact h
 |(k,d)::ds,_,n,h=>by unfold kL at n;obtain⟨n1,n2⟩:=Md.mp n;unfold Isk at h ⊢;obtain⟨f,v,r,e1,e2,h1,h2⟩:=h;exact⟨f,v,r,e1,e2,Is.off ha n1 h1,Isk.off ha n2 h2⟩
def jl:List (PyData×PyData)->Option Int
 |(.str x,.int _)::(.str y,.int b)::r=>if x=""/\y="@"/\kL r then some b else none
 |_=>none
mutual
def objs:PyData->Bool
 |.list ds=>jw ds
 |.tuple ds=>jw ds
 |.dict kvs=>(jl kvs).isSome
 |_=>true
def jw:List PyData->Bool
 |[]=>true
 |d::ds=>objs d&&jw ds
end
mutual
def fh (a:Addr) (nd:PyData):PyData->PyData
 |.list ds=>.list (jf a nd ds)
 |.tuple ds=>.tuple (jf a nd ds)
 |.dict kvs=>if jl kvs=some (a:Int) then nd else .dict kvs
 |d=>d
def jf (a:Addr) (nd:PyData):List PyData->List PyData
 |[]=>[]
 |d::ds=>fh a nd d::jf a nd ds
end
end
def kA (a:Addr) (nd:PyData) (δ:Ds):Ds:=δ.map λd=>d.map (fh a nd)
theorem kN {d:PyData} (h:(kA a nd δ)[i]?=some (some d)):∃b,δ[i]?=some (some b)/\d=fh a nd b:=by
 unfold kA at h;rw[LG]at h;cases e:δ[i]? with
 |none=>rw[e]at h;cases h
 |some x=>cases x with
  |none=>rw[e]at h;cases h
  |some b=>rw[e]at h;cases h;exact⟨b,rfl,rfl⟩
theorem vL (h:a∉B):del (upd H a o) B=upd (del H B) a o:=by
 funext b;by_cases z:b=a
 ·subst z;rw[aL h,aG,aG]
 ·rw[ay z];by_cases y:b∈B
  ·rw[gJ y,gJ y]
  ·rw[aL y,aL y,ay z]
section
theorem iL {fs:List (Str×V)} (e:av (del H [a]) H') (ha:H a=some (.ins C dx fs)) (f:H b=some o) (c:b≠a):H' b=some o :=
 e _ _ (by rw[aL (λz=>c (Lx.mp z))];exact f)
mutual
theorem Is.mutH {C dx:Addr} {fs:List (Str×V)} {nd:PyData} (ha:H a=some (.ins C dx fs)) (j:av (del H [a]) H') (hn:Is K H' nd (.ref a)):∀{d:PyData} {v:V},objs d=true->Is K H d v->Is K H' (fh a nd d) v
 |.none,_,_,h=>by unfold fh;unfold Is at h ⊢;exact h
 |.bool _,_,_,h=>by unfold fh;unfold Is at h ⊢;exact h
 |.int _,_,_,h=>by unfold fh;unfold Is at h ⊢;exact h
 |.str _,_,_,h=>by unfold fh;unfold Is at h ⊢;exact h
 |.list ds,_,n,h=>by unfold objs at n;obtain⟨b,xs,e,h1,h2⟩:=h.ofLst;subst e;unfold fh;exact jv (iL j ha h1 (λz=>by rw[z,ha]at h1;cases h1)) (Iss.mutH ha j hn n h2)
 |.tuple ds,_,n,h=>by unfold objs at n;obtain⟨b,xs,e,h1,h2⟩:=h.ofTup;subst e;unfold fh;exact ig (iL j ha h1 (λz=>by rw[z,ha]at h1;cases h1)) (Iss.mutH ha j hn n h2)
 |.dict kvs,v,n,h=>by
  unfold objs at n;unfold fh;unfold jl at n ⊢;split at n
  case h_2=>cases n
  rename_i x G y b r;split at n
  case isFalse=>cases n
  rename_i I;obtain⟨rfl,rfl,B⟩:=I;have J:∃(g:Addr) (o c:Addr) (gs:List (Str×V)),v=.ref g/\b=(g:Int)/\G=(o:Int)/\H g=some (.ins o c gs)/\gs.lookup ("@":Str)=none/\Isk K H r gs:=by
   unfold Is at h;rcases h with (⟨s,ns,_,e,_⟩|⟨s,l,_,e,_⟩)|⟨s,o,c,gs,e,h1,i,h2|h2⟩
   ·cases e
   ·rcases e with⟨m,e,_⟩|⟨m,e,_⟩ <;> first|(cases e;done)|(cases m <;> cases e)
   ·unfold Isk at h2;obtain⟨f,u,t,e1,e2,D,p⟩:=h2;cases e1;unfold Isk at p;obtain⟨f,u,t,e1,e2,E,F⟩:=p;injection e2 with e2
    subst e2 e1;rw[LU]at i;simp at i
   ·unfold Isk at h2;obtain⟨f,u,t,e1,e2,D,p⟩:=h2;cases e1;have w:=D.ofInt;injection w with w
    unfold Isk at p;obtain⟨f,u,t,e1,e2,E,F⟩:=p;cases e1;have A:=E.ofInt;injection A with A
    exact⟨s,o,c,gs,e,A.symm,w.symm,h1,i,F⟩
  obtain⟨g,o,c,gs,rfl,rfl,rfl,h1,hl,h2⟩:=J;simp only[B,and_self,if_true];by_cases z:g=a
  ·subst z;rw[if_pos rfl];exact hn
  ·have zz:¬ (some (g:Int)=some (a:Int)):=λq=>z (Int.ofNat.inj (Option.some.inj q))
   rw[if_neg zz];unfold Is;refine .inr ⟨g,o,c,gs,rfl,iL j ha h1 z,hl,.inr (dS bL (dS bL ?_))⟩;exact (Isk.off ha B h2).same j
theorem Iss.mutH {C dx:Addr} {fs:List (Str×V)} {nd:PyData} (ha:H a=some (.ins C dx fs)) (b:av (del H [a]) H') (hn:Is K H' nd (.ref a)):∀{ds:List PyData} {vs:List V},jw ds=true->Iss K H ds vs->Iss K H' (jf a nd ds) vs
 |[],_,_,h=>by rw[h.nil_of];unfold jf;exact cK
 |d::ds,_,n,h=>by unfold jw at n;obtain⟨n1,n2⟩:=Md.mp n;obtain⟨v,r,e,h1,h2⟩:=h.cons_of;subst e;unfold jf;exact cq (Is.mutH ha b hn n1 h1) (Iss.mutH ha b hn n2 h2)
end
theorem Fv:av (del H [a]) H'->av (del (del H B) [a]) (del H' B):=λc b o e=>by obtain⟨e1,e2⟩:=aZ e;obtain⟨f,g⟩:=aZ e2;rw[aL f];exact c b o (by rw[aL e1];exact g)
theorem bN.mutH {fs:List (Str×V)} (R:bN K H0 A0 H A O δ σ)
  (ha:H a=some (.ins C dx fs)) (s:H0 a=none) (n:∀(i:Nat) d,δ[i]?=some (some d)->objs d=true) (l:av (del H [a]) H') (hn:Is K (del H' (A++A0)) nd (.ref a)):bN K H0 A0 H' A O (kA a nd δ) σ:=by
 have o:Ls H A0:=R.ls0.same R.same;have na:a∉A++A0:=λz=>by
  rcases LW.mp z with z|z
  ·obtain⟨xs,e,q⟩:=R.ls a z;rw[ha]at e;cases e;cases q
  ·obtain⟨xs,e,q⟩:=o a z;rw[ha]at e;cases e;cases q
 have hd:del H (A++A0) a=some (.ins C dx fs):=by rw[aL na];exact ha
 have g:av (del (del H (A++A0)) [a]) (del H' (A++A0)):=Fv l;refine⟨λb u e=>?_,R.ls0,R.new,λb p=>?_,?_,λi d hi e=>?_,λi d hi e=>?_,λi j d e b hi t e1 e2 w x=>?_⟩
 ·exact iL l ha (R.same b u e) (λz=>by rw[z,s]at e;cases e)
 ·obtain⟨xs,e,q⟩:=R.ls b p;exact⟨xs,iL l ha e (λz=>by rw[z,ha]at e;cases e;cases q),q⟩
 ·unfold kA;rw[L5];exact R.len
 ·obtain⟨c,f,rfl⟩:=kN e;obtain⟨v,e1,h1⟩:=R.pl i c hi f;exact⟨v,e1,Is.mutH hd g hn (n i c f) h1⟩
 ·obtain⟨c,f,rfl⟩:=kN e;obtain⟨b,o',d1,e1,p,r,rfl,h1⟩:=R.own i c hi f;have h:=n i _ f;obtain⟨ds,xs,rfl,rfl⟩:∃ds xs,c=.list ds/\o'=.lst xs:=by
   unfold gY at h1;split at h1
   ·exact⟨_,_,rfl,rfl⟩
   ·exfalso;rcases h1 with⟨m,rfl,_⟩|⟨m,rfl,_⟩ <;> unfold objs jl at h <;> cases m <;> simp at h
   ·exact h1.elim
  have h1:Iss K _ ds xs:=h1;have:=n i _ f;unfold objs at this;exact⟨b,.lst xs,.list (jf a nd ds),e1,p,iL l ha r (λz=>by rw[z,ha]at r;cases r),by unfold fh;rfl,Iss.mutH hd g hn this h1⟩
 ·obtain⟨c,y,_⟩:=kN e1;obtain⟨d1,B,_⟩:=kN e2;exact R.inj i j c d1 b hi t y B w x
end
def sDN (as:List Addr) (K:PySem.W.Frag) (E:XK) (O:List Nat) (G:Ds->Sr):TS:=λD σ H=>∃H0 A0 A δ,(∀a∈as,H0 a=none)/\bN K H0 A0 H A O δ σ/\mL K E H0 A0 O (G δ) D
def PSN (as:List Addr) (X:Cx) (E:XK) (O:List Nat) (s:Stmt) (G:Ds->Sr):Prop:=PS X s (sDN as X.K E O G)
def PBN (as:List Addr) (X:Cx) (E:XK) (O:List Nat) (ss:List Stmt) (G:Ds->Sr):Prop:=PSs X ss (sDN as X.K E O G)
section
variable {E:XK} {ss:List Stmt} {G G':Ds->Sr} {c:Expr} {ca:Ds->Rs Bool}
theorem GV (h:PSD X E O st G):PSN as X E O st G:=h.imp λD σ H a=>(by obtain⟨H0,A0,A,δ,_,R,o⟩:=a;exact⟨H0,A0,A,δ,R,o⟩)
theorem Jg (h:PBD X E O ss G):PBN as X E O ss G:=h.imp λD σ H a=>(by obtain⟨H0,A0,A,δ,_,R,o⟩:=a;exact⟨H0,A0,A,δ,R,o⟩)
theorem Ee:PBN as X E O [] aY:=Jg sR
theorem uL (h1:PSN as X E O st G) (h2:PBN as X E O ss G'):PBN as X E O (st::ss) (aE G G'):=(cx h1 h2).imp λD σ H ⟨H0,A0,A,δ,hn,R,o⟩=>⟨H0,A0,A,δ,hn,R,by
 unfold aE at o;cases q:G δ with
 |nx δ'=>rw[q]at o;exact λa σ' H' b=>⟨H0,A0,a,δ',hn,b,o⟩
 |rt d=>rw[q]at o;exact o
 |rz C=>rw[q]at o;exact o
 |bk d=>rw[q]at o;exact o
 |ct d=>rw[q]at o;exact o
 |no=>rw[q]at o;exact o⟩
theorem yx (h1:PSN as X E O st G):PBN as X E O [st] G:=(hV h1).imp λD σ H h=>h
theorem HM {a:List Stmt} (hc:PCD X E c ca) (h1:PBN as X E O ss G) (h2:PBN as X E O a G'):PSN as X E O (.If c ss a pos) (sIf ca G G'):=(yM hc h1 h2).imp λD σ H e=>by
 obtain⟨H0,A0,A,δ,hn,R,o⟩:=e;unfold sIf at o;refine cD.run R.full (λt b H1 f R1=>?_) (λC b H' s'=>?_) (λb=>?_)
 ·rw[b]at o;cases t with
  |true=>exact⟨H0,A0,A,δ,hn,R.step f,o⟩
  |false=>exact⟨H0,A0,A,δ,hn,R.step f,o⟩
 ·rw[b]at o;exact o H' (R.same.trans s')
 ·rw[b]at o;exact o
theorem Ac (fuel:Nat) (j:PassesOwn (model X.prog X.w) X.A X.env X.xe) (hc:PCD X E c ca) (l:PBN as X E O ss G):PSN as X E O (.While c ss [] pos) (λδ=>cm ca G fuel δ):=(wm j hc l).imp λD σ H e=>by
 obtain⟨H0,A0,A,δ,hn,R,o⟩:=e;refine⟨λm σ H=>∃A δ,bN X.K H0 A0 H A O δ σ/\mL X.K E H0 A0 O (cm ca G m δ) D,⟨fuel,A,δ,R,o⟩,?_⟩
 rintro m σ H ⟨A,δ,R,o⟩
 cases m with
 |zero=>exact o.elim
 |succ m =>
  unfold cm at o;refine cD.run R.full (λt a H1 i R1=>?_) (λC a H' s'=>?_) (λa=>?_)
  ·rw[a]at o;cases t with
   |false=>exact o A σ H1 (R.step i)
   |true =>
    refine⟨λb H'=>∃A δ,bN X.K H0 A0 H' A O δ b/\mL X.K E H0 A0 O (cm ca G m δ) D,λb H' q=>⟨m,My m,q⟩,H0,A0,A,δ,hn,R.step i,?_⟩;have o:mL X.K E H0 A0 O (match G δ with
     |.nx δ2=>cm ca G m δ2
     |.ct δ2=>cm ca G m δ2
     |.bk δ2=>.nx δ2
     |.rt v=>.rt v
     |.rz C=>.rz C
     |.no=>.no) D:=o
    cases eb:G δ with
    |nx δ2=>rw[eb]at o;exact λf g n h=>⟨f,δ2,h,o⟩
    |ct δ2=>rw[eb]at o;exact λf g n h=>⟨f,δ2,h,o⟩
    |bk δ2=>rw[eb]at o;exact o
    |rt v=>rw[eb]at o;exact o
    |rz C=>rw[eb]at o;exact o
    |no=>rw[eb]at o;exact o.elim
  ·rw[a]at o;exact o H' (R.same.trans s')
  ·rw[a]at o;exact o
end
def kz:List (PyData×PyData)->Option (List (Str×PyData))
 |[]=>some []
 |(.str f,d)::r=>(kz r).map λl=>(f,d)::l
 |_=>none
theorem rO:∀{r:List (PyData×PyData)} {fds:List (Str×PyData)},kz r=some fds->r=fds.map λp=>(.str p.1,p.2)
 |[],fds,e=>by cases e;rfl
 |(k,d)::r,fds,e=>by
  cases k <;> first|(cases e;done)|skip
  rename_i f;unfold kz at e;cases q:kz r with
  |none=>rw[q]at e;cases e
  |some l=>rw[q]at e;cases e;rw[rO q];rfl
theorem qh:∀fds:List (Str×PyData),kz (fds.map λp=>(.str p.1,p.2))=some fds
 |[]=>rfl
 |p::r=>by rw[L4];unfold kz;rw[qh r];rfl
def objOf:PyData->Option (Addr×Addr×List (Str×PyData))
 |.dict ((.str x,.int c)::(.str y,.int b)::r)=>if x=""/\y="@"/\0<=c/\0<=b then (kz r).map λl=>(c.toNat,b.toNat,l) else none
 |_=>none
theorem B6 {d:PyData} {fds:List (Str×PyData)} (e:objOf d=some (C,a,fds)):d=ck C a fds:=by
 unfold objOf at e;split at e
 ·rename_i x c y b r;split at e
  ·rename_i h;obtain⟨rfl,rfl,f,h1⟩:=h;obtain⟨l,q,e⟩:=MA.mp e;cases e;rw[rO q];unfold ck;rw[MN f,MN h1]
  ·cases e
 ·cases e
theorem q9 (C a:Addr) (fds:List (Str×PyData)):objOf (ck C a fds)=some (C,a,fds):=by unfold ck objOf;simp only[MR,and_self,if_true,qh,MD,LV]
def mR (f:Str):List (Str×PyData)->Option PyData
 |[]=>none
 |(g,d)::r=>if g=f then some d else mR f r
def pZ (f:Str) (v:PyData):List (Str×PyData)->List (Str×PyData)
 |[]=>[(f,v)]
 |(g,x)::r=>if g=f then (g,v)::r else (g,x)::pZ f v r
theorem Isk.put {K:PySem.W.Frag} {H:Hp} {f:Str} {d:PyData} {v:V} (hv:Is K H d v):∀{fds:List (Str×PyData)} {gs:List (Str×V)},Isk K H (fds.map λp=>(.str p.1,p.2)) gs->Isk K H ((pZ f d fds).map λp=>(.str p.1,p.2)) (hZ f v gs)
 |[],gs,h=>by rw[Mr]at h;unfold Isk at h;subst h;exact dS hv nN
 |(g,x)::r,gs,h=>by
  rw[L4]at h;unfold Isk at h;obtain⟨g',u,a,rfl,e,h1,h2⟩:=h;injection e with e
  subst e;show Isk K H ((if g=f then (g,d)::r else (g,x)::pZ f d r).map _) (if g=f then (g,v)::a else (g,u)::hZ f v a);by_cases z:g=f
  ·rw[if_pos z,if_pos z];exact dS hv h2
  ·rw[if_neg z,if_neg z];exact dS h1 (Isk.put hv h2)
theorem Isk.look {K:PySem.W.Frag} {H:Hp} {f:Str} {d:PyData}:∀{fds:List (Str×PyData)} {gs:List (Str×V)},Isk K H (fds.map λp=>(.str p.1,p.2)) gs->mR f fds=some d->∃v,gs.lookup f=some v/\Is K H d v
 |[],gs,h,e=>by cases e
 |(g,x)::r,gs,h,e=>by
  rw[L4]at h;unfold Isk at h;obtain⟨g',u,gs',rfl,e2,h1,h2⟩:=h;injection e2 with e2
  subst e2;unfold mR at e;rw[LU];by_cases z:g=f
  ·rw[if_pos z]at e;cases e;subst z;simp only[beq_self_eq_true];exact⟨u,rfl,h1⟩
  ·rw[if_neg z]at e;rw[show (f==g)=false by simpa using λq=>z q.symm];exact Isk.look h2 e
theorem Isk.len {K:PySem.W.Frag} {H:Hp}:∀{fds:List (PyData×PyData)} {gs:List (Str×V)},Isk K H fds gs->gs.length=fds.length
 |[],_,h=>by unfold Isk at h;rw[h];rfl
 |(k,d)::r,_,h=>by unfold Isk at h;obtain⟨_,_,_,rfl,_,_,h2⟩:=h;rw[LI,LI,Isk.len h2]
theorem Is.atObj {fds:List (Str×PyData)} (h:Is K H (ck C a fds) v):v=.ref a/\∃dx gs,H a=some (.ins C dx gs)/\gs.lookup ("@":Str)=none/\Isk K H (fds.map λp=>(.str p.1,p.2)) gs:=by
 unfold ck at h;unfold Is at h;rcases h with (⟨g,ns,_,e,_⟩|⟨g,l,_,e,_⟩)|⟨g,t,i,gs,e,h1,b,h2|h2⟩
 ·cases e
 ·rcases e with⟨m,e,_⟩|⟨m,e,_⟩ <;> first|(cases e;done)|(cases m <;> cases e)
 ·unfold Isk at h2;obtain⟨f,u,j,e1,e2,q,c⟩:=h2;cases e1;unfold Isk at c;obtain⟨f,u,j,e1,e2,r,s⟩:=c;injection e2 with e2
  subst e2 e1;rw[LU]at b;simp at b
 ·unfold Isk at h2;obtain⟨f,u,j,e1,e2,q,c⟩:=h2;cases e1;have n:=q.ofInt;injection n with n
  obtain rfl:t=C:=Int.ofNat.inj n;unfold Isk at c;obtain⟨f,u,j,e1,e2,r,s⟩:=c;cases e1;have o:=r.ofInt;injection o with o
  obtain rfl:g=a:=Int.ofNat.inj o;exact⟨e,i,gs,h1,b,s⟩
def fZ (fds:List (Str×PyData)):Bool:=kL (fds.map λp=>(.str p.1,p.2))
theorem wa (C a:Addr) (fds:List (Str×PyData)):objs (ck C a fds)=fZ fds:=by unfold ck objs jl fZ;cases h:kL (fds.map λp=>(PyData.str p.1,p.2)) <;> simp[h]
def gm (δ:Ds):Bool:=δ.all λo=>match o with|some d=>objs d|none=>true
theorem jH (h:gm δ=true) (i:Nat) (d:PyData) (e:δ[i]?=some (some d)):objs d=true:=by have:=LD.mp h _ (M1 e);exact this
theorem Cz {fds:List (Str×PyData)} {gs:List (Str×V)} {f:Str} {z:Int} (hB:a∉B) (ha:H a=some (.ins C dx gs)) (hl:gs.lookup ("@":Str)=none) (c:f≠"@") (g:fZ fds=true) (h:Isk K (del H B) (fds.map λp=>(.str p.1,p.2)) gs) :
  Is K (del (upd H a (.ins C dx (hZ f (.int z) gs))) B) (ck C a (pZ f (.int z) fds)) (.ref a):=by
 rw[vL hB];refine Dm (dx:=dx) (fs:=hZ f (.int z) gs) (aG) (by rw[jT,if_neg (λq=>c q.symm)];exact hl) (Isk.put bL ?_);have hd:del H B a=some (.ins C dx gs):=by rw[aL hB];exact ha
 refine (Isk.off hd g h).same λb o e=>?_
 obtain⟨e1,e2⟩:=aZ e;rw[ay (λq=>e1 (by rw[q];exact Lx.mpr rfl))];exact e2
theorem uN:av (del H [a]) (upd H a o):=λb u e=>by obtain⟨e1,e2⟩:=aZ e;rw[ay (λq=>e1 (by rw[q];exact Lx.mpr rfl))];exact e2
def nv (as:List Addr) (C:Addr) (i:Nat) (δ:Ds):Option (Addr×List (Str×PyData)):=match δ[i]? with
 |some (some d)=>(match objOf d with
  |some (C',a,fds)=>if C'=C/\a∈as/\gm δ=true/\fZ fds=true/\fds.length<1000 then some (a,fds) else none
  |none=>none)
 |_=>none
theorem mr {fds:List (Str×PyData)} (h:nv as C i δ=some (a,fds)):δ[i]?=some (some (ck C a fds))/\a∈as/\gm δ=true/\fZ fds=true/\fds.length<1000:=by
 unfold nv at h;split at h
 ·rename_i d e;split at h
  ·rename_i C' a' fds' q;split at h
   ·rename_i c;cases h;obtain⟨rfl,c1,b,f,g⟩:=c;rw[e,B6 q];exact⟨rfl,c1,b,f,g⟩
   ·cases h
  ·cases h
 ·cases h
def lM (as:List Addr) (C:Addr) (i:Nat) (f:Str) (g:Ds->Rs PyData):Ds->Sr:=λδ=>match nv as C i δ with
 |some (a,fds)=>ofR (g δ) λd=>match d with
  |.int z=>.nx (kA a (ck C a (pZ f (.int z) fds)) δ)
  |_=>.no
 |none=>.no
def eE (as:List Addr) (C:Addr) (i:Nat) (f:Str) (g:Ds->Rs PyData):Ds->Sr:=λδ=>match nv as C i δ with
 |some (a,fds)=>(match mR f fds with
  |some (.int n)=>ofR (g δ) λd=>match d with
   |.int z=>.nx (kA a (ck C a (pZ f (.int (n+z)) fds)) δ)
   |_=>.no
  |_=>.no)
 |none=>.no
section
variable {E:XK} {o value:Expr} {g:Ds->Rs PyData} {tpos:Pos} {f:Str}
theorem FX (I:PD X E o (af i)) (hv:PD X E value g) (cl:Cls X.K C) (na:eU X.K C f) (hi:i∉O) (J:f≠"@") (L:swapsWith value (some (.Attribute o f pos')) pos.line X.env=pure false):PSN as X E O (.Assign [.Attribute o f pos'] value pos) (lM as C i f g):=(fS I hv L).imp λD σ H s=>by
 obtain⟨H0,A0,A,δ,hn,R,b⟩:=s;unfold lM at b;split at b
 case h_2=>exact b.elim
 rename_i a fds q;obtain⟨e,ha,t,u,w⟩:=mr q;refine eD.run R.full (λd M v H1 G R1 hv=>?_) (λC c H' s'=>?_) (λc=>?_)
 ·rw[M]at b;cases d with
  |int z =>
   have x:=hv.ofInt;subst x;have e2:af i δ=.ok (ck C a fds):=by unfold af;rw[e]
   refine eD.run (R.step G).full (λd2 j v2 H2 s2 R2 y=>?_) (λC c H' s'=>?_) (λc=>?_)
   ·rw[e2]at j;cases j;obtain⟨rfl,dx,gs,hp,hl,hk⟩:=y.atObj;have l:=R.step (G.trans s2);obtain⟨v3,e3,N⟩:=l.pl i _ hi e;obtain⟨rfl,m,n,p,B,r⟩:=N.atObj;have h:H2 a=some (.ins C m n):=(aZ p).2;have F:a∉A++A0:=(aZ p).1;refine⟨a,C,m,n,rfl,h,cl,na,by rw[r.len,L5];exact w,?_⟩;exact b A σ _ (l.mutH h (hn a ha) (jH t) uN (Cz F h B J u r))
   ·rw[e2]at c;cases c
   ·rw[e2]at c;cases c
  |_=>exact b.elim
 ·rw[c]at b;exact b H' (R.same.trans s')
 ·rw[c]at b;exact b
theorem wC (P:PD X E o (af i)) (hv:PD X E value g) (cl:Cls X.K C) (na:eU X.K C f) (hi:i∉O) (Q:f≠"@"):PSN as X E O (.AugAssign (.Attribute o f tpos) .Add value pos) (eE as C i f g):=(Ax P hv IK).imp λD σ H t=>by
 obtain⟨H0,A0,A,δ,hn,R,b⟩:=t;unfold eE at b;split at b
 case h_2=>exact b.elim
 rename_i a fds q;obtain⟨e,ha,u,x,y⟩:=mr q;split at b
 case h_2=>exact b.elim
 rename_i n B;have e2:af i δ=.ok (ck C a fds):=by unfold af;rw[e]
 refine eD.run R.full (λd2 j v2 H1 F R1 G=>?_) (λC c H' s'=>?_) (λc=>?_)
 ·rw[e2]at j;cases j;obtain⟨rfl,dx,gs,S,hl,T⟩:=G.atObj;obtain⟨v,U,I⟩:=T.look B;have J:=I.ofInt;subst J;refine⟨a,C,dx,gs,.int n,rfl,(aZ S).2,cl,na,U,?_⟩;refine eD.run (R.step F).full (λd W w H2 s2 R2 hw=>?_) (λC c H' s'=>?_) (λc=>?_)
  ·rw[W]at b;cases d with
   |int z =>have L:=hw.ofInt;subst L;refine⟨n,z,rfl,rfl,?_⟩;have l:=R.step (F.trans s2);obtain⟨v3,e3,Y⟩:=l.pl i _ hi e;obtain⟨rfl,m,p,r,M,s⟩:=Y.atObj;have h:H2 a=some (.ins C m p):=(aZ r).2;have N:a∉A++A0:=(aZ r).1;refine⟨m,p,h,by rw[s.len,L5];exact y,?_⟩;exact b A σ _ (l.mutH h (hn a ha) (jH u) uN (Cz N h M Q x s))
   |_=>exact b.elim
  ·rw[c]at b;exact b H' (R.same.trans (F.trans s'))
  ·rw[c]at b;exact b
 ·rw[e2]at c;cases c
 ·rw[e2]at c;cases c
end
def spM (K:PySem.W.Frag) (C:Addr) (g:List (Str×PyData)->Option (List (Str×PyData))):Sp:=λvs H Q E=>∃A a fds b,vs=[.ref a]/\Ls H A/\Is K (del H A) (ck C a fds) (.ref a)/\fZ fds=true/\fds.length<1000/\g fds=some b /\
 ∀H',av (del H [a]) H'->Is K (del H' A) (ck C a b) (.ref a)->Q .non H'
structure jt (P:Program) (w:World) (K:PySem.W.Frag) (mg:Str->Option Value) (base:Heap) (k:Nat) (C:Addr) (m:Str) (g:List (Str×PyData)->Option (List (Str×PyData))):Prop where
 ex:∃f fd ps,Cls K C/\Meth K C m f/\gj P w K mg base (CXW P w) k f fd ps (spM K C g)/\Binds K fd ps []
theorem p9 {K:PySem.W.Frag} {H:Hp} {f:Str}:∀{fds:List (Str×PyData)} {gs:List (Str×V)},Isk K H (fds.map λp=>(.str p.1,p.2)) gs->mR f fds=none->gs.lookup f=none
 |[],gs,h,_=>by rw[Mr]at h;unfold Isk at h;rw[h];rfl
 |(g,x)::r,gs,h,e=>by
  rw[L4]at h;unfold Isk at h;obtain⟨g',u,gs',rfl,e2,h1,h2⟩:=h;injection e2 with e2
  subst e2;unfold mR at e;rw[LU];by_cases z:g=f
  ·rw[if_pos z]at e;cases e
  ·rw[if_neg z]at e;rw[show (f==g)=false by simpa using λq=>z q.symm];exact p9 h2 e
def kF (as:List Addr) (C:Addr) (m:Str) (i:Nat) (g:List (Str×PyData)->Option (List (Str×PyData))):Ds->Sr:=λδ=>match nv as C i δ with
 |some (a,fds)=>if mR m fds=none then (match g fds with
  |some fds'=>.nx (kA a (ck C a fds') δ)
  |none=>.no) else .no
 |none=>.no
section
variable {E:XK} {o:Expr} {apos:Pos}
theorem Cv {k:Nat} {pl:Sem Bool} (D:jt X.prog X.w X.K X.mg X.base k C m g) (G:bY j X.A) (I:Passes (CXW X.prog X.w) X E) (J:PD X E o (af i)) (p:k<=j) (hi:i∉O)
  (L:eval (.Call (.Attribute o m apos) [] [] pos) X.env=(do
   let ov <-eval o X.env
   standAt apos.atName
   let (f,first) <-holding [ov] (getMethod ov m pl)
   callWith pos f first (backTo pos (starEach [] X.env)) (backToKw pos (keywordEach [] X.env))))
  (M:swapsWith (.Call (.Attribute o m apos) [] [] pos) none spos.line X.env=pure false) :
  PSN as X E O (.Expr (.Call (.Attribute o m apos) [] [] pos) spos) (kF as C m i g):=by
 obtain⟨f,fd,ps,cl,hm,F,N⟩:=D.ex;refine (nK (wc J cl hm F (G.mono p) N .nil I L) M).imp λD σ H r=>?_
 obtain⟨H0,A0,A,δ,hn,R,b⟩:=r;unfold kF at b;split at b
 case h_2=>exact b.elim
 rename_i a fds q;obtain⟨e,ha,s,t,u⟩:=mr q;split at b
 case isFalse=>exact b.elim
 rename_i v;split at b
 case h_2=>exact b.elim
 rename_i h P;have e2:af i δ=.ok (ck C a fds):=by unfold af;rw[e]
 refine eD.run R.full (λd2 l v2 H1 Q R1 x=>?_) (λC n H' s'=>?_) (λn=>?_)
 ·rw[e2]at l;cases l;obtain⟨rfl,dx,gs,S,hl,p⟩:=x.atObj;have c:=R.step Q;obtain⟨v3,e3,B⟩:=c.pl i _ hi e;obtain⟨rfl,dx',gs',y,hl',hk'⟩:=B.atObj;refine⟨a,dx,gs,rfl,(aZ S).2,p9 p v,?_⟩;refine⟨A++A0,a,fds,h,rfl,c.lsA,B,t,u,P,λH' T z=>?_⟩;exact b A σ H' (c.mutH (aZ y).2 (hn a ha) (jH s) T z)
 ·rw[e2]at n;cases n
 ·rw[e2]at n;cases n
end
theorem jt.of {p:Str} {k:Nat} (F:Fun K m qual st f fd) (S:cR N [p] (aB st)) (b:Binds K fd [p] []) (cl:Cls K C) (hm:Meth K C m f)
  (body:∀(as:List Addr) (cdv:Value) (A:Around) (outer:List Env) (s:Shared) (H:Hp) (E:XK),bY k (A.deeper (envOfC qual (aB st) s.heap.objs.size f cdv))->PBN as (cU (CXW P w) P w K mg base N qual (aB st) f cdv A outer s H E) E [] (b0 st) (G as))
  (J:∀a fds c,fZ fds=true->fds.length<1000->g fds=some c->∃δ,G [a] (some (ck C a fds)::List.replicate (N.length-1) none)=.nx δ/\δ[0]?=some (some (ck C a c))):jt P w K mg base (k+1) C m g:=by
 refine⟨f,fd,[p],cl,hm,kW F S (λvs H Q E h=>?_) (λcdv A outer s H vs Q E L h=>?_),b⟩
 ·obtain⟨A,a,fds,c,rfl,_⟩:=h;rfl
 ·obtain⟨A0,a,fds,c,rfl,D,hi,n,r,t,o⟩:=h;obtain⟨_,dx,gs,M,hl,hk⟩:=hi.atObj;have ha:=aZ M;obtain⟨δ,e1,e2⟩:=J a fds c n r t;have l:bN K H A0 H [] [] (some (ck C a fds)::List.replicate (N.length-1) none) (L2.start N [.ref a]):=bN.start (ps:=[p]) (ds:=[ck C a fds]) D (cq hi cK) rfl (λi h=>by cases h);have x:Ls (del H [a]) A0:=λb j=>by
   obtain⟨xs,e,q⟩:=D b j;exact⟨xs,by
    have y:b∉[a]:=λz=>ha.1 (by rw[<-Lx.mp z];exact j)
    rw[aL y];exact e,q⟩
  refine⟨_,body [a] cdv A outer s H E L,del H [a],A0,[],_,λb j=>by rw[Lx.mp j];exact gJ (Lx.mpr rfl),⟨aw,x,λb j=>(LL j).elim,l.ls,l.len,l.pl,l.own,l.inj⟩,?_⟩;rw[e1];intro A' σ' H' I;refine o H' I.same ?_;obtain⟨v,_,h2⟩:=I.pl 0 _ (by simp) e2;have B:=h2.same (H':=del H' A0) (λb u e=>by obtain⟨O,R⟩:=aZ e;rw[aL (λz=>O (Lw _ z))];exact R)
  rw[B.atObj.1]at B;exact B
def KR (C:Addr) (names:List Str) (tl:List (Str×Int)):Sp:=λvs H Q _=>∃(x dx:Addr) (args:List V),vs=.ref x::args/\args.length=names.length/\H x=some (.ins C dx []) /\
 ∀H':Hp,(∀b,b≠x->H' b=H b)->H' x=some (.ins C dx (names.zip args++tl.map λp=>(p.1,.int p.2)))->Q .non H'
structure MkD (P:Program) (w:World) (K:PySem.W.Frag) (mg:Str->Option Value) (base:Heap) (k:Nat) (x:Str) (C:Addr) (names:List Str) (tl:List (Str×Int)):Prop where
 ex:∃f fd ps,Mk K C f/\gj P w K mg base (CXW P w) k f fd ps (KR C names tl)/\Binds K fd ps []/\mg x=some (.ref C)
def tlD (tl:List (Str×Int)):List (Str×PyData):=tl.map λp=>(p.1,.int p.2)
theorem Bo {K:PySem.W.Frag} {H:Hp}:∀tl:List (Str×Int),Isk K H ((tlD tl).map λp=>(.str p.1,p.2)) (tl.map λp=>(p.1,.int p.2))
 |[]=>nN
 |p::r=>dS bL (Bo r)
theorem yQ {K:PySem.W.Frag} {H:Hp} {e:List (PyData×PyData)} {gs:List (Str×V)} (h2:Isk K H e gs):∀{d:List (PyData×PyData)} {fs:List (Str×V)},Isk K H d fs->Isk K H (d++e) (fs++gs)
 |[],fs,h=>by unfold Isk at h;subst h;exact h2
 |(k,x)::r,fs,h=>by unfold Isk at h;obtain⟨f,v,fs',rfl,rfl,h1,a⟩:=h;exact dS h1 (yQ h2 a)
theorem oP {f:Str} {b:List (Str×V)} (c:b.lookup f=none):∀{a:List (Str×V)},a.lookup f=none->(a++b).lookup f=none
 |[],_=>c
 |(g,x)::r,h=>by
  rw[M6,LU];rw[LU]at h;cases q:(f==g) with
  |true=>rw[q]at h;cases h
  |false=>rw[q]at h;exact oP c h
theorem Gi {f:Str}:∀{tl:List (Str×Int)},(f∉tl.map (·.1))->(tl.map λp=>((p.1,V.int p.2):Str×V)).lookup f=none
 |[],_=>rfl
 |p::r,h=>by rw[L4,LU,show (f==p.1)=false by simpa using λq=>h (by rw[q];exact L6)];exact Gi λq=>h (L3 _ q)
def eMk (K:PySem.W.Frag) (E:XK) (C:Addr) (names:List Str) (tl:List (Str×Int)) (gs:Ds->Rs (List PyData)):TE:=λσ H Q=>∃A δ,dq K H A δ σ/\(match gs δ with
 |.ok ds=>ds.length=names.length/\∀x H',H x=none->av H H'->Is K (del H' A) (ck C x (names.zip ds++tlD tl)) (.ref x)->Q (.ref x) H'
 |.rz C'=>∀H',av H H'->E (.ref C') none H'
 |.no=>False)
section
variable {E:XK} {es:List Expr}
theorem J0 {k:Nat} (D:MkD X.prog X.w X.K X.mg X.base k x C names tl) (s:bY j X.A) (t:Passes (CXW X.prog X.w) X E) (ha:PAD X E (e::es) gs) (u:k+1<=j:=by decide) (v:Gl X x:=by rfl)
  (a:(x==("__debug__":Str))=false:=by decide) (y:starEach (e::es) X.env=(false,eval e X.env)::starEach es X.env:=by rfl) (c:(backTo pos (starEach es X.env)).any (·.1)=false:=by rfl) (hn:("@":Str)∉names:=by decide) (g:("@":Str)∉tl.map (·.1):=by decide) :
  PE X (.Call (.Name x p) (e::es) [] pos) (eMk X.K E C names tl gs):=by
 obtain⟨f,fd,ps,M,F,z,hm⟩:=D.ex;refine (yt M F (s.mono u) v hm z .nil t ha.1 a y c).imp λσ H Q h=>?_
 obtain⟨A,δ,R,o⟩:=h;refine aD.run R (λds e1 vs H1 n B h1=>?_) (λC i H' s'=>?_) (λi=>?_)
 ·rw[e1]at o;obtain⟨hl,o⟩:=o;intro x dx nx l ne;refine⟨x,dx,vs++[],rfl,by rw[Mi,h1.length,hl],aG,λH' k1 k2=>⟨rfl,?_⟩⟩;rw[Mi]at k2;have r:av H1 H':=λb q m=>by have n1:b≠x:=aI m nx;rw[k1 b n1,ay n1,ay (aI m l)];exact m
  refine o x H' (n.free nx) (n.trans r) (Dm (dx:=dx) (fs:=names.zip vs++tl.map λp=>(p.1,.int p.2)) ?_ (oP (Gi g) (xY hn)) ?_)
  ·rw[aL (B.ls.new nx)];exact k2
  ·rw[M5];exact yQ (Bo tl) (sT (h1.same r.del))
 ·rw[i]at o;exact o H' s'
 ·rw[i]at o;exact o
end
def ko (C:Addr) (names:List Str) (tl:List (Str×Int)) (as:List Addr) (a:List (List PyData)):List PyData:=(as.zip a).map λp=>ck C p.1 (names.zip p.2++tlD tl)
def lJ (K:PySem.W.Frag) (E:XK) (C:Addr) (names:List Str) (tl:List (Str×Int)) (n0:Nat) (e gs:Ds->Rs (List PyData)) (tgt:PyData->Option Ds):TE:=λσ H Q=>∃A δ,dq K H A δ σ/\δ.length=n0/\∃ds b,e δ=.ok ds/\ds.length<=1000000/\b.length=ds.length /\
 (∀(i:Nat) d,ds[i]?=some d->∃c fs,tgt d=some c/\b[i]?=some fs/\gs (δ++c)=.ok fs/\fs.length=names.length) /\
 ∀(as:List Addr) (D:Addr) (H':Hp),as.length=ds.length->as.Nodup->(∀a∈as,H a=none)->av H H'->Is K (del H' A) (.list (ko C names tl as b)) (.ref D)->Q (.ref D) H'
theorem Jl {E:XK} {g:TG} (hT:TgD K n0 own.length tgt g) :
  ∀σ H Q,lJ K E C names tl n0 gi gs tgt σ H Q->tLC own.length (iD K E gi) g wo (eMk K E0 C names tl gs) σ H Q:=by
 intro σ H Q ⟨A,δ,R,X,ds,j,q,hz,Y,Z,o⟩;have hσ:σ.length=n0:=by rw[<-R.len];exact X
 refine⟨A,δ,R,?_⟩;rw[q];intro J H1 s1 hJ D P;have S:=R.same s1;have nD:D∉A:=S.ls.new P;refine⟨λi m ys H'=>m=ds.length-i/\i<=ds.length/\av H1 H'/\H' D=some (.lst ys)/\∃as:List Addr,as.length=i/\ys=as.map V.ref/\as.Nodup/\(∀a∈as,H1 a=none/\a≠D/\∃u,H' a=some u)/\Iss K (del H' (D::A)) (ko C names tl as (j.take i)) ys,
  ⟨ds.length,by simp,Me _,bD P,aG,[],rfl,rfl,List.nodup_nil,λa h=>(LL h).elim,cK⟩,?_⟩
 rintro i m ys H' ⟨rfl,hi,w,hl,as,n,rfl,nd,l,c3⟩
 refine⟨hl,?_⟩;have sG:av (del H1 A) H':=aw.trans w;have F:∀b∈D::A,(del H1 A) b=none:=λb r=>by
  rcases L7.mp r with z|z
  ·rw[z,aL nD];exact P
  ·exact gJ z
 obtain⟨jg,js,jy⟩:=hJ H' (D::A) sG (λb r=>by
  rcases L7.mp r with z|z
  ·exact⟨_,by rw[z];exact hl,rfl⟩
  ·exact (S.ls.same w) b z) F
 by_cases hlt:i<ds.length
 ·refine .inr ⟨jg i hlt,λx H2 σ' G y=>?_⟩;obtain⟨s2,d,ed,hd⟩:=jy i x H2 hlt y;obtain⟨ow,fs,et,ef,eg,hfs⟩:=Z i d ed;have l2:H2 D=some (.lst (as.map V.ref)):=s2 _ _ hl;have I:Ls H2 (D::A):=λb r=>by
   rcases L7.mp r with z|z
   ·exact⟨_,by rw[z];exact l2,rfl⟩
   ·exact (S.ls.same (w.trans s2)) b z
  obtain⟨hol,hgo⟩:=hT d x σ σ' H2 (D::A) (λs H2=>wo s H2 λb H3 =>
   if b=true then eMk K E0 C names tl gs s H3 λv B=>B D=some (.lst (as.map V.ref))/\(as.map V.ref).length<sizeLine/\(∃f,s=σ++f/\f.length=own.length)/\∃m',m' < ds.length-i/\_
   else (∃f,s=σ++f/\f.length=own.length)/\∃m',m' < ds.length-i/\_) ow hσ G I hd et
  refine hgo λvs L M=>?_
  have N:av (del H1 A) (del H2 (D::A)):=kS (sG.trans s2) F;have RE:dq K H2 (D::A) (δ++ow) (σ++vs):=by
   refine⟨I,by rw[LB,LB,R.len,L,hol],λk e T=>?_⟩;by_cases hk:k<δ.length
   ·rw[LP hk]at T;obtain⟨u,e1,t⟩:=S.get k e T;exact⟨u,by rw[LP (by rw[<-R.len];exact hk)];exact e1,t.same N⟩
   ·rw[LS (by omega)]at T;obtain⟨u,e1,t⟩:=M _ e T;exact⟨u,by rw[LS (by rw[<-R.len];omega),<-R.len];exact e1,t⟩
  unfold wo;have hI:∀{p q:Prop},p->(if true=true then p else q):=λh=>by rw[if_pos rfl];exact h
  refine hI ?_;refine⟨D::A,δ++ow,RE,?_⟩;rw[eg];refine⟨hfs,λa B na U ha=>?_⟩;have l4:B D=some (.lst (as.map V.ref)):=U _ _ l2;have O:a≠D:=λz=>by rw[z,l2]at na;cases na
  have naA:a∉as:=λz=>by obtain⟨_,_,u,t⟩:=l a z;rw[s2 _ _ t]at na;cases na
  have dU:del (upd B D (.lst (as.map V.ref++[.ref a]))) (D::A)=del B (D::A):=jU (L6);have h4a:∃u,B a=some u:=by obtain⟨_,dx,gs',hp,_⟩:=ha.atObj;exact⟨_,(aZ hp).2⟩
  have hex:ko C names tl (as++[a]) (j.take (i+1))=ko C names tl as (j.take i)++[ck C a (names.zip fs++tlD tl)]:=by
   have ht:j.take (i+1)=j.take i++[fs]:=by rw[List.take_add_one,ef];rfl
   unfold ko;rw[ht,List.zip_append (by rw[n,MK];omega),M5];rfl
  refine⟨l4,by rw[sizeLine_eq,L5,n];omega,⟨vs,rfl,L⟩,ds.length-(i+1),by omega,rfl,hlt,?_,aG,as++[a],by rw[LB,n];rfl,by rw[M5];rfl,?_,λb r=>?_,?_⟩
  ·exact av.put ((w.trans s2).trans U) P
  ·exact Nn.mpr ⟨nd,by simp,λb r c hc e=>by rw[Lx.mp hc]at e;exact naA (e▸r)⟩
  ·rcases LW.mp r with z|z
   ·obtain⟨h1,h2,u,t⟩:=l b z;refine⟨h1,h2,u,?_⟩;rw[ay h2];exact U _ _ (s2 _ _ t)
   ·cases Lx.mp z;obtain⟨u,t⟩:=h4a;refine⟨(w.trans s2).free na,O,u,?_⟩;rw[ay O];exact t
  ·rw[dU,hex];exact (c3.same (av.del (s2.trans U))).append (iS ha)
 ·have e:i=ds.length:=by omega
  subst e;rw[<-Y,Nw]at c3;refine .inl ⟨js,o as D H' (by rw[n]) nd (λa ha=>s1.free (l a ha).1) (s1.trans w) ?_⟩;have hs:av (del H' (D::A)) (del H' A):=λb u eb=>by obtain⟨q1,q2⟩:=aZ eb;rw[aL (λz=>q1 (L3 _ z))];exact q2
  exact jv (by rw[aL nD];exact hl) (c3.same hs)
section
variable {E:XK} {ss:List Stmt}
theorem DY {r:Ds->Rs (List PyData)} {e:Ds->Sr} (u:PS X st (BX (lJ X.K E C names tl n0 r gs tgt) (jQ i))) (f:∀as,PBN as X E O ss (G as)) (hi:i∉O)
  (g:∀δ,e δ≠.no->∃d ds b,e δ=.rt d/\i<δ.length/\δ.length=n0/\r (mask O δ)=.ok ds/\ds.length<=1000000/\b.length=ds.length/\(∀(i:Nat) d,ds[i]?=some d->∃t fs,tgt d=some t/\b[i]?=some fs/\gs (mask O δ++t)=.ok fs/\fs.length=names.length) /\
   ∀as:List Addr,as.length=ds.length->as.Nodup->G as (δ.set i (some (.list (ko C names tl as b))))=.rt d):PBD X E O (st::ss) e:=by
 have h2:PSs X ss (λD σ H=>∃as,sDN as X.K E O (G as) D σ H):=λpins s σ H D I j=>(by obtain⟨as,h⟩:=j;exact f as pins s σ H D I h)
 refine (cx u h2).imp λD σ H l=>?_
 obtain⟨H0,A0,A,δ,R,o⟩:=l;by_cases z:e δ=.no
 ·rw[z]at o;exact o.elim
 obtain⟨d,ds,b,e1,hl,hn,e2,v,w,m,x⟩:=g δ z;rw[e1]at o;have n:(mask O δ).length=n0:=by rw[uF];exact hn
 refine⟨A++A0,mask O δ,R.part,n,ds,b,e2,v,w,m,λas Dd H' p nd c y q=>?_⟩;refine⟨as,H0,A0,A,_,λa ha=>R.same.free (c a ha),(R.step y).set hi hl q,?_⟩;rw[x as p nd];exact o
end
section
variable {κ:Type} [DecidableEq κ]
def lS (kvs:List (κ×V)) (k:κ):Option V:=(kvs.find? λa=>decide (a.1=k)).map (·.2)
def putK (kvs:List (κ×V)) (k:κ) (v:V):List (κ×V) :=
 if (kvs.any λa=>decide (a.1=k))=true then kvs.map (λa=>if a.1=k then (a.1,v) else a) else kvs++[(k,v)]
theorem pB {p:κ×V} {r:List (κ×V)} {k:κ} (e:p.1=k):lS (p::r) k=some p.2:=by simp[lS,Ms,e]
theorem pw {p:κ×V} {r:List (κ×V)} {k:κ} (e:¬ p.1=k):lS (p::r) k=lS r k:=by simp[lS,Ms,e]
theorem vN (k:κ):∀kvs:List (κ×V),(kvs.any λa=>decide (a.1=k))=(lS kvs k).isSome
 |[]=>rfl
 |p::r=>by
  rw[MQ];by_cases e:p.1=k
  ·simp only[pB e,decide_eq_true e,Bool.true_or,Option.isSome_some]
  ·rw[pw e,decide_eq_false e,Bool.false_or];exact vN k r
theorem mX (kvs:List (κ×V)) (k:κ) (v:V):(putK kvs k v).length<=kvs.length+1:=by
 unfold putK;split
 ·rw[L5];omega
 ·rw[LB,LI,Mm];omega
theorem kg.isSome_eq {o:Option V} {u:Option Value} (r:kg o u):o.isSome=u.isSome:=by
 cases o with
 |none=>cases u with
  |none=>rfl
  |some _=>exact (show False from r).elim
 |some _=>cases u with
  |none=>exact (show False from r).elim
  |some _=>rfl
theorem kg.getD {o:Option V} {u:Option Value} {d:V} {d':Value} (r:kg o u) (a:RelV d d'):RelV (o.getD d) (u.getD d'):=by
 cases o with
 |none=>cases u with
  |none=>exact a
  |some _=>exact (show False from r).elim
 |some _=>cases u with
  |none=>exact (show False from r).elim
  |some _=>exact r
theorem KV.val {kvs:List (κ×V)} {vs:List (κ×Value)} (r:KV kvs vs) (k:κ):kg (lS kvs k) (valueAt vs k):=by
 unfold KV at r
 induction r with
 |nil=>exact True.intro
 |@cons p q ps qs h t ih =>
  obtain⟨h1,h2⟩:=h;by_cases e:p.1=k
  ·have a:q.1=k:=h1.symm.trans e;have b:valueAt (q::qs) k=some q.2:=by simp[valueAt,Ms,a]
   rw[pB e,b];exact h2
  ·have a:¬ q.1=k:=λz=>e (h1.trans z)
   have b:valueAt (q::qs) k=valueAt qs k:=by simp[valueAt,Ms,a]
   rw[pw e,b];exact ih
theorem KV.any {kvs:List (κ×V)} {vs:List (κ×Value)} (r:KV kvs vs) (k:κ):(kvs.any λa=>decide (a.1=k))=vs.any λa=>decide (a.1=k):=by
 unfold KV at r
 induction r with
 |nil=>rfl
 |cons h t ih=>rw[MQ,MQ,ih,h.1]
theorem KV.repl {kvs:List (κ×V)} {vs:List (κ×Value)} (r:KV kvs vs) (k:κ) (b:RelV y u) :
  KV (kvs.map λa=>if a.1=k then (a.1,y) else a) (vs.map λa=>if a.1=k then (a.1,u) else a):=by
 unfold KV at r ⊢
 induction r with
 |nil=>exact .nil
 |@cons p q ps qs h t ih =>
  rw[L4,L4];refine .cons ?_ ih;obtain⟨h1,h2⟩:=h;by_cases e:p.1=k
  ·rw[if_pos e,if_pos (h1.symm.trans e)];exact⟨h1,b⟩
  ·rw[if_neg e,if_neg (λz=>e (h1.trans z))];exact⟨h1,h2⟩
theorem KV.put {kvs:List (κ×V)} {vs:List (κ×Value)} (r:KV kvs vs) (k:κ) (a:RelV y u):KV (putK kvs k y) (stored vs k u):=by
 unfold putK stored;rw[r.any k];by_cases e:(vs.any λb=>decide (b.1=k))=true
 ·rw[if_pos e,if_pos e];exact r.repl k a
 ·rw[if_neg e,if_neg e];exact Paired.snoc r ⟨rfl,a⟩
theorem KV.length {kvs:List (κ×V)} {vs:List (κ×Value)} (r:KV kvs vs):kvs.length=vs.length:=Paired.length r
end
theorem Bj {k:Key} (r:RelV (kV k) u):(dw P w).is k u=true:=by
 cases k with
 |inl i=>obtain⟨t,e⟩:=(show ∃t,u=Value.int i t from r);subst e;exact vZ P w i t
 |inr x=>obtain⟨t,e⟩:=(show ∃t,u=Value.str x t from r);subst e;exact vJ P w x t
theorem sN {P:Program} {w:World}:∀{ks:List Key} {us:List Value},Vals (ks.map kV) us->ItemsAre (dw P w) ks us
 |[],_,r=>by rw[Mr]at r;cases r;exact .nil
 |k::ks,_,r=>by
  rw[L4]at r;cases r with
  |cons h t=>exact .cons (Bj h) (sN t)
abbrev KT (H:Hp):List (List Key×V)->List (List Key×Addr×Value)->Prop:=Paired λp q=>p.1=q.1/\H q.2.1=some (.tup (p.1.map kV))/\RelV p.2 q.2.2
theorem KT.val (r:KT H kvs xs) (k:List Key):kg (lS kvs k) ((atKey xs k).map (·.2)):=by
 induction r with
 |nil=>exact True.intro
 |@cons p q ps qs h t ih =>
  obtain⟨h1,_,h2⟩:=h;by_cases e:p.1=k
  ·have a:q.1=k:=h1.symm.trans e;have b:atKey (q::qs) k=some q.2:=by simp[atKey,Ms,a]
   rw[pB e,b];exact h2
  ·have a:¬ q.1=k:=λz=>e (h1.trans z)
   have b:atKey (q::qs) k=atKey qs k:=by simp[atKey,Ms,a]
   rw[pw e,b];exact ih
theorem KT.repl (r:KT H kvs xs) (k:List Key) (b:RelV y u) :
  KT H (kvs.map λa=>if a.1=k then (a.1,y) else a) (xs.map (putAt k u)):=by
 induction r with
 |nil=>exact .nil
 |@cons p q ps qs h t ih =>
  rw[L4,L4];refine .cons ?_ ih;obtain⟨h1,h2,c⟩:=h;unfold putAt;by_cases e:p.1=k
  ·rw[if_pos e,if_pos (h1.symm.trans e)];exact⟨h1,h2,b⟩
  ·rw[if_neg e,if_neg (λz=>e (h1.trans z))];exact⟨h1,h2,c⟩
theorem KT.put (r:KT H kvs xs) (k:List Key) (c:H b=some (.tup (k.map kV))) (a:RelV y u) :
  KT H (putK kvs k y) (storedH xs k b u):=by
 have e:(kvs.any λf=>decide (f.1=k))=(atKey xs k).isSome:=by rw[vN,(r.val k).isSome_eq,Option.isSome_map]
 unfold putK storedH;rw[e];by_cases q:(atKey xs k).isSome=true
 ·rw[if_pos q,if_pos q];exact r.repl k a
 ·rw[if_neg q,if_neg q];exact Paired.snoc r ⟨rfl,c,a⟩
theorem KT.keeps (r:KT H kvs xs) (a:∀b ys,H b=some (.tup ys)->H' b=some (.tup ys)):KT H' kvs xs :=
 Paired.mapP r λ_ _ z=>⟨z.1,a _ _ z.2.1,z.2.2⟩
section
theorem Gr {u:HO} (ok:HOk P w H h) (e:Rd H a u):dh P w H h a u:=e.ok ok
theorem B7 {kvs:List (Key×V)} (ok:HOk P w H h) (e:Rd H a (.dK kvs)):kvs.length<=sizeLine/\(a==sysModules)=false/\∃vs,KV kvs vs/\h.DictOf (dw P w) a vs :=
 show dh P w H h a (.dK kvs) from Gr ok e
theorem Jt {kvs:List (Key×V)} (ok:HOk P w H h) (e:H a=some (.dK kvs)):kvs.length<=sizeLine/\(a==sysModules)=false/\∃vs,KV kvs vs/\h.DictOf (dw P w) a vs:=B7 ok (.inl e)
theorem xr {ks:List Key} (ok:HOk P w H h) (e:H a=some (.tup (ks.map kV))):(tupleKind (dw P w)).is h ks a:=by
 obtain⟨_,b,r,o,h1,h2,_,n,c⟩:=(show dh P w H h a (.tup (ks.map kV)) from ok a _ e)
 exact⟨o,b.toArray,n,h1,h2,c,by simpa using sN r⟩
theorem BS (ok:HOk P w H h) (e:Rd H a (.dT kvs)):kvs.length<=sizeLine/\(a==sysModules)=false /\
  ∃xs,KT H kvs xs/\h.DictOfH (tupleKind (dw P w)) a xs:=by
 obtain⟨z,y,xs,r,o,es,c,h1,h2,f,g,i⟩:=(show dh P w H h a (.dT kvs) from Gr ok e)
 refine⟨z,y,xs,r,o,es,c,h1,h2,f,g,λx b=>?_,i⟩;have all:∀{l:List (List Key×V)} {m:List (List Key×Addr×Value)},KT H l m->∀x∈m,(tupleKind (dw P w)).is h x.1 x.2.1:=by
  intro l m q
  induction q with
  |nil=>intro x b;exact nomatch b
  |@cons p q ps qs hq t ih =>
   intro x b;rcases L7.mp b with e|b
   ·subst e;exact xr ok (by rw[<-hq.1];exact hq.2.1)
   ·exact ih x b
 exact all r x b
theorem Kd (ok:HOk P w H h) (e:H a=some (.dT kvs)):kvs.length<=sizeLine/\(a==sysModules)=false /\
 ∃xs,KT H kvs xs/\h.DictOfH (tupleKind (dw P w)) a xs:=BS ok (.inl e)
end
def CZ (H:Hp) (a:Addr) (y:V) (r:Option V):Prop :=
 (∃kvs k,Rd H a (.dK kvs)/\y=kV k/\r=lS kvs k)\/∃kvs k b,Rd H a (.dT kvs)/\y=.ref b/\H b=some (.tup (k.map kV))/\r=lS kvs k
def By (H:Hp) (a:Addr) (y v:V) (H':Hp):Prop :=
 (∃kvs k,H a=some (.dK kvs)/\y=kV k/\kvs.length<sizeLine/\H'=upd H a (.dK (putK kvs k v))) \/
 ∃kvs k b,H a=some (.dT kvs)/\y=.ref b/\H b=some (.tup (k.map kV))/\kvs.length<sizeLine/\H'=upd H a (.dT (putK kvs k v))
theorem CZ.k {kvs:List (Key×V)} {k:Key} (e:H a=some (.dK kvs)):CZ H a (kV k) (lS kvs k):=.inl ⟨kvs,k,.inl e,rfl,rfl⟩
theorem By.k {kvs:List (Key×V)} {k:Key} (e:H a=some (.dK kvs)) (hl:kvs.length<sizeLine):By H a (kV k) v (upd H a (.dK (putK kvs k v))):=.inl ⟨kvs,k,e,rfl,hl,rfl⟩
section
variable {r:Value} {o:Option V} {A:Around}
theorem Inv.big (I:Inv X pins σ H s):sysModules<s.heap.objs.size:=by have h:mainGlobals<s.heap.objs.size:=(I.mod.glob.keeps I.bk).lt;exact Nat.lt_trans (by decide) h
theorem yl {t':Nat} {c:HO} (I:Inv X pins σ H s) (f:Mut (H a)) (g:Heap.SameBut a s.heap h') (h:∃q,h'.get? a=some q) (new:dh X.prog X.w (upd H a c) h' a c) :
  Inv X pins σ (upd H a c) { s with heap:=h',toks:=t' } :=
 I.write (x:=a) (e:=a) f (.inl rfl) (λb q i z=>(g.2 b i).trans z) h new
theorem Hs {kvs:List (Key×V)} {vs:List (Key×Value)} (z:kvs.length<=sizeLine) (hd:(a==sysModules)=false) (rel:KV kvs vs) (dd:h'.DictOf (dw P w) a vs) :
 dh P w H' h' a (.dK kvs):=⟨z,hd,vs,rel,dd⟩
theorem zH {Q:Unit->Shared->Prop} (C:A.units+1<cLine) (I:Inv X pins σ H s) (g:By H a y v H') (p:RelV y u) (t:RelV v r) (h:∀s',Inv X pins σ H' s'->Q () s') :
  wpAny (model X.prog X.w) A (setItem (.ref a) u r) Q E s:=by
 rcases g with⟨kvs,k,e,j,l,m⟩|⟨kvs,k,b,e,j,x,l,m⟩
 ·subst j m;obtain⟨z,hd,vs,rel,dd⟩:=Jt I.hok e;have n:vs.length<=sizeLine:=by rw[<-rel.length];exact z
  have hl:(putK kvs k v).length<=sizeLine:=by have:=mX kvs k v;omega
  refine wpAny_setItem_pairs (hsz:=n) (Bj p) dd λh' f o=>h _ ?_
  have D:∃q,h'.get? a=some q:=let ⟨q,_,_,i,_⟩:=f;⟨q,i⟩;exact yl I (by rw[e];exact True.intro) o D (Hs hl hd (rel.put k t) f)
 ·subst j m;cases (show u=Value.ref b from p);obtain⟨z,hd,xs,rel,dd⟩:=Kd I.hok e;have n:xs.length<=sizeLine:=by rw[<-Paired.length rel];exact z
  have hl:(putK kvs k v).length<=sizeLine:=by have:=mX kvs k v;omega
  refine wpAny_setItem_heap (hsz:=n) (tupleKind_room_in1 C) (xr I.hok x) dd λh' f o=>h _ ?_
  obtain⟨q,es,F,i,h2,G,J,_,K⟩:=f;refine yl I (by rw[e];exact True.intro) o ⟨q,i⟩ ⟨hl,hd,_,(rel.put k x t).keeps λc ys B=>?_,q,es,F,i,h2,G,J,K⟩;rw[ay (JO B e (λz=>nomatch z))];exact B
end
section
variable {kvs:List (Key×V)} {k:Key} {A:Around}
end
def J1 (td ty tv:TE):TS:=λD σ H=>tv σ H λv H1=>td σ H1 λx H2=>ty σ H2 λy c=>∃a b,x=.ref a/\By c a y v b/\D.nx σ b
section
variable {o i value:Expr} {tpos:Pos} {td ty tv:TE}
theorem DW (c:X.A.units+1<cLine) (e:PE X o td) (hi:PE X i ty) (hv:PE X value tv) (f:swapsWith value (some (.Subscript o i pos')) pos.line X.env=pure false) :
  PS X (.Assign [.Subscript o i pos'] value pos) (J1 td ty tv):=by
 intro pins s σ H D I h;refine wpAny_Assign_Subscript (thn (hv pins s σ H _ I h) λr j b=>?_) f;obtain⟨v,H1,l,m,n⟩:=b;refine thn (e pins j σ H1 _ l n) λu s2 b=>?_
 obtain⟨x,H2,p,q,t⟩:=b;refine thn (hi pins s2 σ H2 _ p t) λiv s3 b=>?_
 obtain⟨y,H3,w,z,a,B,ex,g,C⟩:=b;subst ex;obtain rfl:u=Value.ref a:=q;exact zH c w g z m λs4 E=>⟨σ,B,E,C⟩
end
theorem A1 (h:Heap) (a:sysModules<h.objs.size):dh P w H (h.push { cls:=.type "dict",data:=.dict #[] }) h.objs.size (.dK []) :=
 ⟨Me _,beq_eq_false_iff_ne.mpr (Ne.symm (LC a)),[],.nil,Heap.DictOf.new h⟩
def G3:TE:=λ_ H Q=>∀p,H p=none->Q (.ref p) (upd H p (.dK []))
section
theorem wu:PE X (.Dict [] [] pos) G3:=λpins s σ H Q I h =>
 wpAny_Dict_empty ⟨.ref s.heap.objs.size,_,I.laid (a:=s.heap.objs.size) (o:=.dK []) (t':=s.toks) (λ_ _ q=>L1 _ q) (L9 _) (A1 s.heap I.big),rfl,h _ (I.hok.fresh (L9 _))⟩
end
structure M2 (X:Cx) (o:Expr) (m:Str) (apos:Pos) (e f:Expr) (cpos:Pos):Prop where
 base:attributeBase o m X.env (eval o X.env)=eval o X.env
 few:((backTo cpos (starEach [e,f] X.env)).all (λx=>!x.1)&&(backToKw cpos (keywordEach [] X.env)).all (λx=>x.1.isSome)
 &&decide (([e,f]:List Expr).length+([]:List Keyword).length+(if ([]:List Keyword).isEmpty then 0 else 1)<30))=true
 line:(apos.endLine==cpos.line)=true
 trees:backTo cpos (starEach [e,f] X.env)=[(false,eval e X.env),(false,eval f X.env)]
def Km (H:Hp) (a:Addr):Prop:=(∃kvs,Rd H a (.dK kvs))\/∃kvs,Rd H a (.dT kvs)
theorem HR (I:Inv X pins σ H s) (d:Km H a) :
  s.TypeIs (.ref a) "dict"/\(∀b,Value.ref a=.ref b->∃c,s.heap.get? b=some c/\c.dict=none)/\(a==sysModules)=false:=by
 rcases d with⟨kvs,e⟩|⟨kvs,e⟩
 ·obtain⟨_,hd,vs,_,dd⟩:=B7 I.hok e;refine⟨dd.typeIs,λb q=>?_,hd⟩;cases q;obtain⟨c,_,_,h1,h2,_⟩:=dd;exact⟨c,h1,h2.2.1⟩
 ·obtain⟨_,hd,xs,_,dd⟩:=BS I.hok e;refine⟨dd.typeIs,λb q=>?_,hd⟩;cases q;obtain⟨c,_,_,h1,h2,_⟩:=dd;exact⟨c,h1,h2.2.1⟩
section
variable {d:V} {r:Value} {o:Option V} {A:Around}
theorem Jd (m:A.units+1<cLine) (I:Inv X pins σ H s) (g:CZ H a y o) (f:RelV y u) (i:RelV d r) (h:∀j s',Inv X pins σ H s'->RelV (o.getD d) j->Q j s') :
  wpAny (model X.prog X.w) A (call (.builtin "dict.get") [.ref a,u,r]) Q E s:=by
 rcases g with⟨kvs,k,e,c,l⟩|⟨kvs,k,b,e,c,n,l⟩
 ·subst c;obtain⟨z,hd,vs,rel,dd⟩:=B7 I.hok e;refine call_meetsIn PySem.F.slot_dict_get dd.typeIs PySem.F.entry_dict_get (PySem.F.args_dict_get_3 _ _ _) (meets_dict_get_default (dw X.prog X.w) a (Bj f) hd r) ⟨_,dd.mapOf,h _ _ (I.tok _) ?_⟩;rw[l];exact (rel.val k).getD i
 ·subst c;cases (show u=Value.ref b from f);obtain⟨z,hd,xs,rel,dd⟩:=BS I.hok e;refine call_meetsIn PySem.F.slot_dict_get dd.typeIs PySem.F.entry_dict_get (PySem.F.args_dict_get_3 _ _ _) (meetsH_dict_get_default (tupleKind (dw X.prog X.w)) a b hd r) ⟨tupleKind_room_in1 m,k,xs,xr I.hok n,dd,h _ _ (I.tok _) ?_⟩;rw[l];exact (rel.val k).getD i
end
def Jf (td ty tx:TE):TE:=λσ H Q=>td σ H λx H1=>∃a,x=.ref a/\Km H1 a/\ty σ H1 λy H2=>tx σ H2 λz b=>∃o,CZ b a y o/\Q (o.getD z) b
section
variable {o f:Expr} {apos:Pos} {td ty tx:TE}
theorem CM (j:X.A.units+1<cLine) (l:PE X o td) (n:PE X e ty) (p:PE X f tx) (m:M2 X o "get" apos e f cpos):PE X (.Call (.Attribute o "get" apos) [e,f] [] cpos) (Jf td ty tx):=by intro pins s σ H Q I h;refine wpAny_Call_method m.base m.few m.line PySem.F.plainAttrs_dict PySem.F.slot_dict_get PySem.F.type_dict_get (thn (l pins s σ H _ I h) λu q b=>?_);obtain⟨x,H1,i,r,a,ex,d,t⟩:=b;subst ex;obtain rfl:u=Value.ref a:=r;obtain⟨v,w,_⟩:=HR i d;refine⟨v,w,?_⟩;rw[m.trees];refine Calls.callWith_builtin rfl (Calls.evalArgs_plain (Calls.spliced_cons (thn (n pins q σ H1 _ i t) λiv s2 b=>?_)));obtain⟨y,H2,B,C,D⟩:=b;refine Calls.spliced_cons (thn (p pins s2 σ H2 _ B D) λfv s3 b=>?_);obtain⟨z,E,G,rz,ov,g,J⟩:=b;refine Calls.spliced_nil ?_;exact Jd j G g C rz λw' s4 K c=>⟨_,E,K,c,J⟩
end
section
variable {kvs:List (Key×V)} {A:Around}
end
section
variable {A:Around}
end
section
theorem bN.setOwnO {t:PyData} (R:bN K H0 A0 H A O δ σ) (hi:i∈O) (hl:i<δ.length) (hn:H a=none) (s:av H H1) (ha:H1 a=some o) (m:HN o=true) (h:gY K (del H1 (a::(A++A0))) t o) :
  bN K H0 A0 H1 (a::A) O (δ.set i (some t)) (σ.set i (some (.ref a))) where
 same:=R.same.trans s
 ls0:=R.ls0
 new:=λb n=>by
  rcases L7.mp n with z|z
  ·rw[z];exact R.same.free hn
  ·exact R.new b z
 ls:=λb n=>by
  rcases L7.mp n with z|z
  ·exact⟨_,by rw[z];exact ha,m⟩
  ·exact (R.ls.same s) b z
 len:=by simp[R.len]
 pl:=λj e c q=>by
  rcases get_set q with⟨z,q⟩|⟨z,q⟩
  ·subst z;exact absurd hi c
  ·obtain⟨u,e1,h1⟩:=R.pl j e c q;refine⟨u,j6 z e1,h1.same λb o e=>?_⟩;obtain⟨y,e⟩:=aZ e;have r:b≠a:=aI e hn;rw[aL (by simpa[r] using y)];exact s _ _ e
 own:=λj e c q=>by
  have v:∀b o,del H (A++A0) b=some o->del H1 (a::A++A0) b=some o:=λb o e=>by obtain⟨y,e⟩:=aZ e;have r:b≠a:=aI e hn;rw[aL (by simpa[r] using y)];exact s _ _ e
  rcases get_set q with⟨z,q⟩|⟨z,q⟩
  ·cases q;subst z;exact⟨a,_,_,by rw[M0 (by rw[<-R.len];exact hl)],L6,ha,rfl,h⟩
  ·obtain⟨b,ys,es,e1,h1,h2,w,x⟩:=R.own j e c q;exact⟨b,ys,es,j6 z e1,L3 _ h1,s _ _ h2,w,x.same v⟩
 inj:=λj k d' e b c f g l p1 p2=>by
  have old:∀k,k∈O->i≠k->∀e,δ[k]?=some (some e)->σ[k]?=some (some (.ref a))->False:=λk f _ e q p=>by obtain⟨b,ys,es,e1,h1,h2,_⟩:=R.own k e f q;rw[p]at e1;cases e1;rw[hn]at h2;cases h2
  by_cases z1:i=j
  ·by_cases z2:i=k
   ·rw[<-z1,z2]
   ·subst z1;rw[M0 (by rw[<-R.len];exact hl)]at p1;cases p1;rw[LX z2]at l p2;exact (old k f z2 e l p2).elim
  ·by_cases z2:i=k
   ·subst z2;rw[M0 (by rw[<-R.len];exact hl)]at p2;cases p2;rw[LX z1]at g p1;exact (old j c z1 d' g p1).elim
   ·rw[LX z1]at g p1;rw[LX z2]at l p2;exact R.inj j k d' e b c f g l p1 p2
theorem bN.putO {d1 l:PyData} (R:bN K H0 A0 H A O δ σ) (hi:i∈O) (hd:δ[i]?=some (some l)) (r:σ[i]?=some (some (.ref a))) (ha:a∈A) (m:HN o=true) (h:gY K (del H (A++A0)) d1 o) :
  bN K H0 A0 (upd H a o) A O (δ.set i (some d1)) σ:=by
 have n:del (upd H a (o)) (A++A0)=del H (A++A0):=jU (LZ _ ha);have hl:i<δ.length:=(LM.mp hd).1;refine⟨λb o e=>?_,R.ls0,R.new,λb t=>?_,by simp[R.len],λj e c q=>?_,λj e c q=>?_,λj k d' e b c s f g p1 p2=>?_⟩
 ·have p:b≠a:=λz=>by rw[z,R.new a ha]at e;cases e
  rw[ay p];exact R.same b o e
 ·by_cases z:b=a
  ·exact⟨_,by rw[z,aG],m⟩
  ·rw[ay z];exact R.ls b t
 ·rcases get_set q with⟨z,q⟩|⟨z,q⟩
  ·subst z;exact absurd hi c
  ·rw[n];exact R.pl j e c q
 ·rcases get_set q with⟨z,q⟩|⟨z,q⟩
  ·cases q;subst z;exact⟨a,_,_,r,ha,aG,rfl,by rw[n];exact h⟩
  ·obtain⟨b,zs,es,e1,h1,h2,u,v⟩:=R.own j e c q;have p:b≠a:=λw=>z (R.inj i j _ _ a hi c hd q r (by rw[<-w];exact e1))
   exact⟨b,zs,es,e1,h1,by rw[ay p];exact h2,u,by rw[n];exact v⟩
 ·rcases get_set f with⟨z1,f⟩|⟨z1,f⟩ <;> rcases get_set g with⟨z2,g⟩|⟨z2,g⟩
  ·rw[<-z1,z2]
  ·subst z1;exact R.inj i k l e b hi s hd g p1 p2
  ·subst z2;exact R.inj j i d' l b c hi f hd p1 p2
  ·exact R.inj j k d' e b c s f g p1 p2
end
def cE (l:List (Int×Int)):PyData:=.dict (l.map λp=>(PyData.int p.1,PyData.int p.2))
def dkO (l:List (Int×Int)):HO:=.dK (l.map λp=>(.inl p.1,V.int p.2))
theorem oA:∀{l m:List (Int×Int)},l.map (λp=>(PyData.int p.1,PyData.int p.2))=m.map (λp=>(PyData.int p.1,PyData.int p.2))->l=m
 |[],[],_=>rfl
 |[],_::_,h=>by simp at h
 |_::_,[],h=>by simp at h
 |(a,b)::l,(c,d)::m,h=>by simp only[L4,List.cons.injEq,Prod.mk.injEq,PyData.int.injEq]at h;obtain⟨⟨rfl,rfl⟩,h⟩:=h;rw[oA h]
theorem Is.ofDic (h:Is K H (cE l) v):∃a,v=.ref a/\H a=some (dkO l):=by
 unfold cE Is at h;rcases h with (⟨a,ns,_,e,_⟩|⟨a,m,e1,e,h2⟩)|⟨a,C,dx,fs,_,_,_,h|h⟩
 ·cases l with
  |nil=>simp at e
  |cons p l=>simp at e
 ·rcases e with⟨b,e,rfl⟩|⟨b,e,rfl⟩
  ·rw[oA e];exact⟨a,e1,h2⟩
  ·cases l <;> cases e
 ·cases l with
  |nil=>unfold Isk at h;simp at h
  |cons p l=>rw[L4]at h;unfold Isk at h;obtain⟨f,_,_,_,q,_⟩:=h;cases q
 ·cases l with
  |nil=>unfold Isk at h;simp at h
  |cons p l=>rw[L4]at h;unfold Isk at h;obtain⟨f,_,_,_,q,_⟩:=h;cases q
theorem IU (h:H a=some (dkO l)):Is K H (cE l) (.ref a):=by unfold cE Is;exact .inl (.inr ⟨a,_,rfl,.inl ⟨l,rfl,rfl⟩,h⟩)
def kB:List (PyData×PyData)->Option (List (Int×Int))
 |[]=>some []
 |(.int a,.int b)::r=>(kB r).map λl=>(a,b)::l
 |_=>none
theorem rQ:∀{r:List (PyData×PyData)} {l:List (Int×Int)},kB r=some l->r=l.map λp=>(PyData.int p.1,PyData.int p.2)
 |[],l,e=>by cases e;rfl
 |(a,b)::r,l,e=>by
  cases a <;> cases b <;> first|(cases e;done)|skip
  unfold kB at e;cases q:kB r with
  |none=>rw[q]at e;cases e
  |some m=>rw[q]at e;cases e;rw[rQ q];rfl
theorem pE:∀l:List (Int×Int),kB (l.map λp=>(PyData.int p.1,PyData.int p.2))=some l
 |[]=>rfl
 |p::r=>by rw[L4];unfold kB;rw[pE r];rfl
def vo:PyData->Option (List (Int×Int))
 |.dict kvs=>kB kvs
 |_=>none
theorem vf {d:PyData} (h:vo d=some l):d=cE l:=by
 unfold vo at h;split at h
 ·unfold cE;rw[rQ h]
 ·cases h
theorem rT (l:List (Int×Int)):vo (cE l)=some l:=pE l
def lN (l:List (Int×Int)) (k:Int):Option Int:=(l.find? λp=>decide (p.1=k)).map (·.2)
def xQ (l:List (Int×Int)) (k v:Int):List (Int×Int):=if (l.any λp=>decide (p.1=k))=true then l.map (λp=>if p.1=k then (p.1,v) else p) else l++[(k,v)]
theorem BU (l:List (Int×Int)) (k:Int):lS (l.map λp=>((.inl p.1,V.int p.2):Key×V)) (.inl k)=(lN l k).map V.int:=by
 unfold lS lN
 induction l with
 |nil=>rfl
 |cons p r ih =>
  rw[L4,Ms,Ms];by_cases z:p.1=k
  ·have h1:decide ((Sum.inl p.1:Key)=.inl k)=true:=decide_eq_true (by rw[z]);simp only[h1,decide_eq_true z];rfl
  ·have h1:decide ((Sum.inl p.1:Key)=.inl k)=false:=decide_eq_false λq=>z (Sum.inl.inj q)
   simp only[h1,decide_eq_false z];exact ih
theorem Em (l:List (Int×Int)) (k v:Int):putK (l.map λp=>((.inl p.1,V.int p.2):Key×V)) (.inl k) (.int v)=(xQ l k v).map λp=>(.inl p.1,V.int p.2):=by
 have ha:((l.map λp=>((.inl p.1,V.int p.2):Key×V)).any λa=>decide (a.1=.inl k))=l.any λp=>decide (p.1=k):=by
  rw[List.any_map];congr 1;funext p;by_cases z:p.1=k
  ·simp[z]
  ·have:¬ ((Sum.inl p.1:Key)=.inl k):=λq=>z (Sum.inl.inj q)
   simp[z,this]
 unfold putK xQ;rw[ha];split
 ·rw[LQ,LQ];refine LN λp _=>?_
  by_cases z:p.1=k
  ·simp[z]
  ·have:¬ ((Sum.inl p.1:Key)=.inl k):=λq=>z (Sum.inl.inj q)
   simp[z,this]
 ·rw[M5];rfl
section
variable {E:XK} {o f i' value:Expr} {go ge gf:Ds->Rs PyData} {apos:Pos}
theorem D4:PD X E (.Dict [] [] pos) (gC (cE [])):=(wu).imp λσ H Q ⟨A,δ,R,o⟩=>λp a=>o (.ref p) _ (bD a) (IU (l:=[]) (by rw[aL (R.ls.new a)];exact aG))
def lI (go ge gf:Ds->Rs PyData):Ds->Rs PyData:=λδ=>(go δ).bind λd=>match vo d with
 |some l=>(ge δ).bind λk=>(gf δ).bind λz=>(match k,z with
  |.int k,.int z=>.ok (.int ((lN l k).getD z))
  |_,_=>.no)
 |none=>.no
end
section
variable {E:XK} {o f k value:Expr} {go ge gf gk gv:Ds->Rs PyData} {apos:Pos}
theorem Ec (q:X.A.units+1<cLine) (r:PD X E o go) (s:PD X E e ge) (t:PD X E f gf) (m:M2 X o "get" apos e f cpos):PD X E (.Call (.Attribute o "get" apos) [e,f] [] cpos) (lI go ge gf) :=
 (CM q r s t m).imp λσ H Q i=>by
  obtain⟨A,δ,R,b⟩:=i;unfold lI at b;refine eD.run R (λd w v H1 j x h1=>?_) (λC c H' s'=>?_) (λc=>?_)
  ·simp only[w,Rs.ag]at b;split at b
   ·rename_i l hl;rw[vf hl]at h1;obtain⟨a,rfl,ha⟩:=h1.ofDic;have g:H1 a=some (dkO l):=aw _ _ ha;refine⟨a,rfl,.inl ⟨_,.inl g⟩,?_⟩;refine eD.run x (λkd y u H2 s2 R2 n=>?_) (λC c H' s'=>?_) (λc=>?_)
    ·simp only[y,Rs.ag]at b;refine eD.run R2 (λzd B z D p R3 F=>?_) (λC c H' s'=>?_) (λc=>?_)
     ·simp only[B,Rs.ag]at b;split at b
      ·rename_i h zz;have e1:=n.ofInt;have e2:=F.ofInt;subst e1 e2;refine⟨_,CZ.k (k:=.inl h) (p _ _ (s2 _ _ g)),?_⟩;rw[BU];have:((lN l h).map V.int).getD (.int zz)=.int ((lN l h).getD zz):=by cases lN l h <;> rfl
       rw[this];exact b _ D (j.trans (s2.trans p)) bL
      ·exact b.elim
     ·simp only[c,Rs.eF]at b;exact b H' (j.trans (s2.trans s'))
     ·simp only[c,Rs.bw]at b;exact b
    ·simp only[c,Rs.eF]at b;exact b H' (j.trans s')
    ·simp only[c,Rs.bw]at b;exact b
   ·exact b.elim
  ·simp only[c,Rs.eF]at b;exact b H' s'
  ·simp only[c,Rs.bw]at b;exact b
def uZ (i:Nat):Ds->Sr:=λδ=>if i<δ.length then .nx (δ.set i (some (cE []))) else .no
theorem Dy (c:X.N.Nodup) (e:i∈O) (hi:X.N[i]?=some x) (f:Loc X.env.scope x) (g:swapsWith (.Dict [] [] pos') (some (.Name x apos)) pos.line X.env=pure false)
  (h:X.fn x=true\/X.env.scope.names.lookup x=some .local):PSD X E O (.Assign [.Name x apos] (.Dict [] [] pos') pos) (uZ i):=(oT c hi f wu g h).imp λD σ H a=>by
 obtain⟨H0,A0,A,δ,R,o⟩:=a;unfold uZ at o;split at o
 ·rename_i hl;intro p b;exact o (p::A) _ _ (R.setOwnO (o:=dkO []) e hl b (bD b) aG rfl (.inl ⟨[],rfl,rfl⟩))
 ·exact o.elim
def oM (i:Nat) (gk gv:Ds->Rs PyData):Ds->Sr:=λδ=>match δ[i]? with
 |some (some d)=>(match vo d with
  |some l=>ofR (gv δ) λv=>ofR (gk δ) λk=>(match k,v with
   |.int k,.int v=>if l.length<1000000 then .nx (δ.set i (some (cE (xQ l k v)))) else .no
   |_,_=>.no)
  |none=>.no)
 |_=>.no
theorem Dk (B:X.A.units+1<cLine) (h:PD X E value gv) (F:PD X E k gk) (w:i∈O) (hi:X.N[i]?=some x) (hv:Vis X.env.scope x)
  (hd:(x==("__debug__":Str))=false) (f:(x==("__classdict__":Str))=false) (G:swapsWith value (some (.Subscript (.Name x pn) k pos')) pos.line X.env=pure false):PSD X E O (.Assign [.Subscript (.Name x pn) k pos'] value pos) (oM i gk gv) :=
 (DW B (kK hi hv hd f) F h G).imp λD σ H g=>by
  obtain⟨H0,A0,A,δ,R,a⟩:=g;unfold oM at a;split at a
  ·rename_i d q;split at a
   ·rename_i l hl;rw[vf hl]at q;obtain⟨p,o',d',e1,I,j,e2,n⟩:=R.own i _ w q;subst e2;have r:o'=dkO l:=by
     have n:Il _ o':=n;rcases n with⟨m,c,rfl⟩|⟨m,c,_⟩
     ·rw[oA c];rfl
     ·cases l <;> cases c
    subst r;refine eD.run R.full (λvd J v H1 y K s=>?_) (λC b H' s'=>?_) (λb=>?_)
    ·simp only[J,az]at a;refine⟨_,e1,?_⟩;refine eD.run K (λkd L u H2 s2 R2 t=>?_) (λC b H' s'=>?_) (λb=>?_)
     ·simp only[L,az]at a;split at a
      ·rename_i z M;split at a
       ·rename_i hlen;have c:=t.ofInt;have P:=s.ofInt;subst c P;have e:=y.trans s2;refine⟨p,_,rfl,By.k (k:=.inl z) (e _ _ j) (by rw[L5,sizeLine_eq];omega),?_⟩;rw[Em];exact a A _ _ ((R.step e).putO (o:=dkO (xQ l z M)) w q e1 I rfl (.inl ⟨_,rfl,rfl⟩))
       ·exact a.elim
      ·exact a.elim
     ·simp only[b,p7]at a;exact a H' (R.same.trans (y.trans s'))
     ·simp only[b,qv]at a;exact a
    ·simp only[b,p7]at a;exact a H' (R.same.trans s')
    ·simp only[b,qv]at a;exact a
   ·exact a.elim
  ·exact a.elim
end
theorem bY.u1 {k:Nat} {A:Around} (r:bY k A):A.units+1<cLine:=by have:=r.un;omega
def Gz (b N:List Str) (p:Str) (cap:List Nat) (a sc:Scope):Bool :=
 (sc.kind==.function)&&!sc.isCoroutine&&!sc.isGenerator&&decide N.Nodup&&decide (N.take 1=[p])&&(sc.names.lookup p==some .local)&&sc.names.all (λx=>x.2 != .cell) &&
 sc.names.all (λy=>y.2 != .free||a.names.lookup y.1==some .cell)&&decide (N.length=1+cap.length) &&
 (List.range cap.length).all (λi=>match N[1+i]?,cap[i]? with
  |some x,some m=>(b[m]?==some x)&&(sc.names.lookup x==some .free)&&(a.names.lookup x==some .cell)
  |_,_=>false)
theorem mS {α:Type} {x:Str} {k:α}:∀{l:List (Str×α)},l.lookup x=some k->(x,k)∈l
 |[],h=>by cases h
 |(y,j)::r,h=>by
  rw[LU]at h;cases q:(x==y) with
  |true=>rw[q]at h;cases h;rw[eq_of_beq q];exact L6
  |false=>rw[q]at h;exact L3 _ (mS h)
theorem qd {e:List Str} {b:Scope} {A:Around} {E:XK}
  {C:XK} {a:Expr} {n F:Pos} {G:Addr} {k:Nat} {p:Str}
  (hm:mg "min"=none) (I:bY (k+2) (cU CX P w K mg base e qual b f cd A outer s H E).A) (ha:PD (cU CX P w K mg base e qual b f cd A outer s H E) C a ga) (T:Bm (cU CX P w K mg base e qual b f cd A outer s H E) c G)
  (l:∀(q c':Addr) (s':Shared) (H':Hp),PD (rB (CXW P w) P w K mg base N ((cU CX P w K mg base e qual b f cd A outer s H E).env.qual++"<lambda>") scope q (.ref c') (mI scope.names (cU CX P w K mg base e qual b f cd A outer s H E).env.cells []) (cU CX P w K mg base e qual b f cd A outer s H E).A.in1 (cU CX P w K mg base e qual b f cd A outer s H E).stack s' H' E0) E0 body gb)
  (hok:Gz e N p cap b scope=true:=by decide +kernel)
  (J:∀(q:Str) (cl:List (Str×Addr)) (c':Addr) (pm t u:Value),bindArgs (PySem.W.kla_fn "<lambda>" q params body scope cl pm (.ref c') t) ⟨[u],[]⟩=pure ([p].zip [u]):=by intro _ _ _ _ _ _;rfl)
  (L:Gl (cU CX P w K mg base e qual b f cd A outer s H E) "min":=by rfl) (M:starEach [a] (cU CX P w K mg base e qual b f cd A outer s H E).env=[(false,eval a (cU CX P w K mg base e qual b f cd A outer s H E).env)]:=by rfl) (o:defaultsOf params (cU CX P w K mg base e qual b f cd A outer s H E).env=([],[]):=by rfl) :
  PD (cU CX P w K mg base e qual b f cd A outer s H E) C (.Call (.Name "min" F) [a] [⟨some "key",.Lambda params body scope n,kp⟩] pos) (ja cap ga gb):=by
 unfold Gz at hok;simp only[L8,LD,decide_eq_true_eq,beq_iff_eq,bne_iff_ne,Bool.or_eq_true,Nm]at hok;obtain⟨⟨⟨⟨⟨⟨⟨⟨⟨O,Q⟩,R⟩,S⟩,U⟩,X⟩,Y⟩,o8⟩,Z⟩,v⟩:=hok;have g:∀x,b.names.lookup x=some .cell->∃c,(cU CX P w K mg base e qual b f cd A outer s H E).env.cells.lookup x=some c:=λx r=>pA r
 refine zT (cap:=cap) rfl hm I ha T (jd λy hy hf=>?_) ⟨O,Q,R,S,U,λx r=>by rw[Lx.mp r];exact X,Y⟩ (λx c h=>oZ _ _ _ x c (λ_ _ z=>by cases z) h) (λx r=>?_) Z (λi m x h1 h2=>?_) (J _ _) (λq c' s' H'=>l q c' s' H') L M o
 ·rcases o8 y hy with z|z
  ·exact absurd hf z
  ·exact g y.1 z
 ·have j:=mS r;rcases o8 (x,.free) j with z|z
  ·exact absurd rfl z
  ·obtain⟨c,hc⟩:=g x z;exact kY _ _ _ x c j hc
 ·have B:i<cap.length:=(LM.mp h2).1;have:=v i (Mx.mpr B);rw[h1,h2]at this;simp only[L8,beq_iff_eq]at this;obtain⟨⟨q1,q2⟩,D⟩:=this;exact⟨q1,q2,.inl D,.inr (.inl D)⟩
end L2
namespace RS
open PySem
set_option genInjectivity true in
structure Er where
 every:Int
 due:Int
 late:Int
 parts:List (Int×Option Int)
def bz:Option Int->PyData
 |none=>.none
 |some i=>.int i
def aN (p:Int×Option Int):PyData:=.tuple [.int p.1,bz p.2]
def Er.d (e:Er):PyData:=.tuple [.int e.every,.int e.due,.int e.late,.tuple (e.parts.map aN)]
def ax (es:List Er):PyData:=.tuple (es.map Er.d)
def isWhole (d:PyData) (lo hi:Int):Bool:=match d with
 |.int i=>decide (lo<=i)&&decide (i<=hi)
 |_=>false
def bZ (d:PyData) (lo hi:Int):Bool:=match d with
 |.tuple ds=>decide (lo<=(ds.length:Int))&&decide ((ds.length:Int)<=hi)
 |_=>false
def c7 (d:PyData):Bool:=match d with
 |.tuple [a,b]=>isWhole a 1 20&&(match b with|.none=>true|b=>isWhole b 0 3)
 |_=>false
def iw (ds:List PyData):Bool:=match ds.getLast? with
 |some (.tuple [_,.none])=>true
 |_=>false
def dP (d:PyData):Bool:=match d with
 |.tuple ds=>decide (1<=ds.length)&&decide (ds.length<=4)&&ds.all c7&&iw ds
 |_=>false
def bI (d:PyData):Bool:=match d with
 |.tuple [.int e,du,.int l,ps]=>decide (2<=e)&&decide (e<=60)&&(decide (0<=l)&&decide (l<=(if e-1<20 then e-1 else 20)))&&isWhole du 1 (e-l)&&dP ps
 |_=>false
def c8 (d:PyData):Bool:=match d with
 |.tuple ds=>decide (1<=ds.length)&&decide (ds.length<=6)&&ds.all bI
 |_=>false
structure Er.Ok (e:Er):Prop where
 e1:2<=e.every
 e2:e.every<=60
 l1:0<=e.late
 l2:e.late<=20
 l3:e.late<e.every
 d1:1<=e.due
 d2:e.due<=e.every-e.late
 p1:e.parts≠[]
 p2:e.parts.length<=4
 pl:∀p∈e.parts,1<=p.1/\p.1<=20/\∀t,p.2=some t->0<=t/\t<=3
 la:∀p,e.parts.getLast?=some p->p.2=none
theorem Ay {p:Int×Option Int} (h1:1<=p.1) (h2:p.1<=20) (c:∀t,p.2=some t->0<=t/\t<=3):c7 (aN p)=true:=by
 obtain⟨l,t⟩:=p;cases t with
 |none=>simp[c7,aN,bz,isWhole,h1,h2]
 |some t =>obtain⟨a,b⟩:=c t rfl;simp[c7,aN,bz,isWhole,h1,h2,a,b]
theorem wj {e:Er} (h:e.Ok):bI e.d=true:=by
 have f:(e.parts.map aN).all c7=true:=by rw[LD];intro d hd;obtain⟨p,f,rfl⟩:=LA.mp hd;obtain⟨a,b,c⟩:=h.pl p f;exact Ay a b c
 have hl:iw (e.parts.map aN)=true:=by
  unfold iw;rw[Np];cases q:e.parts.getLast? with
  |none=>exact absurd (N8.mp q) h.p1
  |some p =>obtain⟨l,t⟩:=p;have:t=none:=h.la _ q;subst this;rfl
 have hn:1<=e.parts.length:=by
  cases q:e.parts with
  |nil=>exact absurd q h.p1
  |cons _ _=>simp
 have h1:=h.e1;have h2:=h.e2;have i:=h.l1;have h4:=h.l2;have h5:=h.l3;have j:=h.d1;have m:=h.d2;have n:=h.p2;have g:e.late<=if e.every-1<20 then e.every-1 else 20:=by split <;> omega
 simp[bI,Er.d,dP,isWhole,f,hl,hn,h1,h2,i,j,m,n,g]
theorem lq {es:List Er} (h1:1<=es.length) (h2:es.length<=6) (h:∀e∈es,e.Ok):c8 (ax es)=true:=by
 have a:(es.map Er.d).all bI=true:=by rw[LD];intro d hd;obtain⟨e,b,rfl⟩:=LA.mp hd;exact wj (h e b)
 simp[c8,ax,h1,h2,a]
def cellAt (ns:List Int) (k:Int):Int :=
 if k<(ns.length:Int) then ns.getD k.toNat 0 else if ns=[] then 0 else ns.getD (k % (ns.length:Int)).toNat 0*31+k
def zD (ns:List Int) (k:Int):Int:=(cellAt ns k+7919*k+1)*48271 % 2147483647
def mixed (ns:List Int) (k many:Int):Int:=(zD ns k*zD ns k+7*zD ns k+k) % 2147483629 % many
theorem E5 (ns:List Int) (k:Int):0<=zD ns k:=Mt _ (by decide)
theorem Ej (ns:List Int) (k:Int):zD ns k<2147483647:=MC _ (by decide)
theorem cF (ns:List Int) (k:Int) (h:0<many):0<=mixed ns k many:=Mt _ (by omega)
theorem c9 (ns:List Int) (k:Int) (h:0<many):mixed ns k many<many:=MC _ h
def kl (i:Int):Option Int:=if i=0 then some 0 else if i=1 then some 1 else if i=2 then some 1 else if i=3 then some 0 else none
def eG (ns:List Int) (j:Int) (a:Bool):Int×Option Int:=(1+mixed ns j 40 % 4,if a then kl (mixed ns j 40 / 4 % 5) else none)
def ib (ns:List Int) (at' every:Int):Int :=
 if every-1<mixed ns (at' + 1) 4*(if mixed ns (at' + 2) 3=0 then 1 else 0) then every-1 else mixed ns (at' + 1) 4*(if mixed ns (at' + 2) 3=0 then 1 else 0)
def nk (ns:List Int) (at' a:Int):Int:=if mixed ns (at' + 1) 3=0 then a-mixed ns (at' + 2) a else a
def mkE (ns:List Int) (at' top:Int) (a:Bool):Er where
 every:=3+mixed ns at' top
 late:=ib ns at' (3+mixed ns at' top)
 due:=nk ns at' (3+mixed ns at' top-ib ns at' (3+mixed ns at' top))
 parts:=((List.range (mixed ns (at' + 3) 3).toNat).map λ(k:Nat)=>eG ns (at' + 4+(k:Int)) a)++[(1+mixed ns (at' + 6) 3,none)]
def nJ (ns:List Int) (at' most top:Int) (a:Bool):List Er:=(List.range (1+mixed ns at' most).toNat).map λ(k:Nat)=>mkE ns (at' + 1+7*(k:Int)) top a
theorem vA (ns:List Int) (at' every:Int) (h:3<=every):0<=ib ns at' every/\ib ns at' every<=3/\ib ns at' every<every:=by
 have h1:=cF ns (at' + 1) (many:=4) (by decide);have h2:=c9 ns (at' + 1) (many:=4) (by decide);unfold ib;generalize mixed ns (at' + 1) 4=x at *;by_cases hc:mixed ns (at' + 2) 3=0
 ·simp only[hc,if_true,Int.mul_one];split <;> omega
 ·simp only[hc,if_false,Int.mul_zero];split <;> omega
theorem Ff (ns:List Int) (at' a:Int) (h:1<=a):1<=nk ns at' a/\nk ns at' a<=a:=by have h1:=cF ns (at' + 2) (many:=a) (by omega);have h2:=c9 ns (at' + 2) (many:=a) (by omega);unfold nk;split <;> omega
theorem D3 (i t:Int) (h:kl i=some t):0<=t/\t<=1:=by
 unfold kl at h
 repeat' split at h
 all_goals (first|(cases h;decide)|cases h)
theorem A5 (ns:List Int) (j:Int) (a:Bool):1<=(eG ns j a).1/\(eG ns j a).1<=4/\∀t,(eG ns j a).2=some t->0<=t/\t<=1:=by
 have h1:0<=mixed ns j 40 % 4:=Mt _ (by decide);have h2:mixed ns j 40 % 4<4:=MC _ (by decide);refine⟨by unfold eG;simp only;omega,by unfold eG;simp only;omega,λt h=>?_⟩;unfold eG at h;simp only at h;cases a with
 |false=>simp at h
 |true=>simp at h;exact D3 _ _ h
theorem He (ns:List Int) (at' top:Int) (a:Bool) (h1:0<top) (h2:top<=58):(mkE ns at' top a).Ok:=by
 have a1:=cF ns at' h1;have a2:=c9 ns at' h1;have l:=vA ns at' (3+mixed ns at' top) (by omega);have d:=Ff ns at' (3+mixed ns at' top-ib ns at' (3+mixed ns at' top)) (by omega);have n1:=cF ns (at' + 3) (many:=3) (by decide);have n2:=c9 ns (at' + 3) (many:=3) (by decide);have n3:=cF ns (at' + 6) (many:=3) (by decide);have n4:=c9 ns (at' + 6) (many:=3) (by decide);refine⟨?_,?_,l.1,?_,l.2.2,d.1,d.2,?_,?_,?_,?_⟩
 ·show 2<=3+mixed ns at' top;omega
 ·show 3+mixed ns at' top<=60;omega
 ·have:=l.2.1;show ib ns at' (3+mixed ns at' top)<=20;omega
 ·simp[mkE]
 ·simp only[mkE,LB,L5,MS,M7];omega
 ·intro p b;simp only[mkE,LW,LA,Lx]at b;rcases b with⟨k,_,rfl⟩|rfl
  ·have:=A5 ns (at' + 4+(k:Int)) a;refine⟨this.1,by omega,λt c=>?_⟩;have:=this.2.2 t c;omega
  ·exact⟨by simp only;omega,by simp only;omega,λt c=>by cases c⟩
 ·intro p b;simp only[mkE,List.getLast?_append,List.getLast?_singleton,Option.some_or]at b;cases b;rfl
theorem BV (ns:List Int) (at' most top:Int) (a:Bool) (h:0<most):1<=(nJ ns at' most top a).length/\((nJ ns at' most top a).length:Int)<=most:=by have h1:=cF ns at' h;have h2:=c9 ns at' h;simp only[nJ,L5,MS];omega
theorem EY (ns:List Int) (at' most top:Int) (a:Bool) (h1:0<top) (h2:top<=58):∀e∈nJ ns at' most top a,e.Ok:=by intro e b;simp only[nJ,LA]at b;obtain⟨k,_,rfl⟩:=b;exact He _ _ _ _ h1 h2
end RS
variable {es:List RS.Er}
namespace RS
open PySem L2
structure Cs where
 RankError:Addr
 NoErrands:Addr
 NoRanks:Addr
 NoComings:Addr
 NoErrand:Addr
 NoNumber:Addr
 TooLong:Addr
 NoText:Addr
 Holding:Addr
 Jobs:Addr
abbrev Gf:=List PyData->Rs PyData
def bP (K:PySem.W.Frag) (mg:Str->Option Value) (x:Str) (st:Stmt) (ps:List Str):Prop:=∃f fd,Fun K x x st f fd/\Binds K fd ps []/\mg x=some (.ref f)
def iX (cs:Cs):Ds->Sr :=
 (aE (sIf (cOr (fI (gT (g1 (kM "int") (af 0)))) (gT (g1 (kM "bool") (af 0)))) (bo (gC (.bool false))) aY)
  (bo (lV dLe dLe (af 1) (af 0) (af 2))))
def iO (cs:Cs):Ds->Sr :=
 (bo (zC (g1 (kM "tuple") (af 0)) (lV dLe dLe (af 1) (gF bM (ae (af 0) ah)) (af 2))))
def gA (cs:Cs) (aK aW:Gf):Ds->Sr :=
 (aE (sIf (cOr (fI (gT (aq aW (ae (af 0) (ae (gC (.int 2)) (ae (gC (.int 2)) ah)))))) (fI (gT (aq aK (ae (g2 dIx (af 0) (gC (.int 0))) (ae (gC (.int 1)) (ae (gC (.int 20)) ah))))))) (bo (gC (.bool false))) aY)
  (bo (gOr (g1 jk (g2 dIx (af 0) (gC (.int 1)))) (aq aK (ae (g2 dIx (af 0) (gC (.int 1))) (ae (gC (.int 0)) (ae (g2 gx (gC (.int 4)) (gC (.int 1))) ah)))))))
def fK (cs:Cs) (aW a:Gf):Ds->Sr :=
 (aE (sIf (cOr (fI (gT (aq aW (ae (af 0) (ae (gC (.int 1)) (ae (gC (.int 4)) ah)))))) (fI (gT (gF nC (ae (gL (a9 1 (bT (af 0)) bS (aq a (ae (af 1) ah)) aO)) ah))))) (bo (gC (.bool false))) aY)
  (bo (g1 jk (g2 dIx (g2 dIx (af 0) (g1 lp (gC (.int 1)))) (gC (.int 1))))))
def dO (cs:Cs) (aK a aW:Gf):Ds->Sr :=
 (aE (sIf (fI (gT (aq aW (ae (af 0) (ae (gC (.int 4)) (ae (gC (.int 4)) ah)))))) (bo (gC (.bool false))) aY)
  (aE (aT [] 1 (g2 dIx (af 0) (gC (.int 0))))
  (aE (aT [] 2 (g2 dIx (af 0) (gC (.int 1))))
  (aE (aT [] 3 (g2 dIx (af 0) (gC (.int 2))))
  (aE (sIf (fI (gT (aq aK (ae (af 1) (ae (gC (.int 2)) (ae (gC (.int 60)) ah)))))) (bo (gC (.bool false))) aY)
  (aE (sIf (fI (gT (aq aK (ae (af 3) (ae (gC (.int 0)) (ae (gF kj (ae (gC (.int 20)) (ae (g2 gx (af 1) (gC (.int 1))) ah))) ah)))))) (bo (gC (.bool false))) aY)
  (bo (zC (aq aK (ae (af 2) (ae (gC (.int 1)) (ae (g2 gx (af 1) (af 3)) ah)))) (aq a (ae (g2 dIx (af 0) (gC (.int 3))) ah))))))))))
def iM (cs:Cs) (aW a:Gf):Ds->Sr :=
 (aE (sIf (cOr (fI (gT (aq aW (ae (af 0) (ae (gC (.int 1)) (ae (gC (.int 6)) ah)))))) (fI (gT (gF nC (ae (gL (a9 1 (bT (af 0)) bS (aq a (ae (af 1) ah)) aO)) ah))))) (iQ cs.NoErrands (ae (gC (.str "errands are a tuple of 1 to 6 errands (every, due, late, parts)")) ah)) aY)
  (bo (af 0)))
def cC (cs:Cs) (aW aK:Gf):Ds->Sr :=
 (aE (aT [] 2 (g2 gx (gF bM (ae (af 0) ah)) (gC (.int 1))))
  (aE (sIf (cOr (fI (gT (aq aW (ae (af 1) (ae (gF bM (ae (af 0) ah)) (ae (gF bM (ae (af 0) ah)) ah)))))) (fI (gT (gF nC (ae (gL (a9 3 (bT (af 1)) bS (aq aK (ae (af 3) (ae (gC (.int 0)) (ae (af 2) ah)))) aO)) ah))))) (iQ cs.NoRanks (ae (gC (.str "ranks are a tuple of the numbers of all errands")) ah)) aY)
  (aE (sIf (gT (g2 dLt (gF k8 (ae (af 1) ah)) (gF bM (ae (af 1) ah)))) (iQ cs.NoRanks (ae (gC (.str "ranks have each errand's number once")) ah)) aY)
  (bo (af 1)))))
def dY (cs:Cs) (aK:Gf):Ds->Sr :=
 (aE (sIf (fI (gT (aq aK (ae (af 1) (ae (gC (.int 0)) (ae (g2 gx (gF bM (ae (af 0) ah)) (gC (.int 1))) ah)))))) (iQ cs.NoErrand (ae (gC (.str "no errand has this number")) ah)) aY)
  (bo (af 1)))
def fE (cs:Cs) (bu aV bf:Gf):Ds->Sr :=
 (aE (ki (aq bf (ae (af 0) ah)))
  (aE (ki (aq aV (ae (af 0) (ae (af 1) ah))))
  (ki (aq bu (ae (af 0) (ae (af 2) ah))))))
def i6 (cs:Cs):Ds->Sr :=
 (bo (g2 (oN false) (af 1) (gL (a9 2 (bT (g2 dIx (af 0) (gC (.int 3)))) bS (g2 dIx (af 2) (gC (.int 1))) aO))))
def lj (cs:Cs) (cn:Gf):Ds->Sr :=
 (aE (eQ [] (eK (ae (af 1) ah)) (dg [3,4]) (sIf (gT (aq cn (ae (g2 dIx (af 0) (af 4)) (ae (af 2) ah)))) (bo (af 3)) aY))
  (bo (gC .none)))
def gw (cs:Cs) (dD:Gf):Ds->Sr :=
 (bo (gL (a9 2 (fM (ae (gC (.int 4)) ah)) bS (aq dD (ae (af 0) (ae (af 1) (ae (af 2) ah)))) aO)))
def iR (cs:Cs) (aP:Gf):Ds->Sr :=
 (aE (aT [5] 3 (uy (af 1) (af 2)))
  (aE (aT [5] 4 (aq aP (ae (af 0) (ae (af 1) ah))))
  (aE (fc [5] 5 ah)
  (aE (eQ [5] (bT (eZ (af 1) (fL (g2 aX (af 3) (gC (.int 1)))) fH)) (bE 6) (eQ [5] (eK (ae (g2 dIx (g2 dIx (af 0) (af 6)) (gC (.int 3))) ah)) (dg [7,8]) (sIf (uj (gT (g1 jr (g2 dIx (af 8) (gC (.int 1))))) (gT (g2 dLe (g2 dIx (af 4) (g2 dIx (af 8) (gC (.int 1)))) (af 3)))) (gK [5] 5 (aq (sj cs.Holding ["number", "part", "tool", "times"]) (ae (af 6) (ae (af 7) (ae (g2 dIx (af 8) (gC (.int 1))) (ae (g2 gx (g2 dIx (af 8) (gC (.int 0))) (gC (.int 1))) ah)))))) aY)))
  (bo (af 5))))))
def eS (cs:Cs) (cL:Gf):Ds->Sr :=
 (bo (g2 wt (gL (a9 3 (bT (aq cL (ae (af 0) (ae (af 1) (ae (af 2) ah))))) bS (g1 (bq cs.Holding "times") (af 3)) aO)) (gC (.int 0))))
def gr (cs:Cs) (ak:Gf):Ds->Sr :=
 (aE (aT [7] 4 (g2 aX (gC (.int 3)) (aq ak (ae (af 0) (ae (af 1) (ae (af 2) ah))))))
  (aE (aT [7] 5 (g2 eX (aq ak (ae (af 0) (ae (g2 aX (af 1) (gC (.int 1))) (ae (gC (.int 4)) ah)))) (gF AA (ae (g2 dEq (aq ak (ae (af 0) (ae (g2 aX (af 1) (gC (.int 2))) (ae (gC (.int 3)) ah)))) (gC (.int 0))) ah))))
  (aE (aT [7] 5 (gF kj (ae (af 5) (ae (g2 gx (af 4) (gC (.int 1))) ah))))
  (aE (aT [7] 6 (g2 gx (af 4) (af 5)))
  (aE (sIf (gT (g2 dEq (aq ak (ae (af 0) (ae (g2 aX (af 1) (gC (.int 1))) (ae (gC (.int 3)) ah)))) (gC (.int 0)))) (aT [7] 6 (g2 gx (af 6) (aq ak (ae (af 0) (ae (g2 aX (af 1) (gC (.int 2))) (ae (af 6) ah)))))) aY)
  (aE (fc [7] 7 ah)
  (aE (eQ [7] (fM (ae (aq ak (ae (af 0) (ae (g2 aX (af 1) (gC (.int 3))) (ae (gC (.int 3)) ah)))) ah)) (bE 8) (aE (aT [7] 9 (aq ak (ae (af 0) (ae (g2 aX (g2 aX (af 1) (gC (.int 4))) (af 8)) (ae (gC (.int 40)) ah)))))
  (aE (gK [7] 7 (eP (ae (g2 aX (gC (.int 1)) (g2 ej (af 9) (gC (.int 4)))) (ae (g2 dIx (kh (ae (gC (.int 0)) (ae (gC (.int 1)) (ae (gC (.int 1)) (ae (gC (.int 0)) (ae (gC .none) ah)))))) (g2 ej (g2 i0 (af 9) (gC (.int 4))) (gC (.int 5)))) ah))))
  (sIf (fI (gT (af 3))) (oF 7 (g1 lp (gC (.int 1))) (eP (ae (g2 dIx (g2 dIx (af 7) (g1 lp (gC (.int 1)))) (gC (.int 0))) (ae (gC .none) ah)))) aY))))
  (bo (eP (ae (af 4) (ae (af 6) (ae (af 5) (ae (gF jJ (ae (g2 aX (af 7) (kh (ae (eP (ae (g2 aX (gC (.int 1)) (aq ak (ae (af 0) (ae (g2 aX (af 1) (gC (.int 6))) (ae (gC (.int 3)) ah))))) (ae (gC .none) ah))) ah))) ah)) ah)))))))))))))
def fF (cs:Cs) (bW ak:Gf):Ds->Sr :=
 (aE (aT [] 5 (g2 aX (gC (.int 1)) (aq ak (ae (af 0) (ae (af 1) (ae (af 2) ah))))))
  (bo (gF jJ (ae (gL (a9 6 (fM (ae (af 5) ah)) bS (aq bW (ae (af 0) (ae (g2 aX (g2 aX (af 1) (gC (.int 1))) (g2 eX (gC (.int 7)) (af 6))) (ae (af 3) (ae (af 4) ah))))) aO)) ah))))
def g6 (cs:Cs) (ak:Gf):Ds->Sr :=
 (aE (fc [3,4] 3 (gLR (ae (af 2) ah)))
  (aE (fc [3,4] 4 ah)
  (aE (eQ [3,4] (fM (ae (af 2) ah)) (bE 5) (i4 4 3 (aq ak (ae (af 0) (ae (g2 aX (af 1) (af 5)) (ae (gF bM (ae (af 3) ah)) ah))))))
  (bo (gF jJ (ae (af 4) ah))))))
def uB (cs:Cs) (bR cg:Gf):Ds->Sr :=
 (aE (ki (aq cg (ae (af 0) (ae (af 1) (ae (af 2) ah)))))
  (bo (aq bR (ae (af 0) (ae (af 1) (ae (af 2) ah))))))
end RS
set_option maxHeartbeats 1000000
variable {cs:RS.Cs}
namespace RS
open PySem L2
variable {b a:Int} {e:PyData} {g:PyData->Bool} {xs:List PyData}
theorem F7 (h:i∉O):(mask O δ)[i]?=δ[i]?:=by
 unfold mask;by_cases z:O=[]
 ·rw[if_pos z]
 ·rw[if_neg z,MH];cases δ[i]? with
  |none=>rfl
  |some d=>simp[h]
theorem aS (h:i∉O):af i (mask O δ)=af i δ:=by unfold af;rw[F7 h]
@[simp]theorem ao (d:PyData) (δ:Ds):af 0 (some d::δ)=.ok d:=rfl
@[simp]theorem au (i:Nat) (x:Option PyData) (δ:Ds):af (i+1) (x::δ)=af i δ:=rfl
@[simp]theorem cy (d:PyData) (δ:Ds):gC d δ=.ok d:=rfl
@[simp]theorem gQ (f:PyData->Option PyData) (a:Ds->Rs PyData) (δ:Ds):g1 f a δ=(a δ).bind λx=>Rs.eO (f x):=rfl
@[simp]theorem bK (f:PyData->PyData->Option PyData) (a b:Ds->Rs PyData) (δ:Ds):g2 f a b δ=(a δ).bind λx=>(b δ).bind λy=>Rs.eO (f x y):=rfl
@[simp]theorem fV (f:List PyData->Option PyData) (a:Ds->Rs (List PyData)) (δ:Ds):gF f a δ=(a δ).bind λx=>Rs.eO (f x):=rfl
@[simp]theorem aH (δ:Ds):ah δ=.ok []:=rfl
@[simp]theorem aA (a:Ds->Rs PyData) (r:Ds->Rs (List PyData)) (δ:Ds):ae a r δ=(a δ).bind λx=>(r δ).bind λxs=>.ok (x::xs):=rfl
@[simp]theorem jO (a:Ds->Rs (List PyData)) (δ:Ds):eP a δ=(a δ).bind λds=>.ok (.tuple ds):=rfl
@[simp]theorem xf (a:Ds->Rs (List PyData)) (δ:Ds):kh a δ=(a δ).bind λds=>.ok (.list ds):=rfl
@[simp]theorem bB (f:Gf) (a:Ds->Rs (List PyData)) (δ:Ds):aq f a δ=(a δ).bind f:=rfl
@[simp]theorem dH (a:Ds->Rs PyData) (δ:Ds):gT a δ=(a δ).bind truth:=rfl
@[simp]theorem br (b:Bool):truth (.bool b)=.ok b:=rfl
@[simp]theorem ph (a:Ds->Rs Bool) (δ:Ds):fI a δ=(a δ).bind λb=>.ok (!b):=rfl
@[simp]theorem Bh (a b:Ds->Rs Bool) (δ:Ds):uj a b δ=(a δ).bind λx=>if x=true then b δ else .ok false:=rfl
@[simp]theorem yP (a b:Ds->Rs Bool) (δ:Ds):cOr a b δ=(a δ).bind λx=>if x=true then .ok true else b δ:=rfl
@[simp]theorem wM (a b:Ds->Rs PyData) (δ:Ds):zC a b δ=(a δ).bind λx=>(truth x).bind λt=>if t=true then b δ else .ok (.bool false):=rfl
@[simp]theorem Lo (a b:Ds->Rs PyData) (δ:Ds):gOr a b δ=(a δ).bind λx=>(truth x).bind λt=>if t=true then .ok (.bool true) else b δ:=rfl
@[simp]theorem KN (a:Ds->Rs PyData) (δ:Ds):K7 a δ=(a δ).bind λx=>(truth x).bind λt=>.ok (.bool (!t)):=rfl
@[simp]theorem nH (a:Ds->Rs (List PyData)) (δ:Ds):gL a δ=(a δ).bind λds=>.ok (.list ds):=rfl
@[simp]theorem w5 (a:Ds->Rs PyData) (δ:Ds):bT a δ=(a δ).bind yh:=rfl
@[simp]theorem Je (ds:List PyData):yh (.list ds)=.ok ds:=rfl
@[simp]theorem IW (ds:List PyData):yh (.tuple ds)=.ok ds:=rfl
@[simp]theorem lG (a:Ds->Rs (List PyData)) (δ:Ds):fM a δ=(a δ).bind F3:=rfl
@[simp]theorem KI (a:Ds->Rs (List PyData)) (δ:Ds):JU a δ=(a δ).bind JD:=rfl
@[simp]theorem KG (a:Ds->Rs (List PyData)) (δ:Ds):Jz a δ=(a δ).bind Ju:=rfl
@[simp]theorem JZ (a:Ds->Rs (List PyData)) (δ:Ds):gLR a δ=(a δ).bind uf:=rfl
@[simp]theorem nP (a:Ds->Rs (List PyData)) (δ:Ds):eK a δ=(a δ).bind oQ:=rfl
@[simp]theorem KH (ds:List PyData):oQ [.list ds]=.ok (fe ds):=rfl
@[simp]theorem sZ (ds:List PyData):oQ [.tuple ds]=.ok (fe ds):=rfl
@[simp]theorem KD (f f':PyData->PyData->Option PyData) (a b c:Ds->Rs PyData) (δ:Ds):lV f f' a b c δ=(a δ).bind λx=>(b δ).bind λy=>(Rs.eO (f x y)).bind λz=>(truth z).bind λt=>if t=true then (c δ).bind λw=>Rs.eO (f' y w) else .ok (.bool false):=rfl
@[simp]theorem mh (δ:Ds):fH δ=.ok none:=rfl
@[simp]theorem nY (g:Ds->Rs PyData) (δ:Ds):fL g δ=(g δ).bind Bi:=rfl
@[simp]theorem nR (i:Int):Bi (.int i)=.ok (some i):=rfl
@[simp]theorem lu (g:Ds->Rs PyData) (lo hi:Ds->Rs (Option Int)) (δ:Ds):eZ g lo hi δ=(g δ).bind λd=>(lo δ).bind λl=>(hi δ).bind λh=>Rs.eO (D7 d l h):=rfl
@[simp]theorem C0 (x:List PyData) (lo hi:Option Int):D7 (.list x) lo hi=some (.list (cutD x lo hi)):=rfl
@[simp]theorem Dw (x:List PyData) (lo hi:Option Int):D7 (.tuple x) lo hi=some (.tuple (cutD x lo hi)):=rfl
@[simp]theorem aQ (a b:Ds->Sr) (δ:Ds):aE a b δ=match a δ with|.nx δ'=>b δ'|r=>r:=rfl
@[simp]theorem fD (δ:Ds):aY δ=.nx δ:=rfl
@[simp]theorem cG (c:Ds->Rs Bool) (a b:Ds->Sr) (δ:Ds):sIf c a b δ=ofR (c δ) λt=>if t=true then a δ else b δ:=rfl
@[simp]theorem bU (g:Ds->Rs PyData) (δ:Ds):bo g δ=ofR (g δ) .rt:=rfl
@[simp]theorem tI (g:Ds->Rs PyData) (δ:Ds):ki g δ=ofR (g δ) λ_=>.nx δ:=rfl
@[simp]theorem iT (i:Nat) (g:Ds->Rs PyData) (δ:Ds):aT [] i g δ=if i<δ.length then ofR (g δ) λd=>.nx (δ.set i (some d)) else .no:=by unfold aT;rw[iz]
@[simp]theorem JX (C:Addr) (gs:Ds->Rs (List PyData)) (δ:Ds):iQ C gs δ=ofR (gs δ) λ_=>.rz C:=rfl
theorem kE (O:List Nat) (src:Ds->Rs (List PyData)) (tgt:PyData->Ds->Option Ds) (body:Ds->Sr) (δ:Ds):eQ O src tgt body δ=ofR (src (mask O δ)) λds=>forL tgt body ds δ:=rfl
@[simp]theorem bc (d:PyData):bh (.rt d)=.ok d:=rfl
@[simp]theorem Jn (δ:Ds):bh (.nx δ)=.ok .none:=rfl
@[simp]theorem Jo (C:Addr):bh (.rz C)=.rz C:=rfl
@[simp]theorem Jp:bh .no=.no:=rfl
@[simp]theorem eC (a b:Int):aX (.int a) (.int b)=some (.int (a+b)):=rfl
@[simp]theorem qt (a b:Int):gx (.int a) (.int b)=some (.int (a-b)):=rfl
@[simp]theorem rH (a b:Int):ej (.int a) (.int b)=if 0<b then some (.int (a % b)) else none:=rfl
@[simp]theorem yo (a b:Int):i0 (.int a) (.int b)=if 0<b/\b<1073741824 then some (.int (a / b)) else none:=rfl
@[simp]theorem BH (a b:Int):dLt (.int a) (.int b)=some (.bool (decide (a<b))):=rfl
@[simp]theorem K5 (a b:Int):dLe (.int a) (.int b)=some (.bool (decide (a<=b))):=rfl
@[simp]theorem EC (a b:Int):dGt (.int a) (.int b)=some (.bool (decide (b<a))):=rfl
@[simp]theorem Lv (a b:Int):dGe (.int a) (.int b)=some (.bool (decide (b<=a))):=rfl
@[simp]theorem Gy (a:Int):lp (.int a)=some (.int (-a)):=rfl
@[simp]theorem CD (d:PyData):jk d=some (.bool (eV d)):=rfl
@[simp]theorem KZ (d:PyData):jr d=some (.bool (!eV d)):=rfl
@[simp]theorem Cn:eV .none=true:=rfl
@[simp]theorem As (i:Int):eV (.int i)=false:=rfl
@[simp]theorem Cc (x:List PyData) (i:Int):dIx (.tuple x) (.int i)=atI x i:=rfl
@[simp]theorem A9 (x:List PyData) (i:Int):dIx (.list x) (.int i)=atI x i:=rfl
@[simp]theorem tU (x:List PyData):bM [.tuple x]=some (.int x.length):=rfl
@[simp]theorem jC (x:List PyData):bM [.list x]=some (.int x.length):=rfl
@[simp]theorem xl (a b:Int):kj [.int a,.int b]=some (.int (if b<a then b else a)):=rfl
@[simp]theorem Bg (a b:Int):iC [.int a,.int b]=some (.int (if b>a then b else a)):=rfl
@[simp]theorem IG (b:Bool):AA [.bool b]=some (.int (if b then 1 else 0)):=rfl
@[simp]theorem Bv (x:List PyData):jJ [.list x]=some (.tuple x):=rfl
@[simp]theorem K2 (x:List PyData):jJ [.tuple x]=some (.tuple x):=rfl
@[simp]theorem jE (a b:Int):dEq (.int a) (.int b)=some (.bool (a==b)):=by
 have h:∀i:Int,PySem.SeqAt.shaped (.int i)=true:=λi=>by simp[PySem.SeqAt.shaped,PyData.canLay0,PyData.depth]
 unfold dEq;rw[h,h];simp[aC,PyData.eqv]
@[simp]theorem Kw (a b:Int):dNe (.int a) (.int b)=some (.bool (!(a==b))):=by
 have h:∀i:Int,PySem.SeqAt.shaped (.int i)=true:=λi=>by simp[PySem.SeqAt.shaped,PyData.canLay0,PyData.depth]
 unfold dNe;rw[h,h];simp[aC,PyData.eqv]
theorem mn {xs:List α} {i:Int} (h:i=j):atI xs i=xs[j]?:=by
 subst h;unfold atI ixN;by_cases z:(j:Int)<xs.length
 ·rw[if_pos (by omega),if_pos z];simp
 ·rw[if_pos (by omega),if_neg z];simp;omega
@[simp]theorem Lu (xs:List α):atI xs 0=xs[0]?:=mn (j:=0) rfl
@[simp]theorem Lp (xs:List α):atI xs 1=xs[1]?:=mn (j:=1) rfl
@[simp]theorem Lr (xs:List α):atI xs 2=xs[2]?:=mn (j:=2) rfl
@[simp]theorem Lq (xs:List α):atI xs 3=xs[3]?:=mn (j:=3) rfl
theorem jZ (xs:List α):atI xs (-1)=xs.getLast?:=by
 unfold atI ixN;rw[if_neg (by decide)];by_cases z:xs=[]
 ·subst z;rfl
 ·have:0<xs.length:=Mh.mpr z;rw[if_pos (by omega),List.getLast?_eq_getElem?];simp only[MU];congr 1;omega
theorem iJ (g:α->Bool) (xs:List α):nC [.list (xs.map λd=>.bool (g d))]=some (.bool (xs.all g)):=by
 have a:ic (xs.map λd=>PyData.bool (g d))=some (xs.map g):=by rw[show (xs.map λd=>PyData.bool (g d))=(xs.map g).map PyData.bool by rw[LQ];rfl];exact n5 _
 show (ic (xs.map λd=>PyData.bool (g d))).map (λns=>PyData.bool (ns.all id))=_;rw[a,MD,List.all_map];rfl
theorem comp_map {elt:Ds->Rs PyData} {δ:Ds} {f:PyData->PyData}:∀(ds:List PyData),(∀d∈ds,elt (δ++[some d])=.ok (f d))->eM bS elt aO δ ds=.ok (ds.map f)
 |[],_=>rfl
 |d::r,h=>by unfold eM;simp only[aO,bS,Rs.dm,Rs.ag,if_true,h d L6,comp_map r λe a=>h e (L3 _ a),L4]
theorem cT {elt:Ds->Rs PyData} {f:PyData->PyData} (hn:δ.length=n0) (a:src δ=.ok ds) (hl:ds.length<=1000000) (h:∀d∈ds,elt (δ++[some d])=.ok (f d)) :
  a9 n0 src bS elt aO δ=.ok (ds.map f):=by
 unfold a9;rw[if_pos hn,a];simp only[Rs.ag,if_pos hl];exact comp_map ds h
theorem iU:∀{ds:List PyData},cN ds=true->∀d∈ds,aC d=true
 |[],_,d,hd=>by cases hd
 |e::r,h,d,hd=>by
  unfold cN at h;obtain⟨h1,h2⟩:=Md.mp h;rcases L7.mp hd with z|z
  ·rw[z];exact h1
  ·exact iU h2 d z
theorem dX (h:aC (.tuple ds)=true):∀d∈ds,aC d=true:=by unfold aC at h;exact iU h
def aK:Gf
 |[d,.int a,.int b]=>if aC d then .ok (.bool (isWhole d a b)) else .no
 |_=>.no
theorem nX {f:PyData->Int->Int->Rs PyData} (h:(match ds with|[a,.int x1,.int x2]=>f a x1 x2|_=>.no)≠.no):∃a x1 x2,ds=[a,.int x1,.int x2]/\f a x1 x2≠.no:=by
 rcases ds with _|⟨a,_|⟨x1,_|⟨x2,_|⟨y,ys⟩⟩⟩⟩
 ·exact absurd rfl h
 ·exact absurd rfl h
 ·first|exact absurd rfl h|(cases x1 <;> exact absurd rfl h)
 ·skip
  cases x1 with
  |int x1 =>
   cases x2 with
   |int x2 =>exact⟨_,_,_,rfl,h⟩
   |_=>exact absurd rfl h
  |_=>first|exact absurd rfl h|(cases x2 <;> exact absurd rfl h)
 ·first|exact absurd rfl h|(cases x1 <;> first|exact absurd rfl h|(cases x2 <;> exact absurd rfl h))
abbrev LLq (G:Ds->Sr) (n k:Nat) (g:Gf):Prop:=∀ds,ds.length=n->g ds≠.no->bh (G (ds.map some++List.replicate k none))=g ds
theorem xN (cs:Cs):LLq (iX cs) 3 0 aK:=by
 intro ds hl c;obtain⟨d,a,b,f,e⟩:=nX c;clear c;subst f;have c:=e;clear e;unfold aK
 ·skip
  split at c
  ·rename_i hd;simp only[hd,if_true];cases d with
   |int i=>by_cases h:a<=i <;> simp[iX,kM,hd,tq,tyD,isWhole,h]
   |dict _=>simp[aC]at hd
   |_=>simp[iX,kM,hd,tq,tyD,isWhole]
  ·exact absurd rfl c
def aW:Gf
 |[d,.int a,.int b]=>if aC d then .ok (.bool (bZ d a b)) else .no
 |_=>.no
theorem xg (cs:Cs):LLq (iO cs) 3 0 aW:=by
 intro ds hl c;obtain⟨d,a,b,f,e⟩:=nX c;clear c;subst f;have c:=e;clear e;unfold aW
 ·skip
  split at c
  ·rename_i hd;simp only[hd,if_true];cases d with
   |tuple x=>by_cases h:a<=(x.length:Int) <;> simp[iO,kM,hd,tq,tyD,bZ,h]
   |dict _=>simp[aC]at hd
   |_=>simp[iO,kM,hd,tq,tyD,bZ]
  ·exact absurd rfl c
def f7 (g:PyData->Bool):Gf
 |[d]=>if aC d then .ok (.bool (g d)) else .no
 |_=>.no
theorem qu (h:f7 g ds≠.no):∃d,ds=[d]/\aC d=true/\f7 g ds=.ok (.bool (g d)):=by
 unfold f7 at h ⊢;split at h
 ·rename_i d;split at h
  ·rename_i hd;exact⟨d,rfl,hd,by simp[hd]⟩
  ·exact absurd rfl h
 ·exact absurd rfl h
theorem pG {d:PyData} (h:aC d=true):f7 g [d]=.ok (.bool (g d)):=by unfold f7;simp[h]
@[simp]theorem Jm {d:PyData} (h:aC d=true):aW [d,.int a,.int b]=.ok (.bool (bZ d a b)):=by unfold aW;simp[h]
@[simp]theorem uP {d:PyData} (h:aC d=true):aK [d,.int a,.int b]=.ok (.bool (isWhole d a b)):=by unfold aK;simp[h]
theorem vP {d:PyData} (h:bZ d 2 2=true):∃a b,d=.tuple [a,b]:=by
 cases d with
 |tuple ds =>
  simp[bZ]at h
  match ds,h with
  |[a,b],_=>exact⟨a,b,rfl⟩
  |[],h=>simp at h
  |[_],h=>simp at h
  |_::_::_::_,h=>simp at h;omega
 |_=>cases h
theorem AK (cs:Cs):LLq (gA cs aK aW) 1 0 (f7 c7):=by
 intro ds hl c;obtain⟨d,rfl,hd,e⟩:=qu c;rw[e];cases e1:bZ d 2 2 with
 |false =>
  have:c7 d=false:=by
   unfold c7;split
   ·simp[bZ]at e1
   ·rfl
  simp[gA,hd,e1,this]
 |true =>
  obtain⟨a,b,rfl⟩:=vP e1;have ha:=dX hd a (by simp);have f:=dX hd b (by simp);cases e2:isWhole a 1 20 with
  |false=>simp[gA,hd,ha,e1,e2,c7]
  |true =>
   cases b with
   |none=>simp[gA,hd,ha,e1,e2,c7]
   |_=>simp[gA,hd,ha,f,e1,e2,c7,eV]
theorem uG (cs:Cs):LLq (fK cs aW (f7 c7)) 1 0 (f7 dP):=by
 intro ds hl c;obtain⟨d,rfl,hd,e⟩:=qu c;rw[e];cases e1:bZ d 1 4 with
 |false =>
  have:dP d=false:=by
   cases d with
   |tuple ds =>simp only[bZ,Mc,decide_eq_false_iff_not]at e1;simp only[dP,Mc,decide_eq_false_iff_not];refine .inl (.inl ?_);omega
   |_=>rfl
  simp[fK,hd,e1,this]
 |true =>
  obtain⟨xs,rfl⟩:∃ds,d=.tuple ds:=by cases d <;> first|exact⟨_,rfl⟩|cases e1
  have hn:1<=xs.length/\xs.length<=4:=by simp only[bZ,L8,decide_eq_true_eq]at e1;omega
  have hc:a9 1 (bT (af 0)) bS (aq (f7 c7) (ae (af 1) ah)) aO [some (.tuple xs)]=.ok (xs.map λd=>.bool (c7 d)) :=
   cT rfl rfl (by omega) λd h=>by simp[pG (dX hd d h)]
  have l:=iJ c7 xs;cases e2:xs.all c7 with
  |false=>simp[fK,hd,e1,hc,l,e2,dP]
  |true =>
   have c:xs≠[]:=by intro z;subst z;simp at hn
   have f:xs.getLast?=some (xs.getLast c):=List.getLast?_eq_some_getLast c;have g:=LD.mp e2 _ (List.getLast_mem c);obtain⟨a,b,i⟩:∃a b,xs.getLast c=.tuple [a,b]:=by
    revert g;generalize xs.getLast c=z;intro g;unfold c7 at g;split at g
    ·exact⟨_,_,rfl⟩
    ·cases g
   rw[i]at f;have j:iw xs=eV b:=by unfold iw;rw[f];cases b <;> rfl
   simp[fK,hd,e1,hc,l,e2,dP,jZ,f,j,hn.1,hn.2]
theorem tL {d:PyData} (h:bZ d 4 4=true):∃a b c e,d=.tuple [a,b,c,e]:=by
 cases d with
 |tuple ds =>
  simp[bZ]at h
  match ds,h with
  |[a,b,c,e],_=>exact⟨a,b,c,e,rfl⟩
  |[],h=>simp at h
  |[_],h=>simp at h
  |[_,_],h=>simp at h
  |[_,_,_],h=>simp at h
  |_::_::_::_::_::_,h=>simp at h;omega
 |_=>cases h
theorem dj {d:PyData} (h:isWhole d a b=true):∃i,d=.int i/\a<=i/\i<=b:=by
 cases d with
 |int i=>simp[isWhole]at h;exact⟨i,rfl,h⟩
 |_=>cases h
theorem pR {a b c:PyData} (h:isWhole a 2 60=false):bI (.tuple [a,b,c,e])=false:=by
 cases a with
 |int i =>
  cases c with
  |int l =>simp only[isWhole,Mc,decide_eq_false_iff_not]at h;simp only[bI,Mc,decide_eq_false_iff_not];omega
  |_=>rfl
 |_=>rfl
theorem qF {b c:PyData} {i:Int} (h:isWhole c 0 (if i-1<20 then i-1 else 20)=false):bI (.tuple [.int i,b,c,e])=false:=by
 cases c with
 |int l =>simp only[isWhole,Mc,decide_eq_false_iff_not]at h;simp only[bI,Mc,decide_eq_false_iff_not];exact .inl (.inl (.inr h))
 |_=>rfl
theorem qP {b:PyData} {i l:Int} (h1:2<=i/\i<=60) (h2:0<=l/\l<=if i-1<20 then i-1 else 20):bI (.tuple [.int i,b,.int l,e])=(isWhole b 1 (i-l)&&dP e):=by simp[bI,h1.1,h1.2,h2.1,h2.2]
theorem v9 (cs:Cs):LLq (dO cs aK (f7 dP) aW) 1 3 (f7 bI):=by
 intro ds hl h;obtain⟨d,rfl,hd,e⟩:=qu h;rw[e];cases e1:bZ d 4 4 with
 |false =>
  have:bI d=false:=by
   unfold bI;split
   ·simp[bZ]at e1
   ·rfl
  simp[dO,hd,e1,this]
 |true =>
  obtain⟨a,b,c,q,rfl⟩:=tL e1;have ha:=dX hd a (by simp);have g:=dX hd b (by simp);have hc:=dX hd c (by simp);have f:=dX hd q (by simp);cases e2:isWhole a 2 60 with
  |false=>simp[dO,hd,ha,g,hc,f,e1,e2,pR e2]
  |true =>
   obtain⟨i,rfl,i1,i2⟩:=dj e2;cases e3:isWhole c 0 (if i-1<20 then i-1 else 20) with
   |false=>simp[dO,hd,ha,g,hc,f,e1,e2,e3,qF e3]
   |true =>
    obtain⟨l,rfl,l1,l2⟩:=dj e3;have j:=qP (b:=b) (e:=q) ⟨i1,i2⟩ ⟨l1,l2⟩;cases e4:isWhole b 1 (i-l) with
    |false=>simp[dO,hd,ha,g,hc,f,e1,e2,e3,e4,j]
    |true=>simp[dO,hd,ha,g,hc,f,e1,e2,e3,e4,j,pG f]
def bf (cs:Cs):Gf
 |[d]=>if aC d then (if c8 d then .ok d else .rz cs.NoErrands) else .no
 |_=>.no
theorem An (cs:Cs):LLq (iM cs aW (f7 bI)) 1 0 (bf cs):=by
 intro ds hl a;obtain⟨d,rfl⟩:∃d,ds=[d]:=by
  match ds,hl with
  |[d],_=>exact⟨d,rfl⟩
 have hd:aC d=true:=by
  unfold bf at a;by_cases z:aC d=true
  ·exact z
  ·simp[z]at a
 have e:bf cs [d]=if c8 d then .ok d else .rz cs.NoErrands:=by unfold bf;simp[hd]
 rw[e];cases e1:bZ d 1 6 with
 |false =>
  have:c8 d=false:=by
   cases d with
   |tuple ds =>simp only[bZ,Mc,decide_eq_false_iff_not]at e1;simp only[c8,Mc,decide_eq_false_iff_not];refine .inl ?_;omega
   |_=>rfl
  simp[iM,hd,e1,this]
 |true =>
  obtain⟨xs,rfl⟩:∃ds,d=.tuple ds:=by cases d <;> first|exact⟨_,rfl⟩|cases e1
  have hn:1<=xs.length/\xs.length<=6:=by simp only[bZ,L8,decide_eq_true_eq]at e1;omega
  have hc:a9 1 (bT (af 0)) bS (aq (f7 bI) (ae (af 1) ah)) aO [some (.tuple xs)]=.ok (xs.map λd=>.bool (bI d)) :=
   cT rfl rfl (by omega) λd b=>by simp[pG (dX hd d b)]
  have c:=iJ bI xs;cases e2:xs.all bI with
  |false=>simp[iM,hd,e1,hc,c,e2,c8]
  |true=>simp[iM,hd,e1,hc,c,e2,c8,hn.1,hn.2]
theorem kD {β:Type} {tgt:PyData->Ds->Option Ds} {body:Ds->Sr} (inv:Nat->Ds->Prop):∀(ds:List PyData) (k:Nat),(∀(i:Nat) d δ,ds[i]?=some d->inv (k+i) δ->∃δ1 δ2,tgt d δ=some δ1/\body δ1=.nx δ2/\inv (k+i+1) δ2) ->
  ∀δ,inv k δ->∃a,forL tgt body ds δ=.nx a/\inv (k+ds.length) a
 |[],k,_,δ,h=>⟨δ,rfl,h⟩
 |d::r,k,hs,δ,h=>by
  obtain⟨δ1,δ2,e1,e2,h2⟩:=hs 0 d δ rfl h;obtain⟨a,b,c⟩:=kD (β:=β) inv r (k+1) (λi x δ e hi=>by have:=hs (i+1) x δ (by simpa using e) (by rw[show k+(i+1)=k+1+i by omega];exact hi);rw[show k+1+i+1=k+(i+1)+1 by omega];exact this) δ2 h2
  exact⟨a,by unfold forL;rw[e1];simp only[e2];exact b,by rw[LI,show k+(r.length+1)=k+1+r.length by omega];exact c⟩
def C5:PyData->Option Int
 |.int i=>some i
 |_=>none
def cu:PyData->Int×Option Int
 |.tuple [.int l,t]=>(l,C5 t)
 |_=>(0,none)
def deE:PyData->Er
 |.tuple [.int e,.int d,.int l,.tuple ps]=>⟨e,d,l,ps.map cu⟩
 |_=>⟨0,0,0,[]⟩
theorem rS (e:Int) (d:Int) (l:Int) (ps:List PyData):deE (.tuple [.int e,.int d,.int l,.tuple ps])=⟨e,d,l,ps.map cu⟩:=rfl
def dk:PyData->List Er
 |.tuple ds=>ds.map deE
 |_=>[]
theorem xC (o:Option Int):C5 (bz o)=o:=by cases o <;> rfl
theorem qw (p:Int×Option Int):cu (aN p)=p:=by obtain⟨l,t⟩:=p;simp[aN,cu,xC]
theorem yk (e:Er):deE e.d=e:=by
 obtain⟨a,b,c,ps⟩:=e;simp[Er.d,rS,LQ]
 conv=>rhs;rw[<-Mf ps]
 exact LN λp _=>qw p
theorem ie (es:List Er):dk (ax es)=es:=by
 simp[ax,dk,LQ]
 conv=>rhs;rw[<-Mf es]
 exact LN λe _=>yk e
theorem part_of {d:PyData} (h:c7 d=true):aN (cu d)=d/\1<=(cu d).1/\(cu d).1<=20/\∀t,(cu d).2=some t->0<=t/\t<=3:=by
 unfold c7 at h;split at h
 ·rename_i a b;rw[L8]at h;obtain⟨i,rfl,h1,h2⟩:=dj h.1;have c:=h.2;cases b with
  |none=>exact⟨rfl,h1,h2,λt q=>by cases q⟩
  |int t =>obtain⟨t',q,e,f⟩:=dj c;cases q;exact⟨rfl,h1,h2,λt q=>by cases q;exact⟨e,f⟩⟩
  |_=>cases c
 ·cases h
theorem sE {d:PyData} (h:bI d=true):(deE d).d=d/\(deE d).Ok:=by
 unfold bI at h;split at h
 ·rename_i e j l ps;simp only[L8,decide_eq_true_eq]at h;obtain⟨⟨⟨⟨h1,h2⟩,m,n⟩,o⟩,c⟩:=h;obtain⟨j,rfl,d1,d2⟩:=dj o;unfold dP at c;split at c
  ·rename_i ps;simp only[L8,decide_eq_true_eq]at c;obtain⟨⟨⟨p1,p2⟩,r⟩,f⟩:=c;have g:=LD.mp r;have i:l<=20/\l<e:=by split at n <;> omega
   refine⟨?_,?_⟩
   ·have s:ps.map (aN∘cu)=ps:=by
     conv=>rhs;rw[<-Mf ps]
     exact LN λp b=>(part_of (g p b)).1
    simp only[rS,Er.d,LQ,s]
   ·refine⟨h1,h2,m,i.1,i.2,d1,d2,λz=>?_,by simpa[rS] using p2,λp b=>?_,λp b=>?_⟩
    ·have:ps=[]:=by simpa[rS] using z
     subst this;simp at p1
    ·obtain⟨q,u,rfl⟩:=LA.mp (show p∈ps.map cu from b);exact (part_of (g q u)).2
    ·have b:(ps.map cu).getLast?=some p:=b;rw[Np]at b;unfold iw at f;cases q:ps.getLast? with
     |none=>rw[q]at b;cases b
     |some z =>
      rw[q]at b f;simp at b;split at f
      ·rename_i a heq;cases heq;subst b;unfold cu;split
       ·rename_i l t e1;injection e1 with e1;injection e1 with _ e1;injection e1 with e1 _
        rw[<-e1];rfl
       ·rfl
      ·cases f
  ·cases c
 ·cases h
theorem xu {d:PyData} (h:c8 d=true):ax (dk d)=d/\1<=(dk d).length/\(dk d).length<=6/\∀e∈dk d,e.Ok:=by
 unfold c8 at h;split at h
 ·rename_i ds;simp only[L8,decide_eq_true_eq]at h;obtain⟨⟨h1,h2⟩,b⟩:=h;have a:=LD.mp b;refine⟨?_,by simpa[dk] using h1,by simpa[dk] using h2,λe c=>?_⟩
  ·simp only[dk,ax,LQ];congr 1
   conv=>rhs;rw[<-Mf ds]
   exact LN λp f=>(sE (a p f)).1
  ·obtain⟨q,g,rfl⟩:=LA.mp (show e∈ds.map deE from c);exact (sE (a q g)).2
 ·cases h
def deI:PyData->Int
 |.int i=>i
 |_=>0
def cM:PyData->List Int
 |.tuple ds=>ds.map deI
 |_=>[]
def ar (ns:List Int):PyData:=.tuple (ns.map .int)
theorem iq (ns:List Int):cM (ar ns)=ns:=by
 simp[ar,cM,LQ]
 conv=>rhs;rw[<-Mf ns]
 exact LN λ_ _=>rfl
def dG (n:Nat):PyData->Bool
 |.tuple ds=>decide (ds.length=n)&&ds.all (λd=>isWhole d 0 ((n:Int)-1))&&decide (ds.map deI).Nodup
 |_=>false
structure dQ (n:Nat) (rs:List Int):Prop where
 len:rs.length=n
 rng:∀r∈rs,0<=r/\r<n
 nd:rs.Nodup
theorem k9 {d:PyData} (h:dG n d=true):ar (cM d)=d/\dQ n (cM d):=by
 unfold dG at h;split at h
 ·rename_i ds;simp only[L8,decide_eq_true_eq]at h;obtain⟨⟨h1,h2⟩,e⟩:=h;have c:=LD.mp h2;refine⟨?_,by simpa[cM] using h1,λr f=>?_,e⟩
  ·simp only[cM,ar,LQ];congr 1
   conv=>rhs;rw[<-Mf ds]
   refine LN λp g=>?_
   obtain⟨i,rfl,_⟩:=dj (c p g);rfl
  ·obtain⟨q,j,rfl⟩:=LA.mp (show r∈ds.map deI from f);obtain⟨i,rfl,a,b⟩:=dj (c q j);exact⟨a,by show i<n;omega⟩
 ·cases h
theorem gH (h:dQ n rs):dG n (ar rs)=true:=by
 have e:(rs.map PyData.int).map deI=rs:=by
  rw[LQ];conv=>rhs;rw[<-Mf rs]
  exact LN λ_ _=>rfl
 unfold dG ar;simp only[L5,h.len,decide_true,Ng,e,h.nd,MY];rw[LD];intro d hd;obtain⟨r,a,rfl⟩:=LA.mp hd;have:=h.rng r a;simp[isWhole,this.1];omega
theorem mE:∀(l acc:List Int),acc.Nodup->((l.foldl PyProof.Rows.step_dedup acc).length<=acc.length+l.length)/\((l.foldl PyProof.Rows.step_dedup acc).length=acc.length+l.length↔(acc++l).Nodup)
 |[],acc,h=>by simpa using h
 |x::r,acc,h=>by
  rw[N6];by_cases z:acc.any (·==x)=true
  ·have e:PyProof.Rows.step_dedup acc x=acc:=by unfold PyProof.Rows.step_dedup;rw[if_pos z]
   rw[e];have:=mE r acc h;refine⟨by rw[LI];omega,λq=>?_,λq=>?_⟩
   ·rw[LI]at q;omega
   ·exfalso;obtain⟨y,c,f⟩:=ML.mp z;have:y=x:=by simpa using f
    subst this;rw[Nn]at q;exact q.2.2 y c y L6 rfl
  ·have e:PyProof.Rows.step_dedup acc x=acc++[x]:=by unfold PyProof.Rows.step_dedup;rw[if_neg z]
   have g:x∉acc:=λq=>z (ML.mpr ⟨x,q,by simp⟩)
   have hn:(acc++[x]).Nodup:=by rw[Nn];exact⟨h,by simp,λa ha b i=>by rw[Lx.mp i];rintro rfl;exact g ha⟩
   rw[e];have:=mE r (acc++[x]) hn;rw[LB,M7,MF]at this;refine⟨by rw[LI];omega,?_⟩;rw[LI,show acc.length+(r.length+1)=acc.length+1+r.length by omega];exact this.2
theorem xK (ns:List Int):((seen ns ns.length).length:Int)<ns.length↔¬ ns.Nodup:=by
 have e:(List.range ns.length).map (λi=>ns.getD i 0)=ns:=by
  apply List.ext_getElem?;intro i;rw[LG];by_cases h:i<ns.length
  ·rw[N3 h,L0 h];simp[LJ,L0 h]
  ·rw[Mq (by simpa using h),Mq (by simpa using h)];rfl
 have:=mE ns [] List.nodup_nil;unfold seen PyProof.Rows.firstMet;rw[e];simp only[Mm,M8,M4]at this;constructor
 ·intro h q;have:=this.2.mpr q;omega
 ·intro h;have h1:=this.1;have h2:¬ (List.foldl PyProof.Rows.step_dedup [] ns).length=ns.length:=λq=>h (this.2.mp q)
  omega
def aV (cs:Cs):Gf
 |[.tuple es,r]=>if aC r&&decide (es.length<=100) then (if dG es.length r then .ok r else .rz cs.NoRanks) else .no
 |_=>.no
theorem Df {f:List PyData->PyData->Rs PyData} (h:(match ds with|[.tuple a,x1]=>f a x1|_=>.no)≠.no):∃a x1,ds=[.tuple a,x1]/\f a x1≠.no:=by
 rcases ds with _|⟨a,_|⟨x1,_|⟨y,ys⟩⟩⟩
 ·exact absurd rfl h
 ·first|exact absurd rfl h|(cases a <;> exact absurd rfl h)
 ·skip
  cases a with
  |tuple a =>exact⟨_,_,rfl,h⟩
  |_=>exact absurd rfl h
 ·first|exact absurd rfl h|(cases a <;> exact absurd rfl h)
theorem nE (cs:Cs):LLq (cC cs aW aK) 2 1 (aV cs):=by
 intro ds hl a;obtain⟨es,r,l,j⟩:=Df a;clear a;subst l;have a:=j;clear j;unfold aV
 ·skip
  split at a
  ·rename_i c;simp only[c,if_true];rw[L8,decide_eq_true_eq]at c;obtain⟨hd,h100⟩:=c;cases e1:bZ r es.length es.length with
   |false =>
    have:dG es.length r=false:=by
     cases r with
     |tuple xs =>
      have:xs.length≠es.length:=λq=>by simp[bZ,q]at e1
      simp[dG,this]
     |_=>rfl
    simp[cC,hd,e1,this]
   |true =>
    obtain⟨xs,rfl⟩:∃ds,r=.tuple ds:=by cases r <;> first|exact⟨_,rfl⟩|cases e1
    have hn:xs.length=es.length:=by simp only[bZ,L8,decide_eq_true_eq]at e1;omega
    have hc:a9 3 (bT (af 1)) bS (aq aK (ae (af 3) (ae (gC (.int 0)) (ae (af 2) ah)))) aO [some (.tuple es),some (.tuple xs),some (.int ((es.length:Int)-1))]=.ok (xs.map λd=>.bool (isWhole d 0 ((es.length:Int)-1))) :=
     cT rfl rfl (by omega) λd e=>by simp[dX hd d e]
    have f:=iJ (λd=>isWhole d 0 ((es.length:Int)-1)) xs;cases e2:xs.all (λd=>isWhole d 0 ((es.length:Int)-1)) with
    |false=>simp[cC,hd,e1,hc,f,e2,dG]
    |true =>
     have m:=LD.mp e2;have n:xs=(xs.map deI).map PyData.int:=by
      rw[LQ]
      conv=>lhs;rw[<-Mf xs]
      refine LN λp o=>?_
      obtain⟨i,rfl,_⟩:=dj (m p o);rfl
     have g:k8 [.tuple xs]=some (.int (seen (xs.map deI) (xs.map deI).length).length):=by
      unfold k8
      conv=>lhs;rw[n]
      simp only[fu,MU];rw[if_pos (by simp;omega)]
     have b:=xK (xs.map deI);have h:(xs.map deI).length=es.length:=by rw[L5];exact hn
     rw[h]at g b;by_cases hnd:(xs.map deI).Nodup
     ·have h2:¬ (seen (xs.map deI) es.length).length<es.length:=λq=>b.mp (by omega) hnd
      simp[cC,hd,e1,hc,f,e2,g,hn,h2,dG,hnd]
     ·have h2:(seen (xs.map deI) es.length).length<es.length:=by have:=b.mpr hnd;omega
      simp[cC,hd,e1,hc,f,e2,g,hn,h2,dG,hnd]
  ·exact absurd rfl a
def jF:PyData->Bool
 |.tuple [.int l,b]=>decide (0<=l)&&decide (l<=1000000)&&(match b with|.none=>true|.int t=>decide (0<=t)&&decide (t<=3)|_=>false)
 |_=>false
def wy:PyData->Bool
 |.tuple [.int e,.int _,.int l,.tuple ps]=>decide (1<=e)&&decide (e<1073741824)&&decide (-1000000000<=l)&&decide (l<=1000000000)&&decide (ps.length<=1000)&&ps.all jF
 |_=>false
def pH:PyData->Bool
 |.tuple ds=>decide (ds.length<=100)&&ds.all wy
 |_=>false
structure Er.Sh (e:Er):Prop where
 e1:1<=e.every
 e2:e.every<1073741824
 l1:-1000000000<=e.late
 l2:e.late<=1000000000
 pn:e.parts.length<=1000
 pl:∀p∈e.parts,0<=p.1/\p.1<=1000000/\∀t,p.2=some t->0<=t/\t<=3
theorem qY {d:PyData} (h:jF d=true):aN (cu d)=d/\0<=(cu d).1/\(cu d).1<=1000000/\∀t,(cu d).2=some t->0<=t/\t<=3:=by
 unfold jF at h;split at h
 ·rename_i l b;simp only[L8,decide_eq_true_eq]at h;obtain⟨⟨h1,h2⟩,a⟩:=h;cases b with
  |none=>exact⟨rfl,h1,h2,λt q=>by cases q⟩
  |int t =>simp only[L8,decide_eq_true_eq]at a;exact⟨rfl,h1,h2,λt q=>by cases q;exact a⟩
  |_=>cases a
 ·cases h
theorem vI {d:PyData} (h:wy d=true):(deE d).d=d/\(deE d).Sh:=by
 unfold wy at h;split at h
 ·rename_i e du l ps;simp only[L8,decide_eq_true_eq]at h;obtain⟨⟨⟨⟨⟨h1,h2⟩,a⟩,b⟩,g⟩,i⟩:=h;have f:=LD.mp i;have j:ps.map (aN∘cu)=ps:=by
   conv=>rhs;rw[<-Mf ps]
   exact LN λp c=>(qY (f p c)).1
  refine⟨by simp only[rS,Er.d,LQ,j],h1,h2,a,b,by simpa[rS] using g,λp c=>?_⟩;obtain⟨q,m,rfl⟩:=LA.mp (show p∈ps.map cu from c);exact (qY (f q m)).2
 ·cases h
theorem nZ {e:Er} (h:e.Sh):wy e.d=true:=by
 unfold wy Er.d;simp only[h.e1,h.e2,h.l1,h.l2,decide_true,Ng,L5,h.pn];rw[LD];intro d hd;obtain⟨p,f,rfl⟩:=LA.mp hd;obtain⟨a,b,c⟩:=h.pl p f;obtain⟨l,t⟩:=p;cases t with
 |none=>simp at a b;simp[jF,aN,bz,a,b]
 |some t=>have:=c t rfl;simp at a b;simp[jF,aN,bz,a,b,this.1,this.2]
theorem Er.Ok.sh {e:Er} (h:e.Ok):e.Sh:=⟨by have:=h.e1;omega,by have:=h.e2;omega,by have:=h.l1;omega,by have:=h.l2;omega,by have:=h.p2;omega,λp f=>by obtain⟨a,b,c⟩:=h.pl p f;exact⟨by omega,by omega,c⟩⟩
theorem xW {d:PyData} (h:pH d=true):ax (dk d)=d/\(dk d).length<=100/\∀e∈dk d,e.Sh:=by
 unfold pH at h;split at h
 ·rename_i ds;simp only[L8,decide_eq_true_eq]at h;have a:=LD.mp h.2;refine⟨?_,by simpa[dk] using h.1,λe b=>?_⟩
  ·simp only[dk,ax,LQ];congr 1
   conv=>rhs;rw[<-Mf ds]
   exact LN λp c=>(vI (a p c)).1
  ·obtain⟨q,f,rfl⟩:=LA.mp (show e∈ds.map deE from b);exact (vI (a q f)).2
 ·cases h
theorem qm (h1:es.length<=100) (h:∀e∈es,e.Sh):pH (ax es)=true:=by unfold pH ax;simp only[L5,h1,decide_true,Ng];rw[LD];intro d hd;obtain⟨e,a,rfl⟩:=LA.mp hd;exact nZ (h e a)
def Er.has (e:Er) (t:Int):Bool:=e.parts.any λp=>p.2==some t
def er0:Er:=⟨1,1,0,[]⟩
def b9 (es:List Er) (n:Int):Er:=es.getD n.toNat er0
def hts (es:List Er):List Int->Int->Int->Option Int
 |[],_,_=>none
 |r::rs,k,t=>if (b9 es r).has t then some k else hts es rs (k+1) t
def bj (es:List Er) (rs:List Int) (t:Int):Option Int:=hts es rs 0 t
def placeOf (rs:List Int) (n:Int):Nat:=rs.findIdx (·==n)
def iy (es:List Er) (rs:List Int) (pl:Int) (acc:Int) (p:Int×Option Int):Int:=match p.2 with
 |some t=>(match bj es rs t with
  |some h=>if h<=pl then max acc (p.1-1) else acc
  |none=>acc)
 |none=>acc
def cw (es:List Er) (rs:List Int) (n:Int):Int:=(((rs.drop (placeOf rs n+1)).map λm=>(b9 es m).parts).flatten).foldl (iy es rs (placeOf rs n)) 0
theorem oH {n:Int} (h0:0<=n) (h1:n<es.length):es[n.toNat]?=some (b9 es n):=by unfold b9;rw[LJ,L0 (by omega)];rfl
theorem e9 {n:Int} (a:0<=n) (h1:n<es.length):b9 es n∈es:=M1 (oH a h1)
theorem kT {n:Int} (a:0<=n) (h1:n<es.length):atI (es.map Er.d) n=some (b9 es n).d:=by rw[mn (j:=n.toNat) (by omega),LG,oH a h1];rfl
theorem Ha (p:Int×Option Int):dIx (aN p) (.int 0)=some (.int p.1):=rfl
theorem Dh (p:Int×Option Int):dIx (aN p) (.int 1)=some (bz p.2):=rfl
theorem zW (e:Er):dIx e.d (.int 3)=some (.tuple (e.parts.map aN)):=rfl
theorem pD {n:Int} (h:n∈rs):placeOf rs n<rs.length:=List.findIdx_lt_length_of_exists ⟨n,h,by simp⟩
theorem vF:∀{l m:List Int},l.Nodup->(∀x∈l,x∈m)->l.length<=m.length
 |[],m,_,_=>Me _
 |x::r,m,hn,hs=>by
  rw[M3]at hn;have a:=hs x L6;have:=vF (l:=r) (m:=m.erase x) hn.2 λy b=>by rw[List.mem_erase_of_ne (by rintro rfl;exact hn.1 b)];exact hs y (L3 _ b)
  rw[List.length_erase_of_mem a]at this;have hp:=List.length_pos_of_mem a;rw[LI];omega
theorem dQ.mem {k:Nat} (h:dQ k rs) {n:Int} (c:0<=n) (h1:n<k):n∈rs:=by
 have base:∀x:Int,0<=x->x<k->x∈(List.range k).map λ(i:Nat)=>(i:Int):=λx a b=>LA.mpr ⟨x.toNat,Mx.mpr (by omega),by omega⟩
 by_cases z:n∈rs
 ·exact z
 ·exfalso;have:=vF (l:=n::rs) (m:=(List.range k).map λ(i:Nat)=>(i:Int)) (M3.mpr ⟨z,h.nd⟩) λx e=>by
   rcases L7.mp e with q|q
   ·rw[q];exact base n c h1
   ·have:=h.rng x q;exact base x this.1 this.2
  have hl:=h.len;simp at this;omega
theorem sg (ns:List Int):(ns.map PyData.int).all fO=true:=by rw[LD];intro d hd;obtain⟨n,_,rfl⟩:=LA.mp hd;rfl
theorem k6 (n:Int):∀rs:List Int,n∈rs->(((rs.map PyData.int).map toV).findIdx? λz=>eqV z (.int n))=some (placeOf rs n)
 |[],h=>by cases h
 |r::rs,h=>by
  have b:eqV (.int r) (.int n)=(r==n):=rfl;rw[L4,L4,List.findIdx?_cons];unfold placeOf;rw[List.findIdx_cons];show (if eqV (.int r) (.int n)=true then some 0 else _)=_;rw[b];cases hr:r==n with
  |true=>rfl
  |false =>
   have a:r≠n:=by simpa using hr
   have:=k6 n rs ((L7.mp h).resolve_left λq=>a q.symm);rw[if_neg LK,this];rfl
theorem nz {n:Int} (h:n∈rs):me (rs.map .int) (.int n)=some (.int (placeOf rs n)):=by unfold me;rw[sg,show fO (.int n)=true from rfl];simp only[Bool.and_self,if_true];rw[show toV (.int n)=.int n from rfl,k6 n rs h];rfl
@[simp]theorem BA (go ga:Ds->Rs PyData) (δ:Ds):uy go ga δ=(go δ).bind λd=>match d with|.tuple xs=>(ga δ).bind λy=>Rs.eO (me xs y)|_=>.no:=rfl
theorem vB {k:Nat}:cutD xs (some (k:Int)) none=xs.drop k:=by
 unfold cutD;have e1:HT.sIx xs.length 0 (some (k:Int))=min k xs.length:=HT.nO _ _ _;have e2:HT.sIx xs.length xs.length none=xs.length:=rfl;rw[e1,e2];by_cases h:k<=xs.length
 ·rw[Nat.min_eq_left h];exact List.take_of_length_le (by simp)
 ·rw[Nat.min_eq_right (by omega),MB (L9 _),MB (by omega)];simp
theorem GH {k:Nat}:cutD xs none (some (k:Int))=xs.take k:=by unfold cutD;have e1:HT.sIx xs.length 0 none=0:=rfl;have e2:HT.sIx xs.length xs.length (some (k:Int))=min k xs.length:=HT.nO _ _ _;rw[e1,e2];simp
theorem oy (es:List Er) (t:Int):∀(rs:List Int) (k:Int) (m:Int),m∈rs->(b9 es m).has t=true->∃h,hts es rs k t=some h
 |[],_,_,h,_=>by cases h
 |r::rs,k,m,h,ht=>by
  unfold hts;by_cases z:(b9 es r).has t=true
  ·exact⟨k,by rw[if_pos z]⟩
  ·rw[if_neg z];rcases L7.mp h with q|q
   ·subst q;exact absurd ht z
   ·exact oy es t rs (k+1) m q ht
theorem yc {t:Int} (a:0<=t) (h3:t<=3):atI ((List.range 4).map λ(t:Nat)=>bz (bj es rs t)) t=some (bz (bj es rs t)):=by rw[mn (j:=t.toNat) (by omega),LG,N3 (by omega)];simp only[MD];rw[MN a]
theorem HW {e:Er} {p:Int×Option Int} {t:Int} (a:p∈e.parts) (h:p.2=some t):e.has t=true:=ML.mpr ⟨p,a,by simp[h]⟩
theorem B9 (h1:-(2 ^ 64)<b) (h2:b<2 ^ 64):eX (.int a) (.int b)=some (.int (a*b)):=by show (if _ then _ else _)=_;rw[if_pos (.inr ⟨h1,h2⟩)]
theorem tP (h1:-(2 ^ 64)<a) (h2:a<2 ^ 64):eX (.int a) (.int b)=some (.int (a*b)):=by show (if _ then _ else _)=_;rw[if_pos (.inl ⟨h1,h2⟩)]
def eY:PyData->Option (List Int)
 |.dict [(.none,.list l)]=>gX l
 |_=>none
theorem ft (ns:List Int):eY (aj ns)=some ns:=fu ns
def ak:Gf
 |[s,.int k,.int many]=>(match eY s with
  |some ns=>if 0<=k/\0<many then .ok (.int (mixed ns k many)) else .no
  |none=>.no)
 |_=>.no
theorem cA {k:Int} (h1:0<=k) (h2:0<many):ak [aj ns,.int k,.int many]=.ok (.int (mixed ns k many)):=by unfold ak;simp[ft,h1,h2]
theorem jn (O:List Nat) (i:Nat) (g:Ds->Rs PyData) (δ:Ds):aT O i g δ=if i<δ.length then ofR (g (mask O δ)) λd=>.nx (δ.set i (some d)) else .no:=rfl
def bW:Gf
 |[s,.int a,.int top,.bool tools]=>(match eY s with
  |some ns=>if 0<=a/\0<top/\top<=58 then .ok (mkE ns a top tools).d else .no
  |none=>.no)
 |_=>.no
theorem iG {top:Int} {b:Bool} (h1:0<=a) (h2:0<top) (c:top<=58):bW [aj ns,.int a,.int top,.bool b]=.ok (mkE ns a top b).d:=by unfold bW;simp[ft,h1,h2,c]
theorem AW (o:Option Int):ee (bz o)=true:=by cases o <;> (unfold bz ee;rfl)
theorem xv (p:Int×Option Int):ee (aN p)=true:=by unfold aN ee jN;rw[show ee (.int p.1)=true by unfold ee;rfl];unfold jN;rw[AW];unfold jN;rfl
theorem Cj {i:Int} (h0:0<=i) (h1:i<5):atI [PyData.int 0,PyData.int 1,PyData.int 1,PyData.int 0,PyData.none] i=some (bz (kl i)):=by
 have:i=0\/i=1\/i=2\/i=3\/i=4:=by omega
 rcases this with rfl|rfl|rfl|rfl|rfl <;> rfl
theorem uU (ns:List Int) (a top:Int) (b:Bool) (e la f:PyData) (ha:0<=a) (L:List PyData) (hL:L.length<1000) (i:Nat) (x8 g:Option PyData) :
   aE (aT [7] 9 (aq ak (ae (af 0) (ae (g2 aX (g2 aX (af 1) (gC (.int 4))) (af 8)) (ae (gC (.int 40)) ah)))))
   (aE (gK [7] 7 (eP (ae (g2 aX (gC (.int 1)) (g2 ej (af 9) (gC (.int 4)))) (ae (g2 dIx (kh (ae (gC (.int 0)) (ae (gC (.int 1)) (ae (gC (.int 1)) (ae (gC (.int 0)) (ae (gC .none) ah)))))) (g2 ej (g2 i0 (af 9) (gC (.int 4))) (gC (.int 5)))) ah))))
   (sIf (fI (gT (af 3))) (oF 7 (g1 lp (gC (.int 1))) (eP (ae (g2 dIx (g2 dIx (af 7) (g1 lp (gC (.int 1)))) (gC (.int 0))) (ae (gC .none) ah)))) aY))
     [some (aj ns),some (.int a),some (.int top),some (.bool b),some e,some la,some f,some (.list L),some (.int (0+(i:Int))),g]
  =.nx [some (aj ns),some (.int a),some (.int top),some (.bool b),some e,some la,some f,some (.list (L++[aN (eG ns (a+4+(i:Int)) b)])),some (.int (0+(i:Int))),some (.int (mixed ns (a+4+(0+(i:Int))) 40))]:=by
 have hm:=cA (ns:=ns) (k:=a+4+(0+(i:Int))) (many:=40) (by omega) (by decide);have m0:=cF ns (a+4+(0+(i:Int))) (many:=40) (by decide);have m1:=c9 ns (a+4+(0+(i:Int))) (many:=40) (by decide);have j:a+4+(0+(i:Int))=a+4+(i:Int):=by omega
 generalize hc:mixed ns (a+4+(0+(i:Int))) 40=c at *;have l:0<=c / 4 % 5:=Mt _ (by decide);have m:c / 4 % 5<5:=MC _ (by decide);have n:=Cj l m;have h:eG ns (a+4+(i:Int)) b=(1+c % 4,if b then kl (c / 4 % 5) else none):=by unfold eG;rw[<-j,hc]
 have o:aT [7] 9 (aq ak (ae (af 0) (ae (g2 aX (g2 aX (af 1) (gC (.int 4))) (af 8)) (ae (gC (.int 40)) ah)))) [some (aj ns),some (.int a),some (.int top),some (.bool b),some e,some la,some f,some (.list L),some (.int (0+(i:Int))),g]
    =.nx [some (aj ns),some (.int a),some (.int top),some (.bool b),some e,some la,some f,some (.list L),some (.int (0+(i:Int))),some (.int c)]:=by
   rw[jn,if_pos (by simp)];simp only[bB,aA,aH,bK,aS (show 0∉[7] by decide),aS (show 1∉[7] by decide),aS (show 8∉[7] by decide),ao,au,cy,Rs.ag,eC,Rs.ai,hm,az];rfl
 have s2:gK [7] 7 (eP (ae (g2 aX (gC (.int 1)) (g2 ej (af 9) (gC (.int 4)))) (ae (g2 dIx (kh (ae (gC (.int 0)) (ae (gC (.int 1)) (ae (gC (.int 1)) (ae (gC (.int 0)) (ae (gC .none) ah)))))) (g2 ej (g2 i0 (af 9) (gC (.int 4))) (gC (.int 5)))) ah)))
     [some (aj ns),some (.int a),some (.int top),some (.bool b),some e,some la,some f,some (.list L),some (.int (0+(i:Int))),some (.int c)]
    =.nx [some (aj ns),some (.int a),some (.int top),some (.bool b),some e,some la,some f,some (.list (L++[aN (1+c % 4,kl (c / 4 % 5))])),some (.int (0+(i:Int))),some (.int c)]:=by
   unfold gK;simp only[Mv,Mw];simp only[jO,xf,aA,aH,bK,aS (show 9∉[7] by decide),ao,au,cy,Rs.ag,eC,Rs.ai,rH,yo,if_pos (show (0:Int)<4 by decide),if_pos (show (0:Int)<5 by decide),if_pos (show (0:Int)<4/\(4:Int)<1073741824 by decide),A9,n,az,if_pos (show L.length<1000000 by omega)];rfl
 rw[aQ,o];simp only;rw[aQ,s2];simp only;cases b with
 |true =>rw[h];simp
 |false =>
   rw[h];have hl:atI (L++[aN (1+c % 4,kl (c / 4 % 5))]) (-1)=some (aN (1+c % 4,kl (c / 4 % 5))):=by rw[jZ];simp
   have p:ixN (L++[aN (1+c % 4,kl (c / 4 % 5))]).length (-1)=some L.length:=by unfold ixN;rw[if_neg (by decide),LB,M7,if_pos (by omega)];congr 1;omega
   have q:(L++[aN (1+c % 4,kl (c / 4 % 5))]).set L.length (.tuple [.int (1+c % 4),.none])=L++[aN (1+c % 4,none)]:=by rw[Ni _ _ (L9 _)];simp;rfl
   have r:ee (.tuple [.int (1+c % 4),.none])=true:=xv (1+c % 4,none);rw[cG];simp only[ph,dH,ao,au,Rs.ag,br,az,Bool.not_false,if_true];unfold oF;simp only[Mv,Mw,jO,aA,aH,bK,gQ,ao,au,cy,Rs.ag,Gy,Rs.ai,A9,hl,Ha,az,p,r,if_true,q];rfl
theorem jV {j:Int} (h0:0<=j) (h1:j<1000000):F3 [.int j]=.ok (bA 0 j.toNat):=by show (if _ then _ else _)=_;rw[if_pos (by omega)]
theorem fz {lo:Int} {d:PyData} (h:(bA lo n)[i]?=some d):i<n/\d=.int (lo+(i:Int)):=by have hi:=(LM.mp h).1;rw[cO]at hi;unfold bA at h;rw[LG,N3 hi]at h;exact⟨hi,(Option.some.inj h).symm⟩
theorem pf (n:Nat) (g:Nat->α):(List.range (n+1)).map g=(List.range n).map g++[g n]:=by rw[List.range_succ,M5];rfl
theorem CW {f:PyData->Int->Int->Bool->Rs PyData} (h:(match ds with|[a,.int x1,.int x2,.bool x3]=>f a x1 x2 x3|_=>.no)≠.no):∃a x1 x2 x3,ds=[a,.int x1,.int x2,.bool x3]/\f a x1 x2 x3≠.no:=by
 rcases ds with _|⟨a,_|⟨x1,_|⟨x2,_|⟨x3,_|⟨y,ys⟩⟩⟩⟩⟩
 ·exact absurd rfl h
 ·exact absurd rfl h
 ·first|exact absurd rfl h|(cases x1 <;> exact absurd rfl h)
 ·first|exact absurd rfl h|(cases x1 <;> first|exact absurd rfl h|(cases x2 <;> exact absurd rfl h))
 ·skip
  cases x1 with
  |int x1 =>
   cases x2 with
   |int x2 =>
    cases x3 with
    |bool x3 =>exact⟨_,_,_,_,rfl,h⟩
    |_=>exact absurd rfl h
   |_=>first|exact absurd rfl h|(cases x3 <;> exact absurd rfl h)
  |_=>first|exact absurd rfl h|(cases x2 <;> first|exact absurd rfl h|(cases x3 <;> exact absurd rfl h))
 ·first|exact absurd rfl h|(cases x1 <;> first|exact absurd rfl h|(cases x2 <;> first|exact absurd rfl h|(cases x3 <;> exact absurd rfl h)))
theorem tO (cs:Cs):LLq (gr cs ak) 4 6 bW:=by
 intro ds hl c;obtain⟨s,a,top,b,q,p⟩:=CW c;clear c;subst q;have c:=p;clear p
 ·skip
  split at c
  ·rename_i ns h;have es:s=aj ns:=by
    unfold eY at h;split at h
    ·rename_i l;rw[eI h];rfl
    ·cases h
   subst es;split at c
   ·rename_i hc;obtain⟨ha,j,m⟩:=hc;rw[iG ha j m];show bh (gr cs ak [some (aj ns),some (.int a),some (.int top),some (.bool b),none,none,none,none,none,none])=_;have hm:∀k many:Int,0<=k->0<many->ak [aj ns,.int k,.int many]=.ok (.int (mixed ns k many)):=λk many h1 h2=>cA h1 h2
    have a1:=cF ns a j;have lb:=vA ns a (3+mixed ns a top) (by omega);have b1:=cF ns (a+1) (many:=4) (by decide);have b2:=c9 ns (a+1) (many:=4) (by decide);have n1:=cF ns (a+3) (many:=3) (by decide);have n2:=c9 ns (a+3) (many:=3) (by decide);have c1:=cF ns (a+6) (many:=3) (by decide);have c2:=c9 ns (a+6) (many:=3) (by decide)
    -- every
    have r:aT [7] 4 (g2 aX (gC (.int 3)) (aq ak (ae (af 0) (ae (af 1) (ae (af 2) ah))))) [some (aj ns),some (.int a),some (.int top),some (.bool b),none,none,none,none,none,none]
      =.nx [some (aj ns),some (.int a),some (.int top),some (.bool b),some (.int (3+mixed ns a top)),none,none,none,none,none]:=by
     rw[jn,if_pos (by simp)];simp only[bB,aA,aH,bK,aS (show 0∉[7] by decide),aS (show 1∉[7] by decide),aS (show 2∉[7] by decide),ao,au,cy,Rs.ag,hm a top ha j,eC,Rs.ai,az];rfl
    generalize hev:3+mixed ns a top=ev at *;have evp:3<=ev:=by omega
    have s2:aT [7] 5 (g2 eX (aq ak (ae (af 0) (ae (g2 aX (af 1) (gC (.int 1))) (ae (gC (.int 4)) ah)))) (gF AA (ae (g2 dEq (aq ak (ae (af 0) (ae (g2 aX (af 1) (gC (.int 2))) (ae (gC (.int 3)) ah)))) (gC (.int 0))) ah))) [some (aj ns),some (.int a),some (.int top),some (.bool b),some (.int ev),none,none,none,none,none]
      =.nx [some (aj ns),some (.int a),some (.int top),some (.bool b),some (.int ev),some (.int (mixed ns (a+1) 4*(if mixed ns (a+2) 3=0 then 1 else 0))),none,none,none,none]:=by
     rw[jn,if_pos (by simp)];simp only[bB,aA,aH,bK,fV,aS (show 0∉[7] by decide),aS (show 1∉[7] by decide),ao,au,cy,Rs.ag,eC,Rs.ai,hm (a+1) 4 (by omega) (by decide),hm (a+2) 3 (by omega) (by decide),jE,IG];rw[tP (by omega) (by omega)];simp only[Rs.ai,az,beq_iff_eq];rfl
    have t:aT [7] 5 (gF kj (ae (af 5) (ae (g2 gx (af 4) (gC (.int 1))) ah))) [some (aj ns),some (.int a),some (.int top),some (.bool b),some (.int ev),some (.int (mixed ns (a+1) 4*(if mixed ns (a+2) 3=0 then 1 else 0))),none,none,none,none]
      =.nx [some (aj ns),some (.int a),some (.int top),some (.bool b),some (.int ev),some (.int (ib ns a ev)),none,none,none,none]:=by
     rw[jn,if_pos (by simp)];simp only[fV,aA,aH,bK,aS (show 4∉[7] by decide),aS (show 5∉[7] by decide),ao,au,cy,Rs.ag,qt,Rs.ai,xl,az];rfl
    generalize hla:ib ns a ev=la at *;have u:aT [7] 6 (g2 gx (af 4) (af 5)) [some (aj ns),some (.int a),some (.int top),some (.bool b),some (.int ev),some (.int la),none,none,none,none]
      =.nx [some (aj ns),some (.int a),some (.int top),some (.bool b),some (.int ev),some (.int la),some (.int (ev-la)),none,none,none]:=by
     rw[jn,if_pos (by simp)];simp only[bK,aS (show 4∉[7] by decide),aS (show 5∉[7] by decide),ao,au,Rs.ag,qt,Rs.ai,az];rfl
    have v:sIf (gT (g2 dEq (aq ak (ae (af 0) (ae (g2 aX (af 1) (gC (.int 1))) (ae (gC (.int 3)) ah)))) (gC (.int 0)))) (aT [7] 6 (g2 gx (af 6) (aq ak (ae (af 0) (ae (g2 aX (af 1) (gC (.int 2))) (ae (af 6) ah)))))) aY
        [some (aj ns),some (.int a),some (.int top),some (.bool b),some (.int ev),some (.int la),some (.int (ev-la)),none,none,none]
      =.nx [some (aj ns),some (.int a),some (.int top),some (.bool b),some (.int ev),some (.int la),some (.int (nk ns a (ev-la))),none,none,none]:=by
     rw[cG];simp only[dH,bK,bB,aA,aH,ao,au,cy,Rs.ag,eC,Rs.ai,hm (a+1) 3 (by omega) (by decide),jE,br,az];by_cases z:mixed ns (a+1) 3=0
     · rw[if_pos (by simp[z]),jn,if_pos (by simp)];simp only[bB,aA,aH,bK,aS (show 0∉[7] by decide),aS (show 1∉[7] by decide),aS (show 6∉[7] by decide),ao,au,cy,Rs.ag,eC,Rs.ai,hm (a+2) (ev-la) (by omega) (by omega),qt,az];unfold nk;rw[if_pos z];rfl
     · rw[if_neg (by simp[z])];unfold nk;rw[if_neg z];rfl
    generalize hdu:nk ns a (ev-la)=du at *;have w:fc [7] 7 ah [some (aj ns),some (.int a),some (.int top),some (.bool b),some (.int ev),some (.int la),some (.int du),none,none,none]
      =.nx [some (aj ns),some (.int a),some (.int top),some (.bool b),some (.int ev),some (.int la),some (.int du),some (.list []),none,none]:=rfl
    have src:fM (ae (aq ak (ae (af 0) (ae (g2 aX (af 1) (gC (.int 3))) (ae (gC (.int 3)) ah)))) ah) (mask [7] [some (aj ns),some (.int a),some (.int top),some (.bool b),some (.int ev),some (.int la),some (.int du),some (.list []),none,none])=.ok (bA 0 (mixed ns (a+3) 3).toNat):=by simp only[lG,bB,aA,aH,bK,aS (show 0∉[7] by decide),aS (show 1∉[7] by decide),ao,au,cy,Rs.ag,eC,Rs.ai,hm (a+3) 3 (by omega) (by decide)];exact jV n1 (by omega)
    obtain⟨δ',e,x8,f,n⟩:=kD (β:=Unit) (tgt:=bE 8) (body:=aE (aT [7] 9 (aq ak (ae (af 0) (ae (g2 aX (g2 aX (af 1) (gC (.int 4))) (af 8)) (ae (gC (.int 40)) ah)))))
  (aE (gK [7] 7 (eP (ae (g2 aX (gC (.int 1)) (g2 ej (af 9) (gC (.int 4)))) (ae (g2 dIx (kh (ae (gC (.int 0)) (ae (gC (.int 1)) (ae (gC (.int 1)) (ae (gC (.int 0)) (ae (gC .none) ah)))))) (g2 ej (g2 i0 (af 9) (gC (.int 4))) (gC (.int 5)))) ah))))
  (sIf (fI (gT (af 3))) (oF 7 (g1 lp (gC (.int 1))) (eP (ae (g2 dIx (g2 dIx (af 7) (g1 lp (gC (.int 1)))) (gC (.int 0))) (ae (gC .none) ah)))) aY)))
     (λi δ=>∃x8 f,δ=[some (aj ns),some (.int a),some (.int top),some (.bool b),some (.int ev),some (.int la),some (.int du),some (.list ((List.range i).map λ(k:Nat)=>aN (eG ns (a+4+(k:Int)) b))),x8,f])
     (bA 0 (mixed ns (a+3) 3).toNat) 0 (λi d δ hi o=>by obtain⟨x8,f,x⟩:=o;subst x;rw[M8]at *;obtain⟨hil,rfl⟩:=fz hi;refine⟨[some (aj ns),some (.int a),some (.int top),some (.bool b),some (.int ev),some (.int la),some (.int du),some (.list ((List.range i).map λ(k:Nat)=>aN (eG ns (a+4+(k:Int)) b))),some (.int (0+(i:Int))),f],_,rfl,uU ns a top b (.int ev) (.int la) (.int du) ha _ (by simp;omega) i none f,some (.int (0+(i:Int))),some (.int (mixed ns (a+4+(0+(i:Int))) 40)),?_⟩;rw[pf]) [some (aj ns),some (.int a),some (.int top),some (.bool b),some (.int ev),some (.int la),some (.int du),some (.list []),none,none] ⟨none,none,rfl⟩
    subst n;rw[M8,cO]at e;have hd:(mkE ns a top b).d=.tuple [.int ev,.int du,.int la,.tuple (((List.range (mixed ns (a+3) 3).toNat).map λ(k:Nat)=>aN (eG ns (a+4+(k:Int)) b))++[aN (1+mixed ns (a+6) 3,none)])]:=by simp only[mkE,Er.d,M5,LQ,hev,hla,hdu];rfl
    rw[hd];simp only[gr];rw[aQ,r];simp only;rw[aQ,s2];simp only;rw[aQ,t];simp only;rw[aQ,u];simp only;rw[aQ,v];simp only;rw[aQ,w];simp only;rw[aQ,kE,src,az,e];simp only;simp only[bU,jO,xf,aA,aH,bK,fV,bB,ao,au,cy,Rs.ag,eC,Rs.ai,hm (a+6) 3 (by omega) (by decide)];have g:aX (.list ((List.range (mixed ns (a+3) 3).toNat).map λ(k:Nat)=>aN (eG ns (a+4+(k:Int)) b))) (.list [.tuple [.int (1+mixed ns (a+6) 3),.none]])=some (.list (((List.range (mixed ns (a+3) 3).toNat).map λ(k:Nat)=>aN (eG ns (a+4+(k:Int)) b))++[aN (1+mixed ns (a+6) 3,none)])):=by show (if _ then _ else _)=_;rw[if_pos (by simp;omega)];rfl
    rw[g];simp
   ·exact absurd rfl c
  ·exact absurd rfl c
def bx:Gf
 |[s,.int a,.int most,.int top,.bool tools]=>(match eY s with
  |some ns=>if 0<=a/\0<most/\most<=6/\0<top/\top<=58 then .ok (ax (nJ ns a most top tools)) else .no
  |none=>.no)
 |_=>.no
theorem g0 {most top:Int} {b:Bool} (h1:0<=a) (h2:0<most) (c:most<=6) (e:0<top) (f:top<=58):bx [aj ns,.int a,.int most,.int top,.bool b]=.ok (ax (nJ ns a most top b)):=by unfold bx;simp[ft,h1,h2,c,e,f]
theorem hU {s:PyData} (a:eY s=some ns):s=aj ns:=by
 unfold eY at a;split at a
 ·rename_i l;rw[eI a];rfl
 ·cases a
theorem Ak {f:PyData->Int->Int->Int->Bool->Rs PyData} (h:(match ds with|[a,.int x1,.int x2,.int x3,.bool x4]=>f a x1 x2 x3 x4|_=>.no)≠.no):∃a x1 x2 x3 x4,ds=[a,.int x1,.int x2,.int x3,.bool x4]/\f a x1 x2 x3 x4≠.no:=by
 rcases ds with _|⟨a,_|⟨x1,_|⟨x2,_|⟨x3,_|⟨x4,_|⟨y,ys⟩⟩⟩⟩⟩⟩
 ·exact absurd rfl h
 ·exact absurd rfl h
 ·first|exact absurd rfl h|(cases x1 <;> exact absurd rfl h)
 ·first|exact absurd rfl h|(cases x1 <;> first|exact absurd rfl h|(cases x2 <;> exact absurd rfl h))
 ·first|exact absurd rfl h|(cases x1 <;> first|exact absurd rfl h|(cases x2 <;> first|exact absurd rfl h|(cases x3 <;> exact absurd rfl h)))
 ·skip
  cases x1 with
  |int x1 =>
   cases x2 with
   |int x2 =>
    cases x3 with
    |int x3 =>
     cases x4 with
     |bool x4 =>exact⟨_,_,_,_,_,rfl,h⟩
     |_=>exact absurd rfl h
    |_=>first|exact absurd rfl h|(cases x4 <;> exact absurd rfl h)
   |_=>first|exact absurd rfl h|(cases x3 <;> first|exact absurd rfl h|(cases x4 <;> exact absurd rfl h))
  |_=>first|exact absurd rfl h|(cases x2 <;> first|exact absurd rfl h|(cases x3 <;> first|exact absurd rfl h|(cases x4 <;> exact absurd rfl h)))
 ·first|exact absurd rfl h|(cases x1 <;> first|exact absurd rfl h|(cases x2 <;> first|exact absurd rfl h|(cases x3 <;> first|exact absurd rfl h|(cases x4 <;> exact absurd rfl h))))
theorem qQ (cs:Cs):LLq (fF cs bW ak) 5 1 bx:=by
 intro ds hl c;obtain⟨s,a,most,top,b,n,l⟩:=Ak c;clear c;subst n;have c:=l;clear l
 ·skip
  split at c
  ·rename_i ns o;have es:=hU o;subst es;split at c
   ·rename_i hc;obtain⟨ha,e,g,m,f⟩:=hc;rw[g0 ha e g m f];have hm:=cA (ns:=ns) ha e;have m1:=cF ns a e;have m2:=c9 ns a e;have h:a9 6 (fM (ae (af 5) ah)) bS (aq bW (ae (af 0) (ae (g2 aX (g2 aX (af 1) (gC (.int 1))) (g2 eX (gC (.int 7)) (af 6))) (ae (af 3) (ae (af 4) ah))))) aO
      [some (aj ns),some (.int a),some (.int most),some (.int top),some (.bool b),some (.int (1+mixed ns a most))]=.ok ((bA 0 (1+mixed ns a most).toNat).map λd=>(mkE ns (a+1+7*deI d) top b).d) :=
     cT rfl (by simp only[lG,aA,aH,ao,au,Rs.ag];exact jV (by omega) (by omega)) (by rw[cO];omega) λd hd=>by obtain⟨i,hi⟩:=List.getElem?_of_mem hd;obtain⟨_,rfl⟩:=fz hi;simp only[M6,M4,bB,aA,aH,bK,ao,au,cy,Rs.ag,eC,Rs.ai];rw[tP (by decide) (by decide)];simp only[Rs.ai,Rs.ag,eC];exact iG (by omega) m f
    have j:ax (nJ ns a most top b)=.tuple ((bA 0 (1+mixed ns a most).toNat).map λd=>(mkE ns (a+1+7*deI d) top b).d):=by
     unfold ax nJ bA;rw[LQ,LQ];congr 1;refine LN λk _=>?_
     simp[deI]
    rw[j];show bh (fF cs bW ak [some (aj ns),some (.int a),some (.int most),some (.int top),some (.bool b),none])=_;simp only[fF,aQ,iT,LI,Mm,Nat.reduceAdd,Nat.reduceLT,if_true,bB,aA,aH,bK,ao,au,cy,Rs.ag,hm,eC,Rs.ai,az,Na,Nb,bU,fV,nH,h,Bv,bc]
   ·exact absurd rfl c
  ·exact absurd rfl c
end RS
namespace RS
open PySem PySem.Spec PyProof.Rows L2
section
theorem yJ {k:Nat} {G:Ds->Sr} (F:Fun K x qual st f fd) (S:cR N ps (aB st)) (c:∀i∈O,ps.length<=i)
  (body:∀(cdv:Value) (A:Around) (outer:List Env) (s:Shared) (H:Hp) (E:XK),bY k (A.deeper (envOfC qual (aB st) s.heap.objs.size f cdv))->PBD (cU (CXW P w) P w K mg base N qual (aB st) f cdv A outer s H E) E O (b0 st) G)
  (e:∀ds,ds.length=ps.length->gf ds≠.no->bh (G (ds.map some++List.replicate (N.length-ps.length) none))=gf ds):gj P w K mg base (CXW P w) (k+1) f fd ps (spD K ps.length gf):=by
 refine kW F S (λvs H Q E h=>?_) (λcdv A outer s H vs Q E g h=>?_)
 ·obtain⟨A,ds,b,hi,hl,o⟩:=h;rw[hi.length,hl]
 ·obtain⟨A0,ds,b,hi,hl,o⟩:=h;refine⟨_,body cdv A outer s H E g,H,A0,[],_,bN.start b hi hl c,?_⟩;have a:=e ds hl (λz=>by rw[z]at o;exact o);cases q:G (ds.map some++List.replicate (N.length-ps.length) none) with
  |rt d=>rw[q]at a;rw[<-a]at o;exact λv H' s' hv=>o v H' s' hv
  |nx δ=>rw[q]at a;rw[<-a]at o;exact λA' σ H' j=>o .non H' j.same is_none
  |rz C=>rw[q]at a;rw[<-a]at o;exact λH' s'=>o H' s'
  |bk δ=>rw[q]at a;rw[<-a]at o;exact o.elim
  |ct δ=>rw[q]at a;rw[<-a]at o;exact o.elim
  |no=>rw[q]at a;rw[<-a]at o;exact o.elim
theorem Ca {b:Array (Option Value)} {kV e:Value} (X:K.In h) (G:h.Ns mainGlobals mg)
  (g:∀(kV doc pm:Value) (an:Option Addr) (cdv ct:Value) (us:List Value),us.length=ps.length->bindArgs (PySem.W.fnOf x x (ff st) (b0 st) (aB st) .none kV doc pm an cdv ct) ⟨us,[]⟩=pure (ps.zip us))
  (a:PySem.W.nsIn K mainGlobals x=some (some (.ref f)))
  (l:K.lookup f=some ⟨oc,od,.func (PySem.W.fnOf x x (ff st) (b0 st) (aB st) .none kV e pm an cd ct),b⟩)
  (c:PySem.W.codeIn K cd x=true) (k:PySem.W.keepIn K (.ref f)=true):bP K mg x st ps :=
 have F:=xD (st:=st) l c k
 ⟨f,_,F,F.binds g,PySem.W.mg_of X G a⟩
theorem yp (X:K.In h) (G:h.Ns mainGlobals mg) (a:PySem.W.nsIn K mainGlobals x=some (some (.ref C)))
 (e:PySem.W.excIn K C [.type "ValueError",.type "Exception",.type "BaseException",.type "object"] "ValueError.__new__"=true):qL K mg x C:=⟨PySem.W.mg_of X G a,e⟩
theorem Eo {n:Int} {t:_} (X:K.In h) (G:h.Ns mainGlobals mg) (a:PySem.W.nsIn K mainGlobals x=some (some (.int n t))):∃t,mg x=some (.int n t):=⟨t,PySem.W.mg_of X G a⟩
end
def fG (n:Nat):Gf
 |[s]=>(match eY s with
  |some ns=>if ns.length<=n then .ok (.bool true) else .no
  |none=>.no)
 |_=>.no
theorem JW {l:PySem.W.OpenLaw} {k:Nat} {d:DefRec} {K:Params->PySem.W.Frag}
  (hn:l.most=some n) (i:n<=sizeLine) (j:d.params.defaults=[]) (y:bY k callerA)
  (A:∀(w:World) (h:Heap),YP w h->(K w.params).In h)
  (B:∀(kV doc pm:Value) (an:Option Addr) (cdv ct:Value) (us:List Value),us.length=1->bindArgs (PySem.W.fnOf d.name d.name (ff st) (b0 st) (aB st) .none kV doc pm an cdv ct) ⟨us,[]⟩=pure ([x].zip us))
  (F:∀(w:World) (mg:Str->Option Value) (h:Heap),(K w.params).In h->h.Ns mainGlobals mg->
   bP (K w.params) mg d.name st [x]/\∀f fd,Fun (K w.params) d.name d.name st f fd->∀base:Heap,(K w.params).In base->base.Ns mainGlobals mg->L2.mT mg base->gj l.prog w (K w.params) mg base (CXW l.prog w) k f fd [x] (spD (K w.params) 1 (fG n)))
  (o:∀(w:World) (h:Heap) (c:List Str) (g:ExcName->Option Value) (mg C:Str->Option Value),PyProof.Rows.Top q c g mg C h->(K w.params).In h->L2.mO (K w.params) h:=by exact λ_ _ _ _ _ _ _ _=>L2.tabsIn_nil rfl) :
  PySem.W.WalkO q loose XP YP l.row.toRowW d [] (λf vs=>PySem.call f vs) :=
 L2.yf (n:=n) (k:=k) (x:=x) (CX:=λw=>CXW l.prog w) (sp:=λw=>spD (K w.params) 1 (fG n)) hn i j y A
  (λw mg D h X G p=>by obtain⟨⟨f,fd,t,b,m⟩,E⟩:=F w mg h X G;have e:=p.symm.trans m;cases e;refine⟨fd,λs u=>?_,E D fd t⟩;obtain⟨oc,od,kV,doc,pm,an,cdv,ct,osl,rfl,lk,hcd⟩:=t.ex;exact .of_eq (B kV doc pm an cdv ct [u] rfl))
  (λw H a ns hl hO I=>by
   refine⟨[],[aj ns],?_,?_,rfl,?_⟩
   ·exact Ls.nil
   ·rw[yi];exact⟨_,[],rfl,AB I,rfl⟩
   ·have J:fG n [aj ns]=.ok (.bool true):=by unfold fG;simp[ft,hl]
    rw[J];intro v H' _ hv;rw[yi]at hv;unfold Is at hv;exact hv)
  (λw H s e s' r=>(by obtain⟨_,_,_,_,_,_,z,_⟩:=r;exact z)) o
end RS
set_option maxHeartbeats 4000000
namespace L2
open PySem PySem.Spec PyProof.Rows
variable {ge:Ds->Rs PyData}
def EO (K:PySem.W.Frag) (x:Str):Prop:=∃f oc od fd a c P o vs,PySem.W.nsIn K mainGlobals x=some (some (.ref f))/\K.lookup f=some ⟨oc,od,.func fd,a⟩/\fd.code=.ref c/\K.lookup c=some o/\o.data=.fields vs/\vs[11]?=some (.ref P)/\PySem.W.codeHdIn K c P=true
section
theorem ia.ofL {k:Nat} {G:Ds->Sr} (F:Fun K x x st f fd) (S:cR N ps (aB st)) (b:Binds K fd ps []) (m:mg x=some (.ref f)) (B:∀i∈O,ps.length<=i)
  (D:x∈kZ) (hm:∀g,PySem.W.nsIn K mainGlobals x=some (some (.ref g))->mg x=some (.ref g)) (I:EO K x) (hB:mT mg base) (hK:K.In base) (J:∀(L:Addr) (cdv:Value),(envOfC x (aB st) L f cdv).qual++"<lambda>"=x++".<locals>.<lambda>")
  (body:∀(cdv:Value) (A:Around) (outer:List Env) (s:Shared) (H:Hp) (E:XK),bY k (A.deeper (envOfC x (aB st) s.heap.objs.size f cdv))->∀c l,Bm (cU (CXW P w) P w K mg base N x (aB st) f cdv A outer s H E) c l->PBD (cU (CXW P w) P w K mg base N x (aB st) f cdv A outer s H E) E O (b0 st) G)
  (M:∀ds,ds.length=ps.length->gf ds≠.no->bh (G (ds.map some++List.replicate (N.length-ps.length) none))=gf ds):ia P w K mg base (k+1) x ps.length gf:=by
 obtain⟨oc,od,kV,doc,pm,an,cdv,ct,osl,rfl,n,p⟩:=F.ex;obtain⟨j,oc',od',fd',sl',c,l,o,vs,t,u,R,T,U,X,Y⟩:=I;have Z:j=f:=by have:=hm j t;rw[m]at this;cases this;rfl
 subst Z;rw[n]at u;have r:cdv=.ref c:=by cases u;exact R
 subst r;obtain⟨bm,ob,b1,b2,b3,b4,b5,b6,b7⟩:=hB;refine⟨j,_,ps,CU n p S (λvs H Q E h=>?_) (λA outer s H vs' Q E hr h=>?_),m,F.kp,b⟩
 ·obtain⟨A,ds,y,hi,hl,o⟩:=h;rw[hi.length,hl]
 ·obtain⟨A0,ds,y,hi,hl,e⟩:=h;refine⟨_,body (.ref c) A outer s H E hr c l ⟨?_,rfl,PySem.W.codeHd_of_K hK Y,bm,ob,b1,b2,b3,b4,b5,b6,b7⟩,H,A0,[],_,bN.start y hi hl B,?_⟩
  ·exact⟨x,D,j,_,_,_,_,c,t,n,rfl,⟨o,vs,T,U,X⟩,J _ _⟩
  ·have a:=M ds hl (λz=>by rw[z]at e;exact e);cases q:G (ds.map some++List.replicate (N.length-ps.length) none) with
   |rt d=>rw[q]at a;rw[<-a]at e;exact λv H' s' hv=>e v H' s' hv
   |nx δ=>rw[q]at a;rw[<-a]at e;exact λA' σ H' R'=>e .non H' R'.same is_none
   |rz C=>rw[q]at a;rw[<-a]at e;exact λH' s'=>e H' s'
   |bk δ=>rw[q]at a;rw[<-a]at e;exact e.elim
   |ct δ=>rw[q]at a;rw[<-a]at e;exact e.elim
   |no=>rw[q]at a;rw[<-a]at e;exact e.elim
end
def fk (cond:Ds->Rs Bool) (elt:Ds->Rs PyData) (tgt:PyData->Option Ds) (δ δ2:Ds):List PyData->Rs (List PyData)
 |[]=>.ok []
 |d::r=>match tgt d with
  |none=>.no
  |some own=>(cond (δ2++own)).calm.bind λb=>if b=true then (elt (δ++own)).calm.bind λx=>(fk cond elt tgt δ δ2 r).bind λxs=>.ok (x::xs) else fk cond elt tgt δ δ2 r
def md (n0:Nat) (src:Ds->Rs (List PyData)) (cond:Ds->Rs Bool) (elt:Ds->Rs PyData) (tgt:PyData->Option Ds):Ds->Ds->Rs (List PyData):=λδ δ2=>if δ.length=n0 then (src δ).bind λds=>if ds.length<=1000000 then fk cond elt tgt δ δ2 ds else .no else .no
theorem F8 {E:XK} {g:TG} {tt:TT} (hT:TgD K n0 own.length tgt g) (htt:∀σ H Q,cD K E0 cond σ H Q->tt σ H Q) {Q:VK} {S:List Addr} {δ2:Ds} (R:dq K H A δ σ) (O:dq K H S δ2 σ) (G:∀a∈S,a∈A) (o:E3 K E A H (md n0 gi cond ge tgt δ δ2) Q) :
  tLC own.length (iD K E gi) g tt (eD K E0 ge) σ H Q:=by
 unfold md at o;by_cases hn0:δ.length=n0
 case neg=>rw[if_neg hn0]at o;exact o.elim
 rw[if_pos hn0]at o;have hσ:σ.length=n0:=by rw[<-R.len];exact hn0
 refine⟨A,δ,R,?_⟩;cases q:gi δ with
 |no=>rw[q]at o;exact o
 |rz C=>rw[q]at o;exact o
 |ok ds =>
  rw[q]at o;have o:E3 K E A H (if ds.length<=1000000 then fk cond ge tgt δ δ2 ds else .no) Q:=o;by_cases hz:ds.length<=1000000
  case neg=>rw[if_neg hz]at o;exact o.elim
  rw[if_pos hz]at o;intro J H1 P hJ D I;have R1:=R.same P;have nD:D∉A:=R1.ls.new I;cases qo:fk cond ge tgt δ δ2 ds with
  |rz C =>
   exfalso;have:∀l,fk cond ge tgt δ δ2 l≠.rz C:=by
    intro l
    induction l with
    |nil=>intro z;cases z
    |cons d r ih =>
     intro z;unfold fk at z;split at z
     ·cases z
     ·rename_i s _;cases c1:cond (δ2++s) with
      |ok b =>
       simp only[c1,Rs.dm,Rs.ag]at z;split at z
       ·cases t:ge (δ++s) with
        |ok x =>
         simp only[t,Rs.dm,Rs.ag]at z;cases w:fk cond ge tgt δ δ2 r with
         |ok l=>simp only[w,Rs.ag]at z;cases z
         |rz C'=>simp only[w,Rs.eF]at z;cases z;exact ih w
         |no=>simp only[w,Rs.bw]at z;cases z
        |rz C'=>simp only[t,Rs.calm,Rs.bw]at z;cases z
        |no=>simp only[t,Rs.calm,Rs.bw]at z;cases z
       ·exact ih z
      |rz C'=>simp only[c1,Rs.calm,Rs.bw]at z;cases z
      |no=>simp only[c1,Rs.calm,Rs.bw]at z;cases z
   exact this ds qo
  |no=>rw[qo]at o;exact o.elim
  |ok out =>
   rw[qo]at o;have base:av (del H1 A) (del (upd H1 D (.lst [])) (D::A)):=λb o e=>by obtain⟨z,e⟩:=aZ e;have nb:b≠D:=aI e I;rw[aL (by simp[nb,z]),ay nb];exact e
   refine⟨λi m ys H'=>m=ds.length-i/\i<=ds.length/\av H1 H'/\H' D=some (.lst ys)/\ys.length<=i/\∃T rest,fk cond ge tgt δ δ2 (ds.drop i)=.ok rest/\out=T++rest/\Iss K (del H' (D::A)) T ys,
    ⟨ds.length,by simp,Me _,bD I,aG,L9 _,[],out,qo,rfl,cK⟩,?_⟩
   rintro i m ys H' ⟨rfl,hi,B,hl,hy,T,rest,c1,t,w⟩
   refine⟨hl,?_⟩;have sG:av (del H1 A) H':=aw.trans B;have U:∀b∈D::A,(del H1 A) b=none:=λb L=>by
    rcases L7.mp L with z|z
    ·rw[z,aL nD];exact I
    ·exact gJ z
   obtain⟨jg,js,jy⟩:=hJ H' (D::A) sG (λb L=>by
    rcases L7.mp L with z|z
    ·exact⟨_,by rw[z];exact hl,rfl⟩
    ·exact (R1.ls.same B) b z) U
   by_cases hlt:i<ds.length
   ·refine .inr ⟨jg i hlt,λx H2 σ' X y=>?_⟩;obtain⟨s2,d,ed,hd⟩:=jy i x H2 hlt y;have edr:ds.drop i=d::ds.drop (i+1):=by
     rw[MG hlt];have:ds[i]=d:=by have:=L0 hlt;rw[this]at ed;exact Option.some.inj ed
     rw[this]
    rw[edr]at c1;unfold fk at c1;cases et:tgt d with
    |none=>rw[et]at c1;cases c1
    |some ow =>
     rw[et]at c1;have l2:H2 D=some (.lst ys):=s2 _ _ hl;have f:Ls H2 (D::A):=λb L=>by
      rcases L7.mp L with z|z
      ·exact⟨_,by rw[z];exact l2,rfl⟩
      ·exact (R1.ls.same (B.trans s2)) b z
     obtain⟨Y,hgo⟩:=hT d x σ σ' H2 (D::A) (λh H2=>tt h H2 λb H3 =>
      if b=true then eD K E0 ge h H3 λv Z=>Z D=some (.lst ys)/\ys.length<sizeLine/\(∃c,h=σ++c/\c.length=own.length)/\∃m',m' < ds.length-i/\_
      else (∃c,h=σ++c/\c.length=own.length)/\∃m',m' < ds.length-i/\_) ow hσ X f hd et
     refine hgo λvs j F=>?_
     have sAll:av (del H1 A) (del H2 (D::A)):=kS (sG.trans s2) U;have RE:dq K H2 (D::A) (δ++ow) (σ++vs):=by
      refine⟨f,by rw[LB,LB,R.len,j,Y],λk e n=>?_⟩;by_cases hk:k<δ.length
      ·rw[LP hk]at n;obtain⟨u,e1,M⟩:=R1.get k e n;exact⟨u,by rw[LP (by rw[<-R.len];exact hk)];exact e1,M.same sAll⟩
      ·rw[LS (by omega)]at n;obtain⟨u,e1,M⟩:=F _ e n;exact⟨u,by rw[LS (by rw[<-R.len];omega),<-R.len];exact e1,M⟩
     have RE2:dq K H2 (D::S) (δ2++ow) (σ++vs):=by
      have hsub:av (del H2 (D::A)) (del H2 (D::S)):=λb u p=>by
       obtain⟨q1,q2⟩:=aZ p;rw[aL (λz=>q1 (by
        rcases L7.mp z with z|z
        ·rw[z];exact L6
        ·exact L3 _ (G b z)))];exact q2
      have Rf1:=O.same (P.trans (B.trans s2));have nD2:D∉S:=λz=>nD (G D z)
      have hD0:H D=none:=P.free I;refine⟨λb L=>?_,by rw[LB,LB,O.len,j,Y],λk e n=>?_⟩
      ·rcases L7.mp L with z|z
       ·exact f b (by rw[z];exact L6)
       ·exact f b (L3 _ (G b z))
      ·by_cases hk:k<δ2.length
       ·rw[LP hk]at n;obtain⟨u,e1,M⟩:=O.get k e n;refine⟨u,by rw[LP (by rw[<-O.len];exact hk)];exact e1,M.same λb u p=>?_⟩;obtain⟨q1,q2⟩:=aZ p;have nb:b≠D:=λz=>by rw[z,hD0]at q2;cases q2
        rw[aL (by simp[nb,q1])];exact (P.trans (B.trans s2)) _ _ q2
       ·rw[LS (by omega)]at n;obtain⟨u,e1,M⟩:=F _ e n;exact⟨u,by rw[LS (by rw[<-O.len];omega),<-O.len];exact e1,M.same hsub⟩
     have bad:∀r:Rs Bool,r=.rz 0->r.calm=.no:=λr e=>by rw[e];rfl
     refine htt _ _ _ (cD.run RE2 (λb p H3 N R3f=>?_) (λC p=>?_) (λp=>?_))
     ·simp only[p,Rs.dm,Rs.ag]at c1;cases b with
      |true =>
       simp only[if_true]at c1;refine eD.run (RE.same N) (λxd ex v Z s4 R4 hv=>?_) (λC ex=>?_) (λex=>?_)
       ·simp only[ex,Rs.dm,Rs.ag]at c1;cases cr:fk cond ge tgt δ δ2 (ds.drop (i+1)) with
        |ok rs =>
         simp only[cr,Rs.ag]at c1;cases c1;have l4:Z D=some (.lst ys):=s4 _ _ (N _ _ l2);have dU:del (upd Z D (.lst (ys++[v]))) (D::A)=del Z (D::A):=jU (L6);refine⟨l4,by rw[sizeLine_eq];omega,⟨vs,rfl,j⟩,ds.length-(i+1),by omega,rfl,hlt,?_,aG,by simp;omega,T++[xd],rs,cr,by rw[t];simp,?_⟩
         ·exact av.put (((B.trans s2).trans N).trans s4) I
         ·rw[dU];exact (w.same (av.del (s2.trans (N.trans s4)))).append (iS hv)
        |rz C=>simp only[cr,Rs.eF]at c1;cases c1
        |no=>simp only[cr,Rs.bw]at c1;cases c1
       ·simp only[ex,Rs.calm,Rs.bw]at c1;cases c1
       ·simp only[ex,Rs.calm,Rs.bw]at c1;cases c1
      |false =>simp only[LR,if_false]at c1;exact⟨⟨vs,rfl,j⟩,ds.length-(i+1),by omega,rfl,hlt,(B.trans s2).trans N,N _ _ l2,by omega,T,rest,c1,t,w.same (av.del (s2.trans N))⟩
     ·simp only[p,Rs.calm,Rs.bw]at c1;cases c1
     ·simp only[p,Rs.calm,Rs.bw]at c1;cases c1
   ·have e:i=ds.length:=by omega
    subst e;rw[Nu]at c1;cases c1;rw[Mi]at t;subst t;exact .inl ⟨js,o D ys H' (P.free I) (P.trans B) hl w⟩
def pk (O:List Nat) (i n0:Nat) (a:Ds->Rs (List PyData)) (cond:Ds->Rs Bool) (ge:Ds->Rs PyData) (tgt:PyData->Option Ds):Ds->Sr:=λδ=>if i<δ.length then ofR (md n0 a cond ge tgt (mask O δ) δ) λds=>.nx (δ.set i (some (.list ds))) else .no
section
variable {E:XK}
theorem DA {b:Ds->Rs (List PyData)} {g:TG} (hc:X.calm=true) (m:X.N.Nodup) (hi:PID X E tg iter b)
  (n:TgD X.K n0 (fB tg).length tgt g) (r:∀C s2 H2 fp,PG (bk X tg scope C s2 H2 fp) tg g) (j:∀C s2 H2 fp,PIf (bk X tg scope C s2 H2 fp) ifs cond) (t:∀C s2 H2 fp,PD (bk X tg scope C s2 H2 fp) E0 elt ge) (u:i∉O)
  (c:X.N[i]?=some x) (v:Loc X.env.scope x) (e:swapsWith (.ListComp elt [⟨tg,iter,ifs,0⟩] scope pos) (some (.Name x pos')) spos.line X.env=pure true)
  (hB:G9 X tg scope=true) (w:∀x,foldedSetIterable iter X.env x=pure x) (y:X.fn x=true\/X.env.scope.names.lookup x=some .local) :
  PSD X E O (.Assign [.Name x pos'] (.ListComp elt [⟨tg,iter,ifs,0⟩] scope pos) spos) (pk O i n0 b cond ge tgt) :=
 PS.imp (pJ (own:=fB tg) (te:=eD X.K E0 ge) hc m c v e hi r (λC s2 H2 fp=>(j C s2 H2 fp).pts) (λC s2 H2 fp=>t C s2 H2 fp) hB w y) λD σ H f=>by
  obtain⟨H0,A0,A,δ,R,o⟩:=f;unfold pk at o;split at o
  ·rename_i hl;have l:=R.part;refine F8 n (PIf.tt (j 0 X.s₀ X.H₀ [])) l R.full (λa ha=>Lw _ ha) ?_;cases q:md n0 b cond ge tgt (mask O δ) δ with
   |ok ds =>rw[q]at o;intro p xs H' hn s z h;exact o A _ H' ((R.step s).set u hl (jv (by rw[aL (l.ls.new hn)];exact z) (h.same mF)))
   |rz C=>rw[q]at o;exact λH' s'=>o H' (R.same.trans s')
   |no=>rw[q]at o;exact o
  ·exact o.elim
end
theorem iA.of {m:Str} {k:Nat} {G:Ds->Sr} (F:Fun K m qual st f fd) (S:cR N ps (aB st)) (b:Binds K fd ps []) (cl:Cls K C) (hm:Meth K C m f) (a:∀i∈O,ps.length<=i)
  (body:∀(cdv:Value) (A:Around) (outer:List Env) (s:Shared) (H:Hp) (E:XK),bY k (A.deeper (envOfC qual (aB st) s.heap.objs.size f cdv))->PBD (cU (CXW P w) P w K mg base N qual (aB st) f cdv A outer s H E) E O (b0 st) G)
  (c:∀ds,ds.length=ps.length->gf ds≠.no->bh (G (ds.map some++List.replicate (N.length-ps.length) none))=gf ds):iA P w K mg base (k+1) C m ps.length gf :=
 ⟨f,fd,ps,cl,hm,RS.yJ F S a body c,b⟩
def qS (xs ys:List PyData):List PyData:=List.zipWith (λa b=>PyData.tuple [a,b]) xs ys
theorem Ba {es:List PyData} (h1:Iss K G ds xs) (h2:Iss K G es ys) (hl:ys.length=xs.length) (c:∀H1,av G H1->SqT K H1 a xs) (f:∀H1,av G H1->SqL K H1 b ys):zL K (Itz K a b xs.length) (qS ds es) G:=λH1 B s m hB=>by
 have l1:=h1.length;have l2:=h2.length;have n:(qS ds es).length=xs.length:=by unfold qS;rw[List.length_zipWith];omega
 rw[n];refine⟨λi hi=>⟨hi,xs,ys,c H1 s,f H1 s,rfl,hl⟩,⟨rfl,xs,ys,c H1 s,f H1 s,rfl,hl⟩,λi x H2 hi y=>?_⟩;obtain⟨t,p,r,rfl,g,rfl,u,v⟩:=y;obtain⟨d,e,hd⟩:=h1.get (u xs (c H1 s));obtain⟨d',w,h⟩:=h2.get (v ys (f H1 s));refine⟨bD g,.tuple [d,d'],by unfold qS;rw[List.getElem?_zipWith,e,w],?_⟩;have A:t∉B:=m.new g;have j:av G (del (upd H1 t (.tup [p,r])) B):=λb o q=>by have l:=s b o q;have C:b≠t:=aI l g;rw[aL (λz=>by rw[hB b z]at q;cases q),ay C];exact l
 exact ig (by rw[aL A];exact aG) (cq (hd.same j) (iS (h.same j)))
section
variable {E:XK} {a b:Expr}
def Gq:List PyData->Rs (List PyData)
 |[.tuple xs,.list ys]=>if ys.length=xs.length then .ok (qS xs ys) else .no
 |_=>.no
def E1 (g:Ds->Rs (List PyData)):Ds->Rs (List PyData):=λδ=>(g δ).bind Gq
theorem Ei (hm:X.mg "zip"=none) (ha:PAD X E [a,b] gs) (l:Gl X "zip") (m:starEach [a,b] X.env=[(false,eval a X.env),(false,eval b X.env)]) (c:starEach [b] X.env=[(false,eval b X.env)]) :
  PID X E (.Tuple elts x1 tp) (.Call (.Name "zip" p) [a,b] [] pos) (E1 gs):=(Ja l hm ha.1 m c).imp λσ H R ⟨A,δ,Rp,o⟩=>xB Rp o λds vs H1 e s1 R1 h1 o=>by
 unfold Gq at o;split at o
 ·split at o
  ·rename_i hl;obtain⟨v,u,rfl,h,h'⟩:=ES h1;obtain⟨p,xs,rfl,f,g⟩:=h.ofTup;obtain⟨q,ys,rfl,i,j⟩:=h'.ofLst;have l1:=g.length;have l2:=j.length;exact⟨p,q,xs,ys,rfl,SqT.of (aw _ _ f),SqL.of (aw _ _ i),by omega,o _ H1 (av.refl _) (Ba g j (by omega) (λH2 s2=>SqT.of (s2 _ _ f)) λH2 s2=>SqL.of (s2 _ _ i))⟩
  ·exact o.elim
 ·exact o.elim
end
end L2
namespace RS
open PySem L2
abbrev JN:List Str:=["number", "parts", "rank", "row"]
abbrev JT:List (Str×Int):=[("job",0),("part",0),("spent",0)]
def eW (cs:Cs):Ds->Sr :=
 (aE (aT [] 2 (g2 dIx (af 0) (gC (.int 0))))
  (aE (aT [] 3 (g2 dIx (af 0) (gC (.int 2))))
  (aE (aT [] 4 (g2 gx (gC (.int 0)) (af 3)))
  (aE (eQ [] (bT (af 1)) (bE 5) (aE (aT [] 6 (gF iC (ae (af 4) (ae (g2 gx (af 5) (af 3)) ah))))
  (aE (sIf (gT (g2 dGt (af 6) (af 5))) (bo (gC (.bool false))) aY)
  (aT [] 4 (g2 aX (af 6) (af 2))))))
  (bo (gC (.bool true)))))))
def kP (cs:Cs) (aK bQ:Gf):Ds->Sr :=
 (aE (sIf (cOr (fI (gT (g1 (kM "list") (af 1)))) (gT (g2 dGt (gF bM (ae (af 1) ah)) (gC (.int 60))))) (bo (gC (.bool false))) aY)
  (bo (zC (gF nC (ae (gL (a9 2 (bT (af 1)) bS (aq aK (ae (af 2) (ae (gC (.int 0)) (ae (gC (.int 9999)) ah)))) aO)) ah)) (aq bQ (ae (af 0) (ae (af 1) ah))))))
def dF (cs:Cs) (cV bf:Gf):Ds->Sr :=
 (aE (ki (aq bf (ae (af 0) ah)))
  (aE (sIf (cOr (fI (gT (g1 (kM "list") (af 1)))) (gT (g2 dNe (gF bM (ae (af 1) ah)) (gF bM (ae (af 0) ah))))) (iQ cs.NoComings (ae (gC (.str "comings are a list of one list for each errand")) ah)) aY)
  (aE (sIf (fI (gT (gF nC (ae (gL (a9 2 (E1 (ae (af 0) (ae (af 1) ah))) bS (aq cV (ae (af 2) (ae (af 3) ah))) jL)) ah)))) (iQ cs.NoComings (ae (gC (.str "an errand can not come so")) ah)) aY)
  (bo (gL (a9 2 (bT (af 1)) bS (gF vR (ae (af 2) ah)) aO))))))
def dB (cs:Cs):Ds->Sr :=
 (bo (g2 dEq (g1 (bq cs.Jobs "job") (af 0)) (gF bM (ae (g1 (bq cs.Jobs "row") (af 0)) ah))))
def eu (cs:Cs):Ds->Sr :=
 (bo (gIf (gT (g2 dEq (g1 (bq cs.Jobs "spent") (af 0)) (gC (.int 0)))) (g2 dIx (g2 dIx (g1 (bq cs.Jobs "parts") (af 0)) (g1 (bq cs.Jobs "part") (af 0))) (gC (.int 1))) (gC .none)))
def fP (cs:Cs):Ds->Sr :=
 (bo (gIf (gT (g2 dGt (g1 (bq cs.Jobs "spent") (af 0)) (gC (.int 0)))) (g2 dIx (g2 dIx (g1 (bq cs.Jobs "parts") (af 0)) (g1 (bq cs.Jobs "part") (af 0))) (gC (.int 1))) (gC .none)))
def jA (cs:Cs) (aR:Gf):Ds->Sr :=
 (aE (sIf (gT (g1 jk (af 1))) (bo (gC .none)) aY)
  (aE (eQ [] (bT (af 0)) (bE 2) (sIf (gT (g2 dEq (bp cs.Jobs "held" aR (af 2) ah) (af 1))) (bo (af 2)) aY))
  (bo (gC .none))))
def gu (cs:Cs) (aJ bG:Gf):Ds->Sr :=
 (aE (uZ 1)
  (aE (eQ [1] (bT (af 0)) (bE 2) (aE (aT [1] 3 (aq bG (ae (af 0) (ae (bp cs.Jobs "wanted" aJ (af 2) ah) ah))))
  (sIf (gT (g1 jr (af 3))) (oM 1 (g1 (bq cs.Jobs "number") (af 3)) (gF kj (ae (g1 (bq cs.Jobs "rank") (af 2)) (ae (lI (af 1) (g1 (bq cs.Jobs "number") (af 3)) (g1 (bq cs.Jobs "rank") (af 3))) ah)))) aY)))
  (bo (af 1))))
def bV (cs:Cs) (aR:Gf):Ds->Sr :=
 (aE (aT [] 2 (bp cs.Jobs "held" aR (af 0) ah))
  (aE (sIf (gT (g1 jk (af 2))) (bo (eP (ae (g1 (bq cs.Jobs "rank") (af 0)) (ae (gC (.int 1)) ah)))) aY)
  (bo (eP (ae (gF kj (ae (g1 (bq cs.Jobs "rank") (af 0)) (ae (g2 dIx (af 1) (af 2)) ah))) (ae (gC (.int 0)) ah))))))
def dz (cs:Cs):Ds->Sr :=
 (bo (zC (g2 dLt (g1 (bq cs.Jobs "job") (af 0)) (gF bM (ae (g1 (bq cs.Jobs "row") (af 0)) ah))) (g2 dLe (g2 dIx (g1 (bq cs.Jobs "row") (af 0)) (g1 (bq cs.Jobs "job") (af 0))) (af 1))))
def yr (cs:Cs) (bg dW aV bf:Gf):Ds->Sr :=
 (aE (ki (aq bf (ae (af 0) ah)))
  (aE (ki (aq aV (ae (af 0) (ae (af 1) ah))))
  (bo (aq dW (ae (af 0) (ae (af 1) (ae (aq bg (ae (af 0) (ae (af 2) ah))) (ae (af 3) ah))))))))
def cX (cs:Cs) (ak:Gf):Ds->Sr :=
 (aE (aT [6] 4 (aq ak (ae (af 0) (ae (af 1) (ae (g2 DL (gC (.int 10)) (gC (.int 9))) ah)))))
  (aE (aT [6] 5 (g2 gx (g2 ej (af 4) (g2 aX (g2 dIx (af 2) (gC (.int 0))) (gC (.int 2)))) (g2 dIx (af 2) (gC (.int 2)))))
  (aE (fc [6] 6 ah)
  (aE (aT [6] 7 (gC (.int 0)))
  (aE (λδ=>cm (uj (gT (g2 dLt (g2 aX (af 5) (g2 dIx (af 2) (gC (.int 2)))) (af 3))) (gT (g2 dLt (gF bM (ae (af 6) ah)) (gC (.int 60))))) (aE (aT [6] 8 (g2 ej (g2 eX (g2 aX (g2 aX (af 4) (g2 eX (g2 eX (gC (.int 104729)) (af 7)) (af 7))) (g2 eX (gC (.int 7919)) (af 7))) (gC (.int 48271))) (gC (.int 2147483647))))
  (aE (aT [6] 9 (gF iC (ae (gC (.int 0)) (ae (g2 aX (af 5) (g2 ej (g2 i0 (af 8) (gC (.int 7))) (g2 aX (g2 dIx (af 2) (gC (.int 2))) (gC (.int 1))))) ah))))
  (aE (sIf (gT (g2 dNe (af 6) (kh ah))) (og 9 (gF iC (ae (af 9) (ae (g2 aX (g2 dIx (af 6) (g1 lp (gC (.int 1)))) (gC (.int 1))) ah)))) aY)
  (aE (gK [6] 6 (af 9))
  (aE (aT [6] 5 (g2 aX (af 5) (g2 dIx (af 2) (gC (.int 0)))))
  (aE (sIf (gT (g2 dEq (g2 ej (g2 i0 (af 8) (gC (.int 61))) (gC (.int 3))) (gC (.int 0)))) (aT [6] 5 (g2 aX (af 5) (g2 ej (g2 i0 (af 8) (gC (.int 997))) (g2 dIx (af 2) (gC (.int 0)))))) aY)
  (aT [6] 7 (g2 aX (af 7) (gC (.int 1)))))))))) 1000000 δ)
  (bo (af 6)))))))
def eo (cs:Cs) (ba:Gf):Ds->Sr :=
 (bo (gL (a9 4 (fM (ae (gF bM (ae (af 2) ah)) ah)) bS (aq ba (ae (af 0) (ae (g2 aX (af 1) (af 4)) (ae (g2 dIx (af 2) (af 4)) (ae (af 3) ah))))) aO)))
def i7 (cs:Cs) (aP aU cB aM:Gf) (a:List (Str×PyData)->Option (List (Str×PyData))) (as:List Addr):Ds->Sr :=
 (aE (fc [6] 6 ah)
  (aE (λδ=>cm (fI (gT (gF nC (ae (gL (a9 9 (bT (af 5)) bS (bp cs.Jobs "are_done" aU (af 9) ah) aO)) ah)))) (aE (pk [6] 7 9 (bT (af 5)) (gT (bp cs.Jobs "is_there" aM (af 9) (ae (gF bM (ae (af 6) ah)) ah))) (af 9) aO)
  (sIf (gT (g2 dEq (gF bM (ae (af 7) ah)) (gC (.int 0)))) (gK [6] 6 (gC .none)) (aE (aT [6] 8 (aq cB (ae (af 7) (ae (af 4) (ae (af 3) ah)))))
  (aE (gK [6] 6 (eP (ae (g1 (bq cs.Jobs "number") (af 8)) (ae (g1 (bq cs.Jobs "job") (af 8)) ah))))
  (kF as cs.Jobs "go_on" 8 a))))) 1000000 δ)
  (bo (af 6))))
def gp (cs:Cs) (as:List Addr):Ds->Sr :=
 (aE (eE as cs.Jobs 0 "spent" (gC (.int 1)))
  (aE (sIf (gT (g2 dEq (g1 (bq cs.Jobs "spent") (af 0)) (g2 dIx (g2 dIx (g1 (bq cs.Jobs "parts") (af 0)) (g1 (bq cs.Jobs "part") (af 0))) (gC (.int 0))))) (aE (lM as cs.Jobs 0 "spent" (gC (.int 0)))
  (eE as cs.Jobs 0 "part" (gC (.int 1)))) aY)
  (sIf (gT (g2 dEq (g1 (bq cs.Jobs "part") (af 0)) (gF bM (ae (g1 (bq cs.Jobs "parts") (af 0)) ah)))) (aE (lM as cs.Jobs 0 "part" (gC (.int 0)))
  (eE as cs.Jobs 0 "job" (gC (.int 1)))) aY)))
def jB (cs:Cs) (cp aJ bG bO:Gf):Ds->Sr :=
 (aE (sIf (gT (g2 dEq (af 2) (gC (.str "high")))) (bo (ja [1] (af 0) (aq bO (ae (af 0) (ae (af 1) ah))))) aY)
  (aE (aT [] 3 (gL (a9 5 (bT (af 0)) (gT (g1 jk (aq bG (ae (af 0) (ae (bp cs.Jobs "wanted" aJ (af 5) ah) ah))))) (af 5) aO)))
  (aE (aT [] 4 (gIf (gT (g2 dEq (af 2) (gC (.str "asked")))) (aq cp (ae (af 0) ah)) (gC (cE []))))
  (bo (ja [4] (af 3) (lI (af 1) (g1 (bq cs.Jobs "number") (af 0)) (g1 (bq cs.Jobs "rank") (af 0))))))))
end RS
set_option maxHeartbeats 1000000
namespace RS
open PySem L2
variable {p:Int×Option Int}
def cn:Gf
 |[d,.int t]=>if wy d then .ok (.bool ((deE d).has t)) else .no
 |_=>.no
theorem jK {e:Er} {t:Int} (h:e.Sh):cn [e.d,.int t]=.ok (.bool (e.has t)):=by unfold cn;simp[nZ h,yk]
theorem vn (t:Int):∀ps:List (Int×Option Int),inD (.int t) ((ps.map aN).map λd=>bz (cu d).2)=ps.any λp=>p.2==some t
 |[]=>rfl
 |p::r=>by
  have h1:eqV (toV (bz p.2)) (.int t)=(p.2==some t):=by
   rcases hp:p.2 with _|z
   ·rfl
   ·show (z==t)=(some z==some t)
    simp
  have:=vn t r;unfold inD inV at this ⊢;rw[L4,L4,L4,MQ,MQ,this,qw];show (eqV (toV (bz p.2)) (.int t)||_)=_;rw[h1]
theorem AL (ps:List (Int×Option Int)):((ps.map aN).map λd=>bz (cu d).2).all fO=true:=by rw[LD];intro d hd;obtain⟨n,_,rfl⟩:=LA.mp hd;cases (cu n).2 <;> rfl
theorem Im {f:PyData->Int->Rs PyData} (h:(match ds with|[a,.int x1]=>f a x1|_=>.no)≠.no):∃a x1,ds=[a,.int x1]/\f a x1≠.no:=by
 rcases ds with _|⟨a,_|⟨x1,_|⟨y,ys⟩⟩⟩
 ·exact absurd rfl h
 ·exact absurd rfl h
 ·skip
  cases x1 with
  |int x1 =>exact⟨_,_,rfl,h⟩
  |_=>exact absurd rfl h
 ·first|exact absurd rfl h|(cases x1 <;> exact absurd rfl h)
theorem xO (cs:Cs):LLq (i6 cs) 2 0 cn:=by
 intro ds hl a;obtain⟨d,t,f,c⟩:=Im a;clear a;subst f;have a:=c;clear c
 ·skip
  split at a
  ·rename_i hd;obtain⟨e1,sh⟩:=vI hd;rw[<-e1];generalize deE d=e at sh;rw[jK sh];have hc:a9 2 (bT (g2 dIx (af 0) (gC (.int 3)))) bS (g2 dIx (af 2) (gC (.int 1))) aO [some e.d,some (.int t)]=.ok ((e.parts.map aN).map λd=>bz (cu d).2) :=
    cT rfl (by simp[zW]) (by have:=sh.pn;simp;omega) λd b=>by obtain⟨p,hp,rfl⟩:=LA.mp b;simp[Dh,qw]
   have hi:oN false (.int t) (.list ((e.parts.map aN).map λd=>bz (cu d).2))=some (.bool (e.has t)):=by show (if (fO (.int t)&&_)=true then some (PyData.bool (if false=true then _ else inD _ _)) else none)=_;rw[AL,vn];rfl
   show bh (i6 cs [some e.d,some (.int t)])=_;simp only[i6,bU,bK,ao,au,nH,hc,Rs.ag,hi,Rs.ai,az,bc]
  ·exact absurd rfl a
def dD:Gf
 |[d,r,.int t]=>if pH d&&dG (dk d).length r then .ok (bz (bj (dk d) (cM r) t)) else .no
 |_=>.no
theorem k7 {t:Int} (h1:es.length<=100) (h:∀e∈es,e.Sh) (a:dQ es.length rs):dD [ax es,ar rs,.int t]=.ok (bz (bj es rs t)):=by unfold dD;simp[qm h1 h,ie,gH a,iq]
theorem mZ (es:List Er) (a:∀e∈es,e.Sh) (R:PyData) (t:Int):∀(rs:List Int) (k:Nat) (x3 x4:Option PyData),(∀m∈rs,0<=m/\m<es.length) ->
   (∃i,hts es rs k t=some i/\forL (dg [3,4]) (sIf (gT (aq cn (ae (g2 dIx (af 0) (af 4)) (ae (af 2) ah)))) (bo (af 3)) aY) ((rs.map PyData.int).mapIdx λi d=>.tuple [.int ((k+i:Nat):Int),d]) [some (ax es),some R,some (.int t),x3,x4]=.rt (.int i))
  \/(hts es rs k t=none/\∃δ,forL (dg [3,4]) (sIf (gT (aq cn (ae (g2 dIx (af 0) (af 4)) (ae (af 2) ah)))) (bo (af 3)) aY) ((rs.map PyData.int).mapIdx λi d=>.tuple [.int ((k+i:Nat):Int),d]) [some (ax es),some R,some (.int t),x3,x4]=.nx δ)
 |[],k,x3,x4,_=>.inr ⟨rfl,_,rfl⟩
 |m::r,k,x3,x4,hm=>by
   have b:=hm m L6;have a2:atI (es.map Er.d) m=some (b9 es m).d:=kT b.1 b.2;have f:=jK (t:=t) (a _ (e9 b.1 b.2));rw[L4,Nx];unfold forL;have e1:dg [3,4] (PyData.tuple [.int ((k+0:Nat):Int),.int m]) [some (ax es),some R,some (.int t),x3,x4]=some [some (ax es),some R,some (.int t),some (.int (k:Int)),some (.int m)]:=rfl;rw[e1];simp only[cG,dH,bB,aA,aH,bK,ao,au,Rs.ag,ax,Cc,a2,Rs.ai,f,br,az,bU,fD];unfold hts;cases hh:(b9 es m).has t with
   |true=>exact .inl ⟨k,rfl,rfl⟩
   |false =>
    simp only[LR,if_false];have c:=mZ es a R t r (k+1) (some (.int (k:Int))) (some (.int m)) (λx g=>hm x (L3 _ g));rw[show ((k+1:Nat):Int)=(k:Int)+1 by omega]at c;have h:(λ(i:Nat) (d:PyData)=>PyData.tuple [.int ((k+(i+1):Nat):Int),d])=λi d=>.tuple [.int ((k+1+i:Nat):Int),d]:=by funext i d;rw[show k+(i+1)=k+1+i by omega]
    rw[h];exact c
theorem lC {f:PyData->PyData->Int->Rs PyData} (h:(match ds with|[a,x1,.int x2]=>f a x1 x2|_=>.no)≠.no):∃a x1 x2,ds=[a,x1,.int x2]/\f a x1 x2≠.no:=by
 rcases ds with _|⟨a,_|⟨x1,_|⟨x2,_|⟨y,ys⟩⟩⟩⟩
 ·exact absurd rfl h
 ·exact absurd rfl h
 ·exact absurd rfl h
 ·skip
  cases x2 with
  |int x2 =>exact⟨_,_,_,rfl,h⟩
  |_=>exact absurd rfl h
 ·first|exact absurd rfl h|(cases x2 <;> exact absurd rfl h)
theorem Bp (cs:Cs):LLq (lj cs cn) 3 2 dD:=by
 intro ds hl a;obtain⟨d,r,t,h,f⟩:=lC a;clear a;subst h;have a:=f;clear f
 ·skip
  split at a
  ·rename_i hc;simp only[L8]at hc;obtain⟨c1,j⟩:=hc;obtain⟨e1,hlen,c⟩:=xW c1;obtain⟨e2,g⟩:=k9 j;rw[<-e1,<-e2];generalize dk d=es at *;generalize cM r=rs at *;rw[k7 hlen c g];have loop:=mZ es c (ar rs) t rs 0 none none g.rng;show bh (lj cs cn [some (ax es),some (ar rs),some (.int t),none,none])=_;have src:eK (ae (af 1) ah) [some (ax es),some (ar rs),some (.int t),none,none]=.ok ((rs.map PyData.int).mapIdx λi d=>.tuple [.int ((0+i:Nat):Int),d]):=by simp only[nP,aA,aH,ao,au,Rs.ag,ar,sZ,fe,M8]
   simp only[lj];rw[aQ,kE,iz,src,az];unfold bj;rcases loop with⟨i,b,e⟩|⟨b,δ,e⟩
   ·rw[e];have b:hts es rs 0 t=some i:=b;rw[b];rfl
   ·rw[e];have b:hts es rs 0 t=none:=b;rw[b];rfl
  ·exact absurd rfl a
def aF (es:List Er) (rs:List Int):PyData:=.list ((List.range 4).map λ(t:Nat)=>bz (bj es rs t))
def aP:Gf
 |[d,r]=>if pH d&&dG (dk d).length r then .ok (aF (dk d) (cM r)) else .no
 |_=>.no
theorem fm (h1:es.length<=100) (h:∀e∈es,e.Sh) (a:dQ es.length rs):aP [ax es,ar rs]=.ok (aF es rs):=by unfold aP;simp[qm h1 h,ie,gH a,iq]
theorem Iy {f:PyData->PyData->Rs PyData} (h:(match ds with|[a,x1]=>f a x1|_=>.no)≠.no):∃a x1,ds=[a,x1]/\f a x1≠.no:=by
 rcases ds with _|⟨a,_|⟨x1,_|⟨y,ys⟩⟩⟩
 ·exact absurd rfl h
 ·exact absurd rfl h
 ·skip
  exact⟨_,_,rfl,h⟩
 ·exact absurd rfl h
theorem tF (cs:Cs):LLq (gw cs dD) 2 0 aP:=by
 intro ds hl a;obtain⟨d,r,g,e⟩:=Iy a;clear a;subst g;have a:=e;clear e
 ·skip
  split at a
  ·rename_i hc;simp only[L8]at hc;obtain⟨c1,h⟩:=hc;obtain⟨e1,hlen,b⟩:=xW c1;obtain⟨e2,f⟩:=k9 h;rw[<-e1,<-e2];generalize dk d=es at *;generalize cM r=rs at *;rw[fm hlen b f];have j:∀t:Int,dD [ax es,ar rs,.int t]=.ok (bz (bj es rs t)):=λt=>k7 hlen b f
   have c:a9 2 (fM (ae (gC (.int 4)) ah)) bS (aq dD (ae (af 0) (ae (af 1) (ae (af 2) ah)))) aO [some (ax es),some (ar rs)]=.ok ((bA 0 (4:Int).toNat).map λx=>bz (bj es rs (deI x))) :=
    cT rfl (by simp only[lG,aA,aH,cy,Rs.ag];exact jV (by decide) (by decide)) (by rw[cO];decide) λx l=>by obtain⟨i,hi⟩:=List.getElem?_of_mem l;obtain⟨_,rfl⟩:=fz hi;simp only[M6,M4,bB,aA,aH,ao,au,Rs.ag,j];rfl
   have hd:aF es rs=.list ((bA 0 (4:Int).toNat).map λx=>bz (bj es rs (deI x))):=by
    unfold aF bA;rw[LQ];congr 1
    try exact LN λk _=>by simp[deI]
   rw[hd];show bh (gw cs dD [some (ax es),some (ar rs)])=_;simp only[gw,bU,nH,c,Rs.ag,az,bc]
  ·exact absurd rfl a
def dE (ns:List Int) (a:Int) (many:Nat):Nat->List Int×List Int
 |0=>((List.range many).map λ(i:Nat)=>(i:Int),[])
 |i+1=>((dE ns a many i).1.eraseIdx (mixed ns (a+(i:Int)) ((dE ns a many i).1.length:Int)).toNat,(dE ns a many i).2++[(dE ns a many i).1.getD (mixed ns (a+(i:Int)) ((dE ns a many i).1.length:Int)).toNat 0])
def nQ (ns:List Int) (a:Int) (many:Nat):List Int:=(dE ns a many many).2
theorem qe {α:Type}:∀(l:List α) (j:Nat) (h:j<l.length),(l[j]::l.eraseIdx j).Perm l
 |[],j,h=>by simp at h
 |x::r,0,h=>by simp
 |x::r,j+1,h=>by
  simp only[List.getElem_cons_succ,List.eraseIdx_cons_succ];have h':j<r.length:=by simpa using h
  exact (List.Perm.swap _ _ _).trans ((qe r j h').cons x)
theorem qW {α β:Type} (f:α->β):∀(l:List α) (j:Nat),(l.map f).eraseIdx j=(l.eraseIdx j).map f
 |[],j=>by simp
 |x::r,0=>by simp
 |x::r,j+1=>by simp[qW f r j]
theorem qb (ns:List Int) (a:Int) (many:Nat):∀i,i<=many->(dE ns a many i).1.length=many-i/\(dE ns a many i).2.length=i/\((dE ns a many i).1++(dE ns a many i).2).Perm ((List.range many).map λ(i:Nat)=>(i:Int))
 |0,_=>⟨by simp[dE],rfl,by simp[dE]⟩
 |i+1,h=>by
  obtain⟨h1,h2,e⟩:=qb ns a many i (by omega);simp only[dE];generalize (dE ns a many i).1=L at *;generalize (dE ns a many i).2=M at *;have c:0<(L.length:Int):=by omega
  have m0:=cF ns (a+(i:Int)) c;have m1:=c9 ns (a+(i:Int)) c;generalize mixed ns (a+(i:Int)) (L.length:Int)=z at *;have b:z.toNat<L.length:=by omega
  refine⟨by rw[List.length_eraseIdx_of_lt b];omega,by simp[h2],?_⟩;refine List.Perm.trans ?_ e;rw[LJ,L0 b,Nt];have p1:(L[z.toNat]::L.eraseIdx z.toNat).Perm L:=qe L z.toNat b;have p2:(L.eraseIdx z.toNat++(M++[L[z.toNat]])).Perm ((L[z.toNat]::L.eraseIdx z.toNat)++M):=by rw[<-MF];exact (List.perm_append_singleton _ _)
  exact p2.trans (p1.append_right M)
theorem wH (ns:List Int) (a:Int) (many:Nat):dQ many (nQ ns a many):=by
 obtain⟨h1,h2,b⟩:=qb ns a many many (L9 _);unfold nQ;have e:(dE ns a many many).1=[]:=MP.mp (by omega);rw[e,M4]at b;refine⟨h2,λr c=>?_,b.nodup_iff.mpr ?_⟩
 ·obtain⟨k,g,rfl⟩:=LA.mp (b.mem_iff.mp c);have:=Mx.mp g;omega
 ·exact (List.nodup_range).map (f:=λ(i:Nat)=>(i:Int)) λx y h=>by intro q;have q:(x:Int)=(y:Int):=q;exact h (by omega)
def bX:Gf
 |[s,.int a,.int many]=>(match eY s with
  |some ns=>if 0<=a/\0<=many/\many<=100 then .ok (ar (nQ ns a many.toNat)) else .no
  |none=>.no)
 |_=>.no
theorem jj {a:Int} (h1:0<=a) (h2:0<=many) (b:many<=100):bX [aj ns,.int a,.int many]=.ok (ar (nQ ns a many.toNat)):=by unfold bX;simp[ft,h1,h2,b]
theorem AR (ns:List Int) (a:Int) (n i:Nat) (L M:List Int) (ha:0<=a) (c:0<(L.length:Int)) (hL2:L.length<=100) (hM:M.length<=100) :
   i4 4 3 (aq ak (ae (af 0) (ae (g2 aX (af 1) (af 5)) (ae (gF bM (ae (af 3) ah)) ah)))) [some (aj ns),some (.int a),some (.int (n:Int)),some (.list (L.map .int)),some (.list (M.map .int)),some (.int (0+(i:Int)))]
  =.nx [some (aj ns),some (.int a),some (.int (n:Int)),some (.list ((L.eraseIdx (mixed ns (a+(i:Int)) (L.length:Int)).toNat).map .int)),some (.list ((M++[L.getD (mixed ns (a+(i:Int)) (L.length:Int)).toNat 0]).map .int)),some (.int (0+(i:Int)))]:=by
 have b:=cA (ns:=ns) (k:=a+(0+(i:Int))) (many:=(L.length:Int)) (by omega) c;have h:=cF ns (a+(i:Int)) c;have m1:=c9 ns (a+(i:Int)) c;rw[show a+(0+(i:Int))=a+(i:Int) by omega]at b;generalize mixed ns (a+(i:Int)) (L.length:Int)=z at *;have g:z.toNat<L.length:=by omega
 have j:aq ak (ae (af 0) (ae (g2 aX (af 1) (af 5)) (ae (gF bM (ae (af 3) ah)) ah))) [some (aj ns),some (.int a),some (.int (n:Int)),some (.list (L.map .int)),some (.list (M.map .int)),some (.int (0+(i:Int)))]=.ok (.int z):=by simp only[bB,aA,aH,bK,fV,ao,au,Rs.ag,eC,Rs.ai,jC,L5];rw[show a+(0+(i:Int))=a+(i:Int) by omega];exact b
 have e:ixN (L.map PyData.int).length z=some z.toNat:=by unfold ixN;rw[if_pos h,if_pos (by rw[L5];omega)]
 have f:(L.map PyData.int)[z.toNat]?=some (.int (L.getD z.toNat 0)):=by rw[LG,L0 g,LJ,L0 g];rfl
 unfold i4;simp only[Mv,Mw,j,az];rw[if_pos (by refine⟨by omega,by omega,?_⟩;rw[L5];omega)];simp only[e,f,Na,Nb,M5,L4,Mr];rw[qW]
theorem AU (ns:List Int) (a:Int) (n i:Nat) (ha:0<=a) (hi:i<n) (hn:n<=100) :
   i4 4 3 (aq ak (ae (af 0) (ae (g2 aX (af 1) (af 5)) (ae (gF bM (ae (af 3) ah)) ah)))) [some (aj ns),some (.int a),some (.int (n:Int)),some (.list ((dE ns a n i).1.map .int)),some (.list ((dE ns a n i).2.map .int)),some (.int (0+(i:Int)))]
  =.nx [some (aj ns),some (.int a),some (.int (n:Int)),some (.list ((dE ns a n (i+1)).1.map .int)),some (.list ((dE ns a n (i+1)).2.map .int)),some (.int (0+(i:Int)))]:=by
 obtain⟨h1,h2,h3⟩:=qb ns a n i (by omega);simp only[dE];exact AR ns a n i _ _ ha (by omega) (by omega) (by omega)
theorem rk1 (ns:List Int) (a:Int) (n:Nat) (hm2:(n:Int)<=100):fc [3,4] 3 (gLR (ae (af 2) ah)) [some (aj ns),some (.int a),some (.int (n:Int)),none,none,none]=.nx [some (aj ns),some (.int a),some (.int (n:Int)),some (.list ((dE ns a n 0).1.map .int)),none,none]:=by
 have b:gLR (ae (af 2) ah) (mask [3,4] [some (aj ns),some (.int a),some (.int (n:Int)),none,none,none])=.ok (bA 0 n):=by simp only[JZ,aA,aH,aS (show 2∉[3,4] by decide),ao,au,Rs.ag];unfold uf;simp only;rw[if_pos (by omega),LV]
 have c:(dE ns a n 0).1.map PyData.int=bA 0 n:=by
  simp only[dE,bA,LQ];refine LN λk _=>?_
  simp
 rw[c];unfold fc;rw[b,if_pos (by simp)];simp only[az,Na,Nb]
theorem rk2 (ns:List Int) (a:Int) (n:Nat):fc [3,4] 4 ah [some (aj ns),some (.int a),some (.int (n:Int)),some (.list ((dE ns a n 0).1.map .int)),none,none]=.nx [some (aj ns),some (.int a),some (.int (n:Int)),some (.list ((dE ns a n 0).1.map .int)),some (.list ((dE ns a n 0).2.map .int)),none]:=by unfold fc;rw[if_pos (by simp)];simp only[aH,az,Na,Nb];rfl
theorem rk3 (ns:List Int) (a:Int) (n:Nat) (hm2:(n:Int)<=100):fM (ae (af 2) ah) (mask [3,4] [some (aj ns),some (.int a),some (.int (n:Int)),some (.list ((dE ns a n 0).1.map .int)),some (.list ((dE ns a n 0).2.map .int)),none])=.ok (bA 0 n):=by have hv:ae (af 2) ah (mask [3,4] [some (aj ns),some (.int a),some (.int (n:Int)),some (.list ((dE ns a n 0).1.map .int)),some (.list ((dE ns a n 0).2.map .int)),none])=.ok [.int (n:Int)]:=rfl;have b:=jV (j:=(n:Int)) (MR n) (by omega);rw[LV]at b;rw[lG,hv,Rs.ag,b]
theorem uS (cs:Cs):LLq (g6 cs ak) 3 3 bX:=by
 intro ds hl b;obtain⟨s,a,many,l,j⟩:=nX b;clear b;subst l;have b:=j;clear j
 ·skip
  split at b
  ·rename_i ns m;have es:=hU m;subst es;split at b
   ·rename_i hc;obtain⟨ha,hm,c⟩:=hc;rw[jj ha hm c];obtain⟨n,rfl⟩:∃n:Nat,many=(n:Int):=⟨many.toNat,by omega⟩
    rw[LV];show bh (g6 cs ak [some (aj ns),some (.int a),some (.int (n:Int)),none,none,none])=_;have o:=rk1 ns a n c;have s2:=rk2 ns a n;have src:=rk3 ns a n c;obtain⟨δ',e,x5,f⟩:=kD (β:=Unit) (tgt:=bE 5) (body:=i4 4 3 (aq ak (ae (af 0) (ae (g2 aX (af 1) (af 5)) (ae (gF bM (ae (af 3) ah)) ah)))))
     (λi δ=>∃x5,δ=[some (aj ns),some (.int a),some (.int (n:Int)),some (.list ((dE ns a n i).1.map .int)),some (.list ((dE ns a n i).2.map .int)),x5])
     (bA 0 n) 0 (λi d δ hi g=>by obtain⟨x5,p⟩:=g;subst p;rw[M8]at *;obtain⟨h,rfl⟩:=fz hi;refine⟨[some (aj ns),some (.int a),some (.int (n:Int)),some (.list ((dE ns a n i).1.map .int)),some (.list ((dE ns a n i).2.map .int)),some (.int (0+(i:Int)))],_,rfl,?_,some (.int (0+(i:Int))),rfl⟩;exact AU ns a n i ha h (by omega)) [some (aj ns),some (.int a),some (.int (n:Int)),some (.list ((dE ns a n 0).1.map .int)),some (.list ((dE ns a n 0).2.map .int)),none] ⟨none,rfl⟩
    subst f;rw[M8,cO]at e;simp only[g6];rw[aQ,o];simp only;rw[aQ,s2];simp only;rw[aQ,kE,src,az,e];simp only;simp only[bU,fV,aA,aH,ao,au,Rs.ag,Bv,Rs.ai,az,bc];rfl
   ·exact absurd rfl b
  ·exact absurd rfl b
def hvM (every late:Int):Int->List Int->Bool
 |_,[]=>true
 |m,c::r=>if c<(if c-late>m then c-late else m) then false else hvM every late ((if c-late>m then c-late else m)+every) r
def hvE (e:Er) (ns:List Int):Bool:=hvM e.every e.late (0-e.late) ns
def bQ:Gf
 |[d,.list xs]=>if wy d then (match gX xs with|some ns=>.ok (.bool (hvE (deE d) ns))|none=>.no) else .no
 |_=>.no
theorem gP {e:Er} (h:e.Sh):bQ [e.d,.list (ns.map PyData.int)]=.ok (.bool (hvE e ns)):=by unfold bQ;simp only[nZ h,if_true,fu,yk]
def hvB:Ds->Sr:=(aE (aT [] 6 (gF iC (ae (af 4) (ae (g2 gx (af 5) (af 3)) ah))))
 (aE (sIf (gT (g2 dGt (af 6) (af 5))) (bo (gC (.bool false))) aY)
 (aT [] 4 (g2 aX (af 6) (af 2)))))
theorem yv (E L:PyData) (every late:Int):∀(ns:List Int) (m:Int) (x5 x6:Option PyData),
   (hvM every late m ns=true/\∃δ,forL (bE 5) hvB (ns.map PyData.int) [some E,some L,some (.int every),some (.int late),some (.int m),x5,x6]=.nx δ)
  \/(hvM every late m ns=false/\forL (bE 5) hvB (ns.map PyData.int) [some E,some L,some (.int every),some (.int late),some (.int m),x5,x6]=.rt (.bool false))
 |[],m,x5,x6=>.inl ⟨rfl,_,rfl⟩
 |c::r,m,x5,x6=>by
   have h1:bE 5 (.int c) [some E,some L,some (.int every),some (.int late),some (.int m),x5,x6]=some [some E,some L,some (.int every),some (.int late),some (.int m),some (.int c),x6]:=rfl;rw[L4];unfold forL;rw[h1];unfold hvM;by_cases hc:c<(if c-late>m then c-late else m)
   ·have a:hvB [some E,some L,some (.int every),some (.int late),some (.int m),some (.int c),x6]=.rt (.bool false):=by simp[hvB,hc]
    refine .inr ⟨if_pos hc,?_⟩;simp only[a]
   ·have a:hvB [some E,some L,some (.int every),some (.int late),some (.int m),some (.int c),x6]=.nx [some E,some L,some (.int every),some (.int late),some (.int ((if c-late>m then c-late else m)+every)),some (.int c),some (.int (if c-late>m then c-late else m))]:=by simp[hvB,hc]
    rw[if_neg hc];simp only[a];exact yv E L every late r _ _ _
theorem DP {f:PyData->List PyData->Rs PyData} (h:(match ds with|[a,.list x1]=>f a x1|_=>.no)≠.no):∃a x1,ds=[a,.list x1]/\f a x1≠.no:=by
 rcases ds with _|⟨a,_|⟨x1,_|⟨y,ys⟩⟩⟩
 ·exact absurd rfl h
 ·exact absurd rfl h
 ·skip
  cases x1 with
  |list x1 =>exact⟨_,_,rfl,h⟩
  |_=>exact absurd rfl h
 ·first|exact absurd rfl h|(cases x1 <;> exact absurd rfl h)
theorem pz (cs:Cs):LLq (eW cs) 2 5 bQ:=by
 intro ds hl a;obtain⟨d,xs,g,f⟩:=DP a;clear a;subst g;have a:=f;clear f
 ·skip
  split at a
  ·rename_i hd;split at a
   ·rename_i ns h;have b:=eI h;subst b;obtain⟨e1,sh⟩:=vI hd;rw[<-e1,gP sh];generalize deE d=e at *;show bh (eW cs [some e.d,some (.list (ns.map PyData.int)),none,none,none,none,none])=_;unfold eW;have a0:dIx e.d (.int 0)=some (.int e.every):=rfl;have a2:dIx e.d (.int 2)=some (.int e.late):=rfl;simp only[aQ,iT,bK,ao,au,cy,Rs.ag,a0,a2,Rs.ai,az,qt];have i:=yv e.d (.list (ns.map PyData.int)) e.every e.late ns (0-e.late) none none;have j:eQ [] (bT (af 1)) (bE 5) hvB [some e.d,some (.list (ns.map PyData.int)),some (.int e.every),some (.int e.late),some (.int (0-e.late)),none,none]=forL (bE 5) hvB (ns.map PyData.int) [some e.d,some (.list (ns.map PyData.int)),some (.int e.every),some (.int e.late),some (.int (0-e.late)),none,none]:=rfl;show bh (match eQ [] (bT (af 1)) (bE 5) hvB [some e.d,some (.list (ns.map PyData.int)),some (.int e.every),some (.int e.late),some (.int (0-e.late)),none,none] with|.nx c=>bo (gC (.bool true)) c|r=>r)=_;rw[j];rcases i with⟨h1,δ,h2⟩|⟨h1,h2⟩
    ·rw[h2];show Rs.ok _=_;unfold hvE;rw[h1]
    ·rw[h2];show Rs.ok _=_;unfold hvE;rw[h1]
   ·exact absurd rfl a
  ·exact absurd rfl a
structure oK (ns:List Int):Prop where
 few:ns.length<=60
 lo:∀c∈ns,0<=c
 hi:∀c∈ns,c<=9999
def oG (ns:List Int):Bool:=decide (ns.length<=60)&&ns.all λc=>decide (0<=c)&&decide (c<=9999)
theorem su:oG ns=true↔oK ns:=by
 unfold oG;rw[L8,decide_eq_true_eq,LD];constructor
 ·rintro⟨h1,h2⟩
  refine⟨h1,λc hc=>?_,λc hc=>?_⟩
  ·have:=h2 c hc;rw[L8,decide_eq_true_eq,decide_eq_true_eq]at this;exact this.1
  ·have:=h2 c hc;rw[L8,decide_eq_true_eq,decide_eq_true_eq]at this;exact this.2
 ·rintro⟨h1,h2,a⟩
  refine⟨h1,λc hc=>?_⟩;rw[L8,decide_eq_true_eq,decide_eq_true_eq];exact⟨h2 c hc,a c hc⟩
def cV:Gf
 |[d,.list xs]=>if wy d then (match gX xs with|some ns=>if oG ns then .ok (.bool (hvE (deE d) ns)) else .no|none=>.no) else .no
 |_=>.no
theorem ll {e:Er} (h:e.Sh) (a:oK ns):cV [e.d,.list (ns.map PyData.int)]=.ok (.bool (hvE e ns)):=by unfold cV;simp only[nZ h,if_true,fu,yk,su.mpr a]
theorem jG (ns:List Int):aC (.list (ns.map PyData.int))=true:=by
 induction ns with
 |nil=>rfl
 |cons a r ih =>
  have:aC (.list (PyData.int a::r.map PyData.int))=aC (.list (r.map PyData.int)):=by simp[aC,cN]
  rw[L4,this];exact ih
theorem DK (cs:Cs):LLq (kP cs aK bQ) 2 0 cV:=by
 intro ds hl a;obtain⟨d,xs,i,g⟩:=DP a;clear a;subst i;have a:=g;clear g
 ·skip
  split at a
  ·rename_i hd;split at a
   ·rename_i ns j;split at a
    ·rename_i l;have f:=eI j;subst f;obtain⟨e1,sh⟩:=vI hd;have R:=su.mp l;rw[<-e1,ll sh R];generalize deE d=e at *;show bh (kP cs aK bQ [some e.d,some (.list (ns.map PyData.int))])=_;have m:kM "list" (.list (ns.map PyData.int))=some (.bool true):=by unfold kM;rw[if_pos (jG ns)];rfl
     have hc:a9 2 (bT (af 1)) bS (aq aK (ae (af 2) (ae (gC (.int 0)) (ae (gC (.int 9999)) ah)))) aO [some e.d,some (.list (ns.map PyData.int))]=.ok ((ns.map PyData.int).map λd=>.bool (isWhole d 0 9999)) :=
      cT rfl rfl (by have:=R.few;rw[L5];omega) λd b=>by obtain⟨c,hc,rfl⟩:=LA.mp b;simp only[bB,aA,aH,M6,M4,ao,au,cy,Rs.ag];exact uP rfl
     have h:=iJ (λd=>isWhole d 0 9999) (ns.map PyData.int);have ha:(ns.map PyData.int).all (λd=>isWhole d 0 9999)=true:=by rw[LD];intro d b;obtain⟨c,hc,rfl⟩:=LA.mp b;have h1:=R.lo c hc;have h2:=R.hi c hc;simp[isWhole,h1,h2]
     rw[ha]at h;have hn:¬ ((60:Int)<((ns.map PyData.int).length:Int)):=by have:=R.few;rw[L5];omega
     unfold kP;simp only[aQ,cG,yP,ph,dH,gQ,bK,fV,aA,aH,ao,au,cy,Rs.ag,m,Rs.ai,br,jC,EC,Bool.not_true,LR,if_false,decide_eq_false hn,az,fD,bU,wM,nH,hc,h,bB,gP sh,if_true,bc]
    ·exact absurd rfl a
   ·exact absurd rfl a
  ·exact absurd rfl a
inductive Fa2 {α β:Type} (R:α->β->Prop):List α->List β->Prop where
 |nil:Fa2 R [] []
 |cons {a:α} {b:β} {l:List α} {m:List β} (h:R a b) (t:Fa2 R l m):Fa2 R (a::l) (b::m)
def cnd (es:List Er) (rs:List Int) (pl:Int) (t:Int):Bool:=match bj es rs t with
 |some h=>decide (h<=pl)
 |none=>false
def vm (c:Int->Bool) (acc:Int) (p:Int×Option Int):Int:=match p.2 with
 |some t=>if c t then max acc (p.1-1) else acc
 |none=>acc
theorem vW (es:List Er) (rs:List Int) (pl:Int):iy es rs pl=vm (cnd es rs pl):=by
 funext acc p;unfold iy vm cnd;cases p.2 with
 |none=>rfl
 |some t =>
  simp only;cases bj es rs t with
  |none=>rfl
  |some h=>simp
theorem AZ {c:Int->Bool} {acc M:Int}:vm c acc p<=M↔acc<=M/\∀t,p.2=some t->c t=true->p.1-1<=M:=by
 unfold vm;rcases hp:p.2 with _|t
 ·simp
 ·simp only;cases hc:c t with
  |false=>simp[hc]
  |true =>
   simp only[if_true];constructor
   ·intro h;refine⟨by omega,λu a _=>by cases a;omega⟩
   ·rintro⟨h1,h2⟩
    have:=h2 t rfl hc;omega
theorem wz {c:Int->Bool} {M:Int}:∀(l:List (Int×Option Int)) (acc:Int),l.foldl (vm c) acc<=M↔acc<=M/\∀p∈l,∀t,p.2=some t->c t=true->p.1-1<=M
 |[],acc=>by simp
 |p::l,acc=>by
  rw[N6,wz l,AZ];constructor
  ·rintro⟨⟨h1,h2⟩,b⟩
   exact⟨h1,λq a=>(L7.mp a).elim (λz=>by rw[z];exact h2) (b q)⟩
  ·rintro⟨h1,h2⟩
   exact⟨⟨h1,h2 p L6⟩,λq a=>h2 q (L3 _ a)⟩
theorem qp (es:List Er) (t:Int):∀(rs:List Int) (k:Int) (j:Nat),(∃h,hts es rs k t=some h/\h<=k+j)↔∃m∈rs.take (j+1),(b9 es m).has t=true
 |[],k,j=>by simp[hts]
 |r::rs,k,j=>by
  unfold hts;rw[MO];by_cases hr:(b9 es r).has t=true
  ·rw[if_pos hr];exact⟨λ_=>⟨r,L6,hr⟩,λ_=>⟨k,rfl,by omega⟩⟩
  ·rw[if_neg hr];cases j with
   |zero =>
    have lo:∀(rs:List Int) (k:Int) h,hts es rs k t=some h->k<=h:=by
     intro rs
     induction rs with
     |nil=>intro k h e;cases e
     |cons a l c =>
      intro k h e;unfold hts at e;split at e
      ·cases e;exact MJ _
      ·have:=c _ _ e;omega
    constructor
    ·rintro⟨h,e,hl⟩
     have:=lo rs (k+1) h e;omega
    ·rintro⟨m,hm,b⟩
     simp at hm;subst hm;exact absurd b hr
   |succ j =>
    have c:=qp es t rs (k+1) j;constructor
    ·rintro⟨h,e,hl⟩
     obtain⟨m,hm,b⟩:=c.mp ⟨h,e,by omega⟩;exact⟨m,L3 _ hm,b⟩
    ·rintro⟨m,hm,b⟩
     rcases L7.mp hm with z|z
     ·rw[z]at b;exact absurd b hr
     ·obtain⟨h,e,hl⟩:=c.mpr ⟨m,z,b⟩;exact⟨h,e,by omega⟩
theorem yI {pl:Nat} {t:Int}:cnd es rs (pl:Int) t=true↔∃m∈rs.take (pl+1),(b9 es m).has t=true:=by
 rw[<-qp es t rs 0 pl];unfold cnd bj;cases hts es rs 0 t with
 |none=>simp
 |some h=>simp
def v5 (es:List Er) (a:List Int):List (Int×Option Int):=(a.map λm=>(b9 es m).parts).flatten
theorem yY {b:List Int}:p∈v5 es b↔∃m∈b,p∈(b9 es m).parts:=by
 unfold v5;rw[List.mem_flatten];constructor
 ·rintro⟨l,hl,a⟩
  obtain⟨m,hm,rfl⟩:=LA.mp hl;exact⟨m,hm,a⟩
 ·rintro⟨m,hm,a⟩
  exact⟨_,LA.mpr ⟨m,hm,rfl⟩,a⟩
theorem AM {n M:Int}:cw es rs n<=M↔0<=M/\∀m∈rs.drop (placeOf rs n+1),∀p∈(b9 es m).parts,∀t,p.2=some t->(∃u∈rs.take (placeOf rs n+1),(b9 es u).has t=true)->p.1-1<=M:=by
 unfold cw;rw[vW,wz];constructor
 ·rintro⟨h1,h2⟩
  exact⟨h1,λm hm p a t b c=>h2 p (yY.mpr ⟨m,hm,a⟩) t b (yI.mpr c)⟩
 ·rintro⟨h1,h2⟩
  refine⟨h1,λp a t b hc=>?_⟩;obtain⟨m,hm,a⟩:=yY.mp a;exact h2 m hm p a t b (yI.mp hc)
section
variable {A B:List Int} {x y:Int}
end
theorem lT {n:Int} (h:n∈rs):rs[placeOf rs n]?=some n:=by have lt:=pD h;rw[L0 lt];have a:(rs[placeOf rs n]==n)=true:=List.findIdx_getElem (p:=(·==n)) (xs:=rs) (w:=lt);rw[beq_iff_eq.mp a]
section
variable {ot:List Int} {n:Int}
end
theorem mJ:∀{ds:List PyData},(∀d∈ds,aC d=true)->cN ds=true
 |[],_=>by unfold cN;rfl
 |d::r,h=>by unfold cN;rw[h d L6,mJ λe a=>h e (L3 _ a)];rfl
theorem gG (h:∀d∈ds,aC d=true):aC (.tuple ds)=true:=by unfold aC;exact mJ h
theorem eJ (h:∀d∈ds,aC d=true):aC (.list ds)=true:=by unfold aC;exact mJ h
theorem gz (i:Int):aC (.int i)=true:=by unfold aC;rfl
theorem sv (o:Option Int):aC (bz o)=true:=by cases o <;> (unfold bz aC;rfl)
theorem xE (p:Int×Option Int):aC (aN p)=true:=gG λd hd=>by
 rcases L7.mp hd with rfl|hd
 ·exact gz _
 ·cases Lx.mp hd;exact sv _
theorem DD (e:Er):aC e.d=true:=gG λd hd=>by
 rcases L7.mp hd with rfl|hd
 ·exact gz _
 ·rcases L7.mp hd with rfl|hd
  ·exact gz _
  ·rcases L7.mp hd with rfl|hd
   ·exact gz _
   ·cases Lx.mp hd;exact gG λd hd=>by obtain⟨p,_,rfl⟩:=LA.mp hd;exact xE p
theorem rh (es:List Er):aC (ax es)=true:=gG λd hd=>by obtain⟨p,_,rfl⟩:=LA.mp hd;exact DD p
theorem ky (rs:List Int):∀d∈rs.map PyData.int,aC d=true:=λd hd=>by obtain⟨p,_,rfl⟩:=LA.mp hd;exact gz p
theorem oa (rs:List Int):aC (ar rs)=true:=gG (ky rs)
end RS
namespace RS
open PySem PySem.Spec PyProof.Rows L2
section
theorem uA {xs:List α} {k:Int} {v:α} (a:0<=k) (h:xs[k.toNat]?=some v):atI xs k=some v:=by
 have:=nM h
 rwa[MN a]at this
theorem depthAll_ints:∀ns:List Int,PyData.depthAll (ns.map PyData.int)<=1
 |[]=>by simp[PyData.depthAll]
 |n::r=>by have:=depthAll_ints r;simp only[L4,PyData.depthAll,PyData.depth];omega
theorem nA:∀ns:List Int,PyData.canLayAll0 (ns.map PyData.int)=true
 |[]=>by simp[PyData.canLayAll0]
 |n::r=>by simp[PyData.canLayAll0,PyData.canLay0,nA r]
theorem shaped_ints (ns:List Int):SeqAt.shaped (.list (ns.map PyData.int))=true:=by
 have:=depthAll_ints ns;have h2:(PyData.list (ns.map PyData.int)).depth<=64:=by simp only[PyData.depth];omega
 simp[SeqAt.shaped,PyData.canLay0,nA,h2]
theorem xp:SeqAt.shaped (.list [])=true:=shaped_ints []
theorem BG:∀ns:List Int,PyData.eqv (.list (ns.map PyData.int)) (.list [])=decide (ns=[])
 |[]=>by simp[PyData.eqv,PyData.eqvAll]
 |_::_=>by simp[PyData.eqv,PyData.eqvAll]
def Bx (K:PySem.W.Frag):Sp:=λvs H Q _=>∃(a:Addr) (ns:List Int) (k:Int),vs=[.ref a,.int k]/\SqL K H a (ns.map V.int)/\0<=k/\∀H',av H H'->Q (.int (cellAt ns k)) H'
def Gn (K:PySem.W.Frag):Sp:=λvs H Q _=>∃(a:Addr) (ns:List Int) (k many:Int),vs=[.ref a,.int k,.int many]/\SqL K H a (ns.map V.int)/\0<=k/\0<many/\∀H',av H H'->Q (.int (mixed ns k many)) H'
theorem FP (ds:List PyData) (hl:ds.length=3) (b:ak ds≠.no):∃d,ak ds=.ok d/\fO d=true/\∀vs H Q,Iss K H ds vs->(∀v H',av H H'->IsD K H' d v->Q v H')->Gn K vs H Q E0:=by
 obtain⟨s,k,many,e,c⟩:=nX b;clear b;subst e;have b:=c;clear c
 ·skip
  split at b
  ·rename_i ns f;have es:=hU f;subst es;split at b
   ·rename_i hc;refine⟨_,cA hc.1 hc.2,rfl,λvs H Q hi g=>?_⟩;obtain⟨v0,r0,rfl,h,v1,r1,rfl,h1,v2,r2,rfl,h2,rfl⟩:=hi;obtain⟨a,rfl,i⟩:=h.ofScript;rw[h1.ofInt,h2.ofInt];exact⟨a,ns,k,many,rfl,i,hc.1,hc.2,λH' s'=>g _ _ s' uq⟩
   ·exact absurd rfl b
  ·exact absurd rfl b
end
end RS
namespace RS
open PySem L2
def okIn (d r:PyData):Bool:=c8 d&&dG (dk d).length r
def okN (d r:PyData) (n:Int):Bool:=okIn d r&&decide (0<=n)&&decide (n<(dk d).length)
def fA:Gf
 |[d,r,.int n]=>if okN d r n then .ok (.int (cw (dk d) (cM r) n)) else .no
 |_=>.no
section
variable {n:Int}
theorem F6 (h1:1<=es.length) (h2:es.length<=6) (h:∀e∈es,e.Ok) (a:dQ es.length rs):okIn (ax es) (ar rs)=true:=by unfold okIn;rw[lq h1 h2 h,ie,gH a];rfl
theorem A6 (h1:1<=es.length) (h2:es.length<=6) (h:∀e∈es,e.Ok) (a:dQ es.length rs) (n0:0<=n) (n1:n<es.length):okN (ax es) (ar rs) n=true:=by unfold okN;rw[F6 h1 h2 h a,ie];simp[n0,n1]
theorem n9 (h1:1<=es.length) (h2:es.length<=6) (h:∀e∈es,e.Ok) (a:dQ es.length rs) (n0:0<=n) (n1:n<es.length):fA [ax es,ar rs,.int n]=.ok (.int (cw es rs n)):=by unfold fA;simp only[A6 h1 h2 h a n0 n1,if_true,ie,iq]
end
theorem mW {cond:Ds->Rs Bool} {elt:Ds->Rs PyData} {δ:Ds} {p:PyData->Bool}:∀(ds:List PyData),(∀d∈ds,cond (δ++[some d])=.ok (p d)/\elt (δ++[some d])=.ok d)->eM cond elt aO δ ds=.ok (ds.filter p)
 |[],_=>rfl
 |d::r,h=>by
  obtain⟨h1,h2⟩:=h d L6;have a:=mW r λe b=>h e (L3 _ b)
  unfold eM;cases hp:p d with
  |true=>simp only[aO,h1,hp,Rs.dm,Rs.ag,if_true,h2,a,MM]
  |false=>simp only[aO,h1,hp,Rs.dm,Rs.ag,if_false,LR,a,MM]
theorem f9 {elt:Ds->Rs PyData} {p:PyData->Bool} (hn:δ.length=n0) (a:src δ=.ok ds) (hl:ds.length<=1000000) (h:∀d∈ds,cond (δ++[some d])=.ok (p d)/\elt (δ++[some d])=.ok d) :
  a9 n0 src cond elt aO δ=.ok (ds.filter p):=by
 unfold a9;rw[if_pos hn,a];simp only[Rs.ag,if_pos hl];exact mW ds h
theorem Be (ns:List Int) (a top:Int) (ha:0<=a) (g:0<top) (b:top<=58):∃es rs,nJ ns a 4 top true=es/\1<=es.length/\es.length<=4/\(∀e∈es,e.Ok)/\dQ es.length rs/\bx [aj ns,.int a,.int 4,.int top,.bool true]=.ok (ax es)/\bX [aj ns,.int 0,.int (es.length:Int)]=.ok (ar rs):=by have hl:=BV ns a 4 top true (by decide);have hok:=EY ns a 4 top true g b;have f:bx [aj ns,.int a,.int 4,.int top,.bool true]=.ok (ax (nJ ns a 4 top true)):=g0 ha (by decide) (by decide) g b;generalize nJ ns a 4 top true=es at *;have c:=jj (ns:=ns) (a:=0) (many:=(es.length:Int)) (by decide) (by omega) (by omega);rw[LV]at c;exact⟨es,_,rfl,hl.1,by omega,hok,wH ns 0 es.length,f,c⟩
theorem JK (es:List Er):bM [ax es]=some (.int (es.length:Int)):=by unfold ax;rw[tU,L5]
theorem lawT_of {G:Ds->Sr} {k:Nat} (h:∀ns:List Int,G (some (aj ns)::List.replicate k none)=.rt (.bool true)):∀ds,ds.length=1->fG n ds≠.no->bh (G (ds.map some++List.replicate k none))=fG n ds:=by
 intro ds hl a
 match ds,hl with
 |[s],_ =>
  unfold fG at a ⊢;simp only at a ⊢;split at a
  ·rename_i ns b;have es:=hU b;subst es;split at a
   ·rename_i hc;simp only[ft,if_pos hc];show bh (G (some (aj ns)::List.replicate k none))=_;rw[h];rfl
   ·exact absurd rfl a
  ·exact absurd rfl a
def bu (cs:Cs):Gf
 |[.tuple es,x]=>if aC x then (if isWhole x 0 ((es.length:Int)-1) then .ok x else .rz cs.NoErrand) else .no
 |_=>.no
theorem lR (cs:Cs):LLq (dY cs aK) 2 0 (bu cs):=by
 intro ds hl a;obtain⟨es,x,c,b⟩:=Df a;clear a;subst c;have a:=b;clear b;unfold bu
 ·skip
  split at a
  ·rename_i hd;simp only[hd,if_true];cases e:isWhole x 0 ((es.length:Int)-1) with
   |true=>simp[dY,hd,e]
   |false=>simp[dY,hd,e]
  ·exact absurd rfl a
theorem rG {d r:PyData} {n:Int} (h:okN d r n=true):∃es rs,d=ax es/\r=ar rs/\dk d=es/\cM r=rs/\1<=es.length/\es.length<=6/\(∀e∈es,e.Ok)/\dQ es.length rs/\0<=n/\n<es.length:=by unfold okN okIn at h;simp only[L8,decide_eq_true_eq]at h;obtain⟨⟨⟨c1,a⟩,n0⟩,n1⟩:=h;obtain⟨e1,l1,l6,hok⟩:=xu c1;obtain⟨e2,b⟩:=k9 a;exact⟨dk d,cM r,e1.symm,e2.symm,rfl,rfl,l1,l6,hok,b,n0,n1⟩
theorem hW (cs:Cs) (h1:1<=es.length) (h2:es.length<=6) (h:∀e∈es,e.Ok):bf cs [ax es]=.ok (ax es):=by unfold bf;simp[rh,lq h1 h2 h]
theorem f6 (cs:Cs) (h2:es.length<=6) (a:dQ es.length rs):aV cs [ax es,ar rs]=.ok (ar rs):=by unfold ax aV;simp only[L5,oa,gH a,Ng,if_true];rw[if_pos (by simp;omega)]
theorem jm {n:Int} (cs:Cs) (n0:0<=n) (n1:n<es.length):bu cs [ax es,.int n]=.ok (.int n):=by unfold ax bu;simp only[gz,if_true,L5,isWhole];rw[if_pos (by simp;omega)]
def cg:Gf
 |[d,r,.int n]=>if okN d r n then .ok .none else .no
 |_=>.no
theorem gZ {n:Int} (h1:1<=es.length) (h2:es.length<=6) (h:∀e∈es,e.Ok) (a:dQ es.length rs) (n0:0<=n) (n1:n<es.length):cg [ax es,ar rs,.int n]=.ok .none:=by unfold cg;simp only[A6 h1 h2 h a n0 n1,if_true]
theorem qG (cs:Cs):LLq (fE cs (bu cs) (aV cs) (bf cs)) 3 0 cg:=by
 intro ds hl a;obtain⟨d,r,n,e,b⟩:=lC a;clear a;subst e;have a:=b;clear b
 ·skip
  split at a
  ·rename_i hc;obtain⟨es,rs,rfl,rfl,_,_,l1,l6,hok,c,n0,n1⟩:=rG hc;rw[gZ l1 l6 hok c n0 n1];show bh (fE cs (bu cs) (aV cs) (bf cs) [some (ax es),some (ar rs),some (.int n)])=_;simp[fE,hW cs l1 l6 hok,f6 cs l6 c,jm cs n0 n1]
  ·exact absurd rfl a
def de (r:List Int):PyData:=.list (r.map PyData.int)
def cmD (rows:List (List Int)):PyData:=.list (rows.map de)
inductive Cms:List Er->List (List Int)->Prop
 |nil:Cms [] []
 |cons {e:Er} {r:List Int} {es:List Er} {rows:List (List Int)}:oK r->hvE e r=true->Cms es rows->Cms (e::es) (r::rows)
theorem Cms.len (h:Cms es rows):rows.length=es.length:=by
 induction h with
 |nil=>rfl
 |cons _ _ _ ih=>simp[ih]
theorem Cms.oG (h:Cms es rows):∀r∈rows,oK r:=by
 induction h with
 |nil=>intro r a;cases a
 |cons a _ _ ih =>
  intro b h';rcases L7.mp h' with rfl|h'
  ·exact a
  ·exact ih b h'
structure v8 (es:List Er):Prop where
 l1:1<=es.length
 l6:es.length<=6
 ok:∀e∈es,e.Ok
open Classical in
def bg (cs:Cs):Gf:=λds=>if ∃es rows,v8 es/\Cms es rows/\ds=[ax es,cmD rows] then .ok (ds.getD 1 .none) else .no
theorem fj (h:v8 es) (c:Cms es rows):bg cs [ax es,cmD rows]=.ok (cmD rows):=by unfold bg;rw[if_pos ⟨es,rows,h,c,rfl⟩];rfl
theorem Cu {δ:Ds} (f:δ.length=2):∀{es:List Er} {rows:List (List Int)},Cms es rows->(∀e∈es,e.Sh)->eM bS (aq cV (ae (af 2) (ae (af 3) ah))) jL δ (qS (es.map Er.d) (rows.map de))=.ok (rows.map λ_=>.bool true)
 |_,_,.nil,_=>rfl
 |_,_,.cons (e:=e) (r:=r) (es:=es) (rows:=rows) hr hv c,hs=>by
  obtain⟨a,b,rfl⟩:∃a b,δ=[a,b]:=by
   match δ,f with
   |[a,b],_=>exact⟨a,b,rfl⟩
  have g:=Cu f c λx h=>hs x (L3 _ h)
  show eM _ _ _ _ (PyData.tuple [e.d,de r]::qS (es.map Er.d) (rows.map de))=_;unfold eM;rw[show jL (PyData.tuple [e.d,de r])=some [some e.d,some (de r)] from rfl];have i:aq cV (ae (af 2) (ae (af 3) ah)) ([a,b]++[some e.d,some (de r)])=.ok (.bool true):=by simp only[bB,aA,aH,M6,M4,ao,au,Rs.ag];rw[show de r=.list (r.map PyData.int) from rfl,ll (hs e L6) hr,hv]
  simp only[bS,Rs.dm,Rs.ag,if_true,i,g,L4]
theorem pP (rows:List (List Int)):aC (cmD rows)=true:=by
 unfold cmD
 induction rows with
 |nil=>rfl
 |cons a r ih =>
  have h1:=jG a;have:aC (.list (de a::r.map de))=(aC (de a)&&aC (.list (r.map de))):=by simp[aC,cN]
  rw[L4,this,ih];simp only[MY];exact h1
theorem kR (cs:Cs):LLq (dF cs cV (bf cs)) 2 0 (bg cs):=by
 intro ds hl a;by_cases h:∃es rows,v8 es/\Cms es rows/\ds=[ax es,cmD rows]
 ·obtain⟨es,rows,ok,c,rfl⟩:=h;rw[fj ok c];have k1:=hW cs ok.l1 ok.l6 ok.ok;have j:kM "list" (cmD rows)=some (.bool true):=by unfold kM;rw[if_pos (pP rows)];rfl
  have hn:dNe (.int ((rows.map de).length:Int)) (.int ((es.map Er.d).length:Int))=some (.bool false):=by have:=c.len;rw[L5,L5,this,Kw];simp
  have l:a9 2 (E1 (ae (af 0) (ae (af 1) ah))) bS (aq cV (ae (af 2) (ae (af 3) ah))) jL [some (ax es),some (cmD rows)]=.ok (rows.map λ_=>.bool true):=by
   unfold a9;rw[if_pos (show [some (ax es),some (cmD rows)].length=2 from rfl)];have m:E1 (ae (af 0) (ae (af 1) ah)) [some (ax es),some (cmD rows)]=.ok (qS (es.map Er.d) (rows.map de)):=by show (if (rows.map de).length=(es.map Er.d).length then Rs.ok (qS (es.map Er.d) (rows.map de)) else Rs.no)=_;exact if_pos (by rw[L5,L5];exact c.len)
   rw[m];simp only[Rs.ag];rw[if_pos (by unfold qS;rw[List.length_zipWith,L5,L5];have:=ok.l6;omega)];exact Cu rfl c λe n=>(ok.ok e n).sh
  have i:=iJ (λ_:List Int=>true) rows;have ha:rows.all (λ_=>true)=true:=by rw[LD];intros;rfl
  rw[ha]at i;have b:a9 2 (bT (af 1)) bS (gF vR (ae (af 2) ah)) aO [some (ax es),some (cmD rows)]=.ok ((rows.map de).map id) :=
   cT rfl rfl (by have:=c.len;have:=ok.l6;rw[L5];omega) λd f=>by obtain⟨r,hr,rfl⟩:=LA.mp f;rfl
  show bh (dF cs cV (bf cs) [some (ax es),some (cmD rows)])=_;unfold dF;have g:bM [cmD rows]=some (.int ((rows.map de).length:Int)):=rfl;have hle:bM [ax es]=some (.int ((es.map Er.d).length:Int)):=rfl;simp only[aQ,tI,bB,aA,aH,ao,au,Rs.ag,k1,az,cG,yP,ph,dH,gQ,bK,fV,j,Rs.ai,br,g,hle,hn,Bool.not_true,LR,if_false,fD,nH,l,i,bU,b,Mf,bc];rfl
 ·exfalso;apply a;unfold bg;rw[if_neg h]
structure Jb where
 num:Int
 parts:List (Int×Option Int)
 rank:Int
 row:List Int
 job:Nat
 part:Nat
 spent:Nat
variable {key:Jb->PyData} {js:List Jb} {q p:Addr×Jb} {s:List Jb×List PyData} {ts:List (Addr×Jb)} {j:Jb}
def Jb.fds (j:Jb):List (Str×PyData):=[("number",.int j.num),("parts",.tuple (j.parts.map aN)),("rank",.int j.rank),("row",de j.row),("job",.int j.job),("part",.int j.part),("spent",.int j.spent)]
def Jb.d (C a:Addr) (j:Jb):PyData:=ck C a j.fds
theorem kH {f:Str} {r:List (Str×PyData)} (h:("@":Str)≠f):bq C f (ck C a r)=jh f (r.map λp=>(.str p.1,p.2)):=by show (if ("":Str)=""/\(C:Int)=(C:Int) then (if ("@":Str)=f then some (PyData.int (a:Int)) else jh f (r.map λp=>(.str p.1,p.2))) else none)=_;rw[if_pos ⟨rfl,rfl⟩,if_neg h]
section
theorem xa:bq C "number" (j.d C a)=some (.int j.num):=by unfold Jb.d;rw[kH (by decide)];rfl
theorem lP:bq C "parts" (j.d C a)=some (.tuple (j.parts.map aN)):=by unfold Jb.d;rw[kH (by decide)];rfl
theorem nW:bq C "rank" (j.d C a)=some (.int j.rank):=by unfold Jb.d;rw[kH (by decide)];rfl
theorem xG:bq C "row" (j.d C a)=some (de j.row):=by unfold Jb.d;rw[kH (by decide)];rfl
theorem ur:bq C "job" (j.d C a)=some (.int j.job):=by unfold Jb.d;rw[kH (by decide)];rfl
theorem nV:bq C "part" (j.d C a)=some (.int j.part):=by unfold Jb.d;rw[kH (by decide)];rfl
theorem jx:bq C "spent" (j.d C a)=some (.int j.spent):=by unfold Jb.d;rw[kH (by decide)];rfl
end
def gfG (n k:Nat) (G:Ds->Sr):Gf:=λds=>if ds.length=n then bh (G (ds.map some++List.replicate k none)) else .no
theorem iK {k:Nat} {G:Ds->Sr}:∀ds,ds.length=n->gfG n k G ds≠.no->bh (G (ds.map some++List.replicate k none))=gfG n k G ds:=by intro ds hl _;unfold gfG;rw[if_pos hl]
def aU (cs:Cs):Gf:=gfG 1 0 (dB cs)
def aJ (cs:Cs):Gf:=gfG 1 0 (eu cs)
def aR (cs:Cs):Gf:=gfG 1 0 (fP cs)
def aM (cs:Cs):Gf:=gfG 2 0 (dz cs)
theorem vq:aU cs [j.d cs.Jobs a]=.ok (.bool ((j.job:Int)==(j.row.length:Int))):=by
 have hl:bM [de j.row]=some (.int (j.row.length:Int)):=by unfold de;rw[jC,L5]
 show bh (dB cs [some (j.d cs.Jobs a)])=_;unfold dB;simp only[bU,bK,gQ,ao,Rs.ag,ur,xG,Rs.ai,fV,aA,aH,hl,jE,az,bc]
def Jb.tool (j:Jb):Option Int:=(j.parts[j.part]?.map (·.2)).getD none
theorem uC {p:Int×Option Int} (h:j.parts[j.part]?=some p):dIx (.tuple (j.parts.map aN)) (.int (j.part:Int))=some (aN p):=by rw[Cc];exact nM (by rw[LG,h];rfl)
theorem part1 (p:Int×Option Int):dIx (aN p) (.int 1)=some (bz p.2):=rfl
theorem sL (h:j.part<j.parts.length):aJ cs [j.d cs.Jobs a]=.ok (bz (if j.spent=0 then j.tool else none)):=by
 show bh (eu cs [some (j.d cs.Jobs a)])=_;unfold eu;have b:j.parts[j.part]?=some j.parts[j.part]:=L0 h;have c:j.tool=j.parts[j.part].2:=by unfold Jb.tool;rw[b];rfl
 by_cases z:j.spent=0
 ·have e:((j.spent:Int)==0)=true:=by rw[z];rfl
  rw[if_pos z,c];simp only[bU,gIf,dH,bK,gQ,ao,cy,Rs.ag,jx,lP,nV,Rs.ai,jE,e,br,if_true,uC b,part1,az,bc]
 ·have e:((j.spent:Int)==0)=false:=by rw[beq_eq_false_iff_ne];omega
  rw[if_neg z];simp only[bU,gIf,dH,bK,gQ,ao,cy,Rs.ag,jx,Rs.ai,jE,e,br,LR,if_false,az,bc];rfl
theorem yR (h:j.part<j.parts.length):aR cs [j.d cs.Jobs a]=.ok (bz (if j.spent=0 then none else j.tool)):=by
 show bh (fP cs [some (j.d cs.Jobs a)])=_;unfold fP;have b:j.parts[j.part]?=some j.parts[j.part]:=L0 h;have c:j.tool=j.parts[j.part].2:=by unfold Jb.tool;rw[b];rfl
 by_cases z:j.spent=0
 ·have e:decide ((0:Int)<(j.spent:Int))=false:=by rw[z];rfl
  rw[if_pos z];simp only[bU,gIf,dH,bK,gQ,ao,cy,Rs.ag,jx,Rs.ai,EC,e,br,LR,if_false,az,bc];rfl
 ·have e:decide ((0:Int)<(j.spent:Int))=true:=by rw[decide_eq_true_eq];omega
  rw[if_neg z,c];simp only[bU,gIf,dH,bK,gQ,ao,cy,Rs.ag,jx,lP,nV,Rs.ai,EC,e,br,if_true,uC b,part1,az,bc]
def Jb.there (j:Jb) (t:Int):Bool:=match j.row[j.job]? with
 |some c=>decide (c<=t)
 |none=>false
theorem vE {t:Int} (h:j.job<=j.row.length):aM cs [j.d cs.Jobs a,.int t]=.ok (.bool (j.there t)):=by
 have hl:bM [de j.row]=some (.int (j.row.length:Int)):=by unfold de;rw[jC,L5]
 show bh (dz cs [some (j.d cs.Jobs a),some (.int t)])=_;unfold dz Jb.there;by_cases z:j.job<j.row.length
 ·have b:j.row[j.job]?=some j.row[j.job]:=L0 z;have e:decide ((j.job:Int)<(j.row.length:Int))=true:=by rw[decide_eq_true_eq];omega
  have c:dIx (de j.row) (.int (j.job:Int))=some (.int j.row[j.job]):=by show atI (j.row.map PyData.int) _=_;exact nM (by rw[LG,b];rfl)
  rw[b];simp only[bU,wM,bK,gQ,ao,au,Rs.ag,ur,xG,Rs.ai,fV,aA,aH,hl,BH,e,br,if_true,c,K5,az,bc]
 ·have b:j.row[j.job]?=none:=Mq (by omega);have e:decide ((j.job:Int)<(j.row.length:Int))=false:=by rw[decide_eq_false_iff_not];omega
  rw[b];simp only[bU,wM,bK,gQ,ao,au,Rs.ag,ur,xG,Rs.ai,fV,aA,aH,hl,BH,e,br,LR,if_false,az,bc]
def jD (C:Addr) (p:Addr×Jb):PyData:=p.2.d C p.1
def Jb.held (j:Jb):Option Int:=if j.spent=0 then none else j.tool
def Jb.wanted (j:Jb):Option Int:=if j.spent=0 then j.tool else none
def holdsT (t:Int) (p:Addr×Jb):Bool:=p.2.held==some t
theorem eq_none_int (x:Int):dEq .none (.int x)=some (.bool false):=by
 have h:PySem.SeqAt.shaped (.int x)=true:=by simp[PySem.SeqAt.shaped,PyData.canLay0,PyData.depth]
 unfold dEq;rw[h];simp[aC,PyData.eqv]
 first|done|rfl|decide
theorem Hx (o:Option Int) (t:Int):dEq (bz o) (.int t)=some (.bool (o==some t)):=by
 cases o with
 |none=>exact eq_none_int t
 |some i=>rw[show bz (some i)=.int i from rfl,jE];simp
theorem tw {m:Str} (h1:("@":Str)≠m) (h:je m (j.fds.map λp=>(.str p.1,p.2))=true):isC C m (j.d C a)=true:=by
 show (decide (("":Str)="")&&decide ((C:Int)=(C:Int))&&je m ((.str "@",.int (a:Int))::(j.fds.map λp=>(.str p.1,p.2))))=true;have:je m ((.str "@",.int (a:Int))::(j.fds.map λp=>(PyData.str p.1,p.2)))=true:=by unfold je;simp only[h,MY];simpa using h1
 rw[this];simp
theorem vg:isC C "held" (j.d C a)=true:=tw (by decide) rfl
theorem oW:isC C "wanted" (j.d C a)=true:=tw (by decide) rfl
theorem uu:isC C "are_done" (j.d C a)=true:=tw (by decide) rfl
theorem tD:isC C "is_there" (j.d C a)=true:=tw (by decide) rfl
def bG (cs:Cs):Gf:=gfG 2 1 (jA cs (aR cs))
def jo (C:Addr) (ts:List (Addr×Jb)) (tool:Option Int):PyData:=match tool with
 |none=>.none
 |some t=>match ts.find? (holdsT t) with
  |none=>.none
  |some p=>jD C p
theorem nu {cs:Cs} {t:Int} {X:PyData}:∀(ts:List (Addr×Jb)) (x2:Option PyData),(∀p∈ts,p.2.part<p.2.parts.length) ->
   (∃p,ts.find? (holdsT t)=some p/\forL (bE 2) (sIf (gT (g2 dEq (bp cs.Jobs "held" (aR cs) (af 2) ah) (af 1))) (bo (af 2)) aY) (ts.map (jD cs.Jobs)) [some X,some (.int t),x2]=.rt (jD cs.Jobs p))
  \/(ts.find? (holdsT t)=none/\∃δ,forL (bE 2) (sIf (gT (g2 dEq (bp cs.Jobs "held" (aR cs) (af 2) ah) (af 1))) (bo (af 2)) aY) (ts.map (jD cs.Jobs)) [some X,some (.int t),x2]=.nx δ)
 |[],x2,_=>.inr ⟨rfl,_,rfl⟩
 |p::r,x2,h=>by
   have h1:bE 2 (jD cs.Jobs p) [some X,some (.int t),x2]=some [some X,some (.int t),some (jD cs.Jobs p)]:=rfl;have hm:bp cs.Jobs "held" (aR cs) (af 2) ah [some X,some (.int t),some (jD cs.Jobs p)]=.ok (bz p.2.held):=by unfold bp;simp only[ao,au,Rs.ag];rw[if_pos (show isC cs.Jobs "held" (jD cs.Jobs p)=true from vg)];simp only[aH,Rs.ag];exact yR (h p L6)
   have hc:gT (g2 dEq (bp cs.Jobs "held" (aR cs) (af 2) ah) (af 1)) [some X,some (.int t),some (jD cs.Jobs p)]=.ok (holdsT t p):=by simp only[dH,bK,hm,ao,au,Rs.ag,Hx,Rs.ai,br];rfl
   rw[L4];unfold forL;rw[h1];cases z:holdsT t p with
   |true =>refine .inl ⟨p,by rw[List.find?_cons_of_pos z],?_⟩;simp only[cG,hc,z,az,if_true,bU,ao,au]
   |false =>simp only[cG,hc,z,az,LR,if_false,fD];rw[List.find?_cons_of_neg (by rw[z];exact LK)];exact nu r _ λq a=>h q (L3 _ a)
theorem rR {tool:Option Int} (h:∀p∈ts,p.2.part<p.2.parts.length):bG cs [.list (ts.map (jD cs.Jobs)),bz tool]=.ok (jo cs.Jobs ts tool):=by
 show bh (jA cs (aR cs) [some (.list (ts.map (jD cs.Jobs))),some (bz tool),none])=_;unfold jA jo;cases tool with
 |none=>rfl
 |some t =>
  have hn:gT (g1 jk (af 1)) [some (.list (ts.map (jD cs.Jobs))),some (.int t),none]=.ok false:=rfl;show bh (aE (sIf (gT (g1 jk (af 1))) (bo (gC .none)) aY) (aE (eQ [] (bT (af 0)) (bE 2) (sIf (gT (g2 dEq (bp cs.Jobs "held" (aR cs) (af 2) ah) (af 1))) (bo (af 2)) aY)) (bo (gC .none))) [some (.list (ts.map (jD cs.Jobs))),some (.int t),none])=_;have a:eQ [] (bT (af 0)) (bE 2) (sIf (gT (g2 dEq (bp cs.Jobs "held" (aR cs) (af 2) ah) (af 1))) (bo (af 2)) aY) [some (.list (ts.map (jD cs.Jobs))),some (.int t),none]=forL (bE 2) (sIf (gT (g2 dEq (bp cs.Jobs "held" (aR cs) (af 2) ah) (af 1))) (bo (af 2)) aY) (ts.map (jD cs.Jobs)) [some (.list (ts.map (jD cs.Jobs))),some (.int t),none]:=rfl;simp only[aQ,cG,hn,az,LR,if_false,fD,a];rcases nu (cs:=cs) (t:=t) (X:=.list (ts.map (jD cs.Jobs))) ts none h with⟨p,f1,f2⟩|⟨f1,δ,f2⟩
  ·rw[f1,f2];rfl
  ·rw[f1,f2];rfl
def cp (cs:Cs):Gf:=gfG 1 3 (gu cs (aJ cs) (bG cs))
theorem Eb:jr (jD C q)=some (.bool true):=rfl
def lrB (cs:Cs):Ds->Sr:=(aE (aT [1] 3 (aq (bG cs) (ae (af 0) (ae (bp cs.Jobs "wanted" (aJ cs) (af 2) ah) ah))))
 (sIf (gT (g1 jr (af 3))) (oM 1 (g1 (bq cs.Jobs "number") (af 3)) (gF kj (ae (g1 (bq cs.Jobs "rank") (af 2)) (ae (lI (af 1) (g1 (bq cs.Jobs "number") (af 3)) (g1 (bq cs.Jobs "rank") (af 3))) ah)))) aY))
theorem FV (l:List (Int×Int)) (k v:Int):(xQ l k v).length<=l.length+1:=by unfold xQ;split <;> simp
def bO (cs:Cs):Gf:=gfG 2 1 (bV cs (aR cs))
theorem rF {x y:Option PyData} (h:p.2.part<p.2.parts.length):bp cs.Jobs "held" (aR cs) (af 0) ah [some (jD cs.Jobs p),x,y]=.ok (bz p.2.held):=by unfold bp;simp only[ao,Rs.ag];rw[if_pos (show isC cs.Jobs "held" (jD cs.Jobs p)=true from vg)];simp only[aH,Rs.ag];exact yR h
theorem BC (h:ts≠[]):∃p∈ts,jo C ts p.2.wanted=.none:=by
 by_cases z:∃p∈ts,p.2.spent≠0
 ·obtain⟨p,a,b⟩:=z;refine⟨p,a,?_⟩;unfold Jb.wanted;rw[if_neg b];rfl
 ·have c:∀p∈ts,p.2.spent=0:=λp a=>by
   by_cases q:p.2.spent=0
   ·exact q
   ·exact absurd ⟨p,a,q⟩ z
  obtain⟨p,r,rfl⟩:=MZ h;refine⟨p,L6,?_⟩;unfold jo;cases p.2.wanted with
  |none=>rfl
  |some t =>
   have:(p::r).find? (holdsT t)=none:=by rw[List.find?_eq_none];intro q e;unfold holdsT Jb.held;rw[if_pos (c q e)];exact LK
   simp only[this]
def cB (cs:Cs):Gf:=gfG 3 2 (jB cs (cp cs) (aJ cs) (bG cs) (bO cs))
theorem eq_str {s t:Str} (h1:PySem.SeqAt.shaped (.str s)=true) (h2:PySem.SeqAt.shaped (.str t)=true):dEq (.str s) (.str t)=some (.bool (s==t)):=by unfold dEq;rw[h1,h2];simp[aC,PyData.eqv]
def Bl (cs:Cs) (δ:Ds) (d:PyData):Bool:=match aq (bG cs) (ae (af 0) (ae (bp cs.Jobs "wanted" (aJ cs) (af 5) ah) ah)) (δ++[some d]) with
 |.ok x=>eV x
 |_=>false
theorem yS {x1 x2 x3 x4:Option PyData} (h:∀p∈ts,p.2.part<p.2.parts.length) (a:q∈ts) :
  aq (bG cs) (ae (af 0) (ae (bp cs.Jobs "wanted" (aJ cs) (af 5) ah) ah)) [some (.list (ts.map (jD cs.Jobs))),x1,x2,x3,x4,some (jD cs.Jobs q)]=.ok (jo cs.Jobs ts q.2.wanted):=by
 have h2:bp cs.Jobs "wanted" (aJ cs) (af 5) ah [some (.list (ts.map (jD cs.Jobs))),x1,x2,x3,x4,some (jD cs.Jobs q)]=.ok (bz q.2.wanted):=by unfold bp;simp only[ao,au,Rs.ag];rw[if_pos (show isC cs.Jobs "wanted" (jD cs.Jobs q)=true from oW)];simp only[aH,Rs.ag];exact sL (h q a)
 simp only[bB,aA,aH,ao,h2,Rs.ag];exact rR h
structure uD (s:Str):Prop where
 sh:PySem.SeqAt.shaped (.str s)=true
theorem zt:PySem.SeqAt.shaped (.str "high")=true:=by decide +kernel
theorem BR:PySem.SeqAt.shaped (.str "asked")=true:=by decide +kernel
theorem sY (ps:List (Int×Option Int)):aC (.tuple (ps.map aN))=true:=by
 induction ps with
 |nil=>rfl
 |cons a r ih =>
  have h1:aC (aN a)=true:=by obtain⟨x,o⟩:=a;cases o <;> rfl
  have:aC (.tuple (aN a::r.map aN))=(aC (aN a)&&aC (.tuple (r.map aN))):=by simp[aC,cN]
  rw[L4,this,h1,ih];rfl
theorem Jb.flat (j:Jb):fZ j.fds=true:=by have h1:=sY j.parts;have h2:aC (de j.row)=true:=jG j.row;unfold fZ Jb.fds;simp only[L4,Mr,kL,h1,h2,MY,Ng];rfl
theorem lh:nv [a] C 0 [some (j.d C a)]=some (a,j.fds):=by
 unfold nv;have h1:gm [some (j.d C a)]=true:=by unfold gm Jb.d;simp only[MX,List.all_nil,MY,wa];exact j.flat
 show (match objOf (j.d C a) with|some (c,b,fds)=>if c=C/\b∈[a]/\gm [some (j.d C a)]=true/\fZ fds=true/\fds.length<1000 then some (b,fds) else none|none=>none)=_;unfold Jb.d at *;rw[q9];exact if_pos ⟨rfl,Lx.mpr rfl,h1,j.flat,show 7<1000 by decide⟩
theorem jq {fds:List (Str×PyData)} (b:fZ fds=true):kA a nd [some (ck C a fds)]=[some nd]:=by show [some (fh a nd (ck C a fds))]=_;unfold ck fh;refine congrArg (λx=>[some x]) (if_pos ?_);unfold jl;unfold fZ at b;simp[b]
section
theorem rJ:eE [a] C 0 "spent" (gC (.int 1)) [some (j.d C a)]=.nx [some (Jb.d C a { j with spent:=j.spent+1 })]:=by unfold eE;rw[lh];show Sr.nx (kA a (ck C a (pZ "spent" (.int ((j.spent:Int)+1)) j.fds)) [some (ck C a j.fds)])=_;rw[jq j.flat];rfl
theorem C4:eE [a] C 0 "part" (gC (.int 1)) [some (j.d C a)]=.nx [some (Jb.d C a { j with part:=j.part+1 })]:=by unfold eE;rw[lh];show Sr.nx (kA a (ck C a (pZ "part" (.int ((j.part:Int)+1)) j.fds)) [some (ck C a j.fds)])=_;rw[jq j.flat];rfl
theorem Fu:eE [a] C 0 "job" (gC (.int 1)) [some (j.d C a)]=.nx [some (Jb.d C a { j with job:=j.job+1 })]:=by unfold eE;rw[lh];show Sr.nx (kA a (ck C a (pZ "job" (.int ((j.job:Int)+1)) j.fds)) [some (ck C a j.fds)])=_;rw[jq j.flat];rfl
theorem Am:lM [a] C 0 "spent" (gC (.int 0)) [some (j.d C a)]=.nx [some (Jb.d C a { j with spent:=0 })]:=by unfold lM;rw[lh];show Sr.nx (kA a (ck C a (pZ "spent" (.int 0) j.fds)) [some (ck C a j.fds)])=_;rw[jq j.flat];rfl
theorem CP:lM [a] C 0 "part" (gC (.int 0)) [some (j.d C a)]=.nx [some (Jb.d C a { j with part:=0 })]:=by unfold lM;rw[lh];show Sr.nx (kA a (ck C a (pZ "part" (.int 0) j.fds)) [some (ck C a j.fds)])=_;rw[jq j.flat];rfl
end
def Jb.step1 (j:Jb) (n:Int):Jb:=if (j.spent:Int)+1=n then { j with spent:=0,part:=j.part+1 } else { j with spent:=j.spent+1 }
def Jb.step2 (j:Jb):Jb:=if j.part=j.parts.length then { j with part:=0,job:=j.job+1 } else j
def Jb.len (j:Jb):Int:=(j.parts[j.part]?.map (·.1)).getD 0
def Jb.next (j:Jb):Jb:=(j.step1 j.len).step2
theorem D6 (h:j.part<j.parts.length):gp cs [a] [some (j.d cs.Jobs a)]=.nx [some (j.next.d cs.Jobs a)]:=by
 have b:j.parts[j.part]?=some j.parts[j.part]:=L0 h;have hn:j.len=j.parts[j.part].1:=by unfold Jb.len;rw[b];rfl
 have second:∀k:Jb,sIf (gT (g2 dEq (g1 (bq cs.Jobs "part") (af 0)) (gF bM (ae (g1 (bq cs.Jobs "parts") (af 0)) ah)))) (aE (lM [a] cs.Jobs 0 "part" (gC (.int 0))) (eE [a] cs.Jobs 0 "job" (gC (.int 1)))) aY [some (k.d cs.Jobs a)]=.nx [some (k.step2.d cs.Jobs a)]:=by
  intro k;have hc:gT (g2 dEq (g1 (bq cs.Jobs "part") (af 0)) (gF bM (ae (g1 (bq cs.Jobs "parts") (af 0)) ah))) [some (k.d cs.Jobs a)]=.ok ((k.part:Int)==(k.parts.length:Int)):=by simp only[dH,bK,gQ,fV,aA,aH,ao,Rs.ag,nV,lP,Rs.ai,tU,L5,jE,br]
  unfold Jb.step2;by_cases z:k.part=k.parts.length
  ·have e:((k.part:Int)==(k.parts.length:Int))=true:=by rw[z];exact beq_self_eq_true _
   rw[if_pos z];simp only[cG,hc,e,az,if_true,aQ,CP,Fu]
  ·have e:((k.part:Int)==(k.parts.length:Int))=false:=by rw[beq_eq_false_iff_ne];omega
   rw[if_neg z];simp only[cG,hc,e,az,LR,if_false,fD]
 have hc:gT (g2 dEq (g1 (bq cs.Jobs "spent") (af 0)) (g2 dIx (g2 dIx (g1 (bq cs.Jobs "parts") (af 0)) (g1 (bq cs.Jobs "part") (af 0))) (gC (.int 0)))) [some (Jb.d cs.Jobs a { j with spent:=j.spent+1 })]=.ok (((j.spent:Int)+1)==j.len):=by have q:=uC (j:={ j with spent:=j.spent+1 }) b;have c:dIx (aN j.parts[j.part]) (.int 0)=some (.int j.parts[j.part].1):=rfl;simp only[dH,bK,gQ,ao,cy,Rs.ag,jx,lP,nV,Rs.ai,q,c,jE,br,hn];rfl
 unfold gp Jb.next Jb.step1;by_cases z:(j.spent:Int)+1=j.len
 ·have e:(((j.spent:Int)+1)==j.len)=true:=by rw[z];exact beq_self_eq_true _
  rw[if_pos z];simp only[aQ,rJ];rw[cG,hc];simp only[e,az,if_true,aQ,Am,C4];exact second _
 ·have e:(((j.spent:Int)+1)==j.len)=false:=by rw[beq_eq_false_iff_ne];exact z
  rw[if_neg z];simp only[aQ,rJ];rw[cG,hc];simp only[e,az,LR,if_false,fD];exact second _
theorem C8 {a b:Option Int} (h:bz a=bz b):a=b:=by cases a <;> cases b <;> first|rfl|(injection h with h;rw[h])|cases h
theorem zK {p q:Int×Option Int} (h:aN p=aN q):p=q:=by
 obtain⟨a,o⟩:=p;obtain⟨b,u⟩:=q;unfold aN at h;injection h with h
 injection h with h1 h2
 injection h1 with h1
 injection h2 with h2 _
 have c:=C8 h2;exact Prod.ext h1 c
theorem oU {α β:Type} {f:α->β} (c:∀x y,f x=f y->x=y):∀{l m:List α},l.map f=m.map f->l=m
 |[],[],_=>rfl
 |[],_::_,h=>by cases h
 |_::_,[],h=>by cases h
 |a::l,b::m,h=>by
  rw[L4,L4]at h;injection h with h1 h2
  rw[c a b h1,oU c h2]
theorem ET {k:Jb} (h:j.fds=k.fds):j=k:=by
 obtain⟨a1,a2,a3,a4,a,b,c⟩:=j;obtain⟨b1,b2,b3,b4,e,f,g⟩:=k;unfold Jb.fds de at h;simp only[List.cons.injEq,Prod.mk.injEq,true_and,and_true,PyData.int.injEq,PyData.tuple.injEq,PyData.list.injEq]at h;obtain⟨h1,h2,i,l,h5,h6,h7⟩:=h;have e2:=oU (λx y=>zK) h2;have m:=oU (λx y (q:PyData.int x=PyData.int y)=>by injection q) l;have n:a=e:=by omega
 have o:b=f:=by omega
 have p:c=g:=by omega
 subst h1 i e2 m n o p;rfl
open Classical in
def fN:List (Str×PyData)->Option (List (Str×PyData)):=λfds=>if h:∃j:Jb,j.part<j.parts.length/\fds=j.fds then some (Classical.choose h).next.fds else none
theorem Gv (h:j.part<j.parts.length):fN j.fds=some j.next.fds:=by
 have a:∃k:Jb,k.part<k.parts.length/\j.fds=k.fds:=⟨j,h,rfl⟩
 unfold fN;rw[dif_pos a];have:=ET (Classical.choose_spec a).2;rw[<-this]
theorem CF (cs:Cs):∀a fds b,fZ fds=true->fds.length<1000->fN fds=some b->∃δ,gp cs [a] (some (ck cs.Jobs a fds)::List.replicate 0 none)=.nx δ/\δ[0]?=some (some (ck cs.Jobs a b)):=by
 intro a fds b _ _ e;by_cases hx:∃k:Jb,k.part<k.parts.length/\fds=k.fds
 ·obtain⟨k,c,rfl⟩:=hx;rw[Gv c]at e;cases e;exact⟨_,D6 c,rfl⟩
 ·unfold fN at e;rw[dif_neg hx]at e;cases e
instance:Inhabited Jb:=⟨⟨0,[],0,[],0,0,0⟩⟩
def jS (ks:List PyData):Nat:=bst (λi j=>ltD (ks.getD i .none) (ks.getD j .none)) (ks.length-1)
def iH (key:Jb->PyData) (js:List Jb):Jb:=js.getD (jS (js.map key)) default
theorem pY {C:Addr} {g:PyData->Rs PyData} {key:Jb->PyData}:∀{ts:List (Addr×Jb)},(∀p∈ts,g (jD C p)=.ok (key p.2))->allR g (ts.map (jD C))=.ok ((ts.map (·.2)).map key)
 |[],_=>rfl
 |p::r,h=>by
  have a:=pY (ts:=r) λx b=>h x (L3 _ b)
  rw[L4];unfold allR;rw[h p L6,Rs.ag,a,Rs.ag];rfl
theorem lH (hd:ga δ=.ok (.list (ts.map (jD C)))) (o:ts≠[]) (f:∀p∈ts,gb (some (jD C p)::ud cap δ)=.ok (key p.2))
  (hK:(∀p∈ts,∃n:Int,key p.2=.int n)\/(∀p∈ts,∃a b:Int,key p.2=.tuple [.int a,.int b])):∃q∈ts,q.2=iH key (ts.map (·.2))/\ja cap ga gb δ=.ok (jD C q):=by
 have hlen:0<ts.length:=Mh.mpr o;have e:=pY (C:=C) (g:=λx=>gb (some x::ud cap δ)) (key:=key) f;have q:keysOk ((ts.map (·.2)).map key)=true:=by
  unfold keysOk;rw[Bool.or_eq_true];rcases hK with hK|hK
  ·refine .inl (LD.mpr λk f=>?_);obtain⟨j,h,rfl⟩:=LA.mp f;obtain⟨p,l,rfl⟩:=LA.mp h;obtain⟨n,hn⟩:=hK p l;rw[hn];rfl
  ·refine .inr (LD.mpr λk f=>?_);obtain⟨j,h,rfl⟩:=LA.mp f;obtain⟨p,l,rfl⟩:=LA.mp h;obtain⟨a,b,hn⟩:=hK p l;rw[hn];rfl
 have hb:=ui (λi j=>ltD (((ts.map (·.2)).map key).getD i .none) (((ts.map (·.2)).map key).getD j .none)) (ts.length-1);have m:jS ((ts.map (·.2)).map key)=bst (λi j=>ltD (((ts.map (·.2)).map key).getD i .none) (((ts.map (·.2)).map key).getD j .none)) (ts.length-1):=by unfold jS;rw[L5,L5]
 have c:jS ((ts.map (·.2)).map key)<ts.length:=by rw[m];omega
 refine⟨ts[jS ((ts.map (·.2)).map key)],LY c,?_,?_⟩
 ·unfold iH;rw[LJ,LG,L0 c];rfl
 ·unfold ja;rw[hd];simp only[Rs.ag,L5,if_pos hlen,e];show (if keysOk _=true then Rs.eO _ else Rs.no)=_;rw[if_pos q,<-m,LG,L0 c];rfl
def n8 (js:List Jb) (tool:Option Int):Option Jb:=tool.bind λt=>js.find? λj=>j.held==some t
theorem yB {tool:Option Int}:(n8 (ts.map (·.2)) tool=none/\jo C ts tool=.none)\/∃q∈ts,n8 (ts.map (·.2)) tool=some q.2/\jo C ts tool=jD C q:=by
 unfold n8 jo;cases tool with
 |none=>exact .inl ⟨rfl,rfl⟩
 |some t =>
  have hm:(ts.map (·.2)).find? (λj=>j.held==some t)=(ts.find? (holdsT t)).map (·.2):=by rw[List.find?_map];rfl
  simp only[MU,hm];cases h:ts.find? (holdsT t) with
  |none=>exact .inl ⟨rfl,rfl⟩
  |some p=>exact .inr ⟨p,List.mem_of_find?_eq_some h,rfl,rfl⟩
def rq (js:List Jb) (l:List (Int×Int)) (j:Jb):List (Int×Int):=match n8 js j.wanted with
 |none=>l
 |some o=>xQ l o.num (if (lN l o.num).getD o.rank<j.rank then (lN l o.num).getD o.rank else j.rank)
def rK (js:List Jb):List (Int×Int):=js.foldl (rq js) []
theorem BB (h:∀p∈ts,p.2.part<p.2.parts.length) (c:p∈ts) (hl:l.length<1000000) (x3:Option PyData) :
  ∃x,lrB cs [some (.list (ts.map (jD cs.Jobs))),some (cE l),some (jD cs.Jobs p),x3]=.nx [some (.list (ts.map (jD cs.Jobs))),some (cE (rq (ts.map (·.2)) l p.2)),some (jD cs.Jobs p),x]:=by
 have hm:aq (bG cs) (ae (af 0) (ae (bp cs.Jobs "wanted" (aJ cs) (af 2) ah) ah)) [some (.list (ts.map (jD cs.Jobs))),none,some (jD cs.Jobs p),x3]=.ok (jo cs.Jobs ts p.2.wanted):=by
  have h2:bp cs.Jobs "wanted" (aJ cs) (af 2) ah [some (.list (ts.map (jD cs.Jobs))),none,some (jD cs.Jobs p),x3]=.ok (bz p.2.wanted):=by unfold bp;simp only[ao,au,Rs.ag];rw[if_pos (show isC cs.Jobs "wanted" (jD cs.Jobs p)=true from oW)];simp only[aH,Rs.ag];exact sL (h p c)
  simp only[bB,aA,aH,ao,h2,Rs.ag];exact rR h
 have a:aT [1] 3 (aq (bG cs) (ae (af 0) (ae (bp cs.Jobs "wanted" (aJ cs) (af 2) ah) ah))) [some (.list (ts.map (jD cs.Jobs))),some (cE l),some (jD cs.Jobs p),x3]=.nx [some (.list (ts.map (jD cs.Jobs))),some (cE l),some (jD cs.Jobs p),some (jo cs.Jobs ts p.2.wanted)]:=by show (if 3<4 then ofR (aq (bG cs) (ae (af 0) (ae (bp cs.Jobs "wanted" (aJ cs) (af 2) ah) ah)) [some (.list (ts.map (jD cs.Jobs))),none,some (jD cs.Jobs p),x3]) _ else _)=_;rw[if_pos (by decide),hm];rfl
 unfold lrB rq;simp only[aQ,a];rcases yB (C:=cs.Jobs) (ts:=ts) (tool:=p.2.wanted) with⟨b,e⟩|⟨q,hq,b,e⟩
 ·rw[e,b];exact⟨_,rfl⟩
 ·rw[e,b];simp only[cG,dH,gQ,ao,au,Rs.ag,Eb,Rs.ai,br,az,if_true];have f1:bq cs.Jobs "number" (jD cs.Jobs q)=some (.int q.2.num):=xa;have f2:bq cs.Jobs "rank" (jD cs.Jobs q)=some (.int q.2.rank):=nW;have f:bq cs.Jobs "rank" (jD cs.Jobs p)=some (.int p.2.rank):=nW;refine⟨some (jD cs.Jobs q),?_⟩;unfold oM;simp only[Mv,Mw,rT,fV,aA,aH,gQ,ao,au,Rs.ag,f1,f2,f,Rs.ai,lI,xl,az,if_pos hl];rfl
theorem Aq (js:List Jb) (l:List (Int×Int)) (j:Jb):(rq js l j).length<=l.length+1:=by
 unfold rq;split
 ·exact N1 _
 ·exact FV _ _ _
theorem wA {cs:Cs} {ts:List (Addr×Jb)} (h:∀p∈ts,p.2.part<p.2.parts.length):∀(us:List (Addr×Jb)) (l:List (Int×Int)) (x2 x3:Option PyData),(∀p∈us,p∈ts)->l.length+us.length<1000000 ->
  ∃a b,forL (bE 2) (lrB cs) (us.map (jD cs.Jobs)) [some (.list (ts.map (jD cs.Jobs))),some (cE l),x2,x3]=.nx [some (.list (ts.map (jD cs.Jobs))),some (cE ((us.map (·.2)).foldl (rq (ts.map (·.2))) l)),a,b]
 |[],l,x2,x3,_,_=>⟨x2,x3,rfl⟩
 |p::r,l,x2,x3,hu,hl=>by have h1:bE 2 (jD cs.Jobs p) [some (.list (ts.map (jD cs.Jobs))),some (cE l),x2,x3]=some [some (.list (ts.map (jD cs.Jobs))),some (cE l),some (jD cs.Jobs p),x3]:=rfl;rw[LI]at hl;obtain⟨x,e1⟩:=BB (cs:=cs) h (hu p L6) (l:=l) (by omega) x3;have hl1:=Aq (ts.map (·.2)) l p.2;rw[L4];unfold forL;rw[h1];simp only[e1];exact wA h r _ _ _ (λq c=>hu q (L3 _ c)) (by omega)
theorem EG (h:∀p∈ts,p.2.part<p.2.parts.length) (hl:ts.length<=1000):cp cs [.list (ts.map (jD cs.Jobs))]=.ok (cE (rK (ts.map (·.2)))):=by obtain⟨y2,y3,e⟩:=wA (cs:=cs) h ts [] none none (λp a=>a) (by rw[Mm];omega);show bh (gu cs (aJ cs) (bG cs) [some (.list (ts.map (jD cs.Jobs))),none,none,none])=_;have b:uZ 1 [some (.list (ts.map (jD cs.Jobs))),none,none,none]=.nx [some (.list (ts.map (jD cs.Jobs))),some (cE []),none,none]:=rfl;have c:eQ [1] (bT (af 0)) (bE 2) (lrB cs) [some (.list (ts.map (jD cs.Jobs))),some (cE []),none,none]=forL (bE 2) (lrB cs) (ts.map (jD cs.Jobs)) [some (.list (ts.map (jD cs.Jobs))),some (cE []),none,none]:=rfl;show bh (aE (uZ 1) (aE (eQ [1] (bT (af 0)) (bE 2) (lrB cs)) (bo (af 1))) [some (.list (ts.map (jD cs.Jobs))),none,none,none])=_;simp only[aQ,b,c,e];rfl
def fo (tops:PyData) (t:Int):Int:=match dIx tops (.int t) with
 |some (.int n)=>n
 |_=>0
def gU (tops:PyData) (j:Jb):PyData:=match j.held with
 |none=>.tuple [.int j.rank,.int 1]
 |some t=>.tuple [.int (if fo tops t<j.rank then fo tops t else j.rank),.int 0]
theorem Es (h:p.2.part<p.2.parts.length) (c:∀t,p.2.held=some t->∃n:Int,dIx tops (.int t)=some (.int n)):bO cs [jD cs.Jobs p,tops]=.ok (gU tops p.2):=by
 have b:bq cs.Jobs "rank" (jD cs.Jobs p)=some (.int p.2.rank):=nW;unfold gU;cases z:p.2.held with
 |none =>
  show bh (bV cs (aR cs) [some (jD cs.Jobs p),some tops,none])=_;unfold bV;have hm:=rF (cs:=cs) (p:=p) (x:=some tops) (y:=none) h;rw[z]at hm;have a:aT [] 2 (bp cs.Jobs "held" (aR cs) (af 0) ah) [some (jD cs.Jobs p),some tops,none]=.nx [some (jD cs.Jobs p),some tops,some .none]:=by rw[iT,hm];rfl
  simp only[aQ,a,cG,dH,gQ,ao,au,Rs.ag,CD,Cn,Rs.ai,br,az,if_true,bU,jO,aA,aH,b,cy,bc]
 |some t =>
  obtain⟨n,hn⟩:=c t z;have e:fo tops t=n:=by unfold fo;rw[hn]
  show bh (bV cs (aR cs) [some (jD cs.Jobs p),some tops,none])=_;unfold bV;have hm:=rF (cs:=cs) (p:=p) (x:=some tops) (y:=none) h;rw[z]at hm;have a:aT [] 2 (bp cs.Jobs "held" (aR cs) (af 0) ah) [some (jD cs.Jobs p),some tops,none]=.nx [some (jD cs.Jobs p),some tops,some (.int t)]:=by rw[iT,hm];rfl
  simp only[aQ,a,cG,dH,gQ,bK,ao,au,Rs.ag,CD,As,Rs.ai,br,az,LR,if_false,fD,bU,jO,aA,aH,b,hn,fV,xl,cy,bc,e]
def g9 (js:List Jb) (j:Jb):Bool:=(n8 js j.wanted).isNone
def Fe (l:List (Int×Int)) (j:Jb):PyData:=.int ((lN l j.num).getD j.rank)
def cY (tops:PyData) (len:Str) (js:List Jb):Jb:=if (len==("high":Str))=true then iH (gU tops) js else iH (Fe (if (len==("asked":Str))=true then rK js else [])) (js.filter (g9 js))
theorem vk {tool:Option Int}:eV (jo C ts tool)=(n8 (ts.map (·.2)) tool).isNone:=by
 rcases yB (C:=C) (ts:=ts) (tool:=tool) with⟨a,e⟩|⟨q,_,a,e⟩
 ·rw[e,a];rfl
 ·rw[e,a];rfl
theorem oj (h:ts≠[]):ts.filter (λp=>g9 (ts.map (·.2)) p.2)≠[]:=by obtain⟨p,b,e⟩:=BC h (C:=0);refine Nc (a:=p) (LO.mpr ⟨b,?_⟩);unfold g9;rw[<-vk (C:=0),e];rfl
theorem kQ {C:Addr} {ts:List (Addr×Jb)} {f:PyData->Bool} {g:Jb->Bool}:∀{us:List (Addr×Jb)},(∀p∈us,f (jD C p)=g p.2)->(us.map (jD C)).filter f=(us.filter λp=>g p.2).map (jD C)
 |[],_=>rfl
 |p::r,h=>by
  have a:=kQ (ts:=ts) (us:=r) λx b=>h x (L3 _ b)
  rw[L4,MM,MM,h p L6,a];cases g p.2 <;> rfl
theorem Aa {len:Str} (j:ts≠[]) (hl:ts.length<=1000) (h:∀p∈ts,p.2.part<p.2.parts.length) (r:∀p∈ts,∀t,p.2.held=some t->∃n:Int,dIx tops (.int t)=some (.int n)) (m:uD len) :
  ∃q∈ts,q.2=cY tops len (ts.map (·.2))/\cB cs [.list (ts.map (jD cs.Jobs)),tops,.str len]=.ok (jD cs.Jobs q):=by
 have o:gT (g2 dEq (af 2) (gC (.str "high"))) [some (.list (ts.map (jD cs.Jobs))),some tops,some (.str len),none,none]=.ok (len=="high"):=by simp only[dH,bK,ao,au,cy,Rs.ag,eq_str m.sh zt,Rs.ai,br]
 show ∃q∈ts,q.2=_/\bh (jB cs (cp cs) (aJ cs) (bG cs) (bO cs) [some (.list (ts.map (jD cs.Jobs))),some tops,some (.str len),none,none])=.ok _;unfold jB cY;cases z:(len==("high":Str)) with
 |true =>
  obtain⟨q,i,e2,e⟩:=lH (C:=cs.Jobs) (cap:=[1]) (ga:=af 0) (gb:=aq (bO cs) (ae (af 0) (ae (af 1) ah))) (δ:=[some (.list (ts.map (jD cs.Jobs))),some tops,some (.str len),none,none]) (key:=gU tops) rfl j (λp a=>Es (h p a) (r p a)) (.inr λp a=>by unfold gU;cases p.2.held <;> exact⟨_,_,rfl⟩)
  refine⟨q,i,by rw[if_pos rfl];exact e2,?_⟩;simp only[aQ,cG,o,z,az,if_true,bU,e,bc]
 |false =>
  have hc:a9 5 (bT (af 0)) (gT (g1 jk (aq (bG cs) (ae (af 0) (ae (bp cs.Jobs "wanted" (aJ cs) (af 5) ah) ah))))) (af 5) aO [some (.list (ts.map (jD cs.Jobs))),some tops,some (.str len),none,none]=.ok ((ts.filter λp=>g9 (ts.map (·.2)) p.2).map (jD cs.Jobs)):=by
   rw[<-kQ (ts:=ts) (f:=Bl cs [some (.list (ts.map (jD cs.Jobs))),some tops,some (.str len),none,none]) (λp a=>by have g:=yS (cs:=cs) (x1:=some tops) (x2:=some (.str len)) (x3:=none) (x4:=none) h a;unfold Bl;simp only[M6,M4,g];exact vk)]
   refine f9 rfl rfl (by rw[L5];omega) λd hd=>?_
   obtain⟨p,a,rfl⟩:=LA.mp hd;refine⟨?_,rfl⟩;have g:=yS (cs:=cs) (x1:=some tops) (x2:=some (.str len)) (x3:=none) (x4:=none) h a;unfold Bl;simp only[M6,M4,g];simp only[dH,gQ,g,Rs.ag,CD,Rs.ai,br]
  have hn:=oj j;have s:(ts.map (·.2)).filter (g9 (ts.map (·.2)))=(ts.filter λp=>g9 (ts.map (·.2)) p.2).map (·.2):=by rw[List.filter_map];rfl
  have c:∀p∈ts.filter (λp=>g9 (ts.map (·.2)) p.2),p∈ts:=λp a=>(LO.mp a).1
  rw[s];generalize (ts.filter λp=>g9 (ts.map (·.2)) p.2)=fr at hc hn c;have b:gIf (gT (g2 dEq (af 2) (gC (.str "asked")))) (aq (cp cs) (ae (af 0) ah)) (gC (cE [])) [some (.list (ts.map (jD cs.Jobs))),some tops,some (.str len),some (.list (fr.map (jD cs.Jobs))),none]=.ok (cE (if (len==("asked":Str))=true then rK (ts.map (·.2)) else [])):=by
   have u:gT (g2 dEq (af 2) (gC (.str "asked"))) [some (.list (ts.map (jD cs.Jobs))),some tops,some (.str len),some (.list (fr.map (jD cs.Jobs))),none]=.ok (len=="asked"):=by simp only[dH,bK,ao,au,cy,Rs.ag,eq_str m.sh BR,Rs.ai,br]
   unfold gIf;rw[u];simp only[Rs.ag];cases (len==("asked":Str)) with
   |true=>simp only[if_true,bB,aA,aH,ao,Rs.ag,EG h hl]
   |false=>simp
  generalize (if (len==("asked":Str))=true then rK (ts.map (·.2)) else [])=l at b;obtain⟨q,i,e2,e⟩:=lH (C:=cs.Jobs) (cap:=[4]) (ga:=af 3) (gb:=lI (af 1) (g1 (bq cs.Jobs "number") (af 0)) (g1 (bq cs.Jobs "rank") (af 0))) (δ:=[some (.list (ts.map (jD cs.Jobs))),some tops,some (.str len),some (.list (fr.map (jD cs.Jobs))),some (cE l)]) (key:=Fe l) rfl hn (λp a=>by have f1:bq cs.Jobs "number" (jD cs.Jobs p)=some (.int p.2.num):=xa;have f2:bq cs.Jobs "rank" (jD cs.Jobs p)=some (.int p.2.rank):=nW;show lI (af 1) (g1 (bq cs.Jobs "number") (af 0)) (g1 (bq cs.Jobs "rank") (af 0)) [some (jD cs.Jobs p),some (cE l)]=_;unfold lI;simp only[ao,au,Rs.ag,rT,gQ,f1,f2,Rs.ai];rfl) (.inl λp a=>⟨_,rfl⟩)
  refine⟨q,c q i,by rw[if_neg LK];exact e2,?_⟩;have v:aT [] 3 (gL (a9 5 (bT (af 0)) (gT (g1 jk (aq (bG cs) (ae (af 0) (ae (bp cs.Jobs "wanted" (aJ cs) (af 5) ah) ah))))) (af 5) aO)) [some (.list (ts.map (jD cs.Jobs))),some tops,some (.str len),none,none]=.nx [some (.list (ts.map (jD cs.Jobs))),some tops,some (.str len),some (.list (fr.map (jD cs.Jobs))),none]:=by rw[iT,nH,hc];rfl
  have w:aT [] 4 (gIf (gT (g2 dEq (af 2) (gC (.str "asked")))) (aq (cp cs) (ae (af 0) ah)) (gC (cE []))) [some (.list (ts.map (jD cs.Jobs))),some tops,some (.str len),some (.list (fr.map (jD cs.Jobs))),none]=.nx [some (.list (ts.map (jD cs.Jobs))),some tops,some (.str len),some (.list (fr.map (jD cs.Jobs))),some (cE l)]:=by rw[iT,b];rfl
  simp only[aQ,cG,o,z,az,LR,if_false,fD,v,w,bU,e,bc]
theorem wq:fh a nd (jD C p)=if p.1=a then nd else jD C p:=by
 have b:=p.2.flat;have c:jl ((PyData.str "",PyData.int (C:Int))::(PyData.str "@",PyData.int (p.1:Int))::p.2.fds.map λx=>(PyData.str x.1,x.2))=some (p.1:Int):=by unfold jl;unfold fZ at b;simp[b]
 unfold jD Jb.d ck fh;rw[c];by_cases z:p.1=a
 ·rw[if_pos z,if_pos (by rw[z])]
 ·have f:¬ (some (p.1:Int)=some (a:Int)):=λe=>z (Int.ofNat.inj (Option.some.inj e))
  rw[if_neg z,if_neg f]
theorem yd {C a:Addr} {j:Jb}:∀ts:List (Addr×Jb),jf a (jD C (a,j)) (ts.map (jD C))=(ts.map λp=>if p.1=a then (a,j) else p).map (jD C)
 |[]=>rfl
 |p::r=>by
  rw[L4,L4,L4];unfold jf;rw[yd r,wq];by_cases z:p.1=a
  ·rw[if_pos z,if_pos z]
  ·rw[if_neg z,if_neg z]
theorem zP:fh a (jD C (a,j)) (.list (ts.map (jD C)))=.list ((ts.map λp=>if p.1=a then (a,j) else p).map (jD C)):=by unfold fh;rw[yd]
mutual
theorem l7 {a:Addr} {nd:PyData}:∀d:PyData,aC d=true->fh a nd d=d
 |.none,_=>by unfold fh;rfl
 |.bool _,_=>by unfold fh;rfl
 |.int _,_=>by unfold fh;rfl
 |.str _,_=>by unfold fh;rfl
 |.list ds,h=>by unfold fh;rw[tM ds (by simpa[aC] using h)]
 |.tuple ds,h=>by unfold fh;rw[tM ds (by simpa[aC] using h)]
 |.dict _,h=>by simp[aC]at h
theorem tM {a:Addr} {nd:PyData}:∀ds:List PyData,cN ds=true->jf a nd ds=ds
 |[],_=>by unfold jf;rfl
 |d::r,h=>by unfold cN at h;rw[L8]at h;unfold jf;rw[l7 d h.1,tM r h.2]
end
theorem qg {C:Addr} {elt:Ds->Rs PyData} {δ:Ds} {k:Jb->PyData}:∀(ts:List (Addr×Jb)),(∀p∈ts,elt (δ++[some (jD C p)])=.ok (k p.2))->eM bS elt aO δ (ts.map (jD C))=.ok ((ts.map (·.2)).map k)
 |[],_=>rfl
 |p::r,h=>by
  have a:=qg r λe b=>h e (L3 _ b)
  rw[L4];unfold eM;simp only[aO,bS,Rs.dm,Rs.ag,if_true,h p L6];rw[a];rfl
def Jb.done (j:Jb):Bool:=(j.job:Int)==(j.row.length:Int)
def rnD (C:Addr) (E R W tops:PyData) (len:Str) (qs:List (Addr×Jb)) (told:List PyData) (x7 x8:Option PyData):Ds:=[some E,some R,some W,some (.str len),some tops,some (.list (qs.map (jD C))),some (.list told),x7,x8]
section
variable {E R W:PyData} {len:Str} {qs:List (Addr×Jb)} {x7 x8:Option PyData}
theorem cond_of (hl:qs.length<=1000):fI (gT (gF nC (ae (gL (a9 9 (bT (af 5)) bS (bp cs.Jobs "are_done" (aU cs) (af 9) ah) aO)) ah))) (rnD cs.Jobs E R W tops len qs told x7 x8)=.ok (!((qs.map (·.2)).all Jb.done)):=by
 have hc:a9 9 (bT (af 5)) bS (bp cs.Jobs "are_done" (aU cs) (af 9) ah) aO (rnD cs.Jobs E R W tops len qs told x7 x8)=.ok ((qs.map (·.2)).map λj=>.bool j.done):=by
  unfold a9;rw[if_pos (show (rnD cs.Jobs E R W tops len qs told x7 x8).length=9 from rfl)];rw[show bT (af 5) (rnD cs.Jobs E R W tops len qs told x7 x8)=.ok (qs.map (jD cs.Jobs)) from rfl];simp only[Rs.ag];rw[if_pos (by rw[L5];omega)];refine qg qs λp hp=>?_
  show bp cs.Jobs "are_done" (aU cs) (af 9) ah [some E,some R,some W,some (.str len),some tops,some (.list (qs.map (jD cs.Jobs))),some (.list told),x7,x8,some (jD cs.Jobs p)]=_;unfold bp;simp only[ao,au,Rs.ag];rw[if_pos (show isC cs.Jobs "are_done" (jD cs.Jobs p)=true from uu)];simp only[aH,Rs.ag];exact vq
 have a:=iJ Jb.done (qs.map (·.2));simp only[ph,dH,fV,aA,aH,nH,hc,Rs.ag,a,Rs.ai,br]
def cz (told:List PyData) (p:Addr×Jb):Bool:=p.2.there (told.length:Int)
theorem nr (h:∀p∈qs,p.2.job<=p.2.row.length) {x6:Option PyData}:∀(us:List (Addr×Jb)),(∀p∈us,p∈qs) ->
  fk (gT (bp cs.Jobs "is_there" (aM cs) (af 9) (ae (gF bM (ae (af 6) ah)) ah))) (af 9) aO [some E,some R,some W,some (.str len),some tops,some (.list (qs.map (jD cs.Jobs))),x6,x7,x8] (rnD cs.Jobs E R W tops len qs told x7 x8) (us.map (jD cs.Jobs))=.ok ((us.filter (cz told)).map (jD cs.Jobs))
 |[],_=>rfl
 |p::r,hu=>by
  have a:=nr h (x6:=x6) r λq b=>hu q (L3 _ b)
  have hc:gT (bp cs.Jobs "is_there" (aM cs) (af 9) (ae (gF bM (ae (af 6) ah)) ah)) (rnD cs.Jobs E R W tops len qs told x7 x8++[some (jD cs.Jobs p)])=.ok (cz told p):=by show gT (bp cs.Jobs "is_there" (aM cs) (af 9) (ae (gF bM (ae (af 6) ah)) ah)) [some E,some R,some W,some (.str len),some tops,some (.list (qs.map (jD cs.Jobs))),some (.list told),x7,x8,some (jD cs.Jobs p)]=_;rw[dH];unfold bp;simp only[ao,au,Rs.ag];rw[if_pos (show isC cs.Jobs "is_there" (jD cs.Jobs p)=true from tD)];simp only[aA,aH,fV,ao,au,jC,Rs.ai,Rs.ag];rw[show aM cs [jD cs.Jobs p,.int (told.length:Int)]=_ from vE (h p (hu p L6))];rfl
  rw[L4];unfold fk;rw[show aO (jD cs.Jobs p)=some [some (jD cs.Jobs p)] from rfl];simp only[hc,Rs.dm,Rs.ag];rw[MM];cases cz told p with
  |true =>simp only[if_true];rw[show af 9 ([some E,some R,some W,some (.str len),some tops,some (.list (qs.map (jD cs.Jobs))),x6,x7,x8]++[some (jD cs.Jobs p)])=.ok (jD cs.Jobs p) from rfl];simp only[Rs.dm,Rs.ag,a];rfl
  |false=>simp only[LR,if_false,a]
end
mutual
theorem jW:∀d:PyData,aC d=true->objs d=true
 |.none,_=>by unfold objs;rfl
 |.bool _,_=>by unfold objs;rfl
 |.int _,_=>by unfold objs;rfl
 |.str _,_=>by unfold objs;rfl
 |.list ds,h=>by unfold objs;exact pK ds (by simpa[aC] using h)
 |.tuple ds,h=>by unfold objs;exact pK ds (by simpa[aC] using h)
 |.dict _,h=>by simp[aC]at h
theorem pK:∀ds:List PyData,cN ds=true->jw ds=true
 |[],_=>by unfold jw;rfl
 |d::r,h=>by unfold cN at h;rw[L8]at h;unfold jw;rw[jW d h.1,pK r h.2];rfl
end
theorem yz:objs (jD C p)=true:=by unfold jD Jb.d;rw[wa];exact p.2.flat
theorem sq {C:Addr}:∀ts:List (Addr×Jb),jw (ts.map (jD C))=true
 |[]=>by unfold jw;rfl
 |p::r=>by rw[L4];unfold jw;rw[yz,sq r];rfl
theorem xF:objs (.list (ts.map (jD C)))=true:=by unfold objs;exact sq ts
section
variable {E R W:PyData} {len:Str} {qs:List (Addr×Jb)}
structure NoD (E R W tops:PyData) (told:List PyData):Prop where
 e:aC E=true
 r:aC R=true
 w:aC W=true
 t:aC tops=true
 o:aC (.list told)=true
theorem zA (n:NoD E R W tops told) (ha:q.1∈as):nv as cs.Jobs 8 (rnD cs.Jobs E R W tops len qs told (some (.list (ts.map (jD cs.Jobs)))) (some (jD cs.Jobs q)))=some (q.1,q.2.fds):=by
 have h1:gm (rnD cs.Jobs E R W tops len qs told (some (.list (ts.map (jD cs.Jobs)))) (some (jD cs.Jobs q)))=true:=by
  unfold gm rnD;have b:objs (.str len)=true:=by unfold objs;rfl
  simp only[MX,List.all_nil,MY,jW _ n.e,jW _ n.r,jW _ n.w,jW _ n.t,jW _ n.o,b,xF,yz,Bool.and_self]
 show (match objOf (jD cs.Jobs q) with|some (c,a,fds)=>if c=cs.Jobs/\a∈as/\gm (rnD cs.Jobs E R W tops len qs told (some (.list (ts.map (jD cs.Jobs)))) (some (jD cs.Jobs q)))=true/\fZ fds=true/\fds.length<1000 then some (a,fds) else none|none=>none)=_;rw[show objOf (jD cs.Jobs q)=some (cs.Jobs,q.1,q.2.fds) from q9 _ _ _];exact if_pos ⟨rfl,ha,h1,q.2.flat,show 7<1000 by decide⟩
end
def uv (a:Addr) (j:Jb) (qs:List (Addr×Jb)):List (Addr×Jb):=qs.map λp=>if p.1=a then (a,j) else p
section
variable {E R W:PyData} {len:Str} {qs:List (Addr×Jb)}
theorem Ij (n:NoD E R W tops told):kA q.1 (jD cs.Jobs (q.1,j)) (rnD cs.Jobs E R W tops len qs told (some (.list (ts.map (jD cs.Jobs)))) (some (jD cs.Jobs q)))=rnD cs.Jobs E R W tops len (uv q.1 j qs) told (some (.list ((uv q.1 j ts).map (jD cs.Jobs)))) (some (jD cs.Jobs (q.1,j))):=by
 have a:fh q.1 (jD cs.Jobs (q.1,j)) (.str len)=.str len:=by unfold fh;rfl
 have b:fh q.1 (jD cs.Jobs (q.1,j)) (jD cs.Jobs q)=jD cs.Jobs (q.1,j):=by rw[wq,if_pos rfl]
 unfold kA rnD uv;simp only[L4,Mr,MD,l7 _ n.e,l7 _ n.r,l7 _ n.w,l7 _ n.t,l7 _ n.o,a,zP,b]
theorem EA (n:NoD E R W tops told) (ha:q.1∈as) (a:q.2.part<q.2.parts.length):kF as cs.Jobs "go_on" 8 fN (rnD cs.Jobs E R W tops len qs told (some (.list (ts.map (jD cs.Jobs)))) (some (jD cs.Jobs q)))=.nx (rnD cs.Jobs E R W tops len (uv q.1 q.2.next qs) told (some (.list ((uv q.1 q.2.next ts).map (jD cs.Jobs)))) (some (jD cs.Jobs (q.1,q.2.next)))):=by unfold kF;rw[zA n ha];have b:mR "go_on" q.2.fds=none:=rfl;simp only[b,if_true,Gv a];exact congrArg Sr.nx (Ij (cs:=cs) (len:=len) (qs:=qs) (ts:=ts) (q:=q) (j:=q.2.next) n)
end
section
variable {E R W:PyData} {len:Str} {qs:List (Addr×Jb)} {x7 x8:Option PyData}
theorem A7 (hl:qs.length<=1000) (h:∀p∈qs,p.2.job<=p.2.row.length):pk [6] 7 9 (bT (af 5)) (gT (bp cs.Jobs "is_there" (aM cs) (af 9) (ae (gF bM (ae (af 6) ah)) ah))) (af 9) aO (rnD cs.Jobs E R W tops len qs told x7 x8)=.nx (rnD cs.Jobs E R W tops len qs told (some (.list ((qs.filter (cz told)).map (jD cs.Jobs)))) x8):=by
 have hm:mask [6] (rnD cs.Jobs E R W tops len qs told x7 x8)=[some E,some R,some W,some (.str len),some tops,some (.list (qs.map (jD cs.Jobs))),none,x7,x8]:=rfl;have hc:md 9 (bT (af 5)) (gT (bp cs.Jobs "is_there" (aM cs) (af 9) (ae (gF bM (ae (af 6) ah)) ah))) (af 9) aO (mask [6] (rnD cs.Jobs E R W tops len qs told x7 x8)) (rnD cs.Jobs E R W tops len qs told x7 x8)=.ok ((qs.filter (cz told)).map (jD cs.Jobs)):=by rw[hm];unfold md;rw[if_pos (show [some E,some R,some W,some (.str len),some tops,some (.list (qs.map (jD cs.Jobs))),none,x7,x8].length=9 from rfl)];rw[show bT (af 5) [some E,some R,some W,some (.str len),some tops,some (.list (qs.map (jD cs.Jobs))),none,x7,x8]=.ok (qs.map (jD cs.Jobs)) from rfl];simp only[Rs.ag];rw[if_pos (by rw[L5];omega)];exact nr h qs λp a=>a
 unfold pk;rw[if_pos (show 7<(rnD cs.Jobs E R W tops len qs told x7 x8).length from (by decide:7<9)),hc];rfl
end
def cj (told:List PyData) (js:List Jb):List Jb:=js.filter λj=>j.there (told.length:Int)
def dN (b:Jb) (js:List Jb):List Jb:=js.map λj=>if j.num=b.num then b.next else j
def cH (b:Jb):PyData:=.tuple [.int b.num,.int (b.job:Int)]
def cQ (tops:PyData) (len:Str) (s:List Jb×List PyData):List Jb×List PyData :=
 if cj s.2 s.1=[] then (s.1,s.2++[.none]) else (dN (cY tops len (cj s.2 s.1)) s.1,s.2++[cH (cY tops len (cj s.2 s.1))])
structure QOk (as:List Addr) (qs:List (Addr×Jb)):Prop where
 few:qs.length<=1000
 pl:qs.map (·.1)=as
 nda:as.Nodup
 ndn:(qs.map (·.2.num)).Nodup
 pt:∀p∈qs,p.2.part<p.2.parts.length
 jb:∀p∈qs,p.2.job<=p.2.row.length
theorem mf {α β:Type} {f:α->β}:∀{l:List α},(l.map f).Nodup->∀x∈l,∀y∈l,f x=f y->x=y
 |[],_,x,b,_,_,_=>by cases b
 |a::r,h,x,b,y,c,e=>by
  rw[L4,M3]at h;rcases L7.mp b with rfl|b
  ·rcases L7.mp c with rfl|c
   ·rfl
   ·exact (h.1 (LA.mpr ⟨y,by assumption,e.symm⟩)).elim
  ·rcases L7.mp c with rfl|c
   ·exact (h.1 (LA.mpr ⟨x,by assumption,e⟩)).elim
   ·exact mf h.2 x b y c e
def rnB (cs:Cs) (as:List Addr):Ds->Sr:=(aE (pk [6] 7 9 (bT (af 5)) (gT (bp cs.Jobs "is_there" (aM cs) (af 9) (ae (gF bM (ae (af 6) ah)) ah))) (af 9) aO)
 (sIf (gT (g2 dEq (gF bM (ae (af 7) ah)) (gC (.int 0)))) (gK [6] 6 (gC .none)) (aE (aT [6] 8 (aq (cB cs) (ae (af 7) (ae (af 4) (ae (af 3) ah)))))
 (aE (gK [6] 6 (eP (ae (g1 (bq cs.Jobs "number") (af 8)) (ae (g1 (bq cs.Jobs "job") (af 8)) ah))))
 (kF as cs.Jobs "go_on" 8 fN)))))
section
variable {E R W:PyData} {len:Str} {qs:List (Addr×Jb)}
theorem uT:(qs.filter (cz told)).map (·.2)=cj told (qs.map (·.2)):=by unfold cj;rw[List.filter_map];rfl
theorem DX (K:QOk as qs) (a:q∈qs) (c:j=q.2.next):(uv q.1 j qs).map (·.2)=dN q.2 (qs.map (·.2)):=by
 unfold uv dN;rw[LQ,LQ];refine LN λp b=>?_
 show (if p.1=q.1 then (q.1,j) else p).2=if p.2.num=q.2.num then q.2.next else p.2
 by_cases z:p.1=q.1
 ·have:p=q:=mf (f:=(·.1)) (by rw[K.pl];exact K.nda) p b q a z;rw[if_pos z,if_pos (by rw[this]),c]
 ·have:p.2.num≠q.2.num:=λe=>z (by rw[mf (f:=λx:Addr×Jb=>x.2.num) K.ndn p b q a e])
  rw[if_neg z,if_neg this]
theorem DV:(uv a j qs).map (·.1)=qs.map (·.1):=by
 unfold uv;rw[LQ];refine LN λp hp=>?_
 show (if p.1=a then (a,j) else p).1=p.1;by_cases z:p.1=a
 ·rw[if_pos z,z]
 ·rw[if_neg z]
theorem FA (K:QOk as qs) (n:NoD E R W tops told) (m:uD len) (s:∀p∈qs,∀t,p.2.held=some t->∃n:Int,dIx tops (.int t)=some (.int n)) (hl:told.length<1000000) (x7 x8:Option PyData) :
  ∃b u v,rnB cs as (rnD cs.Jobs E R W tops len qs told x7 x8)=.nx (rnD cs.Jobs E R W tops len b (cQ tops len (qs.map (·.2),told)).2 u v)/\b.map (·.1)=qs.map (·.1)/\b.map (·.2)=(cQ tops len (qs.map (·.2),told)).1:=by
 have f:=A7 (cs:=cs) (E:=E) (R:=R) (W:=W) (tops:=tops) (len:=len) (told:=told) (x7:=x7) (x8:=x8) K.few K.jb;have hc:gT (g2 dEq (gF bM (ae (af 7) ah)) (gC (.int 0))) (rnD cs.Jobs E R W tops len qs told (some (.list ((qs.filter (cz told)).map (jD cs.Jobs)))) x8)=.ok (((qs.filter (cz told)).length:Int)==0):=by unfold rnD;simp only[dH,bK,fV,aA,aH,ao,au,cy,Rs.ag,jC,L5,Rs.ai,jE,br]
 unfold rnB cQ;simp only[aQ,f];have c:=uT (qs:=qs) (told:=told);by_cases z:qs.filter (cz told)=[]
 ·have h:(((qs.filter (cz told)).length:Int)==0)=true:=by rw[z];rfl
  have i:cj told (qs.map (·.2))=[]:=by rw[<-c,z];rfl
  rw[if_pos i,cG,hc];simp only[h,az,if_true];refine⟨qs,some (.list ((qs.filter (cz told)).map (jD cs.Jobs))),x8,?_,rfl,rfl⟩;show (if told.length<1000000 then Sr.nx _ else Sr.no)=_;rw[if_pos hl];rfl
 ·have h:(((qs.filter (cz told)).length:Int)==0)=false:=by rw[beq_eq_false_iff_ne];have:=Mh.mpr z;omega
  have i:¬ cj told (qs.map (·.2))=[]:=λe=>z (by rw[<-c]at e;exact List.map_eq_nil_iff.mp e)
  have a:∀p∈qs.filter (cz told),p∈qs:=λp g=>(LO.mp g).1
  obtain⟨q,j,e2,e⟩:=Aa (cs:=cs) (tops:=tops) z (Mb (Nj _ _) K.few) (λp g=>K.pt p (a p g)) (λp g=>s p (a p g)) m;rw[c]at e2;rw[if_neg i,cG,hc];simp only[h,az,LR,if_false];have x:aT [6] 8 (aq (cB cs) (ae (af 7) (ae (af 4) (ae (af 3) ah)))) (rnD cs.Jobs E R W tops len qs told (some (.list ((qs.filter (cz told)).map (jD cs.Jobs)))) x8)=.nx (rnD cs.Jobs E R W tops len qs told (some (.list ((qs.filter (cz told)).map (jD cs.Jobs)))) (some (jD cs.Jobs q))):=by have l:aq (cB cs) (ae (af 7) (ae (af 4) (ae (af 3) ah))) (mask [6] (rnD cs.Jobs E R W tops len qs told (some (.list ((qs.filter (cz told)).map (jD cs.Jobs)))) x8))=.ok (jD cs.Jobs q):=e;unfold aT;rw[if_pos (show 8<(rnD cs.Jobs E R W tops len qs told (some (.list ((qs.filter (cz told)).map (jD cs.Jobs)))) x8).length from (by decide:8<9)),l];rfl
  have f1:bq cs.Jobs "number" (jD cs.Jobs q)=some (.int q.2.num):=xa;have f2:bq cs.Jobs "job" (jD cs.Jobs q)=some (.int (q.2.job:Int)):=ur;have y:gK [6] 6 (eP (ae (g1 (bq cs.Jobs "number") (af 8)) (ae (g1 (bq cs.Jobs "job") (af 8)) ah))) (rnD cs.Jobs E R W tops len qs told (some (.list ((qs.filter (cz told)).map (jD cs.Jobs)))) (some (jD cs.Jobs q)))=.nx (rnD cs.Jobs E R W tops len qs (told++[cH q.2]) (some (.list ((qs.filter (cz told)).map (jD cs.Jobs)))) (some (jD cs.Jobs q))):=by
   have l:eP (ae (g1 (bq cs.Jobs "number") (af 8)) (ae (g1 (bq cs.Jobs "job") (af 8)) ah)) (mask [6] (rnD cs.Jobs E R W tops len qs told (some (.list ((qs.filter (cz told)).map (jD cs.Jobs)))) (some (jD cs.Jobs q))))=.ok (cH q.2):=by show eP _ [some E,some R,some W,some (.str len),some tops,some (.list (qs.map (jD cs.Jobs))),none,some (.list ((qs.filter (cz told)).map (jD cs.Jobs))),some (jD cs.Jobs q)]=_;simp only[jO,aA,aH,gQ,ao,au,Rs.ag,f1,f2,Rs.ai];rfl
   show ofR (eP _ (mask [6] _)) (λd=>if told.length<1000000 then Sr.nx _ else Sr.no)=_;rw[l];show (if told.length<1000000 then Sr.nx _ else Sr.no)=_;rw[if_pos hl];rfl
  have n':NoD E R W tops (told++[cH q.2]):=⟨n.e,n.r,n.w,n.t,by
   have h1:=n.o;refine eJ λd hd=>?_
   rcases LW.mp hd with hd|hd
   ·exact iU (by simpa[aC] using h1) d hd
   ·rw[Lx.mp hd];rfl⟩
  have ha:q.1∈as:=by rw[<-K.pl];exact LA.mpr ⟨q,a q j,rfl⟩
  have A:=EA (cs:=cs) (len:=len) (qs:=qs) (ts:=qs.filter (cz told)) n' ha (K.pt q (a q j));simp only[aQ,x,y,A];rw[<-e2];exact⟨_,_,_,rfl,DV,DX K (a q j) rfl⟩
end
structure JOk (tops:PyData) (j:Jb):Prop where
 pt:j.part<j.parts.length
 jb:j.job<=j.row.length
 ln:∀p∈j.parts,1<=p.1
 sp:(j.spent:Int)<j.len
 tl:∀p∈j.parts,∀t,p.2=some t->∃n:Int,dIx tops (.int t)=some (.int n)
theorem JOk.held (h:JOk tops j):∀t,j.held=some t->∃n:Int,dIx tops (.int t)=some (.int n):=by
 intro t e;have hpt:=h.pt;have a:j.parts[j.part]?=some j.parts[j.part]:=L0 h.pt;unfold Jb.held Jb.tool at e;rw[a]at e;by_cases z:j.spent=0
 ·rw[if_pos z]at e;cases e
 ·rw[if_neg z]at e;exact h.tl _ (LY h.pt) t e
theorem len_pos {tops:PyData} (h:∀p∈j.parts,1<=p.1) (a:j.part<j.parts.length):1<=j.len:=by unfold Jb.len;rw[L0 a];exact h _ (LY a)
theorem Gb (h:JOk tops j) (c:j.job<j.row.length):JOk tops j.next:=by
 have a:0<j.parts.length:=Nat.lt_of_le_of_lt (Me _) h.pt;have hsp:=h.sp;unfold Jb.next Jb.step1;by_cases z:(j.spent:Int)+1=j.len
 ·rw[if_pos z];unfold Jb.step2;by_cases y:j.part+1=j.parts.length
  ·rw[if_pos (show ({ j with spent:=0,part:=j.part+1 }:Jb).part=({ j with spent:=0,part:=j.part+1 }:Jb).parts.length from y)];refine⟨a,c,h.ln,?_,h.tl⟩;have:=len_pos (tops:=tops) (j:={ j with spent:=0,part:=0,job:=j.job+1 }) h.ln a;show (0:Int)<_;exact Nl (by decide) this
  ·rw[if_neg (show ¬ ({ j with spent:=0,part:=j.part+1 }:Jb).part=({ j with spent:=0,part:=j.part+1 }:Jb).parts.length from y)];have b:j.part+1<j.parts.length:=by have:=h.pt;omega
   refine⟨b,h.jb,h.ln,?_,h.tl⟩;have:=len_pos (tops:=tops) (j:={ j with spent:=0,part:=j.part+1 }) h.ln b;show (0:Int)<_;exact Nl (by decide) this
 ·rw[if_neg z];unfold Jb.step2;rw[if_neg (show ¬ ({ j with spent:=j.spent+1 }:Jb).part=({ j with spent:=j.spent+1 }:Jb).parts.length from LC h.pt)];refine⟨h.pt,h.jb,h.ln,?_,h.tl⟩;show ((j.spent+1:Nat):Int)<j.len;omega
theorem mH (h:js≠[]):iH key js∈js:=by
 have hl:0<js.length:=Mh.mpr h;have hb:=ui (λi j=>ltD ((js.map key).getD i .none) ((js.map key).getD j .none)) (js.length-1);have a:jS (js.map key)<js.length:=by unfold jS;rw[L5];omega
 unfold iH;rw[LJ,L0 a];exact LY a
theorem gy {len:Str} (h:js≠[]):cY tops len js∈js:=by
 unfold cY;split
 ·exact mH h
 ·have hn:=oj (ts:=js.map λj=>((0:Addr),j)) (by simpa using h);have hm:(js.map λj=>((0:Addr),j)).map (·.2)=js:=by rw[LQ];exact Mf js
  rw[hm]at hn;have a:js.filter (g9 js)≠[]:=by
   obtain⟨p,r,e⟩:=MZ hn;have b:p∈(js.map λj=>((0:Addr),j)).filter (λp=>g9 js p.2):=by rw[e];exact L6
   obtain⟨h1,h2⟩:=LO.mp b;obtain⟨j,c,rfl⟩:=LA.mp h1;exact Nc (LO.mpr ⟨c,h2⟩)
  exact (LO.mp (mH a)).1
theorem pV {t:Int} (h:j.there t=true):j.job<j.row.length:=by
 unfold Jb.there at h;by_cases z:j.job<j.row.length
 ·exact z
 ·rw[Mq (by omega)]at h;cases h
theorem va (j:Jb):j.next.num=j.num:=by unfold Jb.next Jb.step1 Jb.step2;split <;> split <;> rfl
structure xi (tops:PyData) (js:List Jb):Prop where
 ok:∀j∈js,JOk tops j
 nd:(js.map (·.num)).Nodup
theorem zX {b:Jb}:(dN b js).map (·.num)=js.map (·.num):=by
 unfold dN;rw[LQ];refine LN λj hj=>?_
 show (if j.num=b.num then b.next else j).num=j.num;by_cases z:j.num=b.num
 ·rw[if_pos z,va,z]
 ·rw[if_neg z]
theorem tQ {len:Str} (h:xi tops js):xi tops (cQ tops len (js,told)).1:=by
 unfold cQ;by_cases z:cj told js=[]
 ·rw[if_pos z];exact h
 ·rw[if_neg z];have a:=gy (tops:=tops) (len:=len) z;obtain⟨hm,b⟩:=LO.mp a;refine⟨λj c=>?_,by rw[zX];exact h.nd⟩;obtain⟨k,e,rfl⟩:=LA.mp c;by_cases y:k.num=(cY tops len (cj told js)).num
  ·simp only[y,if_true];exact Gb (h.ok _ hm) (pV b)
  ·simp only[if_neg y];exact h.ok k e
def tG (tops:PyData) (len:Str):Nat->List Jb×List PyData->Option (List PyData)
 |0,_=>none
 |n+1,s=>if s.1.all Jb.done=true then some s.2 else tG tops len n (cQ tops len s)
def rnC (cs:Cs):Ds->Rs Bool:=fI (gT (gF nC (ae (gL (a9 9 (bT (af 5)) bS (bp cs.Jobs "are_done" (aU cs) (af 9) ah) aO)) ah)))
theorem u9 {len:Str}:(cQ tops len s).2.length=s.2.length+1:=by unfold cQ;split <;> simp
theorem xx {len:Str} (h:aC (.list s.2)=true):aC (.list (cQ tops len s).2)=true:=by
 have h1:∀d∈s.2,aC d=true:=iU (by simpa[aC] using h);refine eJ λd hd=>?_
 unfold cQ at hd;split at hd
 ·rcases LW.mp hd with hd|hd
  ·exact h1 d hd
  ·rw[Lx.mp hd];rfl
 ·rcases LW.mp hd with hd|hd
  ·exact h1 d hd
  ·rw[Lx.mp hd];rfl
section
variable {E R W:PyData} {len:Str}
theorem Ii {qs:List (Addr×Jb)} (hl:qs.length<=1000) (a:qs.map (·.1)=as) (nd:as.Nodup) (h:xi tops (qs.map (·.2))):QOk as qs:=by
 have hm:∀p∈qs,JOk tops p.2:=λp a=>h.ok _ (LA.mpr ⟨p,a,rfl⟩)
 refine⟨hl,a,nd,?_,λp a=>(hm p a).pt,λp a=>(hm p a).jb⟩;have:=h.nd;rw[LQ]at this;exact this
theorem wd (i:uD len) (nd:as.Nodup):∀(n:Nat) (qs:List (Addr×Jb)) (told t:List PyData) (x7 x8:Option PyData),qs.length<=1000->qs.map (·.1)=as->xi tops (qs.map (·.2))->NoD E R W tops told->told.length+n<=1000000->tG tops len n (qs.map (·.2),told)=some t ->
  ∃a c f,cm (rnC cs) (rnB cs as) n (rnD cs.Jobs E R W tops len qs told x7 x8)=.nx (rnD cs.Jobs E R W tops len a t c f)
 |0,_,_,_,_,_,_,_,_,_,_,h=>by cases h
 |n+1,qs,told,t,x7,x8,hl,b,hj,no,hn,h=>by
  have K:=Ii hl b nd hj;have hc:rnC cs (rnD cs.Jobs E R W tops len qs told x7 x8)=.ok (!((qs.map (·.2)).all Jb.done)):=cond_of hl;unfold tG at h;unfold cm;rw[hc];simp only[az];cases z:(qs.map (·.2)).all Jb.done with
  |true =>rw[if_pos z]at h;cases h;simp only[Bool.not_true,LR,if_false];exact⟨qs,x7,x8,rfl⟩
  |false =>
   rw[if_neg (by rw[z];exact LK)]at h;simp only[Bool.not_false,if_true];obtain⟨a,c,f,e,f1,f2⟩:=FA (cs:=cs) K no i (λp b=>(hj.ok _ (LA.mpr ⟨p,b,rfl⟩)).held) (by omega) x7 x8;rw[e];have g:a.length<=1000:=by have:=congrArg List.length f1;rw[L5,L5]at this;omega
   refine wd i nd n a _ t c f g (by rw[f1];exact b) (by rw[f2];exact tQ hj) ⟨no.e,no.r,no.w,no.t,xx (s:=(qs.map (·.2),told)) no.o⟩ (by rw[u9];show told.length+1+n<=_;omega) ?_;rw[f2];exact h
end
def bJ (ps:List (Int×Option Int)):Int:=(ps.map (·.1)).sum
theorem d8 (p:Int×Option Int) (r:List (Int×Option Int)):bJ (p::r)=p.1+bJ r:=by unfold bJ;rw[L4,N0]
def Jb.work (j:Jb):Int:=bJ j.parts
def Jb.cur (j:Jb):Int:=bJ (j.parts.take j.part)+j.spent
def Jb.tot (j:Jb):Int:=j.job*j.work+j.cur
theorem ke:∀{ps:List (Int×Option Int)} {k:Nat} (h:k<ps.length),bJ (ps.take (k+1))=bJ (ps.take k)+ps[k].1
 |[],k,h=>by cases h
 |p::r,0,_=>by rw[MO,List.take_zero,d8];show p.1+bJ []=bJ []+p.1;omega
 |p::r,k+1,h=>by
  have a:k<r.length:=by simpa using h
  have b:=ke (ps:=r) (k:=k) a;rw[MO,MO,d8,d8,b];show p.1+(bJ (r.take k)+r[k].1)=p.1+bJ (r.take k)+r[k].1;omega
theorem om (h:JOk tops j):j.next.tot=j.tot+1:=by
 have hpt:=h.pt;have hlen:j.len=j.parts[j.part].1:=by unfold Jb.len;rw[L0 h.pt];rfl
 have ht:=ke h.pt;unfold Jb.next Jb.step1;by_cases z:(j.spent:Int)+1=j.len
 ·rw[if_pos z];unfold Jb.step2;by_cases y:j.part+1=j.parts.length
  ·rw[if_pos (show ({ j with spent:=0,part:=j.part+1 }:Jb).part=({ j with spent:=0,part:=j.part+1 }:Jb).parts.length from y)];have hw:bJ (j.parts.take (j.part+1))=bJ j.parts:=by rw[y,Nw]
   show ((j.job+1:Nat):Int)*bJ j.parts+(bJ (j.parts.take 0)+((0:Nat):Int))=(j.job:Int)*bJ j.parts+(bJ (j.parts.take j.part)+(j.spent:Int))+1;have a:bJ (j.parts.take 0)=0:=rfl;have e1:((j.job+1:Nat):Int)*bJ j.parts=(j.job:Int)*bJ j.parts+bJ j.parts:=by rw[Int.natCast_add,Int.add_mul];simp
   rw[a,e1];omega
  ·rw[if_neg (show ¬ ({ j with spent:=0,part:=j.part+1 }:Jb).part=({ j with spent:=0,part:=j.part+1 }:Jb).parts.length from y)];show (j.job:Int)*bJ j.parts+(bJ (j.parts.take (j.part+1))+((0:Nat):Int))=(j.job:Int)*bJ j.parts+(bJ (j.parts.take j.part)+(j.spent:Int))+1;omega
 ·rw[if_neg z];unfold Jb.step2;rw[if_neg (show ¬ ({ j with spent:=j.spent+1 }:Jb).part=({ j with spent:=j.spent+1 }:Jb).parts.length from LC h.pt)];show (j.job:Int)*bJ j.parts+(bJ (j.parts.take j.part)+((j.spent+1:Nat):Int))=(j.job:Int)*bJ j.parts+(bJ (j.parts.take j.part)+(j.spent:Int))+1;omega
theorem m8:∀(a b:List (Int×Option Int)),bJ (a++b)=bJ a+bJ b
 |[],b=>by show bJ b=0+bJ b;omega
 |p::r,b=>by rw[M6,d8,d8,m8 r b];omega
theorem iZ:∀{ps:List (Int×Option Int)},(∀p∈ps,1<=p.1)->0<=bJ ps
 |[],_=>MJ 0
 |p::r,h=>by
  have:=h p L6;have ih:=iZ (ps:=r) λq a=>h q (L3 _ a)
  rw[d8];omega
theorem ue {ps:List (Int×Option Int)} (h:∀p∈ps,1<=p.1) (k:Nat):bJ (ps.take k)<=bJ ps:=by
 have e:=m8 (ps.take k) (ps.drop k);rw[List.take_append_drop]at e;have:=iZ (ps:=ps.drop k) λq a=>h q (MV a)
 omega
theorem mV (h:JOk tops j):0<=j.cur/\j.cur<j.work:=by
 have hpt:=h.pt;have hlen:j.len=j.parts[j.part].1:=by unfold Jb.len;rw[L0 h.pt];rfl
 have ht:=ke h.pt;have h1:=ue h.ln (j.part+1);have h2:=iZ (ps:=j.parts.take j.part) λq a=>h.ln q (MI a)
 have h3:=h.sp;unfold Jb.cur Jb.work;omega
theorem w6 (h:JOk tops j) {k:Nat} (hj:j.job<k):j.tot<(k:Int)*j.work:=by obtain⟨c0,c1⟩:=mV h;have:=M9 (a:=(j.job:Int)+1) (b:=(k:Int)) (c:=j.work) (by omega) (by omega);rw[Int.add_mul,Int.one_mul]at this;unfold Jb.tot;omega
theorem iF (j:Jb):j.next.row=j.row:=by unfold Jb.next Jb.step1 Jb.step2;split <;> split <;> rfl
theorem iV (j:Jb):j.next.parts=j.parts:=by unfold Jb.next Jb.step1 Jb.step2;split <;> split <;> rfl
def Jb.left (j:Jb):Nat:=((j.row.length:Int)*j.work-j.tot).toNat
theorem si (j:Jb):j.next.work=j.work:=by unfold Jb.work;rw[iV]
theorem Ab (h:JOk tops j) (a:j.job<j.row.length):j.next.left+1=j.left:=by have h1:=om h;have h2:=w6 h a;unfold Jb.left;rw[iF,si,h1];omega
theorem zu {b:Jb}:∀{r:List Jb},(∀k∈r,k.num≠b.num)->dN b r=r
 |[],_=>rfl
 |k::t,h=>by show (if k.num=b.num then b.next else k)::dN b t=_;rw[if_neg (h k L6),zu λx a=>h x (L3 _ a)]
theorem mK {b:Jb} {r:List Jb} (nd:((j::r).map (·.num)).Nodup) (a:b∈j::r):(j=b/\dN b (j::r)=b.next::r)\/(j.num≠b.num/\b∈r/\dN b (j::r)=j::dN b r):=by
 rw[L4,M3]at nd;have e:dN b (j::r)=(if j.num=b.num then b.next else j)::dN b r:=rfl;by_cases z:j.num=b.num
 ·left;have c:j=b:=by
   rcases L7.mp a with h|h
   ·exact h.symm
   ·exact (nd.1 (LA.mpr ⟨b,h,z.symm⟩)).elim
  refine⟨c,?_⟩;rw[e,if_pos z,zu λk f q=>nd.1 (LA.mpr ⟨k,f,q.trans z.symm⟩)]
 ·right;refine⟨z,?_,by rw[e,if_neg z]⟩;rcases L7.mp a with h|h
  ·exact (z (by rw[h])).elim
  ·exact h
theorem vz {f:Jb->Nat} {b:Jb}:∀{js:List Jb},(js.map (·.num)).Nodup->b∈js->f b.next+1=f b->((dN b js).map f).sum+1=(js.map f).sum
 |[],_,a,_=>by cases a
 |j::r,nd,a,hf=>by
  rcases mK nd a with⟨g,e⟩|⟨_,c,e⟩
  ·rw[e,L4,L4,N0,N0,g];omega
  ·rw[L4,M3]at nd;have:=vz nd.2 c hf;rw[e,L4,L4,N0,N0];omega
def yX (js:List Jb):Nat:=(js.map Jb.left).sum
theorem lF {b k:Jb} (hb:b∈js) (a:k∈dN b js):k∈js\/k=b.next:=by
 obtain⟨j,c,rfl⟩:=LA.mp a;by_cases z:j.num=b.num
 ·right;exact if_pos z
 ·left;rw[if_neg z];exact c
theorem jY {len:Str} (z:cj told js=[]):cQ tops len (js,told)=(js,told++[.none]):=by unfold cQ;exact if_pos z
theorem mP {len:Str} (z:cj told js≠[]):∃b,b∈js/\b.there (told.length:Int)=true/\cQ tops len (js,told)=(dN b js,told++[cH b]):=by obtain⟨hm,a⟩:=LO.mp (gy (tops:=tops) (len:=len) z);refine⟨_,hm,a,?_⟩;unfold cQ;exact if_neg z
theorem Fn (h:JOk tops j) (hd:j.done=false):j.job<j.row.length:=by have:=h.jb;unfold Jb.done at hd;rw[beq_eq_false_iff_ne]at hd;omega
theorem pQ {tops:PyData} {len:Str} {B:Nat}:∀(n:Nat) (js:List Jb) (told:List PyData),xi tops js->(∀j∈js,∀c∈j.row,c<(B:Int))->yX js+(B-told.length)<n->∃t,tG tops len n (js,told)=some t
 |0,_,_,_,_,hn=>by omega
 |n+1,js,told,h,hr,hn=>by
  unfold tG;by_cases z:js.all Jb.done=true
  ·exact⟨told,if_pos z⟩
  ·rw[if_neg (show ¬ ((js,told).1.all Jb.done=true) from z)];by_cases y:cj told js=[]
   ·rw[jY y];refine pQ n js _ h hr ?_;rw[LD]at z;obtain⟨j,o⟩:=Classical.not_forall.mp z;obtain⟨hm,hd⟩:=Classical.not_imp.mp o;have a:=Fn (h.ok j hm) (Bool.eq_false_iff.mpr hd);have hc:=hr j hm _ (LY a);have g:¬ j.there (told.length:Int)=true:=λe=>by have:j∈cj told js:=LO.mpr ⟨hm,e⟩;rw[y]at this;cases this
    unfold Jb.there at g;rw[L0 a]at g;simp only[decide_eq_true_eq]at g;rw[LB,M7];omega
   ·obtain⟨b,l,g,e⟩:=mP (tops:=tops) (len:=len) y;have i:=tQ (len:=len) (told:=told) h;rw[e]at i ⊢;have hs:=vz (f:=Jb.left) h.nd l (Ab (h.ok _ l) (pV g));refine pQ (B:=B) n _ _ i (λk m=>?_) ?_
    ·rcases lF l m with m|rfl
     ·exact hr k m
     ·rw[iF];exact hr b l
    ·rw[LB,M7];unfold yX at hn ⊢;omega
def iu (r:List Int) (t:Int):Nat:=(r.filter λc=>decide (c<=t)).length
theorem fw (a:Int) (s:List Int) (t:Int):iu (a::s) t=(if a<=t then 1 else 0)+iu s t:=by
 unfold iu;rw[MM];by_cases z:a<=t
 ·rw[if_pos (decide_eq_true z),if_pos z,LI];omega
 ·rw[if_neg (by simpa using z),if_neg z];omega
theorem wx (r:List Int) (t:Int):iu r t<=r.length:=Nj _ _
theorem rg {t u:Int} (h:t<=u):∀r:List Int,iu r t<=iu r u
 |[]=>L9 _
 |a::s=>by
  have ih:=rg h s;rw[fw,fw];by_cases z:a<=t
  ·rw[if_pos z,if_pos (by omega)];omega
  ·rw[if_neg z];omega
theorem rE {t:Int}:∀{r:List Int},(∀c∈r,t<c)->iu r t=0
 |[],_=>rfl
 |a::s,h=>by have:=h a L6;rw[fw,if_neg (by omega),rE λc hc=>h c (L3 _ hc)]
theorem tT {t:Int}:∀{r:List Int} {k:Nat} (b:k<r.length),r.Pairwise (· < ·)->t<r[k]->iu r t<=k
 |[],_,b,_,_=>by cases b
 |a::s,0,_,hp,h=>by rw[Nd]at hp;have h:t<a:=h;have:=hp.1;rw[fw,if_neg (by omega),rE λc hc=>Int.lt_trans h (this c hc)];exact L9 _
 |a::s,k+1,b,hp,h=>by
  rw[Nd]at hp;have e:k<s.length:=by simpa using b
  have ih:=tT e hp.2 (show t<s[k] from h);rw[fw];split <;> omega
theorem tH {t:Int}:∀{r:List Int} {k:Nat} (c:k<r.length),r.Pairwise (· < ·)->r[k]<=t->k<iu r t
 |[],_,c,_,_=>by cases c
 |a::s,0,_,hp,h=>by have h:a<=t:=h;rw[fw,if_pos h];omega
 |a::s,k+1,c,hp,h=>by
  rw[Nd]at hp;have b:k<s.length:=by simpa using c
  have h:s[k]<=t:=h;have ih:=tH b hp.2 h;have:=hp.1 _ (LY b);rw[fw,if_pos (by omega)];omega
def fY (t:Int) (j:Jb):Int:=(iu j.row t:Int)*j.work-j.tot
structure IvJ (tops:PyData) (t:Int) (js:List Jb):Prop where
 ok:xi tops js
 srt:∀j∈js,j.row.Pairwise (· < ·)
 low:∀j∈js,0<=fY t j
theorem xw {t:Int} (h:JOk tops j) (c:j.row.Pairwise (· < ·)) (b:j.there t=true):0<fY t j:=by have a:=pV b;unfold Jb.there at b;rw[L0 a]at b;have:=w6 h (tH a c (of_decide_eq_true b));unfold fY;omega
theorem CL {t:Int} (h:JOk tops j) (f:j.row.Pairwise (· < ·)) (hl:0<=fY t j) (e:j.there t=false):fY t j=0:=by
 have hc:iu j.row t<=j.job:=by
  by_cases z:j.job<j.row.length
  ·unfold Jb.there at e;rw[L0 z]at e;have:=of_decide_eq_false e;exact tT z f (by omega)
  ·have:=wx j.row t;omega
 obtain⟨c0,c1⟩:=mV h;have:=M9 (a:=(iu j.row t:Int)) (b:=(j.job:Int)) (c:=j.work) (by omega) (by omega);unfold fY Jb.tot at hl ⊢;omega
theorem l5 {t u:Int} (e:t<=u) (h:JOk tops j):fY t j<=fY u j:=by have h1:=rg e j.row;have h2:=mV h;have:=M9 (a:=(iu j.row t:Int)) (b:=(iu j.row u:Int)) (c:=j.work) (by omega) (by omega);unfold fY;omega
theorem Fj {len:Str} (h:IvJ tops (told.length:Int) js):IvJ tops ((cQ tops len (js,told)).2.length:Int) (cQ tops len (js,told)).1:=by
 have c:=tQ (len:=len) (told:=told) h.ok;by_cases z:cj told js=[]
 ·rw[jY z]at c ⊢;refine⟨c,h.srt,λj a=>?_⟩;have:=h.low j a;have:=l5 (u:=(((told++[PyData.none]).length:Nat):Int)) (t:=(told.length:Int)) (by rw[LB];omega) (h.ok.ok j a);show 0<=fY (((told++[PyData.none]).length:Nat):Int) j;omega
 ·obtain⟨b,f,g,e⟩:=mP (tops:=tops) (len:=len) z;rw[e]at c ⊢;refine⟨c,λj a=>?_,λj a=>?_⟩
  ·rcases lF f a with a|rfl
   ·exact h.srt j a
   ·rw[iF];exact h.srt b f
  ·show 0<=fY (((told++[cH b]).length:Nat):Int) j;rcases lF f a with a|rfl
   ·have:=h.low j a;have:=l5 (u:=(((told++[cH b]).length:Nat):Int)) (t:=(told.length:Int)) (by rw[LB];omega) (h.ok.ok j a);omega
   ·have h2:=xw (h.ok.ok b f) (h.srt b f) g;have i:=l5 (u:=(((told++[cH b]).length:Nat):Int)) (t:=(told.length:Int)) (by rw[LB];omega) (h.ok.ok b f);have l:=om (h.ok.ok b f);unfold fY at h2 i ⊢;rw[iF,si,l];omega
theorem D0 (h:JOk tops j):j.tot / j.work=(j.job:Int):=by obtain⟨c0,c1⟩:=mV h;unfold Jb.tot;rw[Int.add_comm,Int.add_mul_ediv_right _ _ (by omega),Int.ediv_eq_zero_of_lt c0 c1];omega
def fJ (j:Jb):Int×List (Int×Option Int)×List Int:=(j.num,j.parts,j.row)
theorem rD {b:Jb}:∀{js:List Jb},(js.map (·.num)).Nodup->b∈js->(dN b js).map fJ=js.map fJ
 |[],_,a=>by cases a
 |j::r,nd,a=>by
  rcases mK nd a with⟨f,e⟩|⟨_,c,e⟩
  ·rw[e,L4,L4,f];unfold fJ;rw[va,iV,iF]
  ·rw[L4,M3]at nd;rw[e,L4,L4,rD nd.2 c]
theorem dJ {g:Ds->Rs PyData} {d:PyData} (hi:i<δ.length) (a:g (mask O δ)=.ok d):aT O i g δ=.nx (δ.set i (some d)):=by unfold aT;rw[if_pos hi,a];rfl
def mkJ (es:List Er) (rs:List Int) (k:Nat) (row:List Int):Jb:=⟨(k:Int),(b9 es (k:Int)).parts,(placeOf rs (k:Int):Int),row,0,0,0⟩
def startJ (es:List Er) (rs:List Int) (rows:List (List Int)):List Jb:=rows.mapIdx (mkJ es rs)
section
theorem jX (i:Nat):(startJ es rs rows)[i]?=(rows[i]?).map (mkJ es rs i):=MH
theorem dC (h:j∈startJ es rs rows):∃(k:Nat) (row:List Int),k<rows.length/\row∈rows/\rows[k]?=some row/\j=mkJ es rs k row:=by obtain⟨k,b⟩:=ME.mp h;rw[jX]at b;obtain⟨row,a,e⟩:=MA.mp b;exact⟨k,row,(LM.mp a).1,M1 a,a,e.symm⟩
theorem gB:(startJ es rs rows).length=rows.length:=List.length_mapIdx
theorem xA:(startJ es rs rows).map (·.num)=(List.range rows.length).map λ(k:Nat)=>(k:Int) :=
 MW (by simp[startJ]) (λi h1 h2=>by simp[startJ,mkJ])
theorem E7 (n:Nat):((List.range n).map λ(k:Nat)=>(k:Int)).Nodup:=List.Pairwise.map _ (λa b h e=>h (by omega)) List.nodup_range
theorem my (k:Nat) (row:List Int):(mkJ es rs k row).tot=0:=by show ((0:Nat):Int)*_+(bJ (List.take 0 _)+((0:Nat):Int))=0;rw[List.take_zero];have:bJ []=0:=rfl;rw[this];simp
end
theorem uh:∀{ps:List (Int×Option Int)},(∀p∈ps,p.1<=20)->bJ ps<=20*(ps.length:Int)
 |[],_=>MJ 0
 |p::r,h=>by
  have:=h p L6;have ih:=uh (ps:=r) λq a=>h q (L3 _ a)
  rw[d8,LI];omega
theorem yN {α:Type} (f:α->Nat) {c:Nat}:∀{l:List α},(∀x∈l,f x<=c)->(l.map f).sum<=l.length*c
 |[],_=>Me _
 |a::r,h=>by
  have h1:=h a L6;have ih:=yN f (l:=r) λx b=>h x (L3 _ b)
  rw[L4,N0,LI,Nat.add_mul];omega
theorem ku {t n:Int} (t0:0<=t) (t3:t<=3) (h:bj es rs t=some n):dIx (aF es rs) (.int t)=some (.int n):=by
 obtain⟨m,rfl⟩:∃m:Nat,t=(m:Int):=⟨t.toNat,by omega⟩
 show atI ((List.range 4).map λ(t:Nat)=>bz (bj es rs t)) (m:Int)=_;refine nM ?_;rw[LG,N3 (by omega),MD,h];rfl
theorem qU (es:List Er) (rs:List Int):aC (aF es rs)=true:=eJ λd hd=>by obtain⟨t,_,rfl⟩:=LA.mp hd;exact sv _
structure Ran (es:List Er) (rs:List Int) (rows:List (List Int)) (len:Str):Prop where
 eok:v8 es
 rok:dQ es.length rs
 ln:rows.length=es.length
 le:uD len
def kO (es:List Er) (rs:List Int) (rows:List (List Int)) (len:Str):Option (List PyData):=tG (aF es rs) len 1000000 (startJ es rs rows,[])
section
variable {len:Str}
theorem lE (h:v8 es) (f:dQ es.length rs) (hl:rows.length=es.length):xi (aF es rs) (startJ es rs rows):=by
 refine⟨λj g=>?_,by rw[xA];exact E7 _⟩;obtain⟨k,row,hk,_,_,rfl⟩:=dC g;have c:(0:Int)<=(k:Int):=by omega
 have h1:(k:Int)<es.length:=by omega
 have ok:=h.ok _ (e9 c h1);have a:0<(b9 es (k:Int)).parts.length:=Mh.mpr ok.p1;refine⟨a,Me _,λp b=>(ok.pl p b).1,?_,λp b u e=>?_⟩
 ·have:=len_pos (tops:=.none) (j:=mkJ es rs k row) (λp b=>(ok.pl p b).1) a;show (0:Int)<_;exact Nl (by decide) this
 ·obtain⟨i,l⟩:=(ok.pl p b).2.2 u e;have m:(b9 es (k:Int)).has u=true:=by unfold Er.has;rw[ML];exact⟨p,b,by rw[e];exact beq_self_eq_true _⟩
  obtain⟨n,hn⟩:=oy es u rs 0 (k:Int) (f.mem c h1) m;exact⟨n,ku i l hn⟩
theorem Bu (R:Ran es rs rows len) (C:Cms es rows):∃t,kO es rs rows len=some t:=by
 have a:=C.oG;refine pQ (B:=10000) 1000000 _ [] (lE R.eok R.rok R.ln) (λj b c hc=>?_) ?_
 ·obtain⟨k,row,_,hm,_,rfl⟩:=dC b;have:=(a row hm).hi c hc;omega
 ·have f:yX (startJ es rs rows)<=(startJ es rs rows).length*4800:=yN Jb.left λj b=>by
   obtain⟨k,row,hk,hm,_,rfl⟩:=dC b;have ok:=R.eok.ok _ (e9 (n:=(k:Int)) (by omega) (by have:=R.ln;omega));have h1:=uh λp e=>(ok.pl p e).2.1
   have h2:=ok.p2;have h3:=(a row hm).few;have g:=iZ λp e=>(ok.pl p e).1
   unfold Jb.left;rw[my];have h5:((mkJ es rs k row).row.length:Int)*(mkJ es rs k row).work<=60*80:=Int.mul_le_mul (by show (row.length:Int)<=60;omega) (by show bJ (b9 es (k:Int)).parts<=80;omega) g (by decide);omega
  rw[gB]at f;have h6:=R.eok.l6;have h7:=R.ln;show yX (startJ es rs rows)+(10000-0)<1000000;have h8:rows.length*4800<=6*4800:=Nat.mul_le_mul_right _ (by omega);omega
end
def fsJ (j:Jb):List PyData:=[.int j.num,.tuple (j.parts.map aN),.int j.rank,de j.row]
theorem xy (h:∀j∈js,j.job=0/\j.part=0/\j.spent=0):ko C JN JT as (js.map fsJ)=(as.zip js).map (jD C):=by
 unfold ko;rw[List.zip_map_right,LQ];refine LN λp c=>?_
 obtain⟨h1,h2,e⟩:=h p.2 (N5 (a:=p.1) (b:=p.2) c).2;show ck C p.1 (JN.zip (fsJ p.2)++tlD JT)=ck C p.1 p.2.fds;unfold Jb.fds;rw[h1,h2,e];rfl
section
variable {len:Str}
theorem E4 (R:Ran es rs rows len) (c:kO es rs rows len=some t) (hl:as.length=rows.length) (nd:as.Nodup) :
  i7 cs aP (aU cs) (cB cs) (aM cs) fN as [some (ax es),some (ar rs),some (cmD rows),some (.str len),some (aF es rs),some (.list ((as.zip (startJ es rs rows)).map (jD cs.Jobs))),none,none,none]=.rt (.list t):=by
 have b:(as.zip (startJ es rs rows)).map (·.1)=as:=List.map_fst_zip (by rw[gB,hl];exact L9 _);have a:(as.zip (startJ es rs rows)).map (·.2)=startJ es rs rows:=List.map_snd_zip (by rw[gB,hl];exact L9 _);obtain⟨qs',y7,y8,e⟩:=wd (cs:=cs) (E:=ax es) (R:=ar rs) (W:=cmD rows) (tops:=aF es rs) (len:=len) (as:=as) R.le nd 1000000 (as.zip (startJ es rs rows)) [] t none none
  (by rw[List.length_zip,gB];have:=R.eok.l6;have:=R.ln;omega) b (by rw[a];exact lE R.eok R.rok R.ln) ⟨rh es,oa rs,pP rows,qU es rs,eJ λd hd=>by cases hd⟩ (by rw[Mm];omega) (by rw[a];exact c)
 have f:fc [6] 6 ah [some (ax es),some (ar rs),some (cmD rows),some (.str len),some (aF es rs),some (.list ((as.zip (startJ es rs rows)).map (jD cs.Jobs))),none,none,none]=.nx (rnD cs.Jobs (ax es) (ar rs) (cmD rows) (aF es rs) len (as.zip (startJ es rs rows)) [] none none):=rfl;show aE (fc [6] 6 ah) (aE (λδ=>cm (rnC cs) (rnB cs as) 1000000 δ) (bo (af 6))) _=_;rw[aQ,f];show (match cm (rnC cs) (rnB cs as) 1000000 (rnD cs.Jobs (ax es) (ar rs) (cmD rows) (aF es rs) len (as.zip (startJ es rs rows)) [] none none) with
  |.nx δ'=>bo (af 6) δ'
  |r=>r)=_
 rw[e];rfl
end
def C1:PyData->List Int
 |.list xs=>(gX xs).getD []
 |_=>[]
def BE:PyData->List (List Int)
 |.list l=>l.map C1
 |_=>[]
theorem B8 (rows:List (List Int)):BE (cmD rows)=rows:=by
 show (rows.map de).map C1=rows;rw[LQ];have:∀r∈rows,(C1∘de) r=id r:=λr _=>by show (gX (r.map PyData.int)).getD []=r;rw[fu];rfl
 rw[LN this,Mf]
def lenOf:PyData->Str
 |.str s=>s
 |_=>""
def C7 (d r c l:PyData):PyData:=match kO (dk d) (cM r) (BE c) (lenOf l) with
 |some t=>.list t
 |none=>.none
theorem um {len:Str} (a:kO es rs rows len=some t):C7 (ax es) (ar rs) (cmD rows) (.str len)=.list t:=by unfold C7;rw[ie,iq,B8,show lenOf (.str len)=len from rfl,a]
def atD (δ:Ds) (i:Nat):PyData:=((δ[i]?).getD none).getD .none
open Classical in
def kC:Ds->Sr:=λδ=>if ∃es rs rows len t,Ran es rs rows len/\kO es rs rows len=some t/\δ=[some (ax es),some (ar rs),some (cmD rows),some (.str len),some (aF es rs),none,none,none,none] then .rt (C7 (atD δ 0) (atD δ 1) (atD δ 2) (atD δ 3)) else .no
theorem Gk {len:Str} (R:Ran es rs rows len) (a:kO es rs rows len=some t):kC [some (ax es),some (ar rs),some (cmD rows),some (.str len),some (aF es rs),none,none,none,none]=.rt (.list t):=by unfold kC;rw[if_pos ⟨es,rs,rows,len,t,R,a,rfl⟩];exact congrArg Sr.rt (um a)
theorem FK (cs:Cs):∀δ,kC δ≠.no->∃d ds a,kC δ=.rt d/\5<δ.length/\δ.length=9/\(eK (ae (af 2) ah)) (mask [6] δ)=.ok ds/\ds.length<=1000000/\a.length=ds.length/\(∀(i:Nat) d,ds[i]?=some d->∃f fs,jL d=some f/\a[i]?=some fs/\(ae (af 9) (ae (g2 dIx (g2 dIx (af 0) (af 9)) (gC (.int 3))) (ae (uy (af 1) (af 9)) (ae (af 10) ah)))) (mask [6] δ++f)=.ok fs/\fs.length=JN.length) /\
   ∀as:List Addr,as.length=ds.length->as.Nodup->i7 cs aP (aU cs) (cB cs) (aM cs) fN as (δ.set 5 (some (.list (ko cs.Jobs JN JT as a))))=.rt d:=by
 intro δ b;by_cases hx:∃es rs rows len t,Ran es rs rows len/\kO es rs rows len=some t/\δ=[some (ax es),some (ar rs),some (cmD rows),some (.str len),some (aF es rs),none,none,none,none]
 ·obtain⟨es,rs,rows,len,t,R,g,rfl⟩:=hx;have hln:=R.ln;refine⟨.list t,fe (rows.map de),(startJ es rs rows).map fsJ,Gk R g,(by decide:5<9),rfl,rfl,?_,?_,?_,?_⟩
  ·rw[iI,L5];have:=R.eok.l6;omega
  ·rw[iI,L5,L5,gB]
  ·intro i d hd;unfold fe at hd;rw[MH,LG]at hd;cases q:rows[i]? with
   |none=>rw[q]at hd;cases hd
   |some row =>
    rw[q]at hd;have e:some (PyData.tuple [.int (i:Int),de row])=some d:=hd;cases e;have hi:=(LM.mp q).1;have h:(0:Int)<=(i:Int):=by omega
    have h1:(i:Int)<es.length:=by omega
    refine⟨[some (.int (i:Int)),some (de row)],fsJ (mkJ es rs i row),rfl,?_,?_,rfl⟩
    ·rw[LG,jX,q];rfl
    ·have a1:dIx (ax es) (.int (i:Int))=some (b9 es (i:Int)).d:=kT h h1;have a2:=zW (b9 es (i:Int));have l:=nz (R.rok.mem h h1);show (ae (af 9) (ae (g2 dIx (g2 dIx (af 0) (af 9)) (gC (.int 3))) (ae (uy (af 1) (af 9)) (ae (af 10) ah)))) [some (ax es),some (ar rs),some (cmD rows),some (.str len),some (aF es rs),none,none,none,none,some (.int (i:Int)),some (de row)]=_;simp only[aA,aH,bK,ao,au,cy,BA,Rs.ag,a1,a2,Rs.ai,ar,l];rfl
  ·intro as c nd;rw[iI,L5]at c;rw[xy λj m=>by obtain⟨k,row,_,_,_,rfl⟩:=dC m;exact⟨rfl,rfl,rfl⟩];exact E4 R g c nd
 ·unfold kC at b;rw[if_neg hx]at b;exact absurd rfl b
open Classical in
def dW (cs:Cs):Gf:=λds=>if ∃es rs rows len t,Ran es rs rows len/\kO es rs rows len=some t/\ds=[ax es,ar rs,cmD rows,.str len] then .ok (C7 (ds.getD 0 .none) (ds.getD 1 .none) (ds.getD 2 .none) (ds.getD 3 .none)) else .no
theorem lQ {len:Str} (R:Ran es rs rows len) (a:kO es rs rows len=some t):dW cs [ax es,ar rs,cmD rows,.str len]=.ok (.list t):=by unfold dW;rw[if_pos ⟨es,rs,rows,len,t,R,a,rfl⟩];exact congrArg Rs.ok (um a)
theorem CN (cs:Cs):∀ds,ds.length=4->dW cs ds≠.no->bh (aE (aT [6] 4 (aq aP (ae (af 0) (ae (af 1) ah)))) kC (ds.map some++List.replicate 5 none))=dW cs ds:=by
 intro ds hl a;by_cases hx:∃es rs rows len t,Ran es rs rows len/\kO es rs rows len=some t/\ds=[ax es,ar rs,cmD rows,.str len]
 ·obtain⟨es,rs,rows,len,t,R,b,rfl⟩:=hx;rw[lQ R b];have c:=fm (es:=es) (rs:=rs) (by have:=R.eok.l6;omega) (λe f=>(R.eok.ok e f).sh) R.rok;have g:aT [6] 4 (aq aP (ae (af 0) (ae (af 1) ah))) [some (ax es),some (ar rs),some (cmD rows),some (.str len),none,none,none,none,none]=.nx [some (ax es),some (ar rs),some (cmD rows),some (.str len),some (aF es rs),none,none,none,none]:=by have h:aq aP (ae (af 0) (ae (af 1) ah)) (mask [6] [some (ax es),some (ar rs),some (cmD rows),some (.str len),none,none,none,none,none])=.ok (aF es rs):=c;exact dJ (by decide:4<9) h
  show bh (aE (aT [6] 4 (aq aP (ae (af 0) (ae (af 1) ah)))) kC [some (ax es),some (ar rs),some (cmD rows),some (.str len),none,none,none,none,none])=_;rw[aQ,g];simp only;rw[Gk R b];rfl
 ·exfalso;apply a;unfold dW;rw[if_neg hx]
open Classical in
def ij (cs:Cs):Gf:=λds=>if ∃es rs rows len t,Ran es rs rows len/\Cms es rows/\kO es rs rows len=some t/\ds=[ax es,ar rs,cmD rows,.str len] then .ok (C7 (ds.getD 0 .none) (ds.getD 1 .none) (ds.getD 2 .none) (ds.getD 3 .none)) else .no
theorem sF {len:Str} (R:Ran es rs rows len) (C:Cms es rows) (a:kO es rs rows len=some t):ij cs [ax es,ar rs,cmD rows,.str len]=.ok (.list t):=by unfold ij;rw[if_pos ⟨es,rs,rows,len,t,R,C,a,rfl⟩];exact congrArg Rs.ok (um a)
theorem JH (cs:Cs):LLq (yr cs (bg cs) (dW cs) (aV cs) (bf cs)) 4 0 (ij cs):=by
 intro ds hl a;by_cases hx:∃es rs rows len t,Ran es rs rows len/\Cms es rows/\kO es rs rows len=some t/\ds=[ax es,ar rs,cmD rows,.str len]
 ·obtain⟨es,rs,rows,len,t,R,C,b,rfl⟩:=hx;rw[sF R C b];have k1:=hW cs R.eok.l1 R.eok.l6 R.eok.ok;have k2:=f6 cs R.eok.l6 R.rok;have k3:=fj (cs:=cs) R.eok C;have c:=lQ (cs:=cs) R b;show bh (yr cs (bg cs) (dW cs) (aV cs) (bf cs) [some (ax es),some (ar rs),some (cmD rows),some (.str len)])=_;unfold yr;simp only[aQ,tI,bB,aA,aH,ao,au,Rs.ag,k1,k2,k3,c,az,bU,bc]
 ·exfalso;apply a;unfold ij;rw[if_neg hx]
end RS
variable {js:List RS.Jb}
namespace L2
open PySem PySem.Spec PyProof.Rows
end L2
namespace RS
open PySem L2
variable {tgt:PyData->Ds->Option Ds} {r a:Int} {e:Er} {j:Jb} {B:Nat}
theorem vM:∀a b:List Int,PyData.eqvAll (a.map PyData.int) (b.map PyData.int)=decide (a=b)
 |[],[]=>by simp[PyData.eqvAll]
 |[],_::_=>by simp[PyData.eqvAll]
 |_::_,[]=>by simp[PyData.eqvAll]
 |x::a,y::b=>by
  have h:(x==y)=decide (x=y):=by by_cases z:x=y <;> simp[z]
  simp[PyData.eqvAll,PyData.eqv,vM a b,h]
theorem ER (a b:List Int):dNe (.list (a.map PyData.int)) (.list (b.map PyData.int))=some (.bool (!decide (a=b))):=by unfold dNe;rw[eJ (ky a),eJ (ky b),shaped_ints,shaped_ints];simp[PyData.eqv,vM]
def hvS (every late m:Int) (row:List Int):Int:=row.foldl (λm c=>(if c-late>m then c-late else m)+every) m
theorem yC (every late:Int):∀(row:List Int) (m c:Int),hvM every late m row=true->¬ c<(if c-late>hvS every late m row then c-late else hvS every late m row)->hvM every late m (row++[c])=true
 |[],m,c,_,h=>by show (if c<(if c-late>m then c-late else m) then false else true)=true;exact if_neg h
 |a::r,m,c,h1,h=>by
  rw[M6];unfold hvM at h1 ⊢;by_cases z:a<(if a-late>m then a-late else m)
  ·rw[if_pos z]at h1;cases h1
  ·rw[if_neg z]at h1 ⊢;exact yC every late r _ c h1 h
structure CrI (every late span:Int) (made:List Int) (moment:Int):Prop where
 lo:-late<=moment
 hv:hvM every late (0-late) made=true
 ea:hvS every late (0-late) made<=moment
 la:∀c,made.getLast?=some c->c+1<=moment+late
 c0:∀c∈made,0<=c
 c1:∀c∈made,c<span
theorem Fb {every late moment c:Int} {made:List Int} (h:CrI every late span made moment) (hs:moment+late<span) (e:0<=c) (h1:moment<=c) (h2:c<=moment+late) (he:1<=every) (hl:0<=late) (hx:moment+every<=a):CrI every late span (made++[c]) a:=by
 have b:=h.ea;have hlo:=h.lo;refine⟨by omega,yC every late made _ c h.hv (by split <;> omega),?_,λd hd=>?_,λd hd=>?_,λd hd=>?_⟩
 ·unfold hvS at b ⊢;rw[List.foldl_append];show (if c-late>List.foldl _ _ made then c-late else List.foldl _ _ made)+every<=a;split <;> omega
 ·rw[List.getLast?_concat]at hd;cases hd;omega
 ·rcases LW.mp hd with hd|hd
  ·exact h.c0 d hd
  ·rw[Lx.mp hd];exact e
 ·rcases LW.mp hd with hd|hd
  ·exact h.c1 d hd
  ·rw[Lx.mp hd];omega
theorem Dl {every late:Int} {moment:Int} (h:-late<=moment):CrI every late span [] moment:=⟨h,rfl,by show 0-late<=moment;omega,λc hc=>(by cases hc),λc hc=>(by cases hc),λc hc=>(by cases hc)⟩
theorem rA {every late:Int} (hl:late<every) (f:0<=late):∀(row:List Int) (m:Int),hvM every late m row=true->(∀c∈row,m<=c)/\row.Pairwise (· < ·)
 |[],_,_=>⟨λc hc=>(by cases hc),List.Pairwise.nil⟩
 |a::r,m,h=>by
  unfold hvM at h;by_cases z:a<(if a-late>m then a-late else m)
  ·rw[if_pos z]at h;cases h
  ·rw[if_neg z]at h;obtain⟨h1,h2⟩:=rA hl f r _ h;have hm:m<=a:=by split at z <;> omega
   have b:∀c∈r,a<c:=λc hc=>by have:=h1 c hc;split at this <;> omega
   refine⟨λc hc=>?_,Nd.mpr ⟨b,h2⟩⟩;rcases L7.mp hc with e|hc
   ·rw[e];exact hm
   ·have:=b c hc;omega
theorem EK {g:Ds->Rs PyData} {d:PyData} (hi:i<δ.length) (a:g δ=.ok d) (hn:ee d=true):og i g δ=.nx (δ.set i (some d)):=by unfold og;rw[if_pos hi,a,az,if_pos hn]
theorem Ku (k:Int):eX (.int 104729) (.int k)=some (.int (104729*k)):=tP (by decide) (by decide)
theorem JS (k:Int):eX (.int 7919) (.int k)=some (.int (7919*k)):=tP (by decide) (by decide)
theorem Kn (a:Int):eX (.int a) (.int 48271)=some (.int (a*48271)):=B9 (by decide) (by decide)
theorem JI (a:Int):ej (.int a) (.int 2147483647)=some (.int (a % 2147483647)):=by rw[rH,if_pos (by decide)]
theorem Ki {k:Int} (h0:0<=k) (h1:k<=60):eX (.int a) (.int k)=some (.int (a*k)):=B9 (by omega) (by omega)
theorem Dg {seed k:Int} (a:af 4 δ=.ok (.int seed)) (b:af 7 δ=.ok (.int k)) (c:0<=k) (h1:k<=60) :
  ∃e:Int,g2 ej (g2 eX (g2 aX (g2 aX (af 4) (g2 eX (g2 eX (gC (.int 104729)) (af 7)) (af 7))) (g2 eX (gC (.int 7919)) (af 7))) (gC (.int 48271))) (gC (.int 2147483647)) δ=.ok (.int e):=by
 generalize hA:(seed+104729*k*k+7919*k)*48271 % 2147483647=A;refine⟨A,?_⟩;rw[bK,bK,bK,bK,bK,bK,bK];rw[a,b];simp only[cy,Rs.ag,Ku,Ki c h1,JS,Kn,JI,eC,Rs.ai,hA]
def crC:Ds->Rs Bool:=(uj (gT (g2 dLt (g2 aX (af 5) (g2 dIx (af 2) (gC (.int 2)))) (af 3))) (gT (g2 dLt (gF bM (ae (af 6) ah)) (gC (.int 60)))))
def crB:Ds->Sr:=(aE (aT [6] 8 (g2 ej (g2 eX (g2 aX (g2 aX (af 4) (g2 eX (g2 eX (gC (.int 104729)) (af 7)) (af 7))) (g2 eX (gC (.int 7919)) (af 7))) (gC (.int 48271))) (gC (.int 2147483647))))
 (aE (aT [6] 9 (gF iC (ae (gC (.int 0)) (ae (g2 aX (af 5) (g2 ej (g2 i0 (af 8) (gC (.int 7))) (g2 aX (g2 dIx (af 2) (gC (.int 2))) (gC (.int 1))))) ah))))
 (aE (sIf (gT (g2 dNe (af 6) (kh ah))) (og 9 (gF iC (ae (af 9) (ae (g2 aX (g2 dIx (af 6) (g1 lp (gC (.int 1)))) (gC (.int 1))) ah)))) aY)
 (aE (gK [6] 6 (af 9))
 (aE (aT [6] 5 (g2 aX (af 5) (g2 dIx (af 2) (gC (.int 0)))))
 (aE (sIf (gT (g2 dEq (g2 ej (g2 i0 (af 8) (gC (.int 61))) (gC (.int 3))) (gC (.int 0)))) (aT [6] 5 (g2 aX (af 5) (g2 ej (g2 i0 (af 8) (gC (.int 997))) (g2 dIx (af 2) (gC (.int 0)))))) aY)
 (aT [6] 7 (g2 aX (af 7) (gC (.int 1))))))))))
section
variable {S A:PyData} {seed moment:Int} {made:List Int}
def crD (e:Er) (S A:PyData) (span seed moment:Int) (made:List Int) (k:Int) (x8 a:Option PyData):Ds:=[some S,some A,some e.d,some (.int span),some (.int seed),some (.int moment),some (.list (made.map PyData.int)),some (.int k),x8,a]
theorem Jy (e:Er):dIx e.d (.int 0)=some (.int e.every):=rfl
theorem Ji (e:Er):dIx e.d (.int 2)=some (.int e.late):=rfl
theorem yu {k:Int} {x8 a:Option PyData}:crC (crD e S A span seed moment made k x8 a)=.ok (decide (moment+e.late<span)&&decide (made.length<60)):=by
 have hl:decide (((made.map PyData.int).length:Int)<60)=decide (made.length<60):=by rw[L5];exact decide_eq_decide.mpr (by omega)
 unfold crC crD;simp only[Bh,dH,bK,fV,aA,aH,ao,au,cy,Rs.ag,Ji,eC,BH,jC,Rs.ai,br,hl];cases decide (moment+e.late<span) <;> simp
theorem FN (ok:e.Ok) (h:CrI e.every e.late span made moment) (B:moment+e.late<span) (hm:made.length<60) (x8 i:Option PyData) :
  ∃c b C D,crB (crD e S A span seed moment made (made.length:Int) x8 i)=.nx (crD e S A span seed b (made++[c]) ((made++[c]).length:Int) C D)/\CrI e.every e.late span (made++[c]) b:=by
 have e1:=ok.e1;have e2:=ok.e2;have l1:=ok.l1;have l2:=ok.l2;have hlo:=h.lo;obtain⟨a,n⟩:=Dg (δ:=mask [6] (crD e S A span seed moment made (made.length:Int) x8 i)) (seed:=seed) (k:=(made.length:Int)) rfl rfl (by omega) (by omega);have E:aT [6] 8 (g2 ej (g2 eX (g2 aX (g2 aX (af 4) (g2 eX (g2 eX (gC (.int 104729)) (af 7)) (af 7))) (g2 eX (gC (.int 7919)) (af 7))) (gC (.int 48271))) (gC (.int 2147483647))) (crD e S A span seed moment made (made.length:Int) x8 i)=.nx (crD e S A span seed moment made (made.length:Int) (some (.int a)) i):=dJ (by decide:8<10) n
 -- the first reckoning of the coming
 have F:0<=a / 7 % (e.late+1)/\a / 7 % (e.late+1)<e.late+1:=⟨Mt _ (by omega),MC _ (by omega)⟩
 have G:i0 (.int a) (.int 7)=some (.int (a / 7)):=by rw[yo,if_pos (by decide)]
 have y:ej (.int (a / 7)) (.int (e.late+1))=some (.int (a / 7 % (e.late+1))):=by rw[rH,if_pos (by omega)]
 generalize a / 7 % (e.late+1)=q at F y;have o:∃c:Int,aT [6] 9 (gF iC (ae (gC (.int 0)) (ae (g2 aX (af 5) (g2 ej (g2 i0 (af 8) (gC (.int 7))) (g2 aX (g2 dIx (af 2) (gC (.int 2))) (gC (.int 1))))) ah))) (crD e S A span seed moment made (made.length:Int) (some (.int a)) i)=.nx (crD e S A span seed moment made (made.length:Int) (some (.int a)) (some (.int c)))/\0<=c/\moment<=c/\c<=moment+e.late:=by refine⟨if moment+q>0 then moment+q else 0,?_,by split <;> omega,by split <;> omega,by split <;> omega⟩;refine dJ (by decide:9<10) ?_;show gF iC _ [some S,some A,some e.d,some (.int span),some (.int seed),some (.int moment),none,some (.int (made.length:Int)),some (.int a),i]=_;simp only[fV,aA,aH,bK,ao,au,cy,Rs.ag,Ji,G,eC,y,Rs.ai,Bg]
 obtain⟨c,o,c0,c1,H⟩:=o
 -- behind the one ahead
 have f:∃c':Int,sIf (gT (g2 dNe (af 6) (kh ah))) (og 9 (gF iC (ae (af 9) (ae (g2 aX (g2 dIx (af 6) (g1 lp (gC (.int 1)))) (gC (.int 1))) ah)))) aY (crD e S A span seed moment made (made.length:Int) (some (.int a)) (some (.int c)))=.nx (crD e S A span seed moment made (made.length:Int) (some (.int a)) (some (.int c')))/\0<=c'/\moment<=c'/\c'<=moment+e.late:=by
  have p:dNe (.list (made.map PyData.int)) (.list [])=some (.bool (!decide (made=[]))):=ER made [];unfold crD;rw[cG];simp only[dH,bK,ao,au,xf,aH,Rs.ag,p,Rs.ai,br,az];cases hk:made.getLast? with
  |none =>have r:made=[]:=N8.mp hk;rw[r];exact⟨c,rfl,c0,c1,H⟩
  |some l =>
   have r:made≠[]:=λz=>by rw[z]at hk;cases hk
   have hla:=h.la l hk;have s:dIx (.list (made.map PyData.int)) (.int (-1))=some (.int l):=by rw[A9,jZ,Np,hk];rfl
   rw[decide_eq_false r];simp only[Bool.not_false,if_true];refine⟨if l+1>c then l+1 else c,?_,by split <;> omega,by split <;> omega,by split <;> omega⟩;refine EK (by decide:9<10) ?_ rfl;simp only[fV,aA,aH,bK,gQ,ao,au,cy,Gy,Rs.ag,s,eC,Rs.ai,Bg]
 obtain⟨c',f,t,u,v⟩:=f;have I:gK [6] 6 (af 9) (crD e S A span seed moment made (made.length:Int) (some (.int a)) (some (.int c')))=.nx (crD e S A span seed moment (made++[c']) (made.length:Int) (some (.int a)) (some (.int c'))):=by show (if (made.map PyData.int).length<1000000 then Sr.nx _ else Sr.no)=_;rw[if_pos (by rw[L5];omega)];unfold crD;rw[M5];rfl
 have J:aT [6] 5 (g2 aX (af 5) (g2 dIx (af 2) (gC (.int 0)))) (crD e S A span seed moment (made++[c']) (made.length:Int) (some (.int a)) (some (.int c')))=.nx (crD e S A span seed (moment+e.every) (made++[c']) (made.length:Int) (some (.int a)) (some (.int c'))):=dJ (by decide:5<10) rfl;have g:∃j,sIf (gT (g2 dEq (g2 ej (g2 i0 (af 8) (gC (.int 61))) (gC (.int 3))) (gC (.int 0)))) (aT [6] 5 (g2 aX (af 5) (g2 ej (g2 i0 (af 8) (gC (.int 997))) (g2 dIx (af 2) (gC (.int 0)))))) aY (crD e S A span seed (moment+e.every) (made++[c']) (made.length:Int) (some (.int a)) (some (.int c')))=.nx (crD e S A span seed j (made++[c']) (made.length:Int) (some (.int a)) (some (.int c')))/\moment+e.every<=j:=by
  have w:i0 (.int a) (.int 61)=some (.int (a / 61)):=by rw[yo,if_pos (by decide)]
  have K:ej (.int (a / 61)) (.int 3)=some (.int (a / 61 % 3)):=by rw[rH,if_pos (by decide)]
  have m:i0 (.int a) (.int 997)=some (.int (a / 997)):=by rw[yo,if_pos (by decide)]
  have L:ej (.int (a / 997)) (.int e.every)=some (.int (a / 997 % e.every)):=by rw[rH,if_pos (by omega)]
  have hx:0<=a / 997 % e.every:=Mt _ (by omega);have hc:gT (g2 dEq (g2 ej (g2 i0 (af 8) (gC (.int 61))) (gC (.int 3))) (gC (.int 0))) (crD e S A span seed (moment+e.every) (made++[c']) (made.length:Int) (some (.int a)) (some (.int c')))=.ok (a / 61 % 3==0):=by unfold crD;simp only[dH,bK,ao,au,cy,Rs.ag,w,K,Rs.ai,jE,br]
  rw[cG,hc,az];cases (a / 61 % 3==0) with
  |false=>exact⟨_,rfl,MJ _⟩
  |true =>rw[if_pos rfl];refine⟨moment+e.every+a / 997 % e.every,dJ (by decide:5<10) ?_,by omega⟩;show g2 aX _ _ [some S,some A,some e.d,some (.int span),some (.int seed),some (.int (moment+e.every)),none,some (.int (made.length:Int)),some (.int a),some (.int c')]=_;simp only[bK,ao,au,cy,Rs.ag,Jy,m,L,eC,Rs.ai]
 obtain⟨j,g,x⟩:=g;have M:aT [6] 7 (g2 aX (af 7) (gC (.int 1))) (crD e S A span seed j (made++[c']) (made.length:Int) (some (.int a)) (some (.int c')))=.nx (crD e S A span seed j (made++[c']) ((made++[c']).length:Int) (some (.int a)) (some (.int c'))):=by
  have hl:((made++[c']).length:Int)=(made.length:Int)+1:=by rw[LB,M7];omega
  rw[hl];exact dJ (by decide:7<10) rfl
 refine⟨c',j,some (.int a),some (.int c'),?_,Fb h B t u v (by omega) l1 x⟩;unfold crB;rw[aQ,E];simp only;rw[aQ,o];simp only;rw[aQ,f];simp only;rw[aQ,I];simp only;rw[aQ,J];simp only;rw[aQ,g];simp only;rw[M]
end
theorem n6 {c:Ds->Rs Bool} {b:Ds->Sr} {I:Nat->Ds->Prop} {J:Ds->Prop} (h:∀k δ,I k δ->(c δ=.ok false/\J δ)\/(c δ=.ok true/\∃f,f < k/\∃a,b δ=.nx a/\I f a)):∀(n k:Nat) (δ:Ds),I k δ->k<n->∃a,cm c b n δ=.nx a/\J a
 |0,_,_,_,hn=>by cases hn
 |n+1,k,δ,i,hn=>by
  unfold cm;rcases h k δ i with⟨e,j⟩|⟨e,f,g,a,e2,i'⟩
  ·rw[e,az,if_neg LK];exact⟨δ,rfl,j⟩
  ·rw[e,az,if_pos rfl,e2];exact n6 h n f a i' (LH g (Nat.le_of_lt_succ hn))
section
variable {S A:PyData} {seed moment:Int} {made:List Int}
theorem F5 (ok:e.Ok) (h:CrI e.every e.late span made moment) (hl:made.length<=60) (hn:60<n) (x8 g:Option PyData) :
  ∃a f i j,cm crC crB n (crD e S A span seed moment made (made.length:Int) x8 g)=.nx (crD e S A span seed f a (a.length:Int) i j)/\CrI e.every e.late span a f/\a.length<=60:=by
 obtain⟨δ',e1,a,f,i,j,rfl,h1,h2⟩:=n6 (c:=crC) (b:=crB) (I:=λk δ=>∃made moment x8 g,δ=crD e S A span seed moment made (made.length:Int) x8 g/\CrI e.every e.late span made moment/\made.length<=60/\k=60-made.length)
  (J:=λδ=>∃a f i j,δ=crD e S A span seed f a (a.length:Int) i j/\CrI e.every e.late span a f/\a.length<=60) (λk δ l=>by
   obtain⟨made,moment,x8,g,hd,h,hl,hk⟩:=l;subst hd;by_cases z:moment+e.late<span/\made.length<60
   ·right;refine⟨by rw[yu,decide_eq_true z.1,decide_eq_true z.2];rfl,?_⟩;obtain⟨c,m,i,j,o,h'⟩:=FN (S:=S) (A:=A) (seed:=seed) ok h z.1 z.2 x8 g;have hl2:(made++[c]).length=made.length+1:=by rw[LB,M7]
    exact⟨60-(made++[c]).length,by omega,_,o,made++[c],m,i,j,rfl,h',by omega,rfl⟩
   ·left;refine⟨?_,made,moment,x8,g,rfl,h,hl⟩;rw[yu];refine congrArg Rs.ok (Bool.eq_false_iff.mpr ?_);rw[Ne,L8,decide_eq_true_eq,decide_eq_true_eq];exact z) n (60-made.length) _ ⟨made,moment,x8,g,rfl,h,hl,rfl⟩ (by omega)
 exact⟨a,f,i,j,e1,h1,h2⟩
end
def ba (cs:Cs):Gf:=gfG 4 6 (cX cs ak)
theorem mM (cs:Cs):LLq (cX cs ak) 4 6 (ba cs):=iK
theorem qE (ok:e.Ok) (ha:0<=a) (hs:span<=10000):∃row,ba cs [aj ns,.int a,e.d,.int span]=.ok (de row)/\oK row/\hvE e row=true:=by
 have e1:=ok.e1;have e2:=ok.e2;have b:DL (.int 10) (.int 9)=some (.int 1000000000):=rfl;have f:=cA (ns:=ns) (k:=a) (many:=1000000000) ha (by decide);have g:ej (.int (mixed ns a 1000000000)) (.int (e.every+2))=some (.int (mixed ns a 1000000000 % (e.every+2))):=by rw[rH,if_pos (by omega)]
 have hm0:0<=mixed ns a 1000000000 % (e.every+2):=Mt _ (by omega);generalize mixed ns a 1000000000=seed at *;generalize seed % (e.every+2)=m0 at *;obtain⟨row,m',y8,y9,i,hc,hl⟩:=F5 (e:=e) (S:=aj ns) (A:=.int a) (span:=span) (seed:=seed) (made:=[]) (moment:=m0-e.late) ok (Dl (by omega)) (by decide) (n:=1000000) (by decide) none none;refine⟨row,?_,⟨hl,hc.c0,λc h=>by have:=hc.c1 c h;omega⟩,hc.hv⟩;have j:aT [6] 4 (aq ak (ae (af 0) (ae (af 1) (ae (g2 DL (gC (.int 10)) (gC (.int 9))) ah)))) [some (aj ns),some (.int a),some e.d,some (.int span),none,none,none,none,none,none]=.nx [some (aj ns),some (.int a),some e.d,some (.int span),some (.int seed),none,none,none,none,none]:=by refine dJ (by decide:4<10) ?_;show aq ak _ [some (aj ns),some (.int a),some e.d,some (.int span),none,none,none,none,none,none]=_;simp only[bB,aA,aH,bK,ao,au,cy,Rs.ag,b,Rs.ai,f]
 have l:aT [6] 5 (g2 gx (g2 ej (af 4) (g2 aX (g2 dIx (af 2) (gC (.int 0))) (gC (.int 2)))) (g2 dIx (af 2) (gC (.int 2)))) [some (aj ns),some (.int a),some e.d,some (.int span),some (.int seed),none,none,none,none,none]=.nx [some (aj ns),some (.int a),some e.d,some (.int span),some (.int seed),some (.int (m0-e.late)),none,none,none,none]:=by refine dJ (by decide:5<10) ?_;show g2 gx _ _ [some (aj ns),some (.int a),some e.d,some (.int span),some (.int seed),none,none,none,none,none]=_;simp only[bK,ao,au,cy,Rs.ag,Jy,Ji,eC,g,qt,Rs.ai]
 have m:fc [6] 6 ah [some (aj ns),some (.int a),some e.d,some (.int span),some (.int seed),some (.int (m0-e.late)),none,none,none,none]=.nx [some (aj ns),some (.int a),some e.d,some (.int span),some (.int seed),some (.int (m0-e.late)),some (.list []),none,none,none]:=rfl;have o:aT [6] 7 (gC (.int 0)) [some (aj ns),some (.int a),some e.d,some (.int span),some (.int seed),some (.int (m0-e.late)),some (.list []),none,none,none]=.nx (crD e (aj ns) (.int a) span seed (m0-e.late) [] (([]:List Int).length:Int) none none):=dJ (by decide:7<10) rfl;show bh (cX cs ak [some (aj ns),some (.int a),some e.d,some (.int span),none,none,none,none,none,none])=_;have p:cX cs ak=aE (aT [6] 4 (aq ak (ae (af 0) (ae (af 1) (ae (g2 DL (gC (.int 10)) (gC (.int 9))) ah)))))
  (aE (aT [6] 5 (g2 gx (g2 ej (af 4) (g2 aX (g2 dIx (af 2) (gC (.int 0))) (gC (.int 2)))) (g2 dIx (af 2) (gC (.int 2)))))
  (aE (fc [6] 6 ah) (aE (aT [6] 7 (gC (.int 0))) (aE (λδ=>cm crC crB 1000000 δ) (bo (af 6)))))):=rfl
 rw[p];rw[aQ,j];simp only;rw[aQ,l];simp only;rw[aQ,m];simp only;rw[aQ,o];simp only;rw[aQ,i];rfl
def cf (cs:Cs):Gf:=gfG 4 0 (eo cs (ba cs))
theorem qD (cs:Cs):LLq (eo cs (ba cs)) 4 0 (cf cs):=iK
theorem BQ:∀{es:List Er} {rows:List (List Int)},rows.length=es.length->(∀(i:Nat) (h:i<es.length) (h':i<rows.length),oK rows[i]/\hvE es[i] rows[i]=true)->Cms es rows
 |[],[],_,_=>.nil
 |[],_::_,h,_=>by cases h
 |_::_,[],h,_=>by cases h
 |e::es,r::rows,h,k=>by have k0:=k 0 (Nat.succ_pos _) (Nat.succ_pos _);refine .cons k0.1 k0.2 (BQ (by simpa using h) λi h1 h2=>?_);exact k (i+1) (Nat.succ_lt_succ h1) (Nat.succ_lt_succ h2)
theorem Hz (l6:es.length<=6) {a x1:Option PyData} {r:Ds}:fM (ae (gF bM (ae (af 2) ah)) ah) (a::x1::some (ax es)::r)=.ok (bA 0 es.length):=by
 have b:=jV (j:=(es.length:Int)) (by omega) (by omega);rw[LV]at b;have hv:(ae (gF bM (ae (af 2) ah)) ah) (a::x1::some (ax es)::r)=.ok [.int (es.length:Int)]:=by simp only[aA,aH,fV,ao,au,Rs.ag,JK,Rs.ai]
 rw[lG,hv,Rs.ag,b]
theorem xV (h:v8 es) (ha:0<=a) (g:span<=10000):∃rows,cf cs [aj ns,.int a,ax es,.int span]=.ok (cmD rows)/\Cms es rows:=by
 have j:∀i:Nat,∃row,i<es.length->ba cs [aj ns,.int (a+(i:Int)),(b9 es (i:Int)).d,.int span]=.ok (de row)/\oK row/\hvE (b9 es (i:Int)) row=true:=λi=>by
  by_cases z:i<es.length
  ·obtain⟨row,h1⟩:=qE (cs:=cs) (h.ok _ (e9 (n:=(i:Int)) (by omega) (by omega))) (ns:=ns) (a:=a+(i:Int)) (span:=span) (by omega) g;exact⟨row,λ_=>h1⟩
  ·exact⟨[],λy=>(z y).elim⟩
 obtain⟨F,c⟩:=Classical.axiomOfChoice j;have l6:=h.l6;refine⟨(List.range es.length).map F,?_,BQ (by simp) λi h1 h2=>?_⟩
 ·have m:a9 4 (fM (ae (gF bM (ae (af 2) ah)) ah)) bS (aq (ba cs) (ae (af 0) (ae (g2 aX (af 1) (af 4)) (ae (g2 dIx (af 2) (af 4)) (ae (af 3) ah))))) aO [some (aj ns),some (.int a),some (ax es),some (.int span)]=.ok ((bA 0 es.length).map λd=>de (F (deI d).toNat)):=by
   refine cT rfl ?_ (by rw[cO];omega) λd hd=>?_
   ·exact Hz l6
   ·obtain⟨k,f,rfl⟩:=LA.mp hd;have b:=Mx.mp f;have hn:(0:Int)+(k:Int)=(k:Int):=by omega
    have hd2:(deI (.int (k:Int))).toNat=k:=LV k;have a2:dIx (ax es) (.int (k:Int))=some (b9 es (k:Int)).d:=kT (by omega) (by omega);rw[hn,hd2];simp only[M6,M4,bB,aA,aH,bK,ao,au,Rs.ag,eC,a2,Rs.ai,(c k b).1]
  show bh (eo cs (ba cs) [some (aj ns),some (.int a),some (ax es),some (.int span)])=_;unfold eo;simp only[bU,nH,m,Rs.ag,az,bc];unfold cmD bA;rw[LQ,LQ];refine congrArg (λl=>Rs.ok (PyData.list l)) (LN λk f=>?_);show de (F (deI (.int (0+(k:Int)))).toNat)=de (F k);rw[show (0:Int)+(k:Int)=(k:Int) by omega,show (deI (.int (k:Int))).toNat=k from LV k]
 ·have e:=oH (es:=es) (n:=(i:Int)) (by omega) (by omega);rw[LV,L0 h1]at e;have o:es[i]=b9 es (i:Int):=Option.some.inj e;have:=(c i h1).2;rw[List.getElem_map,List.getElem_range,o];exact this
theorem jz {xs:List α} {k:Nat} {v:α} (h:xs[k]?=some v):atI xs (k:Int)=some v:=uA (MR k) (by rw[LV];exact h)
structure Sx (js:List Jb):Prop where
 num:∀(i:Nat) (h:i<js.length),js[i].num=(i:Int)
 row:∀j∈js,j.row.length<=1000
 wk:∀j∈js,j.work<=1000
section
variable {S E R D:PyData}
theorem fi {f:PyData->PyData->Option PyData} {a b:Ds->Rs PyData} {x y z:PyData} (ha:a δ=.ok x) (c:b δ=.ok y) (e:f x y=some z):g2 f a b δ=.ok z:=by rw[bK,ha,Rs.ag,c,Rs.ag,e];rfl
end
def oX (k:Nat) (l:List PyData):List PyData:=l.mapIdx λi d=>.tuple [.int ((k+i:Nat):Int),d]
theorem lY {body:Ds->Sr} {d:PyData} {r:List PyData} {δ1 δ2:Ds} (h1:tgt d δ=some δ1) (h2:body δ1=.nx δ2):forL tgt body (d::r) δ=forL tgt body r δ2:=by rw[forL,h1];simp only[h2]
theorem xj (k:Nat) (d:PyData) (r:List PyData):oX k (d::r)=.tuple [.int (k:Int),d]::oX (k+1) r:=by
 unfold oX;rw[Nx];have a:(λ(i:Nat) (d:PyData)=>PyData.tuple [.int ((k+(i+1):Nat):Int),d])=λi d=>.tuple [.int ((k+1+i:Nat):Int),d]:=by funext i d;rw[show k+(i+1)=k+1+i by omega]
 rw[a];rfl
theorem uW {ks:List Jb} (h:ks.map fJ=js.map fJ):ks.length=js.length:=by
 have:=congrArg List.length h
 rwa[L5,L5]at this
theorem yV {ks:List Jb} (h:ks.map fJ=js.map fJ) (s:Sx js):Sx ks:=by
 have hl:=uW h;have hm:∀k∈ks,∃j∈js,fJ j=fJ k:=λk a=>by have:fJ k∈ks.map fJ:=LA.mpr ⟨k,a,rfl⟩;rw[h]at this;exact LA.mp this
 refine⟨λi hi=>?_,λk a=>?_,λk a=>?_⟩
 ·have e:(ks.map fJ)[i]?=(js.map fJ)[i]?:=by rw[h]
  rw[LG,LG,L0 hi,L0 (hl▸hi)]at e;have e2:fJ ks[i]=fJ (js[i]'(hl▸hi)):=Option.some.inj e;have:=congrArg (·.1) e2;exact this.trans (s.num i (hl▸hi))
 ·obtain⟨j,b,e⟩:=hm k a;have e2:j.row=k.row:=congrArg (·.2.2) e;rw[<-e2];exact s.row j b
 ·obtain⟨j,b,e⟩:=hm k a;have e2:j.parts=k.parts:=congrArg (·.2.1) e;have:=s.wk j b;unfold Jb.work at this ⊢;rw[<-e2];exact this
theorem uo {lt:Nat->Nat->Bool} (a:∀i,lt i i=false) (b:∀i j k,lt i j=true->lt j k=true->lt i k=true):∀(n i:Nat),i<=n->lt i (bst lt n)=false
 |0,i,h=>by
  have:i=0:=by omega
  rw[this];exact a 0
 |n+1,i,h=>by
  unfold bst;cases q:lt (n+1) (bst lt n) with
  |true =>
   rw[if_pos rfl];by_cases z:i=n+1
   ·rw[z];exact a _
   ·have c:=uo a b n i (by omega);cases y:lt i (n+1) with
    |false=>rfl
    |true=>rw[b _ _ _ y q]at c;cases c
  |false =>
   rw[if_neg LK];by_cases z:i=n+1
   ·rw[z];exact q
   ·exact uo a b n i (by omega)
theorem Io (d:PyData):ltD d d=false:=by
 have h:∀l:List Int,HT.lexLt l l=false:=λl=>by
  induction l with
  |nil=>rfl
  |cons a r ih=>show (if a=a then HT.lexLt r r else _)=false;rw[if_pos rfl,ih]
 unfold ltD;split
 ·rename_i e1 e2;rw[e1]at e2;cases e2;exact h _
 ·rfl
theorem B2:∀a b c:List Int,HT.lexLt a b=true->HT.lexLt b c=true->HT.lexLt a c=true
 |[],[],_,h,_=>by cases h
 |[],_::_,[],_,h=>by cases h
 |[],_::_,_::_,_,_=>rfl
 |_::_,[],_,h,_=>by cases h
 |_::_,_::_,[],_,h=>by cases h
 |x::a,y::b,z::c,h1,h2=>by
  have h1:(if x=y then HT.lexLt a b else decide (x<y))=true:=h1;have h2:(if y=z then HT.lexLt b c else decide (y<z))=true:=h2;show (if x=z then HT.lexLt a c else decide (x<z))=true;by_cases e1:x=y
  ·rw[if_pos e1]at h1;by_cases e2:y=z
   ·rw[if_pos e2]at h2;rw[if_pos (e1.trans e2)];exact B2 a b c h1 h2
   ·rw[if_neg e2]at h2;rw[if_neg (λq=>e2 (e1.symm.trans q)),e1];exact h2
  ·rw[if_neg e1]at h1;have l1:=of_decide_eq_true h1;by_cases e2:y=z
   ·rw[if_neg (λq=>e1 (q.trans e2.symm)),<-e2];exact h1
   ·rw[if_neg e2]at h2;have l2:=of_decide_eq_true h2;rw[if_neg (by omega)];exact decide_eq_true (by omega)
theorem IT (a b c:PyData) (h1:ltD a b=true) (h2:ltD b c=true):ltD a c=true:=by
 unfold ltD at h1 h2 ⊢;cases ka:kI a with
 |none=>rw[ka]at h1;cases h1
 |some p =>
  cases kb:kI b with
  |none=>rw[ka,kb]at h1;cases h1
  |some q =>
   cases kc:kI c with
   |none=>rw[kb,kc]at h2;cases h2
   |some r =>rw[ka,kb]at h1;rw[kb,kc]at h2;exact B2 _ _ _ h1 h2
theorem sy {key:Jb->PyData} (c:js≠[]) (e:j∈js):ltD (key j) (key (iH key js))=false:=by
 have hl:0<js.length:=Mh.mpr c;have hm:=uo (lt:=λi j=>ltD ((js.map key).getD i .none) ((js.map key).getD j .none)) (λi=>Io _) (λi j k=>IT _ _ _) (js.length-1);have hb:=ui (λi j=>ltD ((js.map key).getD i .none) ((js.map key).getD j .none)) (js.length-1);obtain⟨i,hi,rfl⟩:=N4 e;have h1:=hm i (by omega);have b:jS (js.map key)=bst (λi j=>ltD ((js.map key).getD i .none) ((js.map key).getD j .none)) (js.length-1):=by unfold jS;rw[L5]
 have a:jS (js.map key)<js.length:=by rw[b];omega
 have e1:(js.map key).getD i .none=key js[i]:=by rw[LJ,LG,L0 hi];rfl
 have e2:(js.map key).getD (jS (js.map key)) .none=key (iH key js):=by unfold iH;rw[LJ,LG,L0 a,LJ,L0 a];rfl
 rw[<-b]at h1;rw[e1,e2]at h1;exact h1
theorem yT (a b c d:Int):ltD (.tuple [.int a,.int b]) (.tuple [.int c,.int d])=if a=c then (if b=d then false else decide (b<d)) else decide (a<c):=rfl
theorem Dz (h:js≠[]):js.filter (g9 js)≠[]:=by
 have hn:=oj (ts:=js.map λj=>((0:Addr),j)) (by simpa using h);have hm:(js.map λj=>((0:Addr),j)).map (·.2)=js:=by rw[LQ];exact Mf js
 rw[hm]at hn;obtain⟨p,r,e⟩:=MZ hn;have a:p∈(js.map λj=>((0:Addr),j)).filter (λp=>g9 js p.2):=by rw[e];exact L6
 obtain⟨h1,h2⟩:=LO.mp a;obtain⟨j,b,rfl⟩:=LA.mp h1;exact Nc (LO.mpr ⟨b,h2⟩)
theorem rY (h:j.held=some T):gU tops j=.tuple [.int (if fo tops T<j.rank then fo tops T else j.rank),.int 0]:=by unfold gU;rw[h]
theorem rn (h:j.held=none):gU tops j=.tuple [.int j.rank,.int 1]:=by unfold gU;rw[h]
theorem Af {len:Str} {ts:List Jb} (g:ts≠[]) (c:(cY tops len ts).spent=0) (e:(cY tops len ts).tool=some T) (a:fo tops T<=(cY tops len ts).rank):∀j∈ts,j.held≠some T:=by
 intro j h i;unfold cY at c e a;split at c
 ·rename_i z;rw[if_pos z]at e a;have hm:=sy (key:=gU tops) g h;have l:(iH (gU tops) ts).held=none:=by unfold Jb.held;rw[if_pos c]
  rw[rY i,rn l,yT]at hm;generalize (iH (gU tops) ts).rank=r at *;generalize fo tops T=u at *;by_cases q:(if u<j.rank then u else j.rank)=r
  ·rw[if_pos q]at hm;revert hm;decide
  ·rw[if_neg q]at hm;have:=of_decide_eq_false hm;split at this <;> split at q <;> omega
 ·rename_i z;rw[if_neg z]at e;have f:=(LO.mp (mH (key:=Fe (if (len==("asked":Str))=true then rK ts else [])) (Dz g))).2;generalize iH (Fe (if (len==("asked":Str))=true then rK ts else [])) (ts.filter (g9 ts))=b at *;have hw:b.wanted=some T:=by unfold Jb.wanted;rw[if_pos c,e]
  unfold g9 n8 at f;rw[hw]at f;have hn:ts.find? (λk=>k.held==some T)=none:=Option.isNone_iff_eq_none.mp f;have:=List.find?_eq_none.mp hn j h;rw[i]at this;exact this (beq_self_eq_true _)
theorem m9 {t:Int} (e:IvJ tops t js) (f:j∈js) (hs:j.spent≠0):j.there t=true:=by
 cases ht:j.there t with
 |true=>rfl
 |false =>
  have h:=e.ok.ok j f;have hl:=e.low j f;have hc:iu j.row t<=j.job:=by
   by_cases z:j.job<j.row.length
   ·unfold Jb.there at ht;rw[L0 z]at ht;have:=of_decide_eq_false ht;exact tT z (e.srt j f) (by omega)
   ·have:=wx j.row t;omega
  obtain⟨c0,c1⟩:=mV h;have:=M9 (a:=(iu j.row t:Int)) (b:=(j.job:Int)) (c:=j.work) (by omega) (by omega);have h2:=iZ (ps:=j.parts.take j.part) λq g=>h.ln q (MI g)
  unfold fY Jb.tot Jb.cur at hl;omega
theorem l0 (h:JOk tops j) (e:j.next.held=some T):j.tool=some T:=by
 unfold Jb.next Jb.step1 at e;by_cases z:(j.spent:Int)+1=j.len
 ·rw[if_pos z]at e;unfold Jb.step2 at e;split at e
  ·unfold Jb.held at e;rw[if_pos rfl]at e;cases e
  ·unfold Jb.held at e;rw[if_pos rfl]at e;cases e
 ·rw[if_neg z]at e;unfold Jb.step2 at e;rw[if_neg (show ¬ ({ j with spent:=j.spent+1 }:Jb).part=({ j with spent:=j.spent+1 }:Jb).parts.length from LC h.pt)]at e;unfold Jb.held at e;rw[if_neg (show ¬ ({ j with spent:=j.spent+1 }:Jb).spent=0 from Nat.succ_ne_zero _)]at e;exact e
theorem fq (h:j.held=some T):j.tool=some T/\j.spent≠0:=by
 unfold Jb.held at h;by_cases z:j.spent=0
 ·rw[if_pos z]at h;cases h
 ·rw[if_neg z]at h;exact⟨h,z⟩
theorem l9 (j:Jb):j.next.rank=j.rank:=by unfold Jb.next Jb.step1 Jb.step2;split <;> split <;> rfl
structure HvJ (tops:PyData) (js:List Jb):Prop where
 one:∀i∈js,∀j∈js,∀T,i.held=some T->j.held=some T->i.num=j.num
 top:∀j∈js,∀p∈j.parts,∀T,p.2=some T->fo tops T<=j.rank
theorem l8 {b k:Jb} (a:k∈dN b js):(k∈js/\k.num≠b.num)\/k=b.next:=by
 obtain⟨j,c,rfl⟩:=LA.mp a;by_cases z:j.num=b.num
 ·right;exact if_pos z
 ·left;rw[if_neg z];exact⟨c,z⟩
theorem sk (h:JOk tops j) (b:j.tool=some T):∃p∈j.parts,p.2=some T:=by have a:=h.pt;unfold Jb.tool at b;rw[L0 a]at b;exact⟨_,LY a,b⟩
theorem Ao {len:Str} (f:IvJ tops (told.length:Int) js) (hv:HvJ tops js) (z:cj told js≠[]) (a:(cY tops len (cj told js)).tool=some T):∀j∈js,j.held=some T->j.num=(cY tops len (cj told js)).num:=by
 obtain⟨hm,hth⟩:=LO.mp (gy (tops:=tops) (len:=len) z);intro j b c;obtain⟨h1,h2⟩:=fq c;by_cases y:(cY tops len (cj told js)).spent=0
 ·obtain⟨p,g,e⟩:=sk (f.ok.ok _ hm) a;exact (Af z y a (hv.top _ hm p g T e) j (LO.mpr ⟨b,m9 f b h2⟩) c).elim
 ·exact hv.one j b _ hm T c (by unfold Jb.held;rw[if_neg y];exact a)
theorem En {len:Str} (f:IvJ tops (told.length:Int) js) (hv:HvJ tops js):HvJ tops (cQ tops len (js,told)).1:=by
 by_cases z:cj told js=[]
 ·rw[jY z];exact hv
 ·have e:cQ tops len (js,told)=(dN (cY tops len (cj told js)) js,told++[cH (cY tops len (cj told js))]):=by unfold cQ;exact if_neg z
  have hm:cY tops len (cj told js)∈js:=(LO.mp (gy (tops:=tops) (len:=len) z)).1;have a:=λT l=>Ao (len:=len) (T:=T) f hv z l
  rw[e];generalize cY tops len (cj told js)=b at *;refine⟨λi hi j c T h1 h2=>?_,λj c p g T e=>?_⟩
  ·rcases l8 hi with⟨hi,m⟩|rfl
   ·rcases l8 c with⟨c,h⟩|rfl
    ·exact hv.one i hi j c T h1 h2
    ·exact (m (a T (l0 (f.ok.ok b hm) h2) i hi h1)).elim
   ·rcases l8 c with⟨c,h⟩|rfl
    ·exact (h (a T (l0 (f.ok.ok b hm) h1) j c h2)).elim
    ·rfl
  ·rcases lF hm c with c|rfl
   ·exact hv.top j c p g T e
   ·rw[iV]at g;rw[l9];exact hv.top b hm p g T e
def lawAt:List (Int×Option Int)->Nat->Int->Nat×Option Int×Int
 |[],k,_=>(k,none,0)
 |p::r,k,s=>if s<p.1 then (k,p.2,s) else lawAt r (k+1) (s-p.1)
theorem lawAt_in:∀{ps:List (Int×Option Int)} {k:Nat} (k0:Nat) (h:k<ps.length) {s:Int},(∀p∈ps,1<=p.1)->0<=s->s<ps[k].1->lawAt ps k0 (bJ (ps.take k)+s)=(k0+k,ps[k].2,s)
 |[],_,_,h,_,_,_,_=>by cases h
 |p::r,0,k0,_,s,hp,h0,h1=>by
  have h1:s<p.1:=h1;show (if bJ []+s<p.1 then (k0,p.2,bJ []+s) else _)=_;have e:bJ []+s=s:=by show 0+s=s;omega
  rw[e,if_pos h1];rfl
 |p::r,k+1,k0,h,s,hp,h0,h1=>by
  have b:k<r.length:=by simpa using h
  have h1:s<r[k].1:=h1;have hnn:=iZ (ps:=r.take k) λq a=>hp q (L3 _ (MI a))
  have c:=lawAt_in (k0+1) b (λq a=>hp q (L3 _ a)) h0 h1;have e:bJ ((p::r).take (k+1))=p.1+bJ (r.take k):=by rw[MO,d8]
  show (if bJ ((p::r).take (k+1))+s<p.1 then _ else lawAt r (k0+1) (bJ ((p::r).take (k+1))+s-p.1))=_;rw[e,if_neg (by omega),show p.1+bJ (r.take k)+s-p.1=bJ (r.take k)+s by omega,c];show (k0+1+k,r[k].2,s)=(k0+(k+1),r[k].2,s)
  rw[show k0+1+k=k0+(k+1) by omega]
theorem lawAt_end:∀{ps:List (Int×Option Int)} (k0:Nat),(∀p∈ps,1<=p.1)->lawAt ps k0 (bJ ps)=(k0+ps.length,none,0)
 |[],k0,_=>rfl
 |p::r,k0,hp=>by
  have hnn:=iZ (ps:=r) λq a=>hp q (L3 _ a)
  show (if bJ (p::r)<p.1 then _ else lawAt r (k0+1) (bJ (p::r)-p.1))=_;rw[d8,if_neg (by omega),show p.1+bJ r-p.1=bJ r by omega,lawAt_end (k0+1) λq a=>hp q (L3 _ a),LI,show k0+1+r.length=k0+(r.length+1) by omega]
section
theorem GL (h:JOk tops j):lawAt j.parts 0 j.cur=(j.part,j.tool,(j.spent:Int)):=by
 have a:=h.pt;have hlen:j.len=j.parts[j.part].1:=by unfold Jb.len;rw[L0 a];rfl
 have b:j.tool=j.parts[j.part].2:=by unfold Jb.tool;rw[L0 a];rfl
 have hsp:=h.sp;have:=lawAt_in 0 a (s:=(j.spent:Int)) h.ln (by omega) (by omega);unfold Jb.cur;rw[this,b,M8]
theorem DU (h:JOk tops j):(∃to e,lawAt j.parts 0 (j.cur+1)=(j.part,to,e)/\j.part≠j.parts.length/\j.next.cur=j.cur+1/\j.next.held=j.tool) \/
  (∃to e,lawAt j.parts 0 (j.cur+1)=(j.part+1,to,e)/\j.next.held=none/\((j.part+1≠j.parts.length/\j.next.cur=j.cur+1)\/(j.part+1=j.parts.length/\j.next.cur=0))):=by
 have a:=h.pt;have hlen:j.len=j.parts[j.part].1:=by unfold Jb.len;rw[L0 a];rfl
 have hsp:=h.sp;have htk:=ke a;by_cases z:(j.spent:Int)+1=j.len
 ·right;have f:j.cur+1=bJ (j.parts.take (j.part+1)):=by unfold Jb.cur;omega
  by_cases y:j.part+1=j.parts.length
  ·have e1:bJ (j.parts.take (j.part+1))=bJ j.parts:=by rw[y,Nw]
   have b:j.next={ j with spent:=0,part:=0,job:=j.job+1 }:=by unfold Jb.next Jb.step1;rw[if_pos z];unfold Jb.step2;rw[if_pos (show ({ j with spent:=0,part:=j.part+1 }:Jb).part=({ j with spent:=0,part:=j.part+1 }:Jb).parts.length from y)]
   refine⟨none,0,?_,by rw[b];rfl,.inr ⟨y,by rw[b];rfl⟩⟩;rw[f,e1,lawAt_end 0 h.ln,y,M8]
  ·have c:j.part+1<j.parts.length:=by omega
   have b:j.next={ j with spent:=0,part:=j.part+1 }:=by unfold Jb.next Jb.step1;rw[if_pos z];unfold Jb.step2;rw[if_neg (show ¬ ({ j with spent:=0,part:=j.part+1 }:Jb).part=({ j with spent:=0,part:=j.part+1 }:Jb).parts.length from y)]
   refine⟨j.parts[j.part+1].2,0,?_,by rw[b];rfl,.inl ⟨y,?_⟩⟩
   ·have:=lawAt_in 0 c (s:=0) h.ln (by omega) (by have:=h.ln _ (LY c);omega);rw[M8,Int.add_zero]at this;rw[f,this]
   ·rw[b];show bJ (j.parts.take (j.part+1))+((0:Nat):Int)=_;rw[f];omega
 ·left;have b:j.next={ j with spent:=j.spent+1 }:=by unfold Jb.next Jb.step1;rw[if_neg z];unfold Jb.step2;rw[if_neg (show ¬ ({ j with spent:=j.spent+1 }:Jb).part=({ j with spent:=j.spent+1 }:Jb).parts.length from LC h.pt)]
  refine⟨j.parts[j.part].2,(j.spent:Int)+1,?_,LC a,?_,?_⟩
  ·have:=lawAt_in 0 a (s:=(j.spent:Int)+1) h.ln (by omega) (by omega);rw[M8]at this;unfold Jb.cur;rw[Int.add_assoc,this]
  ·rw[b];show bJ (j.parts.take j.part)+((j.spent+1:Nat):Int)=bJ (j.parts.take j.part)+(j.spent:Int)+1;omega
  ·rw[b];unfold Jb.held;rw[if_neg (show ¬ ({ j with spent:=j.spent+1 }:Jb).spent=0 from Nat.succ_ne_zero _)];rfl
end
theorem gW {f:Gf} {a:Ds->Rs (List PyData)} {d:PyData} (ha:a δ=.ok ds) (b:f ds=.ok d):aq f a δ=.ok d:=by rw[bB,ha,Rs.ag,b]
theorem dR {a b:Ds->Sr} {c:Ds} (h:a δ=.nx c):aE a b δ=b c:=by rw[aQ,h]
theorem wG {body:Ds->Sr} (h:src (mask O δ)=.ok ds):eQ O src tgt body δ=forL tgt body ds δ:=by rw[kE,h,az]
theorem BI {g:Ds->Rs (List PyData)} (hi:i<δ.length) (a:g (mask O δ)=.ok ds):fc O i g δ=.nx (δ.set i (some (.list ds))):=by unfold fc;rw[if_pos hi,a,az]
theorem Cms.sorted (h:Cms es rows) (ok:∀e∈es,e.Ok):∀r∈rows,r.Pairwise (· < ·):=by
 induction h with
 |nil=>intro r a;cases a
 |cons a hv _ ih =>
  intro b h';rcases L7.mp h' with rfl|h'
  ·have o:=ok _ L6;exact (rA o.l3 o.l1 _ _ hv).2
  ·exact ih (λe c=>ok e (L3 _ c)) b h'
section
variable {len:Str}
theorem CS (h:i<(startJ es rs rows).length):∃row,(startJ es rs rows)[i]=mkJ es rs i row:=by
 have e:=jX (es:=es) (rs:=rs) (rows:=rows) i;rw[L0 h]at e;cases q:rows[i]? with
 |none=>rw[q]at e;cases e
 |some row=>rw[q]at e;exact⟨row,Option.some.inj e⟩
theorem CT (R:Ran es rs rows len) (C:Cms es rows):IvJ (aF es rs) ((([]:List PyData).length:Nat):Int) (startJ es rs rows):=by
 refine⟨lE R.eok R.rok R.ln,λj a=>?_,λj a=>?_⟩
 ·obtain⟨k,row,_,hm,_,rfl⟩:=dC a;exact C.sorted R.eok.ok row hm
 ·have hw:=mV ((lE R.eok R.rok R.ln).ok j a);obtain⟨k,row,_,hm,_,rfl⟩:=dC a;unfold fY;rw[my];have:=Int.mul_nonneg (MR (iu (mkJ es rs k row).row ((([]:List PyData).length:Nat):Int))) (show 0<=(mkJ es rs k row).work by omega);omega
theorem C9 (R:Ran es rs rows len) (C:Cms es rows):Sx (startJ es rs rows):=by
 refine⟨λi hi=>?_,λj a=>?_,λj a=>?_⟩
 ·obtain⟨row,e⟩:=CS hi;rw[e];rfl
 ·obtain⟨k,row,_,hm,_,rfl⟩:=dC a;have:=(C.oG row hm).few;show row.length<=1000;omega
 ·obtain⟨k,row,hk,hm,_,rfl⟩:=dC a;have ok:=R.eok.ok _ (e9 (n:=(k:Int)) (by omega) (by have:=R.ln;omega));have h1:=uh λp b=>(ok.pl p b).2.1
  have h2:=ok.p2;show bJ (b9 es (k:Int)).parts<=1000;omega
end
structure Er.Wk (e:Er):Prop where
 sh:e.Sh
 e2:e.every<=60
 l1:0<=e.late
 p2:e.parts.length<=4
 pl:∀p∈e.parts,1<=p.1/\p.1<=1000000
 p1:e.parts≠[]
theorem Er.Ok.wk (h:e.Ok):e.Wk:=⟨h.sh,h.e2,h.l1,h.p2,λp a=>by have:=h.pl p a;exact⟨this.1,by omega⟩,h.p1⟩
def wkB (e:Er):Bool:=decide (e.every<=60)&&decide (0<=e.late)&&decide (e.parts.length<=4)&&e.parts.all (λp=>decide (1<=p.1))&&decide (e.parts≠[])
theorem II (h:e.Wk):wkB e=true:=by unfold wkB;simp only[L8,decide_eq_true_eq,LD];exact⟨⟨⟨⟨h.e2,h.l1⟩,h.p2⟩,λp a=>(h.pl p a).1⟩,h.p1⟩
theorem GI (h:wkB e=true) (g:e.Sh):e.Wk:=by unfold wkB at h;simp only[L8,decide_eq_true_eq,LD]at h;obtain⟨⟨⟨⟨a,b⟩,c⟩,d⟩,f⟩:=h;exact⟨g,a,b,c,λp i=>⟨d p i,(g.pl p i).2.1⟩,f⟩
def vH (d:PyData):Bool:=pH d&&decide (1<=(dk d).length)&&decide ((dk d).length<=6)&&(dk d).all wkB
theorem DG (h1:1<=es.length) (h2:es.length<=6) (h:∀e∈es,e.Wk):vH (ax es)=true:=by unfold vH;rw[qm (by omega) λe a=>(h e a).sh,ie];simp only[L8,decide_eq_true_eq,LD];exact⟨⟨⟨trivial,h1⟩,h2⟩,λe a=>II (h e a)⟩
theorem IX {d:PyData} (h:vH d=true):ax (dk d)=d/\1<=(dk d).length/\(dk d).length<=6/\∀e∈dk d,e.Wk:=by unfold vH at h;simp only[L8,decide_eq_true_eq,LD]at h;obtain⟨⟨⟨a,b⟩,c⟩,f⟩:=h;obtain⟨e1,_,i⟩:=xW a;exact⟨e1,b,c,λe g=>GI (f e g) (i e g)⟩
def okW (d r:PyData) (n:Int):Bool:=vH d&&dG (dk d).length r&&decide (0<=n)&&decide (n<(dk d).length)
theorem BO {n:Int} (h1:1<=es.length) (h2:es.length<=6) (h:∀e∈es,e.Wk) (a:dQ es.length rs) (n0:0<=n) (n1:n<es.length):okW (ax es) (ar rs) n=true:=by unfold okW;rw[DG h1 h2 h,ie,gH a];simp only[L8,decide_eq_true_eq];exact⟨⟨⟨trivial,trivial⟩,n0⟩,n1⟩
theorem sf {d r:PyData} {n:Int} (h:okW d r n=true):∃es rs,d=ax es/\r=ar rs/\dk d=es/\cM r=rs/\1<=es.length/\es.length<=6/\(∀e∈es,e.Wk)/\dQ es.length rs/\0<=n/\n<es.length:=by unfold okW at h;simp only[L8,decide_eq_true_eq]at h;obtain⟨⟨⟨c1,a⟩,n0⟩,n1⟩:=h;obtain⟨e1,l1,l6,hok⟩:=IX c1;obtain⟨e2,b⟩:=k9 a;exact⟨dk d,cM r,e1.symm,e2.symm,rfl,rfl,l1,l6,hok,b,n0,n1⟩
def stJ (tops:PyData) (len:Str) (js:List Jb):Nat->List Jb×List PyData
 |0=>(js,[])
 |i+1=>cQ tops len (stJ tops len js i)
section
variable {len:Str}
theorem fg:∀i,(stJ tops len js i).2.length=i
 |0=>rfl
 |i+1=>by show (cQ tops len _).2.length=_;rw[u9,fg i]
theorem pq {b:Jb}:∀{js:List Jb},(js.map (·.num)).Nodup->b∈js->(dN b js).map (·.rank)=js.map (·.rank)
 |[],_,a=>(nomatch a)
 |j::r,nd,a=>by
  rcases mK nd a with⟨f,e⟩|⟨_,c,e⟩
  ·rw[e,L4,L4,f,l9]
  ·rw[L4,M3]at nd;rw[e,L4,L4,pq nd.2 c]
theorem tm (a:IvJ tops 0 js) (hv:HvJ tops js):∀i:Nat,IvJ tops (i:Int) (stJ tops len js i).1/\HvJ tops (stJ tops len js i).1/\(stJ tops len js i).1.map fJ=js.map fJ/\(stJ tops len js i).1.map (·.rank)=js.map (·.rank)
 |0=>⟨a,hv,rfl,rfl⟩
 |i+1=>by
  obtain⟨h1,h2,g,h⟩:=tm a hv i;have hl:=fg (tops:=tops) (len:=len) (js:=js) i;have h1:IvJ tops ((stJ tops len js i).2.length:Int) (stJ tops len js i).1:=by rw[hl];exact h1
  have q:=Fj (len:=len) h1;have c:=En (len:=len) h1 h2;have e:cQ tops len ((stJ tops len js i).1,(stJ tops len js i).2)=stJ tops len js (i+1):=rfl;rw[e]at q c;rw[fg]at q;refine⟨q,c,?_,?_⟩
  all_goals
   rw[<-e];by_cases z:cj (stJ tops len js i).2 (stJ tops len js i).1=[]
   ·rw[jY z];assumption
   ·obtain⟨b,f,_,e2⟩:=mP (tops:=tops) (len:=len) z;rw[e2]
    first|exact (rD h1.ok.nd f).trans g|exact (pq h1.ok.nd f).trans h
end
structure Trc (tops:PyData) (n:Nat) (q:Nat->Nat->Jb) (who:Nat->Option Nat):Prop where
 lt:∀{i m:Nat},who i=some m->m<n
 on:∀{i m},who i=some m->q m (i+1)=(q m i).next
 off:∀{i m},m<n->who i≠some m->q m (i+1)=q m i
 ok:∀{m} i,m<n->JOk tops (q m i)
 thr:∀{i m:Nat},who i=some m->(q m i).there (i:Int)=true
 idl:∀{i m:Nat},who i=none->m<n->(q m i).there (i:Int)=false
 srt:∀{m} i,m<n->(q m i).row.Pairwise (· < ·)
 low:∀{m:Nat} (i:Nat),m<n->0<=fY (i:Int) (q m i)
 spt:∀{m:Nat} (i:Nat),m<n->(q m i).spent≠0->(q m i).there (i:Int)=true
 tp:∀{m:Nat} (i:Nat) {T:Int},m<n->(q m i).held=some T->fo tops T<=(q m i).rank
 num:∀{m:Nat} (i:Nat),m<n->(q m i).num=(m:Int)
section
variable {q:Nat->Nat->Jb} {who:Nat->Option Nat}
theorem Trc.stay (R:Trc tops n q who) (hm:m<n):∀i,(q m i).parts=(q m 0).parts/\(q m i).row=(q m 0).row/\(q m i).rank=(q m 0).rank
 |0=>⟨rfl,rfl,rfl⟩
 |i+1=>by
  have h:=R.stay hm i;by_cases w:who i=some m
  ·rw[R.on w,iV,iF,l9];exact h
  ·rw[R.off hm w];exact h
theorem Trc.tot1 (R:Trc tops n q who) (hm:m<n):(q m (i+1)).tot=(q m i).tot+(if who i=some m then 1 else 0):=by
 by_cases w:who i=some m
 ·rw[R.on w,if_pos w,om (R.ok i hm)]
 ·rw[R.off hm w,if_neg w];omega
theorem Trc.mono (R:Trc tops n q who) (hm:m<n) {j:Nat} (h:i<=j):(q m i).tot<=(q m j).tot:=by
 induction h with
 |refl=>exact MJ _
 |step _ ih=>rw[R.tot1 hm];split <;> omega
theorem Trc.wk (R:Trc tops n q who) (hm:m<n) (i:Nat):(q m i).work=(q m 0).work:=by unfold Jb.work;rw[(R.stay hm i).1]
theorem Trc.wpos (R:Trc tops n q who) (hm:m<n) (i:Nat):0<(q m i).work:=by have:=mV (R.ok i hm);omega
theorem Trc.job_tot (R:Trc tops n q who) (hm:m<n) (i:Nat):((q m i).job:Int)=(q m i).tot / (q m 0).work:=by rw[<-R.wk hm i];exact (D0 (R.ok i hm)).symm
theorem Trc.left (R:Trc tops n q who) (hm:m<n) (h:(q m i).tot<(iu (q m 0).row (i:Int):Int)*(q m 0).work):(q m i).there (i:Int)=true:=by
 by_cases t:(q m i).there (i:Int)=true
 ·exact t
 ·have t:(q m i).there (i:Int)=false:=by simpa using t
  have:=CL (R.ok i hm) (R.srt i hm) (R.low i hm) t;unfold fY at this;rw[R.wk hm,(R.stay hm i).2.1]at this;omega
end
def qJ (tops:PyData) (len:Str) (js:List Jb) (m i:Nat):Jb:=(stJ tops len js i).1.getD m default
def thA (tops:PyData) (len:Str) (js:List Jb) (i:Nat):List Jb:=cj (stJ tops len js i).2 (stJ tops len js i).1
open Classical in
def qz (tops:PyData) (len:Str) (js:List Jb) (i:Nat):Option Nat:=if thA tops len js i=[] then none else some (cY tops len (thA tops len js i)).num.toNat
section
variable {len:Str}
theorem kJ (h:m<(stJ tops len js i).1.length):qJ tops len js m i=(stJ tops len js i).1[m]:=by unfold qJ;rw[LJ,L0 h];rfl
theorem t9 (a:IvJ tops 0 js) (hv:HvJ tops js) (i:Nat):(stJ tops len js i).1.length=js.length:=uW (tm a hv i).2.2.1
theorem rN (h:j∈thA tops len js i):j∈(stJ tops len js i).1/\j.there (i:Int)=true:=by have:=LO.mp h;rw[fg]at this;exact this
theorem ip (b:IvJ tops 0 js) (hv:HvJ tops js) (c:Sx js) (h:qz tops len js i=some m):m<js.length/\thA tops len js i≠[]/\qJ tops len js m i=cY tops len (thA tops len js i):=by
 unfold qz at h;split at h
 ·cases h
 ·rename_i z;have hm:=(rN (gy (tops:=tops) (len:=len) z)).1;obtain⟨k,a,e⟩:=N4 hm;have hn:=(yV (tm b hv i).2.2.1 c).num k a;rw[e]at hn;have:m=k:=by injection h with h;omega
  subst this;exact⟨by rw[<-t9 b hv i];exact a,z,by rw[kJ a,e]⟩
theorem yE (i:Nat):(stJ tops len js (i+1)).1=if thA tops len js i=[] then (stJ tops len js i).1 else dN (cY tops len (thA tops len js i)) (stJ tops len js i).1:=by show (cQ tops len (stJ tops len js i)).1=_;unfold cQ thA;split <;> rfl
theorem Ft {T:Nat} (h:i<T):(stJ tops len js T).2[i]?=some (if thA tops len js i=[] then .none else cH (cY tops len (thA tops len js i))):=by
 induction h with
 |refl =>show (cQ tops len (stJ tops len js i)).2[i]?=_;unfold cQ thA;split <;> (show (_++[_])[i]?=_;rw[LS (by rw[fg];omega),fg,Nat.sub_self];rfl)
 |step a ih =>
  rename_i T;have hl:=fg (tops:=tops) (len:=len) (js:=js) T;have:(stJ tops len js (T+1)).2[i]?=(stJ tops len js T).2[i]?:=by show (cQ tops len (stJ tops len js T)).2[i]?=_;unfold cQ;have a:i<T:=a;split <;> (show (_++[_])[i]?=_;rw[LP (by omega)])
  rw[this,ih]
theorem GU (a:IvJ tops 0 js) (hv:HvJ tops js) (c:Sx js):Trc tops js.length (qJ tops len js) (qz tops len js):=by
 have inv:=λi=>tm (len:=len) a hv i
 have f:=λi=>t9 (len:=len) a hv i
 have mem:∀{m} i,m<js.length->qJ tops len js m i∈(stJ tops len js i).1:=λ{m} i h=>by
  have hm:m<(stJ tops len js i).1.length:=by rw[f];exact h
  rw[kJ hm];exact LY hm
 have num:∀{m} i,m<js.length->(qJ tops len js m i).num=(m:Int):=λ{m} i h=>by
  have hm:m<(stJ tops len js i).1.length:=by rw[f];exact h
  rw[kJ hm];exact (yV (inv i).2.2.1 c).num m hm
 have iv':∀i,IvJ tops ((stJ tops len js i).2.length:Int) (stJ tops len js i).1:=λi=>by rw[fg];exact (inv i).1
 refine⟨λh=>(ip a hv c h).1,λ{i m} h=>?_,λ{i m} hm h=>?_,λ{m} i h=>(inv i).1.ok.ok _ (mem i h),λ{i m} h=>?_,λ{i m} h hm=>?_,λ{m} i h=>(inv i).1.srt _ (mem i h),λ{m} i h=>(inv i).1.low _ (mem i h),λ{m} i h hs=>m9 (inv i).1 (mem i h) hs,λ{m} i {T} h ht=>?_,λ{m} i h=>num i h⟩
 ·obtain⟨hm,z,e⟩:=ip a hv c h;have h1:m<(stJ tops len js (i+1)).1.length:=by rw[f];exact hm
  have b:m<(stJ tops len js i).1.length:=by rw[f];exact hm
  have e1:qJ tops len js m (i+1)=(dN (cY tops len (thA tops len js i)) (stJ tops len js i).1).getD m default:=by unfold qJ;rw[yE,if_neg z]
  rw[e1,<-e];unfold dN;rw[LJ,LG,L0 b,<-kJ b];simp
 ·unfold qJ;rw[yE];split
  ·rfl
  ·rename_i z;have b:m<(stJ tops len js i).1.length:=by rw[f];exact hm
   have hn:=num i hm;rw[kJ b]at hn;have hw:qz tops len js i=some (cY tops len (thA tops len js i)).num.toNat:=by unfold qz;rw[if_neg z]
   have hw':=ip a hv c hw;have g:¬ (stJ tops len js i).1[m].num=(cY tops len (thA tops len js i)).num:=λe=>h (by rw[hw,<-e,hn];rfl)
   unfold dN;rw[LJ,LG,L0 b,LJ,L0 b];simp[g]
 ·obtain⟨hm,z,e⟩:=ip a hv c h;rw[e];exact (rN (gy z)).2
 ·unfold qz at h;split at h
  ·rename_i z;by_cases t:(qJ tops len js m i).there (i:Int)=true
   ·have:qJ tops len js m i∈thA tops len js i:=LO.mpr ⟨mem i hm,by rw[fg];exact t⟩;rw[z]at this;cases this
   ·simpa using t
  ·cases h
 ·obtain⟨h1,h2⟩:=fq ht;obtain⟨p,j,e⟩:=sk ((inv i).1.ok.ok _ (mem i h)) h1;exact (inv i).2.1.top _ (mem i h) p j T e
theorem Fg (a:IvJ tops 0 js) (hv:HvJ tops js) (c:Sx js) {p:Nat} (h:qz tops "high" js i=some m) (f:p<js.length) (t:(qJ tops "high" js p i).there (i:Int)=true):ltD (gU tops (qJ tops "high" js p i)) (gU tops (qJ tops "high" js m i))=false:=by
 obtain⟨hm,z,e⟩:=ip a hv c h;have b:p<(stJ tops "high" js i).1.length:=by rw[t9 a hv];exact f
 have:qJ tops "high" js p i∈thA tops "high" js i:=LO.mpr ⟨by rw[kJ b];exact LY b,by rw[fg];exact t⟩;rw[e];have e2:cY tops "high" (thA tops "high" js i)=iH (gU tops) (thA tops "high" js i):=by unfold cY;exact if_pos (by decide)
 rw[e2];exact sy z this
end
def pT (tops:PyData) (n:Nat) (q:Nat->Nat->Jb) (who:Nat->Option Nat):Prop:=∀{i m p:Nat},who i=some m->p<n->(q p i).there (i:Int)=true->ltD (gU tops (q p i)) (gU tops (q m i))=false
def hgt (tops:PyData) (j:Jb):Int:=match j.held with
 |some T=>if fo tops T<j.rank then fo tops T else j.rank
 |none=>j.rank
theorem yH {a b:Jb} (h:ltD (gU tops a) (gU tops b)=false):hgt tops b<=hgt tops a/\(hgt tops b=hgt tops a->b.held=none->a.held=none):=by
 have key:∀j:Jb,gU tops j=.tuple [.int (hgt tops j),.int (if j.held=none then 1 else 0)]:=λj=>by
  unfold hgt;cases e:j.held with
  |none=>rw[rn e];rfl
  |some T=>rw[rY e];rfl
 rw[key,key,yT]at h;by_cases e:hgt tops a=hgt tops b
 ·rw[if_pos e]at h;refine⟨by omega,λ_ c=>?_⟩;rw[if_pos c]at h;cases ha:a.held with
  |none=>rfl
  |some T=>rw[ha]at h;simp at h
 ·rw[if_neg e]at h;have:=of_decide_eq_false h;exact⟨by omega,λz=>absurd z.symm e⟩
theorem Ik (tops:PyData) (j:Jb):hgt tops j<=j.rank:=by
 unfold hgt;split
 ·split <;> omega
 ·exact MJ _
theorem vV (h:j.held=some T) (ht:fo tops T<=j.rank):hgt tops j=fo tops T:=by unfold hgt;rw[h];show (if _ then _ else _)=_;split <;> omega
theorem u0 (h:j.held=none):hgt tops j=j.rank:=by unfold hgt;rw[h]
section
variable {q:Nat->Nat->Jb} {who:Nat->Option Nat}
theorem Trc.pair (R:Trc tops n q who) (c:pT tops n q who) (f:∀m,m<n->(q m 0).held=none):∀(i:Nat) {a b:Nat} {S T:Int},a<n->b<n->a≠b->(q a i).held=some S->(q b i).held=some T->(q a i).rank<fo tops T\/(q b i).rank<fo tops S
 |0,a,_,S,_,ha,_,_,e,_=>by rw[f a ha]at e;cases e
 |i+1,a,b,S,T,ha,hb,hab,ea,eb=>by
  have step:∀{a b:Nat} {S T:Int},a<n->b<n->a≠b->who i=some a->(q a (i+1)).held=some S->(q b (i+1)).held=some T->(q a i).spent=0->(q a (i+1)).rank<fo tops T:=λ{a b S T} ha hb hab w ea eb hs=>by
   have g:who i≠some b:=λz=>hab (by rw[w]at z;cases z;rfl)
   rw[R.off hb g]at eb;have na:(q a i).held=none:=by unfold Jb.held;rw[if_pos hs]
   have k:=yH (c w hb (R.spt i hb (fq eb).2));rw[u0 na,vV eb (R.tp i hb eb)]at k;have:¬ (q a i).rank=fo tops T:=λz=>by rw[k.2 z na]at eb;cases eb
   rw[(R.stay ha (i+1)).2.2,<- (R.stay ha i).2.2];omega
  have old:∀{a:Nat} {S:Int},a<n->(q a (i+1)).held=some S->¬ (who i=some a/\(q a i).spent=0)->(q a i).held=some S:=λ{a S} ha ea hn=>by
   by_cases w:who i=some a
   ·rw[R.on w]at ea;have:=l0 (R.ok i ha) ea;unfold Jb.held;rw[if_neg (λz=>hn ⟨w,z⟩)];exact this
   ·rw[R.off ha w]at ea;exact ea
  by_cases na:who i=some a/\(q a i).spent=0
  ·exact .inl (step ha hb hab na.1 ea eb na.2)
  ·by_cases nb:who i=some b/\(q b i).spent=0
   ·exact .inr (step hb ha (Ne.symm hab) nb.1 eb ea nb.2)
   ·have:=R.pair c f i ha hb hab (old ha ea na) (old hb eb nb);rw[(R.stay ha (i+1)).2.2,<- (R.stay ha i).2.2,(R.stay hb (i+1)).2.2,<- (R.stay hb i).2.2];exact this
theorem Trc.below (R:Trc tops n q who) (a:pT tops n q who) {p:Nat} (w:who i=some m) (b:p<n) (t:(q p i).there (i:Int)=true) (h1:(q p i).rank<=r) (h2:r<(q m i).rank):∃T,(q m i).held=some T/\fo tops T<=r:=by
 have k:=(yH (a w b t)).1;have:=Ik tops (q p i);cases e:(q m i).held with
 |none=>rw[u0 e]at k;omega
 |some T=>rw[vV e (R.tp i (R.lt w) e)]at k;exact⟨T,rfl,by omega⟩
theorem Trc.begun (R:Trc tops n q who) (b:pT tops n q who) {E:Nat} (hw:∀t,B<=t->t<E->∃p,p<n/\(q p t).there (t:Int)=true/\(q p t).rank<=r) (hm:m<n) (c:r<(q m 0).rank):∀{t:Nat},B<=t->t<E->(q m t).spent≠0->∀u,B<=u->u<=t->(q m u).job=(q m t).job/\(q m u).part=(q m t).part/\(q m u).spent≠0/\(q m u).spent<=(q m t).spent
 |0,h1,h2,hs,u,h3,h4=>by
  have:u=0:=by omega
  subst this;exact⟨rfl,rfl,hs,L9 _⟩
 |t+1,h1,h2,hs,u,h3,h4=>by
  by_cases e:u=t+1
  ·subst e;exact⟨rfl,rfl,hs,L9 _⟩
  ·by_cases w:who t=some m
   ·obtain⟨p,h,tp,i⟩:=hw t (by omega) (by omega);obtain⟨T,j,_⟩:=R.below b w h tp i (by rw[(R.stay hm t).2.2];exact c);have f:=(fq j).2;have g:=R.begun b hw hm c (t:=t) (by omega) (by omega) f u h3 (by omega);have nx:=R.on w;have a:(q m (t+1)).job=(q m t).job/\(q m (t+1)).part=(q m t).part/\(q m (t+1)).spent=(q m t).spent+1:=by
     rw[nx]at hs ⊢;unfold Jb.next Jb.step1 at hs ⊢;split at hs
     ·exfalso;apply hs;unfold Jb.step2;split <;> rfl
     ·rename_i z;rw[if_neg z];unfold Jb.step2;rw[if_neg (by have:=(R.ok t hm).pt;simp only;omega)];exact⟨rfl,rfl,rfl⟩
    exact⟨g.1.trans a.1.symm,g.2.1.trans a.2.1.symm,g.2.2.1,by omega⟩
   ·have nx:=R.off hm w;rw[nx]at hs ⊢;exact R.begun b hw hm c (t:=t) (by omega) (by omega) hs u h3 (by omega)
end
section
variable {q:Nat->Nat->Jb} {who:Nat->Option Nat}
theorem Trc.low_one (R:Trc tops n q who) (a:pT tops n q who) (hm:m<n) (b:r<(q m 0).rank):∀(d:Nat),(∀t,B<=t->t<B+d->∃p,p<n/\(q p t).there (t:Int)=true/\(q p t).rank<=r) ->
  (q m (B+d)).tot=(q m B).tot\/∃p∈(q m 0).parts,∃T,p.2=some T/\fo tops T<=r/\(q m (B+d)).tot-(q m B).tot<=p.1-1/\(q m B).held=some T
 |0,_=>.inl rfl
 |d+1,hw=>by
  by_cases w:who (B+d)=some m
  ·right;obtain⟨p,h,tp,j⟩:=hw (B+d) (by omega) (by omega);obtain⟨T,l,o⟩:=R.below a w h tp j (by rw[(R.stay hm _).2.2];exact b);obtain⟨e1,s⟩:=fq l;obtain⟨u,g,v,j4⟩:=R.begun a (E:=B+d+1) (λt h1 h2=>hw t h1 (by omega)) hm b (t:=B+d) (by omega) (by omega) s B (L9 _) (by omega);have ok:=R.ok (B+d) hm;have pt:=ok.pt;have c:(q m (B+d)).parts[(q m (B+d)).part]'pt∈(q m 0).parts:=by rw[<- (R.stay hm (B+d)).1];exact LY pt
   have hl:(q m (B+d)).len=((q m (B+d)).parts[(q m (B+d)).part]'pt).1:=by unfold Jb.len;rw[L0 pt];rfl
   have f:(q m (B+d)).tool=((q m (B+d)).parts[(q m (B+d)).part]'pt).2:=by unfold Jb.tool;rw[L0 pt];rfl
   refine⟨_,c,T,by rw[<-f];exact e1,o,?_,?_⟩
   ·have h1:=R.tot1 (i:=B+d) hm;rw[if_pos w]at h1;have h2:(q m (B+d)).tot-(q m B).tot=((q m (B+d)).spent:Int)-(q m B).spent:=by unfold Jb.tot Jb.cur;rw[R.wk hm (B+d),R.wk hm B,(R.stay hm (B+d)).1,(R.stay hm B).1,u,g];omega
    have:=ok.sp;show (q m (B+d+1)).tot-(q m B).tot<=_;omega
   ·unfold Jb.held;rw[if_neg v];have:(q m B).tool=(q m (B+d)).tool:=by unfold Jb.tool;rw[g,(R.stay hm B).1,(R.stay hm (B+d)).1]
    rw[this];exact e1
  ·have h1:=R.tot1 (i:=B+d) hm;rw[if_neg w]at h1;have x:=R.low_one a hm b d λt h1 h2=>hw t h1 (by omega)
   show (q m (B+d+1)).tot=_\/_;rw[h1,Int.add_zero];rcases x with e|⟨p,a1,T,a2,y,z,A⟩
   ·exact .inl e
   ·exact .inr ⟨p,a1,T,a2,y,by show (q m (B+d+1)).tot-_<=_;rw[h1,Int.add_zero];exact z,A⟩
end
section
variable {q:Nat->Nat->Jb} {who:Nat->Option Nat}
theorem Trc.passed (R:Trc tops n q who) (hm:m<n) {v:Int}:∀(d:Nat),(q m B).tot<v->v<=(q m (B+d)).tot->∃t,B<=t/\t<B+d/\who t=some m/\(q m t).tot=v-1
 |0,h1,h2=>by rw[Nat.add_zero]at h2;omega
 |d+1,h1,h2=>by
  by_cases h:v<=(q m (B+d)).tot
  ·obtain⟨t,a1,a2,a⟩:=R.passed hm d h1 h;exact⟨t,a1,by omega,a⟩
  ·have:=R.tot1 (i:=B+d) hm;have h2:v<=(q m (B+d+1)).tot:=h2;by_cases w:who (B+d)=some m
   ·rw[if_pos w]at this;exact⟨B+d,by omega,by omega,w,by omega⟩
   ·rw[if_neg w]at this;omega
end
theorem AX {len:Str} (R:Ran es rs rows len):HvJ (aF es rs) (startJ es rs rows):=by
 refine⟨λi hi j f T h1 h2=>?_,λj f p g T e=>?_⟩
 ·obtain⟨k,row,_,_,_,rfl⟩:=dC hi;cases h1
 ·obtain⟨k,row,hk,_,_,rfl⟩:=dC f;have hln:=R.ln;have h:(0:Int)<=(k:Int):=by omega
  have h1:(k:Int)<es.length:=by omega
  have ok:=R.eok.ok _ (e9 h h1);obtain⟨l,m⟩:=(ok.pl p g).2.2 T e;have o:(b9 es (k:Int)).has T=true:=by unfold Er.has;rw[ML];exact⟨p,g,by rw[e];exact beq_self_eq_true _⟩
  have hm:=R.rok.mem h h1;have a:=pD hm;have b:rs[placeOf rs (k:Int)]?=some (k:Int):=by have:=List.findIdx_getElem (xs:=rs) (p:=(·==(k:Int))) (w:=a);rw[L0 a];exact congrArg some (eq_of_beq this)
  have c:(k:Int)∈rs.take (placeOf rs (k:Int)+1):=by rw[List.take_succ,b];exact Lw _ L6
  obtain⟨n,hn,hle⟩:=(qp es T rs 0 (placeOf rs (k:Int))).mpr ⟨(k:Int),c,o⟩;have:fo (aF es rs) T=n:=by unfold fo;rw[ku l m hn]
  rw[this];show n<=(placeOf rs (k:Int):Int);omega
def hdD (C:Addr) (m k t l:Int):PyData:=DQ C [("number",.int m),("part",.int k),("tool",.int t),("times",.int l)]
def ik (C:Addr) (es:List Er) (rs:List Int) (pl m k:Int) (p:Int×Option Int):List PyData:=match p.2 with
 |some t=>(match bj es rs t with
  |some h=>if h<=pl then [hdD C m k t (p.1-1)] else []
  |none=>[])
 |none=>[]
def hdM (C:Addr) (es:List Er) (rs:List Int) (pl m:Int):Nat->List (Int×Option Int)->List PyData
 |_,[]=>[]
 |k,p::r=>ik C es rs pl m k p++hdM C es rs pl m (k+1) r
def gD (C:Addr) (es:List Er) (rs:List Int) (pl:Int):List Int->List PyData
 |[]=>[]
 |m::r=>hdM C es rs pl m 0 (b9 es m).parts++gD C es rs pl r
theorem rM (C:Addr) (es:List Er) (rs:List Int) (pl m k:Int) (p:Int×Option Int):(ik C es rs pl m k p).length<=1:=by
 unfold ik;split
 ·split
  ·split <;> simp
  ·simp
 ·simp
theorem uz (C:Addr) (es:List Er) (rs:List Int) (pl m:Int):∀(ps:List (Int×Option Int)) (k:Nat),(hdM C es rs pl m k ps).length<=ps.length
 |[],_=>by simp[hdM]
 |p::r,k=>by have h1:=rM C es rs pl m k p;have h2:=uz C es rs pl m r (k+1);unfold hdM;rw[LB,LI];omega
abbrev Ci (cs:Cs):Ds->Sr:=gK [5] 5 (aq (sj cs.Holding ["number", "part", "tool", "times"]) (ae (af 6) (ae (af 7) (ae (g2 dIx (af 8) (gC (.int 1))) (ae (g2 gx (g2 dIx (af 8) (gC (.int 0))) (gC (.int 1))) ah)))))
abbrev kx (cs:Cs):Ds->Sr:=sIf (uj (gT (g1 jr (g2 dIx (af 8) (gC (.int 1))))) (gT (g2 dLe (g2 dIx (af 4) (g2 dIx (af 8) (gC (.int 1)))) (af 3)))) (Ci cs) aY
theorem Ek (cs:Cs) (es:List Er) (rs:List Int) (E R n:PyData) (pl:Nat) (m:Int) (a:List PyData) (c:∀t:Int,0<=t->t<=3->atI a t=some (bz (bj es rs t))) (p:Int×Option Int) (k:Nat) (acc:List PyData) (hl:acc.length<1000000) (h:∀t,p.2=some t->0<=t/\t<=3/\∃h,bj es rs t=some h) :
  kx cs [some E,some R,some n,some (.int pl),some (.list a),some (.list acc),some (.int m),some (.int k),some (aN p)]
   =.nx [some E,some R,some n,some (.int pl),some (.list a),some (.list (acc++ik cs.Holding es rs pl m k p)),some (.int m),some (.int k),some (aN p)]:=by
 obtain⟨l,o⟩:=p;cases o with
 |none=>simp[kx,Dh,bz,ik]
 |some t =>
  obtain⟨i,j,e,g⟩:=h t rfl;have ha:=c t i j;rw[g]at ha;have e1:dIx (aN (l,some t)) (.int 1)=some (.int t):=rfl;have q:dIx (aN (l,some t)) (.int 0)=some (.int l):=rfl;have b:dIx (.list a) (.int t)=some (.int e):=ha;have add:Ci cs [some E,some R,some n,some (.int pl),some (.list a),some (.list acc),some (.int m),some (.int k),some (aN (l,some t))]=.nx [some E,some R,some n,some (.int pl),some (.list a),some (.list (acc++[hdD cs.Holding m k t (l-1)])),some (.int m),some (.int k),some (aN (l,some t))]:=by unfold Ci gK;simp only[Mv,Mw];simp only[bB,aA,aH,bK,aS (show 6∉[5] by decide),aS (show 7∉[5] by decide),aS (show 8∉[5] by decide),ao,au,cy,Rs.ag,e1,q,qt,Rs.ai];have hm:sj cs.Holding ["number", "part", "tool", "times"] [.int m,.int (k:Int),.int t,.int (l-1)]=.ok (hdD cs.Holding m k t (l-1)):=rfl;rw[hm,az,if_pos hl];rfl
  have f:ik cs.Holding es rs pl m k (l,some t)=if e<=(pl:Int) then [hdD cs.Holding m k t (l-1)] else []:=by unfold ik;simp only[g]
  rw[f];by_cases hle:e<=(pl:Int)
  · rw[if_pos hle,<-add];simp[kx,e1,b,hle]
  · rw[if_neg hle,Mi];simp[kx,e1,b,hle]
theorem vp (cs:Cs) (es:List Er) (rs:List Int) (E R n:PyData) (pl:Nat) (m:Int) (a:List PyData) (b:∀t:Int,0<=t->t<=3->atI a t=some (bz (bj es rs t))):∀(ps:List (Int×Option Int)) (k:Nat) (acc:List PyData) (x7 x8:Option PyData),acc.length+ps.length<1000000->(∀p∈ps,∀t,p.2=some t->0<=t/\t<=3/\∃h,bj es rs t=some h) ->
  ∃c f,forL (dg [7,8]) (kx cs) ((ps.map aN).mapIdx λi d=>.tuple [.int ((k+i:Nat):Int),d])
    [some E,some R,some n,some (.int pl),some (.list a),some (.list acc),some (.int m),x7,x8]
   =.nx [some E,some R,some n,some (.int pl),some (.list a),some (.list (acc++hdM cs.Holding es rs pl m k ps)),some (.int m),c,f]
 |[],k,acc,x7,x8,_,_=>⟨x7,x8,by simp[forL,hdM]⟩
 |p::r,k,acc,x7,x8,hz,h=>by
  have hz':acc.length+(r.length+1)<1000000:=hz;have hl1:=rM cs.Holding es rs pl m k p;obtain⟨c,f,e⟩:=vp cs es rs E R n pl m a b r (k+1) (acc++ik cs.Holding es rs pl m k p) (some (.int (k:Int))) (some (aN p)) (by rw[LB];omega) (λq g=>h q (L3 _ g));refine⟨c,f,?_⟩;rw[L4,Nx];unfold forL;have e1:dg [7,8] (PyData.tuple [.int ((k+0:Nat):Int),aN p]) [some E,some R,some n,some (.int pl),some (.list a),some (.list acc),some (.int m),x7,x8]=some [some E,some R,some n,some (.int pl),some (.list a),some (.list acc),some (.int m),some (.int (k:Int)),some (aN p)]:=rfl;rw[e1];simp only[Ek cs es rs E R n pl m a b p k acc (by omega) (h p L6)];have j:(λ(i:Nat) (d:PyData)=>PyData.tuple [.int ((k+(i+1):Nat):Int),d])=λi d=>.tuple [.int ((k+1+i:Nat):Int),d]:=by funext i d;rw[show k+(i+1)=k+1+i by omega]
  rw[j,e];rw[show hdM cs.Holding es rs pl m k (p::r)=ik cs.Holding es rs pl m k p++hdM cs.Holding es rs pl m (k+1) r from rfl,MF]
theorem vX {es:List Er} {rs:List Int} (cs:Cs) (f:∀e∈es,e.Sh) (w:dQ es.length rs) (n:PyData) (pl:Nat):∀(l:List Int) (acc:List PyData) (x6 x7 x8:Option PyData),acc.length+1000*l.length<1000000->(∀m∈l,m∈rs) ->
  ∃q s u,forL (bE 6) (eQ [5] (eK (ae (g2 dIx (g2 dIx (af 0) (af 6)) (gC (.int 3))) ah)) (dg [7,8]) (kx cs)) (l.map PyData.int)
    [some (ax es),some (ar rs),some n,some (.int pl),some (aF es rs),some (.list acc),x6,x7,x8]
   =.nx [some (ax es),some (ar rs),some n,some (.int pl),some (aF es rs),some (.list (acc++gD cs.Holding es rs pl l)),q,s,u]
 |[],acc,x6,x7,x8,_,_=>⟨x6,x7,x8,by simp[forL,gD]⟩
 |m::r,acc,x6,x7,x8,hz,h=>by
  have hz':acc.length+1000*(r.length+1)<1000000:=hz;have hm:=h m L6;have g:=w.rng m hm;have j:=f _ (e9 g.1 (by omega));have hpn:=j.pn;have hml:=uz cs.Holding es rs pl m (b9 es m).parts 0;obtain⟨y,z,e1⟩:=vp cs es rs (ax es) (ar rs) n pl m ((List.range 4).map λ(t:Nat)=>bz (bj es rs t)) (λt a b=>yc a b) (b9 es m).parts 0 acc x7 x8 (by omega) λp A t o=>by obtain⟨_,_,c⟩:=j.pl p A;have:=c t o;exact⟨this.1,this.2,oy es t rs 0 m hm (HW A o)⟩
  obtain⟨q,s,u,e2⟩:=vX cs f w n pl r (acc++hdM cs.Holding es rs pl m 0 (b9 es m).parts) (some (.int m)) y z (by rw[LB];omega) λx B=>h x (L3 _ B)
  refine⟨q,s,u,?_⟩;rw[L4];unfold forL;have a2:atI (es.map Er.d) m=some (b9 es m).d:=kT g.1 (by omega);have src:eK (ae (g2 dIx (g2 dIx (af 0) (af 6)) (gC (.int 3))) ah) (mask [5] [some (ax es),some (ar rs),some n,some (.int pl),some (aF es rs),some (.list acc),some (.int m),x7,x8])=.ok (((b9 es m).parts.map aN).mapIdx λi d=>.tuple [.int ((0+i:Nat):Int),d]):=by simp only[nP,aA,aH,bK,aS (show 0∉[5] by decide),aS (show 6∉[5] by decide),ao,au,cy,Rs.ag,ax,Cc,a2,Rs.ai,zW,sZ,fe,M8]
  have o:bE 6 (.int m) [some (ax es),some (ar rs),some n,some (.int pl),some (aF es rs),some (.list acc),x6,x7,x8]=some [some (ax es),some (ar rs),some n,some (.int pl),some (aF es rs),some (.list acc),some (.int m),x7,x8]:=rfl;have v:forL (dg [7,8]) (kx cs) (((b9 es m).parts.map aN).mapIdx λi d=>.tuple [.int ((0+i:Nat):Int),d]) [some (ax es),some (ar rs),some n,some (.int pl),some (aF es rs),some (.list acc),some (.int m),x7,x8]=.nx [some (ax es),some (ar rs),some n,some (.int pl),some (aF es rs),some (.list (acc++hdM cs.Holding es rs pl m 0 (b9 es m).parts)),some (.int m),y,z]:=e1;rw[o];simp only[kE,src,az,v,e2];rw[show gD cs.Holding es rs pl (m::r)=hdM cs.Holding es rs pl m 0 (b9 es m).parts++gD cs.Holding es rs pl r from rfl,MF]
def cL (cs:Cs):Gf
 |[d,r,.int n]=>if okW d r n then .ok (.list (gD cs.Holding (dk d) (cM r) (placeOf (cM r) n) ((cM r).drop (placeOf (cM r) n+1)))) else .no
 |_=>.no
theorem jI {n:Int} (cs:Cs) (h1:1<=es.length) (h2:es.length<=6) (h:∀e∈es,e.Wk) (a:dQ es.length rs) (n0:0<=n) (n1:n<es.length):cL cs [ax es,ar rs,.int n]=.ok (.list (gD cs.Holding es rs (placeOf rs n) (rs.drop (placeOf rs n+1)))):=by unfold cL;simp only[BO h1 h2 h a n0 n1,if_true,ie,iq]
theorem xt (cs:Cs):LLq (iR cs aP) 3 6 (cL cs):=by
 intro ds hl a;obtain⟨d,r,n,i,h⟩:=lC a;clear a;subst i;have a:=h;clear h
 ·skip
  split at a
  ·rename_i hc;obtain⟨es,rs,rfl,rfl,_,_,l1,l6,hok,b,n0,n1⟩:=sf hc;rw[jI cs l1 l6 hok b n0 n1];have c:∀e∈es,e.Sh:=λe j=>(hok e j).sh
   have f:=b.mem n0 (by omega);have g:=nz f;have l:=fm (by omega) c b;have hrl:=b.len;obtain⟨y6,y7,y8,e⟩:=vX cs c b (.int n) (placeOf rs n) (rs.drop (placeOf rs n+1)) [] none none none (by rw[Mz];simp;omega) (λm hm=>MV hm);have src:bT (eZ (af 1) (fL (g2 aX (af 3) (gC (.int 1)))) fH) (mask [5] [some (ax es),some (ar rs),some (.int n),some (.int (placeOf rs n)),some (aF es rs),some (.list []),none,none,none])=.ok ((rs.drop (placeOf rs n+1)).map PyData.int):=by simp only[w5,lu,nY,mh,bK,aS (show 1∉[5] by decide),aS (show 3∉[5] by decide),ao,au,cy,Rs.ag,eC,Rs.ai,nR,ar,Dw,IW];rw[show (placeOf rs n:Int)+1=((placeOf rs n+1:Nat):Int) by omega,vB,List.map_drop]
   have o:aT [5] 3 (uy (af 1) (af 2)) [some (ax es),some (ar rs),some (.int n),none,none,none,none,none,none]=.nx [some (ax es),some (ar rs),some (.int n),some (.int (placeOf rs n)),none,none,none,none,none]:=by rw[jn,if_pos (by simp)];simp only[BA,aS (show 1∉[5] by decide),aS (show 2∉[5] by decide),ao,au,Rs.ag,ar,g,Rs.ai,az];rfl
   have s2:aT [5] 4 (aq aP (ae (af 0) (ae (af 1) ah))) [some (ax es),some (ar rs),some (.int n),some (.int (placeOf rs n)),none,none,none,none,none]=.nx [some (ax es),some (ar rs),some (.int n),some (.int (placeOf rs n)),some (aF es rs),none,none,none,none]:=by rw[jn,if_pos (by simp)];simp only[bB,aA,aH,aS (show 0∉[5] by decide),aS (show 1∉[5] by decide),ao,au,Rs.ag,l,az];rfl
   have p:fc [5] 5 ah [some (ax es),some (ar rs),some (.int n),some (.int (placeOf rs n)),some (aF es rs),none,none,none,none]=.nx [some (ax es),some (ar rs),some (.int n),some (.int (placeOf rs n)),some (aF es rs),some (.list []),none,none,none]:=rfl;show bh (iR cs aP [some (ax es),some (ar rs),some (.int n),none,none,none,none,none,none])=_;simp only[iR];rw[aQ,o];simp only;rw[aQ,s2];simp only;rw[aQ,p];simp only;rw[aQ,kE,src,az,e];rfl
  ·exact absurd rfl a
def kr (es:List Er) (rs:List Int) (pl:Int) (p:Int×Option Int):List Int:=match p.2 with
 |some t=>(match bj es rs t with
  |some h=>if h<=pl then [p.1-1] else []
  |none=>[])
 |none=>[]
def tms (es:List Er) (rs:List Int) (pl:Int):List (Int×Option Int)->List Int
 |[]=>[]
 |p::r=>kr es rs pl p++tms es rs pl r
theorem yg (es:List Er) (rs:List Int) (pl:Int) (b:List (Int×Option Int)):∀a,tms es rs pl (a++b)=tms es rs pl a++tms es rs pl b
 |[]=>rfl
 |p::r=>by show kr es rs pl p++tms es rs pl (r++b)=(kr es rs pl p++tms es rs pl r)++_;rw[yg es rs pl b r,MF]
theorem vc (es:List Er) (rs:List Int) (pl:Int):∀(ps:List (Int×Option Int)) (acc:Int),ps.foldl (iy es rs pl) acc=(tms es rs pl ps).foldl max acc
 |[],_=>rfl
 |p::r,acc=>by
  rw[N6,vc es rs pl r];show _=(kr es rs pl p++tms es rs pl r).foldl max acc;rw[List.foldl_append];have e:iy es rs pl acc p=(kr es rs pl p).foldl max acc:=by
   unfold iy kr;cases p.2 with
   |none=>rfl
   |some t =>
    simp only;cases bj es rs t with
    |none=>rfl
    |some h=>simp only;split <;> rfl
  rw[e]
theorem qc (es:List Er) (rs:List Int) (pl:Int):∀(ps:List (Int×Option Int)),(∀p∈ps,1<=p.1)->∀a∈tms es rs pl ps,0<=a
 |[],_,a,h=>by cases h
 |p::r,hp,a,h=>by
  have h1:=hp p L6;unfold tms at h;rcases LW.mp h with h|h
  ·unfold kr at h;split at h
   ·split at h
    ·split at h
     ·cases Lx.mp h;omega
     ·cases h
    ·cases h
   ·cases h
  ·exact qc es rs pl r (λq b=>hp q (L3 _ b)) a h
theorem AO (h:∀a∈ns,0<=a):(we ns).getD 0=ns.foldl max 0:=by
 have c:(λa b:Int=>if b>a then b else a)=max:=by funext a b;split <;> omega
 cases ns with
 |nil=>rfl
 |cons x r =>have hx:=h x L6;show r.foldl (λa b:Int=>if b>a then b else a) x=r.foldl max (max 0 x);rw[c,show max 0 x=x by omega]
def tmD (C:Addr) (d:PyData):PyData:=(bq C "times" d).getD .none
theorem vC (C:Addr) (m k t l:Int):bq C "times" (hdD C m k t l)=some (.int l):=by
 have n1:¬ (("number":Str)="times"):=by decide +kernel
 have n2:¬ (("part":Str)="times"):=by decide +kernel
 have a:¬ (("tool":Str)="times"):=by decide +kernel
 simp only[hdD,DQ,L4,Mr,bq,and_self,if_true,jh,n1,n2,a,if_false]
theorem zN (C:Addr) (es:List Er) (rs:List Int) (pl m k:Int) (p:Int×Option Int):(ik C es rs pl m k p).map (tmD C)=(kr es rs pl p).map PyData.int/\∀d∈ik C es rs pl m k p,bq C "times" d=some (tmD C d):=by
 unfold ik kr;cases p.2 with
 |none=>exact⟨rfl,λd hd=>by cases hd⟩
 |some t =>
  simp only;cases bj es rs t with
  |none=>exact⟨rfl,λd hd=>by cases hd⟩
  |some h =>
   simp only;split
   ·rw[L4,Mr];refine⟨by unfold tmD;rw[vC];rfl,λd hd=>?_⟩;cases Lx.mp hd;unfold tmD;rw[vC];rfl
   ·exact⟨rfl,λd hd=>by cases hd⟩
theorem yF (C:Addr) (es:List Er) (rs:List Int) (pl m:Int):∀(ps:List (Int×Option Int)) (k:Nat),(hdM C es rs pl m k ps).map (tmD C)=(tms es rs pl ps).map PyData.int/\∀d∈hdM C es rs pl m k ps,bq C "times" d=some (tmD C d)
 |[],_=>⟨rfl,λd hd=>by cases hd⟩
 |p::r,k=>by
  obtain⟨a1,a2⟩:=zN C es rs pl m k p;obtain⟨a,b⟩:=yF C es rs pl m r (k+1);rw[show hdM C es rs pl m k (p::r)=ik C es rs pl m k p++hdM C es rs pl m (k+1) r from rfl,show tms es rs pl (p::r)=kr es rs pl p++tms es rs pl r from rfl];refine⟨by rw[M5,M5,a1,a],λd hd=>?_⟩;rcases LW.mp hd with h|h
  ·exact a2 d h
  ·exact b d h
theorem rj (C:Addr) (es:List Er) (rs:List Int) (pl:Int):∀(a:List Int),(gD C es rs pl a).map (tmD C)=(tms es rs pl ((a.map λm=>(b9 es m).parts).flatten)).map PyData.int/\∀d∈gD C es rs pl a,bq C "times" d=some (tmD C d)
 |[]=>⟨rfl,λd hd=>by cases hd⟩
 |m::r=>by
  obtain⟨a1,a2⟩:=yF C es rs pl m (b9 es m).parts 0;obtain⟨b,c⟩:=rj C es rs pl r;unfold gD;refine⟨by rw[M5,L4,Mu,yg,M5,a1,b],λd hd=>?_⟩;rcases LW.mp hd with h|h
  ·exact a2 d h
  ·exact c d h
theorem sH (C:Addr) (es:List Er) (rs:List Int) (pl:Int) (b:Nat):∀(a:List Int),(∀m∈a,(b9 es m).parts.length<=b)->(gD C es rs pl a).length<=b*a.length
 |[],_=>by simp[gD]
 |m::r,h=>by
  have h1:=h m L6;have h2:=uz C es rs pl m (b9 es m).parts 0;have h3:=sH C es rs pl b r λx c=>h x (L3 _ c)
  unfold gD;rw[LB,LI,Nat.mul_succ];omega
def bR:Gf
 |[d,r,.int n]=>if okW d r n then .ok (.int (cw (dk d) (cM r) n)) else .no
 |_=>.no
theorem gE {n:Int} (h1:1<=es.length) (h2:es.length<=6) (h:∀e∈es,e.Wk) (a:dQ es.length rs) (n0:0<=n) (n1:n<es.length):bR [ax es,ar rs,.int n]=.ok (.int (cw es rs n)):=by unfold bR;simp only[BO h1 h2 h a n0 n1,if_true,ie,iq]
theorem oC (cs:Cs):LLq (eS cs (cL cs)) 3 0 bR:=by
 intro ds hl a;obtain⟨d,r,n,i,h⟩:=lC a;clear a;subst i;have a:=h;clear h
 ·skip
  split at a
  ·rename_i hc;obtain⟨es,rs,rfl,rfl,_,_,l1,l6,hok,c,n0,n1⟩:=sf hc;rw[gE l1 l6 hok c n0 n1];have j:=jI cs l1 l6 hok c n0 n1;obtain⟨o,q⟩:=rj cs.Holding es rs (placeOf rs n) (rs.drop (placeOf rs n+1));have hrl:=c.len;have b:∀m∈rs.drop (placeOf rs n+1),(b9 es m).Wk:=λm hm=>by have:=c.rng m (MV hm);exact hok _ (e9 this.1 (by omega))
   have hln:=sH cs.Holding es rs (placeOf rs n) 4 (rs.drop (placeOf rs n+1)) λm hm=>(b m hm).p2
   have hdl:(rs.drop (placeOf rs n+1)).length<=6:=by rw[Mz];omega
   have e:a9 3 (bT (aq (cL cs) (ae (af 0) (ae (af 1) (ae (af 2) ah))))) bS (g1 (bq cs.Holding "times") (af 3)) aO [some (ax es),some (ar rs),some (.int n)]=.ok ((gD cs.Holding es rs (placeOf rs n) (rs.drop (placeOf rs n+1))).map (tmD cs.Holding)) :=
    cT rfl (by simp only[w5,bB,aA,aH,ao,au,Rs.ag,j];rfl) (by omega) λx s=>by simp only[M6,M4,gQ,ao,au,Rs.ag,q x s,Rs.ai]
   have f:wt (.list ((gD cs.Holding es rs (placeOf rs n) (rs.drop (placeOf rs n+1))).map (tmD cs.Holding))) (.int 0)=some (.int (cw es rs n)):=by
    unfold wt;simp only;rw[o,fu,MD,AO (qc _ _ _ _ λp t=>?_),<-vc]
    ·rfl
    ·obtain⟨l,hl,g⟩:=List.mem_flatten.mp t;obtain⟨m,hm,rfl⟩:=LA.mp hl;exact ((b m hm).pl p g).1
   show bh (eS cs (cL cs) [some (ax es),some (ar rs),some (.int n)])=_;simp only[eS,bU,bK,nH,e,Rs.ag,cy,f,Rs.ai,az,bc]
  ·exact absurd rfl a
theorem Hl (cs:Cs):LLq (uB cs bR cg) 3 0 fA:=by
 intro ds hl a;obtain⟨d,r,n,f,c⟩:=lC a;clear a;subst f;have a:=c;clear c
 ·skip
  split at a
  ·rename_i hc;obtain⟨es,rs,rfl,rfl,_,_,l1,l6,hok,b,n0,n1⟩:=rG hc;have h1:=n9 l1 l6 hok b n0 n1;have g:=gE l1 l6 (λe h=>(hok e h).wk) b n0 n1;have h2:=gZ l1 l6 hok b n0 n1;show bh (uB cs bR cg [some (ax es),some (ar rs),some (.int n)])=_;simp only[uB,aQ,tI,bB,aA,aH,ao,au,Rs.ag,h2,az,bU,g,bc,h1]
  ·exact absurd rfl a
structure Top (f:Int->Int) (T:Int):Prop where
 fix:f T=T
 one:1<=T
 low:∀s,1<=s->s<T->¬ f s<=s
section
variable {E Rr N h:PyData} {f:Int->Int} {most:Int}
end
theorem yU {tops:PyData} {len:Str} {js:List Jb} {out:List PyData}:∀(n k:Nat),tG tops len n (stJ tops len js k)=some out->∃T,k<=T/\T<k+n/\out=(stJ tops len js T).2/\(stJ tops len js T).1.all Jb.done=true
 |0,k,h=>by cases h
 |n+1,k,h=>by
  unfold tG at h;split at h
  ·rename_i hd;cases h;exact⟨k,L9 _,by omega,rfl,hd⟩
  ·obtain⟨T,h1,h2,a,b⟩:=yU n (k+1) h;exact⟨T,by omega,by omega,a,b⟩
section
variable {len:Str}
theorem Eu (R:Ran es rs rows len) (C:Cms es rows) (c:kO es rs rows len=some t) :
  ∃q who T,Trc (aF es rs) es.length q who/\(len="high"->pT (aF es rs) es.length q who)/\(∀m,m<es.length->∃row,rows[m]?=some row/\q m 0=mkJ es rs m row)/\t.length=T/\T<1000000 /\
   (∀i,i<T->t[i]?=some (match who i with
    |some m=>cH (q m i)
    |none=>.none))/\∀m,m<es.length->(q m T).job=(q m T).row.length:=by
 have b:IvJ (aF es rs) 0 (startJ es rs rows):=CT R C;have hv:=AX R;have f:=C9 R C;have hl:(startJ es rs rows).length=es.length:=by rw[gB,R.ln]
 have c:tG (aF es rs) len 1000000 (stJ (aF es rs) len (startJ es rs rows) 0)=some t:=c;obtain⟨T,_,h2,g,l⟩:=yU 1000000 0 c;have h:=GU (len:=len) b hv f;rw[hl]at h;refine⟨qJ (aF es rs) len (startJ es rs rows),qz (aF es rs) len (startJ es rs rows),T,h,λe {i m p} w hp th=>?_,λm hm=>?_,by rw[g,fg],by omega,λi hi=>?_,λm hm=>?_⟩
 ·subst e;exact Fg b hv f w (by rw[hl];exact hp) th
 ·have a:m<rows.length:=by rw[R.ln];exact hm
  refine⟨rows[m],L0 a,?_⟩;unfold qJ;show (startJ es rs rows).getD m default=_;rw[LJ,jX,L0 a];rfl
 ·rw[g,Ft hi];cases w:qz (aF es rs) len (startJ es rs rows) i with
  |none =>
   unfold qz at w;split at w
   ·rename_i z;rw[if_pos z]
   ·cases w
  |some m =>obtain⟨_,z,e⟩:=ip b hv f w;rw[if_neg z];show _=some (cH (qJ _ _ _ m i));rw[e]
 ·have j:m<(stJ (aF es rs) len (startJ es rs rows) T).1.length:=by rw[t9 b hv,hl];exact hm
  rw[kJ j];have:=LD.mp l _ (LY j);unfold Jb.done at this;have:=eq_of_beq this;omega
end
section
variable {q:Nat->Nat->Jb} {who:Nat->Option Nat}
theorem Trc.was (R:Trc tops n q who) (hm:m<n) (a:(q m 0).spent=0):∀{c:Nat},(q m c).spent≠0->∃u,u<c/\who u=some m/\(q m u).job=(q m c).job/\(q m u).part=(q m c).part
 |0,h=>(h a).elim
 |c+1,h=>by
  by_cases w:who c=some m
  ·have nx:=R.on w;rw[nx]at h ⊢;have:(q m c).next.job=(q m c).job/\(q m c).next.part=(q m c).part:=by
    unfold Jb.next Jb.step1 at h ⊢;split at h
    ·exfalso;apply h;unfold Jb.step2;split <;> rfl
    ·rename_i z;rw[if_neg z];unfold Jb.step2;rw[if_neg (by have:=(R.ok c hm).pt;simp only;omega)];exact⟨rfl,rfl⟩
   exact⟨c,by omega,w,this.1.symm,this.2.symm⟩
  ·have nx:=R.off hm w;rw[nx]at h ⊢;obtain⟨u,h1,h2⟩:=R.was hm a h;exact⟨u,by omega,h2⟩
theorem Trc.cnt (R:Trc tops n q who) (hm:m<n):∀d,(((List.range' B d).filter λt=>decide (who t=some m)).length:Int)=(q m (B+d)).tot-(q m B).tot
 |0=>by simp
 |d+1=>by
  rw[List.range'_1_concat,List.filter_append,LB];have ih:=R.cnt hm d;have h1:=R.tot1 (i:=B+d) hm;rw[show B+(d+1)=B+d+1 by omega];by_cases w:who (B+d)=some m
  ·rw[if_pos w]at h1;rw[List.filter_cons_of_pos (by simpa using w)];simp only[List.filter_nil,M7];omega
  ·rw[if_neg w]at h1;rw[List.filter_cons_of_neg (by simpa using w)];simp only[List.filter_nil,Mm];omega
theorem Trc.once (R:Trc tops n q who) (h:pT tops n q who) (v:∀m,m<n->(q m 0).spent=0) {d:Nat} (hw:∀t,B<=t->t<B+d->∃p,p<n/\(q p t).there (t:Int)=true/\(q p t).rank<=r) {low:Nat->Bool} (a:∀t,low t=true↔∃m,who t=some m/\r<(q m 0).rank) :
  (List.range' B d).filter low=[]\/∃m u T,m<n/\r<(q m 0).rank/\(∀t∈(List.range' B d).filter low,who t=some m/\(q m t).job=(q m B).job/\(q m t).part=(q m B).part)/\(q m B).tool=some T/\u<B/\who u=some m/\(q m u).job=(q m B).job/\(q m u).part=(q m B).part /\
   ∃p∈(q m 0).parts,p.2=some T/\fo tops T<=r/\(((List.range' B d).filter low).length:Int)<=p.1-1:=by
 have one:∀t,t∈(List.range' B d).filter low->∃m T,m<n/\r<(q m 0).rank/\who t=some m/\(q m t).job=(q m B).job/\(q m t).part=(q m B).part/\(q m B).held=some T/\fo tops T<=r:=λt f=>by
  obtain⟨h1,h2⟩:=LO.mp f;have h1:=List.mem_range'_1.mp h1;obtain⟨m,w,c⟩:=(a t).mp h2;have hm:=R.lt w;obtain⟨p,C,tp,D⟩:=hw t h1.1 h1.2;obtain⟨T,E,b⟩:=R.below h w C tp D (by rw[(R.stay hm t).2.2];exact c);obtain⟨e1,i⟩:=fq E;obtain⟨F,x,G,j4⟩:=R.begun h hw hm c h1.1 h1.2 i B (L9 _) h1.1;refine⟨m,T,hm,c,w,F.symm,x.symm,?_,b⟩;unfold Jb.held;rw[if_neg G];have:(q m B).tool=(q m t).tool:=by unfold Jb.tool;rw[x,(R.stay hm B).1,(R.stay hm t).1]
  rw[this];exact e1
 have j:∀m,m<n->(q m 0).held=none:=λm hm=>by unfold Jb.held;rw[if_pos (v m hm)]
 by_cases z:(List.range' B d).filter low=[]
 ·exact .inl z
 ·right;obtain⟨H,o⟩:=List.exists_mem_of_ne_nil _ z;obtain⟨m,T,hm,c,w0,_,_,hB,b⟩:=one H o;have all:∀t∈(List.range' B d).filter low,who t=some m/\(q m t).job=(q m B).job/\(q m t).part=(q m B).part:=λt f=>by
   obtain⟨I,J,g,hr',K,a1,a2,s,htop'⟩:=one t f;by_cases e:m=I
   ·subst e;exact⟨K,a1,a2⟩
   ·rcases R.pair h j B hm g e hB s with y|y
    ·rw[(R.stay hm B).2.2]at y;omega
    ·rw[(R.stay g B).2.2]at y;omega
  obtain⟨L,i⟩:=fq hB;obtain⟨u,u1,M,N,O⟩:=R.was hm (v m hm) i;have P:(List.range' B d).filter low=(List.range' B d).filter λt=>decide (who t=some m):=List.filter_congr λt f=>by
   cases l:low t with
   |true=>rw[(all t (LO.mpr ⟨f,l⟩)).1];simp
   |false =>
    symm;refine decide_eq_false λw=>?_
    rw[(a t).mpr ⟨m,w,c⟩]at l;cases l
  have hc:=R.cnt hm (B:=B) d;rw[<-P]at hc;have hpos:0<((List.range' B d).filter low).length:=Mh.mpr z;rcases R.low_one h hm c d hw with e|⟨p,p1,J,p2,Q,p4,A⟩
  ·omega
  ·rw[hB]at A;cases A;exact⟨m,u,T,hm,c,all,L,u1,M,N,O,p,p1,p2,Q,by omega⟩
theorem Trc.job_at (R:Trc tops n q who) {T:Nat} (f:∀m,m<n->(q m 0).tot=0) (g:∀m,m<n->(q m T).job=(q m T).row.length) {a:Nat} (ha:a<n) {k:Nat} (hk:k<(q a 0).row.length):∃i,i<T/\who i=some a/\(q a i).job=k:=by
 have wp:=R.wpos ha 0;have h1:((k:Int)+1)*(q a 0).work<=(q a T).tot:=by have e:(q a T).tot=((q a T).job:Int)*(q a T).work+(q a T).cur:=rfl;have cb:=mV (R.ok T ha);rw[R.wk ha T,g a ha,(R.stay ha T).2.1]at e;have:=M9 (a:=(k:Int)+1) (b:=((q a 0).row.length:Int)) (c:=(q a 0).work) (by omega) (by omega);omega
 have hkn:0<=(k:Int)*(q a 0).work:=Int.mul_nonneg (by omega) (by omega);have h2:(k:Int)*(q a 0).work+1<=(q a T).tot:=by rw[Int.add_mul]at h1;omega
 obtain⟨i,_,hi,w,e⟩:=R.passed ha (B:=0) (v:=(k:Int)*(q a 0).work+1) T (by rw[f a ha];omega) (by rw[M8];exact h2);rw[M8]at hi;refine⟨i,hi,w,?_⟩;have:=R.job_tot ha i;rw[e,show (k:Int)*(q a 0).work+1-1=(k:Int)*(q a 0).work by omega,Int.mul_ediv_cancel _ (by omega)]at this;omega
theorem Trc.there_till (R:Trc tops n q who) {a:Nat} (ha:a<n) {k:Nat} (e:k<(q a 0).row.length) {j:Nat} (hj:(q a j).job=k) {t:Nat} (h1:(q a 0).row[k]<=(t:Int)) (h2:t<=j):(q a t).there (t:Int)=true:=by refine R.left ha ?_;have f:=w6 (R.ok j ha) (k:=k+1) (by omega);rw[R.wk ha j]at f;have h4:=R.mono ha h2;have h5:k+1<=iu (q a 0).row (t:Int):=tH e (R.srt 0 ha) h1;have:=M9 (a:=((k+1:Nat):Int)) (b:=(iu (q a 0).row (t:Int):Int)) (c:=(q a 0).work) (by omega) (by have:=R.wpos ha 0;omega);omega
end
end RS
set_option maxHeartbeats 4000000
namespace L2
open PySem PySem.Spec PyProof.Rows
section
variable {E:XK} {k:Expr} {gk:Ds->Rs PyData} {apos:Pos}
end
section
variable {E:XK}
def pO (tgt:PyData->Ds->Option Ds) (g:Ds->Rs PyData):Ds->Sr:=λδ=>ofR (g δ) λd=>if ee d=true then (match tgt d δ with
 |some δ'=>.nx δ'
 |none=>.no) else .no
theorem B3 {tgt:PyData->Ds->Option Ds} {g:TG} (h:PD X E e ga) (i:TgS X.K O tgt g) (j:PG X tg g) (l:swapsWithSole [tg] e pos.line X.env=pure false) (hw:swappedStores [tg] e X.env=pure none)
  (h1:(assignEach [tg] X.env).map (·.2)=[assign tg X.env]):PSD X E O (.Assign [tg] e pos) (pO tgt ga):=(BJ h j l hw h1).imp λD σ H a=>by
 obtain⟨H0,A0,A,δ,R,o⟩:=a;unfold pO at o;refine eD.run R.full (λd m v H1 f R1 hv=>?_) (λC b H' s'=>?_) (λb=>?_)
 ·simp only[m,az]at o;split at o
  ·rename_i hd;cases q:tgt d δ with
   |none=>rw[q]at o;exact o.elim
   |some δ'=>rw[q]at o;exact i d v H0 A0 H1 A δ δ' σ _ (R.step f) ((hv.same aw).dl (R.step f).lsA hd) q λc n=>o A c H1 n
  ·exact o.elim
 ·rw[b]at o;exact o H' (R.same.trans s')
 ·rw[b]at o;exact o
end
section
variable {E:XK} {a b:Expr}
open PySem.SeqAt in
theorem GN (a:X.A.units+65<cLine):OpR X (compareOp .In) (λx y H Q=>∃d es,IsD X.K H d x/\IsD X.K H (.list es) y/\shaped d=true/\shaped (.list es)=true/\(∀z∈es,noMix z d=true)/\Q (.bl (decide (countIn d es≠0))) H):=by intro pins s σ H x y v u Q I b c h;obtain⟨d,es,hd,e,f,g,i,q⟩:=h;obtain⟨as,j⟩:=I.reads hd b;obtain⟨bs,l⟩:=I.reads e c;exact in_list_dataH l j g f a i ⟨.bl _,H,I,rfl,q⟩
open PySem.SeqAt in
def Av:PyData->PyData->Option PyData
 |x,.list es=>if aC x&&aC (.list es)&&shaped x&&shaped (.list es)&&es.all (λz=>noMix z x) then some (.bool (decide (countIn x es≠0))) else none
 |_,_=>none
open PySem.SeqAt in
theorem Fh:OpD K Av (λx y H Q=>∃d es,IsD K H d x/\IsD K H (.list es) y/\shaped d=true/\shaped (.list es)=true/\(∀z∈es,noMix z d=true)/\Q (.bl (decide (countIn d es≠0))) H):=λd1 d2 d x y H A Q e hA h1 h2 k=>by
 unfold Av at e;split at e
 ·split at e
  ·rename_i es z;simp only[L8]at z;cases e;exact⟨d1,es,(h1.same aw).isd z.1.1.1.1,(h2.same aw).isd z.1.1.1.2,z.1.1.2,z.1.2,LD.mp z.2,k _ H (av.refl H) is_bool⟩
  ·cases e
 ·cases e
theorem Jh (c:X.A.units+65<cLine) (ha:PD X E a ga) (e:PD X E b gb) (hm:behindInMarks .In b=false):PD X E (.Compare a [.In] [b] pos) (g2 Av ga gb):=fU Fh ha e λh1 h2=>kU (GN c) h1 h2 hm
theorem bY.u65 {k:Nat} {A:Around} (r:bY k A):A.units+65<cLine:=by have:=r.un;omega
end
end L2
namespace RS
open PySem L2
def jM (cs:Cs):Ds->Sr :=
 (aE (eQ [] (eK (ae (g2 dIx (af 0) (gC (.int 3))) ah)) (dg [2,3]) (aE (sIf (gT (g2 dLt (af 1) (g2 dIx (af 3) (gC (.int 0))))) (bo (eP (ae (af 2) (ae (g2 dIx (af 3) (gC (.int 1))) (ae (af 1) ah))))) aY)
  (aT [] 1 (g2 gx (af 1) (g2 dIx (af 3) (gC (.int 0)))))))
  (bo (eP (ae (gF bM (ae (g2 dIx (af 0) (gC (.int 3))) ah)) (ae (gC .none) (ae (gC (.int 0)) ah))))))
def cW (cs:Cs) (cZ:Gf):Ds->Sr :=
 (aE (fc [2,3] 2 (a9 8 (bT (af 0)) bS (gC (.int 0)) aO))
  (aE (fc [2,3] 3 ah)
  (aE (eQ [2,3] (bT (af 1)) (bE 4) (sIf (gT (g1 jk (af 4))) (gK [2,3] 3 (gC .none)) (aE (pO (dg [5,6,7]) (aq cZ (ae (g2 dIx (af 0) (g2 dIx (af 4) (gC (.int 0)))) (ae (g2 dIx (af 2) (g2 dIx (af 4) (gC (.int 0)))) ah))))
  (aE (gK [2,3] 3 (eP (ae (g2 dIx (af 4) (gC (.int 0))) (ae (g2 dIx (af 4) (gC (.int 1))) (ae (af 5) (ae (af 6) ah))))))
  (aE (oF 2 (g2 dIx (af 4) (gC (.int 0))) (g2 aX (g2 dIx (af 2) (g2 dIx (af 4) (gC (.int 0)))) (gC (.int 1))))
  (sIf (gT (g2 dEq (g2 dIx (aq cZ (ae (g2 dIx (af 0) (g2 dIx (af 4) (gC (.int 0)))) (ae (g2 dIx (af 2) (g2 dIx (af 4) (gC (.int 0)))) ah))) (gC (.int 0))) (gF bM (ae (g2 dIx (g2 dIx (af 0) (g2 dIx (af 4) (gC (.int 0)))) (gC (.int 3))) ah)))) (oF 2 (g2 dIx (af 4) (gC (.int 0))) (gC (.int 0))) aY))))))
  (bo (af 3)))))
def eB (cs:Cs):Ds->Sr :=
 (aE (aT [] 5 (gL (a9 6 (bT (eZ (af 0) (fL (af 2)) (fL (af 3)))) (uj (gT (g1 jr (af 6))) (gT (g2 (oN false) (g2 dIx (af 6) (gC (.int 0))) (af 1)))) (af 6) aO)))
  (aE (sIf (gT (g2 dEq (af 5) (kh ah))) (bo (gC (.bool true))) aY)
  (aE (sIf (cOr (gT (g2 dGt (gF bM (ae (af 5) ah)) (af 4))) (cOr (gT (g2 dNe (gL (a9 6 (bT (af 5)) (gT (g2 dNe (af 6) (g2 dIx (af 5) (gC (.int 0))))) (af 6) aO)) (kh ah))) (gT (g1 jk (g2 dIx (g2 dIx (af 5) (gC (.int 0))) (gC (.int 3))))))) (bo (gC (.bool false))) aY)
  (bo (g2 Av (g2 dIx (af 5) (gC (.int 0))) (eZ (af 0) fH (fL (af 2))))))))
def ye (cs:Cs) (bH fA bF ij cf bX bx:Gf):Ds->Sr :=
 (aE (aT [] 1 (aq bx (ae (af 0) (ae (gC (.int 12)) (ae (gC (.int 4)) (ae (gC (.int 28)) (ae (gC (.bool true)) ah)))))))
  (aE (aT [] 2 (aq bX (ae (af 0) (ae (gC (.int 0)) (ae (gF bM (ae (af 1) ah)) ah)))))
  (aE (aT [] 3 (aq cf (ae (af 0) (ae (gC (.int 5)) (ae (af 1) (ae (gC (.int 50)) ah))))))
  (aE (aT [] 4 (aq ij (ae (af 1) (ae (af 2) (ae (af 3) (ae (gC (.str "high")) ah))))))
  (aE (aT [] 5 (aq bF (ae (af 1) (ae (af 4) ah))))
  (aE (eQ [] (eK (ae (af 2) ah)) (dg [6,7]) (aE (aT [] 8 (aq fA (ae (af 1) (ae (af 2) (ae (af 7) ah)))))
  (eQ [] (eK (ae (g2 dIx (af 3) (af 7)) ah)) (dg [9,10]) (aE (aT [] 11 (g2 aX (g2 dIx (gL (a9 12 (fM (ae (gF bM (ae (af 4) ah)) ah)) (gT (g2 dEq (g2 dIx (af 4) (af 12)) (eP (ae (af 7) (ae (af 9) ah))))) (af 12) aO)) (g1 lp (gC (.int 1)))) (gC (.int 1))))
  (sIf (fI (gT (aq bH (ae (af 5) (ae (eZ (af 2) (fL (g2 aX (af 6) (gC (.int 1)))) fH) (ae (af 10) (ae (af 11) (ae (af 8) ah)))))))) (bo (gC (.bool false))) aY)))))
  (bo (gC (.bool true)))))))))
end RS
set_option maxHeartbeats 1000000
namespace RS
open PySem L2
variable {l:List PyData} {x:PyData}
def cZ (cs:Cs):Gf:=gfG 2 2 (jM cs)
theorem Dp (cs:Cs):LLq (jM cs) 2 2 (cZ cs):=iK
def Ag (x:Nat×Option Int×Int):PyData:=.tuple [.int (x.1:Int),bz x.2.1,.int x.2.2]
def atB:Ds->Sr:=(aE (sIf (gT (g2 dLt (af 1) (g2 dIx (af 3) (gC (.int 0))))) (bo (eP (ae (af 2) (ae (g2 dIx (af 3) (gC (.int 1))) (ae (af 1) ah))))) aY)
 (aT [] 1 (g2 gx (af 1) (g2 dIx (af 3) (gC (.int 0))))))
theorem CA (p:Int×Option Int):dIx (aN p) (.int 0)=some (.int p.1):=rfl
theorem yA {E:PyData}:∀(ps:List (Int×Option Int)) (k:Nat) (s:Int) (x2 x3:Option PyData),
  forL (dg [2,3]) atB (oX k (ps.map aN)) [some E,some (.int s),x2,x3]=.rt (Ag (lawAt ps k s)) \/
  (lawAt ps k s=(k+ps.length,none,0)/\∃a b c,forL (dg [2,3]) atB (oX k (ps.map aN)) [some E,some (.int s),x2,x3]=.nx [some E,a,b,c])
 |[],k,s,x2,x3=>.inr ⟨rfl,_,_,_,rfl⟩
 |p::r,k,s,x2,x3=>by
  rw[L4,xj];unfold forL;rw[show dg [2,3] (PyData.tuple [.int (k:Int),aN p]) [some E,some (.int s),x2,x3]=some [some E,some (.int s),some (.int (k:Int)),some (aN p)] from rfl];unfold lawAt;by_cases z:s<p.1
  ·left;rw[if_pos z];have e:atB [some E,some (.int s),some (.int (k:Int)),some (aN p)]=.rt (.tuple [.int (k:Int),bz p.2,.int s]):=by unfold atB;simp only[aQ,cG,dH,bK,ao,au,cy,Rs.ag,CA,part1,BH,decide_eq_true z,Rs.ai,br,az,if_true,bU,jO,aA,aH]
   simp only[e];rfl
  ·rw[if_neg z];have e:atB [some E,some (.int s),some (.int (k:Int)),some (aN p)]=.nx [some E,some (.int (s-p.1)),some (.int (k:Int)),some (aN p)]:=by unfold atB;simp only[aQ,cG,dH,bK,ao,au,cy,Rs.ag,CA,BH,decide_eq_false z,Rs.ai,br,az,LR,if_false,fD,iT,qt];rfl
   simp only[e];rcases yA r (k+1) (s-p.1) (some (.int (k:Int))) (some (aN p)) with h|⟨h1,a,b,c,h2⟩
   ·exact .inl h
   ·refine .inr ⟨?_,a,b,c,h2⟩;rw[h1,LI,show k+1+r.length=k+(r.length+1) by omega]
theorem law_at_of {e:Er} {s:Int}:cZ cs [e.d,.int s]=.ok (Ag (lawAt e.parts 0 s)):=by
 show bh (jM cs [some e.d,some (.int s),none,none])=_;have a:jM cs=aE (eQ [] (eK (ae (g2 dIx (af 0) (gC (.int 3))) ah)) (dg [2,3]) atB) (bo (eP (ae (gF bM (ae (g2 dIx (af 0) (gC (.int 3))) ah)) (ae (gC .none) (ae (gC (.int 0)) ah))))):=rfl;have src:eK (ae (g2 dIx (af 0) (gC (.int 3))) ah) (mask [] [some e.d,some (.int s),none,none])=.ok (oX 0 (e.parts.map aN)):=by rw[iz];simp only[nP,aA,aH,bK,ao,cy,Rs.ag,zW,Rs.ai,sZ];unfold fe oX;refine congrArg (λf=>Rs.ok ((e.parts.map aN).mapIdx f)) ?_;funext i d;rw[M8]
 rw[a,aQ,kE,src,az];rcases yA (E:=e.d) e.parts 0 s none none with h|⟨h1,y1,y2,y3,h2⟩
 ·rw[h];rfl
 ·rw[h2,h1];simp only[bU,jO,aA,aH,fV,bK,ao,cy,Rs.ag,zW,tU,L5,Rs.ai,az,bc];unfold Ag;rw[M8];rfl
theorem AJ (x:Nat×Option Int×Int):ee (Ag x)=true:=by obtain⟨a,b,c⟩:=x;unfold Ag bz;cases b <;> simp[ee,jN]
def p8 (E D:PyData) (sp:List Int) (rw:List PyData) (x4 x5 x6 x7:Option PyData):Ds:=[some E,some D,some (.list (sp.map PyData.int)),some (.list rw),x4,x5,x6,x7]
abbrev j8:Ds->Rs PyData:=g2 dIx (af 4) (gC (.int 0))
abbrev a8 (cs:Cs):Ds->Rs PyData:=aq (cZ cs) (ae (g2 dIx (af 0) j8) (ae (g2 dIx (af 2) j8) ah))
def b8 (cs:Cs):Ds->Sr:=sIf (gT (g1 jk (af 4))) (gK [2,3] 3 (gC .none)) (aE (pO (dg [5,6,7]) (a8 cs))
 (aE (gK [2,3] 3 (eP (ae j8 (ae (g2 dIx (af 4) (gC (.int 1))) (ae (af 5) (ae (af 6) ah))))))
 (aE (oF 2 j8 (g2 aX (g2 dIx (af 2) j8) (gC (.int 1))))
 (sIf (gT (g2 dEq (g2 dIx (a8 cs) (gC (.int 0))) (gF bM (ae (g2 dIx (g2 dIx (af 0) j8) (gC (.int 3))) ah)))) (oF 2 j8 (gC (.int 0))) aY))))
section
variable {E D:PyData} {sp:List Int} {rw:List PyData} {x5 x6 x7:Option PyData} {k:Int}
theorem Du {v:Int} {g:Ds->Rs PyData} (hi:i<sp.length) (b:g (p8 E D sp rw (some (.tuple [.int (i:Int),.int k])) x5 x6 x7)=.ok (.int v)):oF 2 j8 g (p8 E D sp rw (some (.tuple [.int (i:Int),.int k])) x5 x6 x7)=.nx (p8 E D (sp.set i v) rw (some (.tuple [.int (i:Int),.int k])) x5 x6 x7):=by
 have a:ixN (sp.map PyData.int).length (i:Int)=some i:=by unfold ixN;rw[if_pos (MR i),if_pos (by rw[L5];omega),LV]
 show ofR (g (p8 E D sp rw (some (.tuple [.int (i:Int),.int k])) x5 x6 x7)) (λd=>match ixN (sp.map PyData.int).length (i:Int) with
   |some j=>if ee d then Sr.nx _ else Sr.no
   |none=>Sr.no)=_
 rw[b,a,az];show Sr.nx _=_;unfold p8;rw[List.map_set];rfl
end
theorem E6 {D:PyData} {b:Jb} {sp:List Int} {rw:List PyData} (hi:i<es.length) (n:sp[i]?=some b.cur) (B:JOk tops b) (C:b.parts=(b9 es (i:Int)).parts) (hn:b.num=(i:Int)) (hl:rw.length<1000000) (x5 x6 x7:Option PyData) :
  ∃e f j,b8 cs (p8 (ax es) D sp rw (some (cH b)) x5 x6 x7)=.nx (p8 (ax es) D (sp.set i b.next.cur) (rw++[.tuple [.int (i:Int),.int (b.job:Int),.int (b.part:Int),bz b.tool]]) (some (cH b)) e f j):=by
 have w:cH b=.tuple [.int (i:Int),.int (b.job:Int)]:=by unfold cH;rw[hn]
 rw[w];have l:i<sp.length:=(LM.mp n).1;have a1:dIx (ax es) (.int (i:Int))=some (b9 es (i:Int)).d:=kT (by omega) (by omega);have p:∀(c:List Int) (s:Int) (a:List PyData) (e f j:Option PyData),c[i]?=some s->g2 dIx (af 2) j8 (p8 (ax es) D c a (some (.tuple [.int (i:Int),.int (b.job:Int)])) e f j)=.ok (.int s):=λc s a e f j h =>
  fi (x:=.list (c.map PyData.int)) (y:=.int (i:Int)) rfl rfl (jz (by rw[LG,h];rfl))
 have q:∀(c:List Int) (a:List PyData) (e f j:Option PyData),g2 dIx (af 0) j8 (p8 (ax es) D c a (some (.tuple [.int (i:Int),.int (b.job:Int)])) e f j)=.ok (b9 es (i:Int)).d:=λc a e f j =>
  fi (x:=ax es) (y:=.int (i:Int)) rfl rfl a1
 have r:∀(c:List Int) (s:Int) (a:List PyData) (e f j:Option PyData),c[i]?=some s->a8 cs (p8 (ax es) D c a (some (.tuple [.int (i:Int),.int (b.job:Int)])) e f j)=.ok (Ag (lawAt b.parts 0 s)):=λc s a e f j h=>by refine gW (ds:=[(b9 es (i:Int)).d,.int s]) ?_ (by rw[C];exact law_at_of);rw[aA,q,Rs.ag,aA,p c s a e f j h,Rs.ag,aH];rfl
 have F:pO (dg [5,6,7]) (a8 cs) (p8 (ax es) D sp rw (some (.tuple [.int (i:Int),.int (b.job:Int)])) x5 x6 x7)=.nx (p8 (ax es) D sp rw (some (.tuple [.int (i:Int),.int (b.job:Int)])) (some (.int (b.part:Int))) (some (bz b.tool)) (some (.int (b.spent:Int)))):=by unfold pO;rw[r sp b.cur rw x5 x6 x7 n,az,if_pos (AJ _),GL B];rfl
 have s2:gK [2,3] 3 (eP (ae j8 (ae (g2 dIx (af 4) (gC (.int 1))) (ae (af 5) (ae (af 6) ah))))) (p8 (ax es) D sp rw (some (.tuple [.int (i:Int),.int (b.job:Int)])) (some (.int (b.part:Int))) (some (bz b.tool)) (some (.int (b.spent:Int)))) =
   .nx (p8 (ax es) D sp (rw++[.tuple [.int (i:Int),.int (b.job:Int),.int (b.part:Int),bz b.tool]]) (some (.tuple [.int (i:Int),.int (b.job:Int)])) (some (.int (b.part:Int))) (some (bz b.tool)) (some (.int (b.spent:Int)))):=by
  show (if rw.length<1000000 then Sr.nx _ else Sr.no)=_;rw[if_pos hl];rfl
 generalize rw++[PyData.tuple [.int (i:Int),.int (b.job:Int),.int (b.part:Int),bz b.tool]]=a at s2 ⊢;have G:=Du (E:=ax es) (D:=D) (sp:=sp) (rw:=a) (k:=(b.job:Int)) (x5:=some (.int (b.part:Int))) (x6:=some (bz b.tool)) (x7:=some (.int (b.spent:Int))) (v:=b.cur+1) (g:=g2 aX (g2 dIx (af 2) j8) (gC (.int 1))) l (fi (p sp b.cur _ _ _ _ n) (y:=.int 1) rfl rfl);have t:(sp.set i (b.cur+1))[i]?=some (b.cur+1):=M0 l;obtain⟨m,to,o,hm,u⟩:∃m to o,lawAt b.parts 0 (b.cur+1)=(m,to,o)/\((m≠b.parts.length/\b.next.cur=b.cur+1)\/(m=b.parts.length/\b.next.cur=0)):=by
  rcases DU B with⟨to,o,h1,h2,z,h4⟩|⟨to,o,h1,h2,z⟩
  ·exact⟨_,to,o,h1,.inl ⟨h2,z⟩⟩
  ·exact⟨_,to,o,h1,z⟩
 have H:gT (g2 dEq (g2 dIx (a8 cs) (gC (.int 0))) (gF bM (ae (g2 dIx (g2 dIx (af 0) j8) (gC (.int 3))) ah))) (p8 (ax es) D (sp.set i (b.cur+1)) a (some (.tuple [.int (i:Int),.int (b.job:Int)])) (some (.int (b.part:Int))) (some (bz b.tool)) (some (.int (b.spent:Int))))=.ok ((m:Int)==(b.parts.length:Int)):=by have g1:g2 dIx (a8 cs) (gC (.int 0)) (p8 (ax es) D (sp.set i (b.cur+1)) a (some (.tuple [.int (i:Int),.int (b.job:Int)])) (some (.int (b.part:Int))) (some (bz b.tool)) (some (.int (b.spent:Int))))=.ok (.int (m:Int)):=fi (r _ _ _ _ _ _ t) (y:=.int 0) rfl (by rw[hm];rfl);have A:g2 dIx (g2 dIx (af 0) j8) (gC (.int 3)) (p8 (ax es) D (sp.set i (b.cur+1)) a (some (.tuple [.int (i:Int),.int (b.job:Int)])) (some (.int (b.part:Int))) (some (bz b.tool)) (some (.int (b.spent:Int))))=.ok (.tuple ((b9 es (i:Int)).parts.map aN)):=fi (q _ _ _ _ _) (y:=.int 3) rfl (zW _);rw[dH,bK,g1,Rs.ag,fV,aA,A,Rs.ag,aH,Rs.ag];simp only[tU,L5,<-C,Rs.ai,Rs.ag,jE,br]
 refine⟨some (.int (b.part:Int)),some (bz b.tool),some (.int (b.spent:Int)),?_⟩;unfold b8;rw[cG,show gT (g1 jk (af 4)) (p8 (ax es) D sp rw (some (.tuple [.int (i:Int),.int (b.job:Int)])) x5 x6 x7)=.ok false from rfl,az,if_neg LK,dR F,dR s2,dR G,cG,H,az];rcases u with⟨h1,h2⟩|⟨h1,h2⟩
 ·rw[if_neg (by rw[beq_iff_eq];omega),h2];rfl
 ·rw[if_pos (by rw[beq_iff_eq,h1]),h2,Du (v:=0) (g:=gC (.int 0)) (by rw[List.length_set];exact l) rfl,List.set_set]
def rw8 (q:Nat->Nat->Jb) (who:Nat->Option Nat) (i:Nat):PyData:=match who i with
 |some m=>.tuple [.int (m:Int),.int ((q m i).job:Int),.int ((q m i).part:Int),bz (q m i).tool]
 |none=>.none
def sp8 (q:Nat->Nat->Jb) (n i:Nat):List Int:=(List.range n).map λm=>(q m i).cur
theorem ug {cs:Cs} {es:List Er} {tops D:PyData} {q:Nat->Nat->Jb} {who:Nat->Option Nat} (R:Trc tops es.length q who) (c:∀m,m<es.length->(q m 0).parts=(b9 es (m:Int)).parts) {t:List PyData} {T:Nat} (h:T<1000000) (f:∀i,i<T->t[i]?=some (match who i with
    |some m=>cH (q m i)
    |none=>.none)) (hl:t.length=T) :
  ∀(d i:Nat) (x4 x5 x6 x7:Option PyData),i+d=T->∃r j l n,forL (bE 4) (b8 cs) (t.drop i) (p8 (ax es) D (sp8 q es.length i) ((List.range i).map (rw8 q who)) x4 x5 x6 x7)=.nx (p8 (ax es) D (sp8 q es.length T) ((List.range T).map (rw8 q who)) r j l n)
 |0,i,x4,x5,x6,x7,e=>by
  have:i=T:=by omega
  subst this;exact⟨x4,x5,x6,x7,by rw[MB (by omega)];rfl⟩
 |d+1,i,x4,x5,x6,x7,e=>by
  have hi:i<t.length:=by omega
  have h1:=f i (by omega);rw[L0 hi]at h1;rw[MG hi,Option.some.inj h1];have o:(List.range i).map (rw8 q who)++[rw8 q who i]=(List.range (i+1)).map (rw8 q who):=by rw[List.range_succ,M5];rfl
  cases w:who i with
  |none =>
   have a:sp8 q es.length (i+1)=sp8 q es.length i:=LN λm hm=>by rw[R.off (Mx.mp hm) (by rw[w];exact λz=>by cases z)]
   have g:rw8 q who i=.none:=by unfold rw8;rw[w]
   rw[lY (δ1:=p8 (ax es) D (sp8 q es.length i) ((List.range i).map (rw8 q who)) (some .none) x5 x6 x7) (δ2:=p8 (ax es) D (sp8 q es.length (i+1)) ((List.range (i+1)).map (rw8 q who)) (some .none) x5 x6 x7) rfl (by rw[a,<-o,g];show (if ((List.range i).map (rw8 q who)).length<1000000 then Sr.nx _ else Sr.no)=_;rw[if_pos (by rw[L5,MS];omega)];rfl)]
   exact ug R c h f hl d (i+1) _ _ _ _ (by omega)
  |some m =>
   have hm:=R.lt w;have g:rw8 q who i=.tuple [.int (m:Int),.int ((q m i).job:Int),.int ((q m i).part:Int),bz (q m i).tool]:=by unfold rw8;rw[w]
   have a:sp8 q es.length (i+1)=(sp8 q es.length i).set m (q m i).next.cur:=MW (by simp[sp8]) λk k1 k2=>by
    have s:k<es.length:=by simpa[sp8] using k1
    rw[List.getElem_set];by_cases z:m=k
    ·subst z;rw[if_pos rfl];simp[sp8,R.on w]
    ·rw[if_neg z];simp only[sp8,List.getElem_map,List.getElem_range];rw[R.off s (by rw[w];exact λy=>z (Option.some.inj y))]
   obtain⟨j,l,n,p⟩:=E6 (cs:=cs) (es:=es) (D:=D) (b:=q m i) (sp:=sp8 q es.length i) (rw:=(List.range i).map (rw8 q who)) (i:=m) hm (by simp[sp8,hm]) (R.ok i hm) (by rw[(R.stay hm i).1];exact c m hm) (R.num i hm) (by rw[L5,MS];omega) x5 x6 x7;rw[<-a,<-g,o]at p;rw[lY (δ1:=p8 (ax es) D (sp8 q es.length i) ((List.range i).map (rw8 q who)) (some (cH (q m i))) x5 x6 x7) rfl p];exact ug R c h f hl d (i+1) _ _ _ _ (by omega)
def bF (cs:Cs):Gf:=gfG 2 6 (cW cs (cZ cs))
theorem mz (cs:Cs):LLq (cW cs (cZ cs)) 2 6 (bF cs):=iK
theorem qI {q:Nat->Nat->Jb} {who:Nat->Option Nat} (l6:es.length<=6) (R:Trc tops es.length q who) (hc:∀m,m<es.length->(q m 0).cur=0) (b:∀m,m<es.length->(q m 0).parts=(b9 es (m:Int)).parts) {T:Nat} (c:T<1000000) (e:∀i,i<T->t[i]?=some (match who i with
    |some m=>cH (q m i)
    |none=>.none)) (hl:t.length=T):bF cs [ax es,.list t]=.ok (.list ((List.range T).map (rw8 q who))):=by
 show bh (cW cs (cZ cs) [some (ax es),some (.list t),none,none,none,none,none,none])=_;obtain⟨f,g,h,j,a⟩:=ug (cs:=cs) (D:=.list t) R b c e hl T 0 none none none none (by omega);rw[List.drop_zero]at a;have l:fc [2,3] 2 (a9 8 (bT (af 0)) bS (gC (.int 0)) aO) [some (ax es),some (.list t),none,none,none,none,none,none]=.nx [some (ax es),some (.list t),some (.list ((sp8 q es.length 0).map PyData.int)),none,none,none,none,none]:=by
  have n:a9 8 (bT (af 0)) bS (gC (.int 0)) aO (mask [2,3] [some (ax es),some (.list t),none,none,none,none,none,none])=.ok ((es.map Er.d).map λ_=>.int 0):=cT rfl rfl (by rw[L5];omega) λd _=>rfl
  refine (BI (by decide:2<8) n).trans ?_;have:((es.map Er.d).map λ_=>PyData.int 0)=(sp8 q es.length 0).map PyData.int:=MW (by simp[sp8]) λk k1 k2=>by
   have o:k<es.length:=by simpa using k1
   simp[sp8,hc k o]
  rw[this];rfl
 have s2:fc [2,3] 3 ah [some (ax es),some (.list t),some (.list ((sp8 q es.length 0).map PyData.int)),none,none,none,none,none]=.nx (p8 (ax es) (.list t) (sp8 q es.length 0) ((List.range 0).map (rw8 q who)) none none none none):=BI (by decide:3<8) rfl;have p:eQ [2,3] (bT (af 1)) (bE 4) (b8 cs) (p8 (ax es) (.list t) (sp8 q es.length 0) ((List.range 0).map (rw8 q who)) none none none none)=.nx (p8 (ax es) (.list t) (sp8 q es.length T) ((List.range T).map (rw8 q who)) f g h j):=(wG (ds:=t) rfl).trans a;have r:cW cs (cZ cs)=aE (fc [2,3] 2 (a9 8 (bT (af 0)) bS (gC (.int 0)) aO)) (aE (fc [2,3] 3 ah) (aE (eQ [2,3] (bT (af 1)) (bE 4) (b8 cs)) (bo (af 3)))):=rfl;rw[r,dR l,dR s2,dR p];rfl
theorem FY {xs:List PyData} {c l:Nat}:cutD xs (some (c:Int)) (some (l:Int))=(xs.drop c).take (l-c):=by
 unfold cutD;have e1:HT.sIx xs.length 0 (some (c:Int))=min c xs.length:=HT.nO _ _ _;have e2:HT.sIx xs.length xs.length (some (l:Int))=min l xs.length:=HT.nO _ _ _;rw[e1,e2];by_cases h:c<=xs.length
 ·rw[Nat.min_eq_left h,List.take_eq_take_iff,Mz];omega
 ·rw[show min c xs.length=xs.length by omega,MB (L9 _),MB (by omega)];simp
def r8 (a b c:Int) (o:Option Int):PyData:=.tuple [.int a,.int b,.int c,bz o]
def Is8 (d:PyData):Prop:=d=.none\/∃a b c o,d=r8 a b c o
theorem mU {d:PyData} (h:Is8 d):aC d=true/\d.depth<=2/\d.canLay0=true/\PyData.eqv d d=true/\Spec.same d d=true:=by
 rcases h with rfl|⟨a,b,c,o,rfl⟩
 ·exact⟨rfl,by simp[PyData.depth],by simp[PyData.canLay0],by simp[PyData.eqv],by simp[Spec.same]⟩
 ·unfold r8;cases o with
  |none=>exact⟨rfl,by simp[PyData.depth,PyData.depthAll,bz],by simp[PyData.canLay0,PyData.canLayAll0,bz],by simp[PyData.eqv,PyData.eqvAll,bz],by simp[Spec.same,Spec.sameAll,bz]⟩
  |some t=>exact⟨rfl,by simp[PyData.depth,PyData.depthAll,bz],by simp[PyData.canLay0,PyData.canLayAll0,bz],by simp[PyData.eqv,PyData.eqvAll,bz],by simp[Spec.same,Spec.sameAll,bz]⟩
theorem Lk {d e:PyData} (h:Is8 d) (h':Is8 e):SeqAt.noMix d e=true:=by
 rcases h with rfl|⟨a,b,c,o,rfl⟩ <;> rcases h' with rfl|⟨a',b',c',o',rfl⟩
 ·simp[SeqAt.noMix]
 ·simp[SeqAt.noMix,r8]
 ·simp[SeqAt.noMix,r8]
 ·unfold r8;cases o <;> cases o' <;> simp[SeqAt.noMix,SeqAt.noMixAll,bz]
theorem B1:∀{l:List PyData},(∀d∈l,d.depth<=2)->PyData.depthAll l<=2
 |[],_=>by simp[PyData.depthAll]
 |a::r,h=>by
  have h1:=h a L6;have h2:=B1 λd hd=>h d (L3 _ hd)
  simp only[PyData.depthAll];omega
theorem JC:∀{l:List PyData},(∀d∈l,d.canLay0=true)->PyData.canLayAll0 l=true
 |[],_=>by simp[PyData.canLayAll0]
 |a::r,h=>by simp[PyData.canLayAll0,h a L6,JC λd hd=>h d (L3 _ hd)]
theorem Fl (h:∀d∈t,Is8 d):aC (.list t)=true/\SeqAt.shaped (.list t)=true:=by
 have h1:=B1 λd hd=>(mU (h d hd)).2.1
 have h2:(PyData.list t).depth<=64:=by simp only[PyData.depth];omega
 have a:=JC λd hd=>(mU (h d hd)).2.2.1
 exact⟨eJ λd hd=>(mU (h d hd)).1,by simp[SeqAt.shaped,PyData.canLay0,a,h2]⟩
theorem Gu {d:PyData} (h:Is8 d):SeqAt.shaped d=true:=by obtain⟨_,h1,h2,_⟩:=mU h;unfold SeqAt.shaped;rw[h2,decide_eq_true (by omega)];rfl
theorem KQ (a:Spec.same x x=true):∀{l:List PyData},x∈l->Spec.countIn x l≠0:=by
 have pos:∀l:List PyData,0<=Spec.countIn x l:=λl=>by
  induction l with
  |nil=>simp[Spec.countIn]
  |cons y r ih=>simp only[Spec.countIn];split <;> omega
 intro l h
 induction l with
 |nil=>cases h
 |cons y r ih =>
  simp only[Spec.countIn];have:=pos r;rcases L7.mp h with rfl|h
  ·rw[if_pos a];omega
  ·have:=ih h;split <;> omega
theorem in8 (a:Is8 x) (hl:∀d∈l,Is8 d) (h:x∈l):Av x (.list l)=some (.bool true):=by obtain⟨n2,s2⟩:=Fl hl;show (if (aC x&&aC (.list l)&&SeqAt.shaped x&&SeqAt.shaped (.list l)&&l.all λz=>SeqAt.noMix z x)=true then some (PyData.bool (decide (Spec.countIn x l≠0))) else none)=_;rw[(mU a).1,n2,Gu a,s2,LD.mpr (λz b=>Lk (hl z b) a),decide_eq_true (KQ (mU a).2.2.2.2 h)];rfl
theorem ne8 (a:Is8 x):dNe x x=some (.bool false):=by unfold dNe;rw[(mU a).1,Gu a,(mU a).2.2.2.1];rfl
theorem K9 (hl:∀d∈l,Is8 d):dEq (.list l) (.list [])=some (.bool l.isEmpty):=by obtain⟨n1,a⟩:=Fl hl;obtain⟨n2,s2⟩:=Fl (t:=[]) (λ_ h=>by cases h);unfold dEq;rw[n1,a,n2,s2];cases l <;> simp[PyData.eqv,PyData.eqvAll]
theorem Lj:dNe (.list []) (.list [])=some (.bool false):=by obtain⟨n2,s2⟩:=Fl (t:=[]) (λ_ h=>by cases h);unfold dNe;rw[s2,n2];simp[PyData.eqv,PyData.eqvAll]
theorem inT (x:Int) (ss:List Int):oN false (.int x) (ar ss)=some (.bool (decide (x∈ss))):=by
 show (if (fO (.int x)&&_)=true then some (PyData.bool (if false=true then _ else inD _ _)) else none)=_;rw[sg];have:∀l:List Int,inV (toV (.int x)) ((l.map PyData.int).map toV)=decide (x∈l):=λl=>by
  induction l with
  |nil=>rfl
  |cons y r ih =>
   rw[L4,L4];show (eqV (.int y) (.int x)||inV _ _)=_;rw[ih,show eqV (.int y) (.int x)=(y==x) from rfl];by_cases z:y=x
   ·subst z;simp
   ·simp[z,Ne.symm z]
 unfold inD;rw[this];rfl
def EV (a:List Int):PyData->Bool
 |.tuple (.int m::_)=>decide (m∈a)
 |_=>false
def bH (cs:Cs):Gf:=gfG 5 1 (eB cs)
theorem qT (cs:Cs):LLq (eB cs) 5 1 (bH cs):=iK
theorem F0 {L:List PyData} (t:∀d∈L,Is8 d) (few:L.length<=1000000) {e:List Int} {c l:Nat} {H:Int} {F:List PyData} (m:((L.drop c).take (l-c)).filter (EV e)=F) (h:F=[]\/∃a b k T,(∀d∈F,d=r8 a b k (some T))/\(F.length:Int)<=H/\r8 a b k (some T)∈L.take c) :
  bH cs [.list L,ar e,.int (c:Int),.int (l:Int),.int H]=.ok (.bool true):=by
 show bh (eB cs [some (.list L),some (ar e),some (.int (c:Int)),some (.int (l:Int)),some (.int H),none])=_;have i:∀d∈(L.drop c).take (l-c),Is8 d:=λd hd=>t d (MV (MI hd))
 have n:∀d∈F,Is8 d:=λd hd=>by rw[<-m]at hd;exact i d (LO.mp hd).1
 have q:F.length<=1000000:=by rw[<-m];refine Mb (Nj _ _) ?_;rw[MK,Mz];omega
 have A:aT [] 5 (gL (a9 6 (bT (eZ (af 0) (fL (af 2)) (fL (af 3)))) (uj (gT (g1 jr (af 6))) (gT (g2 (oN false) (g2 dIx (af 6) (gC (.int 0))) (af 1)))) (af 6) aO)) [some (.list L),some (ar e),some (.int (c:Int)),some (.int (l:Int)),some (.int H),none]=.nx [some (.list L),some (ar e),some (.int (c:Int)),some (.int (l:Int)),some (.int H),some (.list F)]:=by
  refine dJ (by decide:5<6) ?_;rw[iz,nH];have B:a9 6 (bT (eZ (af 0) (fL (af 2)) (fL (af 3)))) (uj (gT (g1 jr (af 6))) (gT (g2 (oN false) (g2 dIx (af 6) (gC (.int 0))) (af 1)))) (af 6) aO [some (.list L),some (ar e),some (.int (c:Int)),some (.int (l:Int)),some (.int H),none]=.ok F:=by
   rw[<-m];refine f9 (ds:=(L.drop c).take (l-c)) rfl ?_ (by rw[MK,Mz];omega) λd hd=>⟨?_,rfl⟩
   ·simp only[w5,lu,nY,ao,au,Rs.ag,nR,C0,FY,Rs.ai,Je]
   ·rcases i d hd with rfl|⟨a,b,k,o,rfl⟩
    ·rfl
    ·have g:g2 (oN false) (g2 dIx (af 6) (gC (.int 0))) (af 1) ([some (.list L),some (ar e),some (.int (c:Int)),some (.int (l:Int)),some (.int H),none]++[some (r8 a b k o)])=.ok (.bool (decide (a∈e))):=fi (x:=.int a) (y:=ar e) rfl rfl (inT a e);rw[Bh,show gT (g1 jr (af 6)) ([some (.list L),some (ar e),some (.int (c:Int)),some (.int (l:Int)),some (.int H),none]++[some (r8 a b k o)])=.ok true from rfl,Rs.ag,if_pos rfl,dH,g];rfl
  rw[B];rfl
 unfold eB;rw[dR A];have u:gT (g2 dEq (af 5) (kh ah)) [some (.list L),some (ar e),some (.int (c:Int)),some (.int (l:Int)),some (.int H),some (.list F)]=.ok F.isEmpty:=by rw[dH,fi (x:=.list F) (y:=.list []) rfl rfl (K9 n)];rfl
 by_cases z:F=[]
 ·rw[aQ,cG,u,z];rfl
 ·rcases h with h|⟨a,b,k,T,h1,h2,C⟩
  ·exact (z h).elim
  have D:F.isEmpty=false:=by cases F with
   |nil=>exact (z rfl).elim
   |cons _ _=>rfl
  have v:Is8 (r8 a b k (some T)):=.inr ⟨_,_,_,_,rfl⟩;have j:F[0]?=some (r8 a b k (some T)):=by
   cases F with
   |nil=>exact (z rfl).elim
   |cons y r=>rw[h1 y L6];rfl
  have w:g2 dIx (af 5) (gC (.int 0)) [some (.list L),some (ar e),some (.int (c:Int)),some (.int (l:Int)),some (.int H),some (.list F)]=.ok (r8 a b k (some T)) :=
   fi (x:=.list F) (y:=.int 0) rfl rfl (jz (k:=0) j)
  have s:∀d,g2 dIx (af 5) (gC (.int 0)) ([some (.list L),some (ar e),some (.int (c:Int)),some (.int (l:Int)),some (.int H),some (.list F)]++[some d])=.ok (r8 a b k (some T)):=λd =>
   fi (x:=.list F) (y:=.int 0) rfl rfl (jz (k:=0) j)
  have k1:gT (g2 dGt (gF bM (ae (af 5) ah)) (af 4)) [some (.list L),some (ar e),some (.int (c:Int)),some (.int (l:Int)),some (.int H),some (.list F)]=.ok false:=by simp only[dH,bK,fV,aA,aH,ao,au,Rs.ag,jC,Rs.ai,EC,br];rw[decide_eq_false (by omega)]
  have k2:a9 6 (bT (af 5)) (gT (g2 dNe (af 6) (g2 dIx (af 5) (gC (.int 0))))) (af 6) aO [some (.list L),some (ar e),some (.int (c:Int)),some (.int (l:Int)),some (.int H),some (.list F)]=.ok []:=by
   have:=f9 (n0:=6) (src:=bT (af 5)) (cond:=gT (g2 dNe (af 6) (g2 dIx (af 5) (gC (.int 0))))) (elt:=af 6) (δ:=[some (.list L),some (ar e),some (.int (c:Int)),some (.int (l:Int)),some (.int H),some (.list F)]) (p:=λ_=>false) (ds:=F) rfl rfl q λd hd=>⟨by rw[h1 d hd,dH,fi (f:=dNe) (x:=r8 a b k (some T)) (y:=r8 a b k (some T)) rfl (s _) (ne8 v)];rfl,rfl⟩
   rw[this];congr 1;exact List.filter_eq_nil_iff.mpr λ_ _=>by simp
  have k3:gT (g2 dNe (gL (a9 6 (bT (af 5)) (gT (g2 dNe (af 6) (g2 dIx (af 5) (gC (.int 0))))) (af 6) aO)) (kh ah)) [some (.list L),some (ar e),some (.int (c:Int)),some (.int (l:Int)),some (.int H),some (.list F)]=.ok false:=by rw[dH,fi (f:=dNe) (x:=.list []) (y:=.list []) (by rw[nH,k2];rfl) rfl Lj];rfl
  have E:gT (g1 jk (g2 dIx (g2 dIx (af 5) (gC (.int 0))) (gC (.int 3)))) [some (.list L),some (ar e),some (.int (c:Int)),some (.int (l:Int)),some (.int H),some (.list F)]=.ok false:=by have G:g2 dIx (g2 dIx (af 5) (gC (.int 0))) (gC (.int 3)) [some (.list L),some (ar e),some (.int (c:Int)),some (.int (l:Int)),some (.int H),some (.list F)]=.ok (.int T):=fi w (y:=.int 3) rfl rfl;rw[dH,gQ,G];rfl
  have k5:g2 Av (g2 dIx (af 5) (gC (.int 0))) (eZ (af 0) fH (fL (af 2))) [some (.list L),some (ar e),some (.int (c:Int)),some (.int (l:Int)),some (.int H),some (.list F)]=.ok (.bool true):=by refine fi w (y:=.list (L.take c)) ?_ (in8 v (λd hd=>t d (MI hd)) C);simp only[lu,nY,mh,ao,au,Rs.ag,nR,C0,GH,Rs.ai]
  have s2:sIf (gT (g2 dEq (af 5) (kh ah))) (bo (gC (.bool true))) aY [some (.list L),some (ar e),some (.int (c:Int)),some (.int (l:Int)),some (.int H),some (.list F)]=.nx [some (.list L),some (ar e),some (.int (c:Int)),some (.int (l:Int)),some (.int H),some (.list F)]:=by rw[cG,u,D];rfl
  have I:sIf (cOr (gT (g2 dGt (gF bM (ae (af 5) ah)) (af 4))) (cOr (gT (g2 dNe (gL (a9 6 (bT (af 5)) (gT (g2 dNe (af 6) (g2 dIx (af 5) (gC (.int 0))))) (af 6) aO)) (kh ah))) (gT (g1 jk (g2 dIx (g2 dIx (af 5) (gC (.int 0))) (gC (.int 3))))))) (bo (gC (.bool false))) aY [some (.list L),some (ar e),some (.int (c:Int)),some (.int (l:Int)),some (.int H),some (.list F)]=.nx [some (.list L),some (ar e),some (.int (c:Int)),some (.int (l:Int)),some (.int H),some (.list F)]:=by rw[cG,yP,k1,Rs.ag,if_neg LK,yP,k3,Rs.ag,if_neg LK,E];rfl
  rw[dR s2,dR I,bU,k5];rfl
theorem uO {d:PyData} (h:d∈fe l):∃(i:Nat) (x:PyData),l[i]?=some x/\d=.tuple [.int (i:Int),x]:=by
 obtain⟨i,hi,e⟩:=N4 h;have hl:i<l.length:=by rw[iI]at hi;exact hi
 refine⟨i,l[i],L0 hl,?_⟩;rw[<-e];simp[fe]
theorem ql {P:Ds->Prop} {tgt:PyData->Ds->Option Ds} {body:Ds->Sr}:∀{ds:List PyData},(∀d∈ds,∀δ,P δ->∃δ1 δ2,tgt d δ=some δ1/\body δ1=.nx δ2/\P δ2)->∀δ,P δ->∃a,forL tgt body ds δ=.nx a/\P a
 |[],_,δ,h=>⟨δ,rfl,h⟩
 |d::r,hs,δ,h=>by obtain⟨δ1,δ2,e1,e2,h2⟩:=hs d L6 δ h;rw[lY e1 e2];exact ql (λd' hd=>hs d' (L3 _ hd)) δ2 h2
def lg (a k:Int):PyData->Bool
 |.tuple [.int x,.int y]=>x==a&&y==k
 |_=>false
theorem Ey {d:PyData} (h:d=.none\/∃b,d=cH b) (a k:Int):dEq d (.tuple [.int a,.int k])=some (.bool (lg a k d)):=by
 rcases h with rfl|⟨b,rfl⟩
 ·simp[dEq,aC,cN,PySem.SeqAt.shaped,PyData.canLay0,PyData.canLayAll0,PyData.depth,PyData.depthAll,PyData.eqv,PyData.eqvAll,lg]
 ·unfold cH;simp[dEq,aC,cN,PySem.SeqAt.shaped,PyData.canLay0,PyData.canLayAll0,PyData.depth,PyData.depthAll,PyData.eqv,PyData.eqvAll,lg]
theorem pM (a:dQ n rs) {m:Int} (c:0<=m) (e:m<n) {p:Nat}:m∈rs.drop (p+1)↔p<placeOf rs m:=by
 have hm:=a.mem c e;have b:=lT hm;constructor
 ·intro h;obtain⟨i,hi⟩:=ME.mp h;rw[List.getElem?_drop]at hi;obtain⟨h1,e1⟩:=LM.mp hi;obtain⟨h2,e2⟩:=LM.mp b;have:=(Nr a.nd (i:=p+1+i) (j:=placeOf rs m) (h₀:=h1) (h₁:=h2)).mp (by rw[e1,e2]);omega
 ·intro h;rw[ME];refine⟨placeOf rs m-(p+1),?_⟩;rw[List.getElem?_drop,show p+1+(placeOf rs m-(p+1))=placeOf rs m by omega];exact b
theorem FZ (eok:v8 es) (rok:dQ es.length rs) {a:Nat} (hm:m<es.length) (q:placeOf rs (a:Int)<placeOf rs (m:Int)) {p:Int×Option Int} (b:p∈(b9 es (m:Int)).parts) (g:p.2=some T) (r:fo (aF es rs) T<=(placeOf rs (a:Int):Int)):p.1-1<=cw es rs (a:Int):=by
 have h:=(pM rok (m:=(m:Int)) (by omega) (by omega) (p:=placeOf rs (a:Int))).mpr q;have i:=eok.ok _ (e9 (es:=es) (n:=(m:Int)) (by omega) (by omega));obtain⟨j,l⟩:=(i.pl p b).2.2 T g;have s:(b9 es (m:Int)).has T=true:=by unfold Er.has;rw[ML];exact⟨p,b,by rw[g];exact beq_self_eq_true _⟩
 have c:=rok.mem (n:=(m:Int)) (by omega) (by omega);have o:(m:Int)∈rs.take (placeOf rs (m:Int)+1):=by rw[List.take_succ,lT c];exact Lw _ L6
 obtain⟨x,f,_⟩:=(qp es T rs 0 (placeOf rs (m:Int))).mpr ⟨(m:Int),o,s⟩;have f:bj es rs T=some x:=f;have e:fo (aF es rs) T=x:=by unfold fo;rw[ku j l f]
 rw[e]at r;exact (AM.mp (MJ _)).2 (m:Int) h p b T g ((qp es T rs 0 (placeOf rs (a:Int))).mp ⟨x,f,by omega⟩)
def w8 (S E R C D W:PyData) (x6 x7 x8 c a b:Option PyData):Ds:=[some S,some E,some R,some C,some D,some W,x6,x7,x8,c,a,b]
def t8:Ds->Rs PyData:=g2 aX (g2 dIx (gL (a9 12 (fM (ae (gF bM (ae (af 4) ah)) ah)) (gT (g2 dEq (g2 dIx (af 4) (af 12)) (eP (ae (af 7) (ae (af 9) ah))))) (af 12) aO)) (g1 lp (gC (.int 1)))) (gC (.int 1))
def i8 (cs:Cs):Ds->Sr:=aE (aT [] 11 t8) (sIf (fI (gT (aq (bH cs) (ae (af 5) (ae (eZ (af 2) (fL (g2 aX (af 6) (gC (.int 1)))) fH) (ae (af 10) (ae (af 11) (ae (af 8) ah)))))))) (bo (gC (.bool false))) aY)
def o8 (cs:Cs):Ds->Sr:=aE (aT [] 8 (aq fA (ae (af 1) (ae (af 2) (ae (af 7) ah))))) (eQ [] (eK (ae (g2 dIx (af 3) (af 7)) ah)) (dg [9,10]) (i8 cs))
theorem Jr {S E R C W:PyData} (hl:t.length<1000000) (o:∀d∈t,d=.none\/∃b,d=cH b) {a k:Nat} (hi:t[i]?=some (.tuple [.int (a:Int),.int (k:Int)])) (x6 x8 c f:Option PyData) :
  ∃j,t[j]?=some (.tuple [.int (a:Int),.int (k:Int)])/\t8 (w8 S E R C (.list t) W x6 (some (.int (a:Int))) x8 (some (.int (k:Int))) c f)=.ok (.int ((j+1:Nat):Int)):=by
 generalize hp:(λd:PyData=>match d with
  |.int j=>lg (a:Int) (k:Int) (t[j.toNat]?.getD .none)
  |_=>false)=p
 have r:a9 12 (fM (ae (gF bM (ae (af 4) ah)) ah)) (gT (g2 dEq (g2 dIx (af 4) (af 12)) (eP (ae (af 7) (ae (af 9) ah))))) (af 12) aO (w8 S E R C (.list t) W x6 (some (.int (a:Int))) x8 (some (.int (k:Int))) c f)=.ok ((bA 0 t.length).filter p):=by
  refine f9 rfl ?_ (by rw[cO];omega) λd hd=>⟨?_,rfl⟩
  ·have e1:(ae (gF bM (ae (af 4) ah)) ah) (w8 S E R C (.list t) W x6 (some (.int (a:Int))) x8 (some (.int (k:Int))) c f)=.ok [.int (t.length:Int)]:=rfl;unfold fM;rw[e1,Rs.ag,jV (by omega) (by omega),LV]
  ·obtain⟨j,h,rfl⟩:∃j:Nat,j<t.length/\d=.int (j:Int):=by obtain⟨m,hm⟩:=ME.mp hd;obtain⟨h1,h2⟩:=fz hm;exact⟨m,h1,by rw[h2,Int.zero_add]⟩
   have g:=L0 h;have e2:=Ey (o _ (LY h)) (a:Int) (k:Int);have s:g2 dEq (g2 dIx (af 4) (af 12)) (eP (ae (af 7) (ae (af 9) ah))) (w8 S E R C (.list t) W x6 (some (.int (a:Int))) x8 (some (.int (k:Int))) c f++[some (.int (j:Int))])=_ :=
    fi (fi (x:=.list t) (y:=.int (j:Int)) rfl rfl (jz g)) (y:=.tuple [.int (a:Int),.int (k:Int)]) rfl e2
   rw[dH,s,<-hp];show Rs.ok _=Rs.ok (lg (a:Int) (k:Int) (t[((j:Nat):Int).toNat]?.getD .none));rw[LV,g];rfl
 have l:(bA 0 t.length).filter p≠[]:=by
  have n:=(LM.mp hi).1;refine Nc (a:=.int (i:Int)) (LO.mpr ⟨?_,?_⟩)
  ·unfold bA;exact LA.mpr ⟨i,Mx.mpr n,by rw[Int.zero_add]⟩
  ·rw[<-hp];show lg (a:Int) (k:Int) (t[((i:Nat):Int).toNat]?.getD .none)=true;rw[LV,hi];simp[lg]
 obtain⟨d,hd⟩:∃d,((bA 0 t.length).filter p).getLast?=some d:=by
  cases q:((bA 0 t.length).filter p).getLast? with
  |none=>exact (l (N8.mp q)).elim
  |some d=>exact⟨d,rfl⟩
 obtain⟨h1,h2⟩:=LO.mp (List.mem_of_getLast? hd);obtain⟨j,h,rfl⟩:∃j:Nat,j<t.length/\d=.int (j:Int):=by obtain⟨m,hm⟩:=ME.mp h1;obtain⟨h1,h2⟩:=fz hm;exact⟨m,h1,by rw[h2,Int.zero_add]⟩
 refine⟨j,?_,?_⟩
 ·rw[<-hp]at h2;have h2:lg (a:Int) (k:Int) (t[((j:Nat):Int).toNat]?.getD .none)=true:=h2;rw[LV,L0 h,Nt]at h2;rw[L0 h];rcases o _ (LY h) with e|⟨b,e⟩
  ·rw[e]at h2;cases h2
  ·rw[e]at h2 ⊢;unfold cH lg at h2;simp only[L8,beq_iff_eq]at h2;unfold cH;rw[h2.1,h2.2]
 ·unfold t8;refine fi (x:=.int (j:Int)) (y:=.int 1) (fi (x:=.list ((bA 0 t.length).filter p)) (y:=.int (-1)) (by rw[nH,r];rfl) rfl ?_) rfl rfl;show atI _ (-1)=_;rw[jZ,hd]
theorem law_holds (cs:Cs) (ns:List Int):ye cs (bH cs) fA (bF cs) (ij cs) (cf cs) bX bx (some (aj ns)::List.replicate 11 none)=.rt (.bool true):=by
 obtain⟨es,rs,_,l1,l4,hok,O,hes,hrs⟩:=Be ns 12 28 (by decide) (by decide) (by decide);have l6:es.length<=6:=by omega
 have ok:v8 es:=⟨l1,l6,hok⟩
 obtain⟨rows,hcm,C⟩:=xV (cs:=cs) ok (ns:=ns) (a:=5) (span:=50) (by decide) (by decide);have R:Ran es rs rows "high":=⟨ok,O,C.len,⟨zt⟩⟩
 obtain⟨t,ht⟩:=Bu R C;have U:=sF (cs:=cs) R C ht;obtain⟨q,who,T,D,J,h0,hlen,hT,s,X⟩:=Eu R C ht;have Hk:pT (aF es rs) es.length q who:=J rfl;have Y:∀{a:Nat} {row:List Int},rows[a]?=some row->a<es.length/\(q a 0).row=row:=λ{a row} h=>by
  have ha:a<es.length:=by rw[<-R.ln];exact (LM.mp h).1
  obtain⟨row',h',e⟩:=h0 a ha;rw[h]at h';cases h';rw[e];exact⟨ha,rfl⟩
 have A:∀m,m<es.length->(q m 0).parts=(b9 es (m:Int)).parts/\(q m 0).rank=(placeOf rs (m:Int):Int)/\(q m 0).spent=0/\(q m 0).tot=0/\(q m 0).cur=0:=λm hm=>by obtain⟨row,_,e⟩:=h0 m hm;rw[e];exact⟨rfl,rfl,rfl,my m row,rfl⟩
 have Z:=qI (cs:=cs) l6 D (λm hm=>(A m hm).2.2.2.2) (λm hm=>(A m hm).1) hT s hlen;generalize hL:(List.range T).map (rw8 q who)=L at Z;have hL8:∀d∈L,Is8 d:=λd hd=>by
  rw[<-hL]at hd;obtain⟨i,_,rfl⟩:=LA.mp hd;unfold rw8;split
  ·exact .inr ⟨_,_,_,_,rfl⟩
  ·exact .inl rfl
 have hLl:L.length=T:=by rw[<-hL];simp
 have htd:∀d∈t,d=.none\/∃b,d=cH b:=λd hd=>by
  obtain⟨i,hi,e⟩:=N4 hd;have:=s i (by omega);rw[L0 hi,e]at this;rw[Option.some.inj this];split
  ·exact .inr ⟨_,rfl⟩
  ·exact .inl rfl
 -- a job's window
 have main:∀{a:Nat} {row:List Int} {k:Nat} (l:rows[a]?=some row) (J:k<row.length) {j:Nat},t[j]?=some (.tuple [.int (a:Int),.int (k:Int)])->bH cs [.list L,ar (rs.drop (placeOf rs (a:Int)+1)),.int row[k],.int ((j+1:Nat):Int),.int (cw es rs (a:Int))]=.ok (.bool true):=λ{a row k} l J {j} G=>by
  obtain⟨ha,er⟩:=Y l;have hjT:j<T:=by rw[<-hlen];exact (LM.mp G).1
  have hw:who j=some a/\(q a j).job=k:=by
   rw[s j hjT]at G;cases w:who j with
   |none=>rw[w]at G;cases G
   |some m =>
    rw[w]at G;have hm:=D.lt w;have G:cH (q m j)=.tuple [.int (a:Int),.int (k:Int)]:=Option.some.inj G;unfold cH at G;rw[D.num j hm]at G;injection G with G
    injection G with e1 e2
    injection e1 with e1
    injection e2 with e2
    injection e2 with e2
    have:m=a:=by omega
    subst this;exact⟨rfl,by omega⟩
  have c0:0<=row[k]:=(C.oG row (M1 l)).lo _ (LY J);obtain⟨c,hc⟩:∃c:Nat,row[k]=(c:Int):=⟨row[k].toNat,by omega⟩
  rw[hc];have hkq:k<(q a 0).row.length:=by rw[er];exact J
  have hck:(q a 0).row[k]=(c:Int):=by simp only[er];exact hc
  have hcut:((L.drop c).take (j+1-c))=(List.range' c (j+1-c)).map (rw8 q who):=by
   have:((List.range T).drop c).take (j+1-c)=List.range' c (j+1-c):=MW (by simp;omega) λi h1 h2=>by simp
   rw[<-hL,<-List.map_drop,<-List.map_take,this]
  refine F0 hL8 (by omega) (F:=((List.range' c (j+1-c)).filter (EV (rs.drop (placeOf rs (a:Int)+1))∘rw8 q who)).map (rw8 q who)) (by rw[hcut,List.filter_map]) ?_;rcases D.once Hk (λm hm=>(A m hm).2.2.1) (B:=c) (d:=j+1-c) (r:=(placeOf rs (a:Int):Int)) (λu h1 h2=>⟨a,ha,D.there_till ha hkq hw.2 (by rw[hck];omega) (by omega),by rw[(D.stay ha u).2.2,(A a ha).2.1];exact MJ _⟩)
   (low:=EV (rs.drop (placeOf rs (a:Int)+1))∘rw8 q who) (λu=>by
    show EV _ (rw8 q who u)=true↔_;unfold rw8;cases w:who u with
    |none=>exact⟨λh=>(by cases h),λ⟨m,h,_⟩=>(by cases h)⟩
    |some m =>have hm:=D.lt w;have hd:=pM O (m:=(m:Int)) (by omega) (by omega) (p:=placeOf rs (a:Int));show decide ((m:Int)∈rs.drop (placeOf rs (a:Int)+1))=true↔_;rw[decide_eq_true_iff,hd];exact⟨λh=>⟨m,rfl,by rw[(A m hm).2.1];omega⟩,λpz0=>by obtain⟨m',h1,h2⟩:=pz0;cases h1;rw[(A m hm).2.1]at h2;omega⟩) with e|⟨m,u,T',hm,hrk,hall,htl,hu,hwu,ju,pu,p,hp1,hp2,hp3,hp4⟩
  ·left;rw[e];rfl
  ·right;have tl:∀v,(q m v).part=(q m c).part->(q m v).tool=some T':=λv hv=>by rw[<-htl];unfold Jb.tool;rw[hv,(D.stay hm v).1,(D.stay hm c).1]
   have N:∀v,who v=some m->(q m v).job=(q m c).job->(q m v).part=(q m c).part->rw8 q who v=r8 (m:Int) ((q m c).job:Int) ((q m c).part:Int) (some T'):=λv h1 h2 h3=>by unfold rw8 r8;rw[h1];show PyData.tuple [_,_,_,bz (q m v).tool]=_;rw[tl v h3,h2,h3]
   refine⟨(m:Int),((q m c).job:Int),((q m c).part:Int),T',λd hd=>?_,?_,?_⟩
   ·obtain⟨v,hv,rfl⟩:=LA.mp hd;obtain⟨a1,a2,a3⟩:=hall v hv;exact N v a1 a2 a3
   ·rw[L5];have:=FZ ok O (a:=a) hm (by rw[(A m hm).2.1]at hrk;omega) (p:=p) (by rw[<- (A m hm).1];exact hp1) hp2 hp3;omega
   ·rw[<-N u hwu ju pu,<-hL,<-List.map_take,List.take_range];refine LA.mpr ⟨u,Mx.mpr ?_,rfl⟩;have:=D.lt hwu;by_cases z:u<T
    ·omega
    ·exfalso;have hcj:c<=j:=by have:=D.thr hw.1;unfold Jb.there at this;rw[(D.stay ha j).2.1,hw.2,L0 hkq,hck]at this;have:=of_decide_eq_true this;omega
     omega
 -- the law's loops
 have inner:∀{a:Nat} {row:List Int},rows[a]?=some row->∀(x9 K M:Option PyData),∃H o f,eQ [] (eK (ae (g2 dIx (af 3) (af 7)) ah)) (dg [9,10]) (i8 cs) (w8 (aj ns) (ax es) (ar rs) (cmD rows) (.list t) (.list L) (some (.int (placeOf rs (a:Int):Int))) (some (.int (a:Int))) (some (.int (cw es rs (a:Int)))) x9 K M) =
   .nx (w8 (aj ns) (ax es) (ar rs) (cmD rows) (.list t) (.list L) (some (.int (placeOf rs (a:Int):Int))) (some (.int (a:Int))) (some (.int (cw es rs (a:Int)))) H o f):=λ{a row} l x9 K M=>by
  obtain⟨ha,er⟩:=Y l;have hix:dIx (cmD rows) (.int (a:Int))=some (de row):=jz (by rw[LG,l];rfl);have src:eK (ae (g2 dIx (af 3) (af 7)) ah) (mask [] (w8 (aj ns) (ax es) (ar rs) (cmD rows) (.list t) (.list L) (some (.int (placeOf rs (a:Int):Int))) (some (.int (a:Int))) (some (.int (cw es rs (a:Int)))) x9 K M))=.ok (fe (row.map PyData.int)):=by rw[iz,nP,aA,fi (x:=cmD rows) (y:=.int (a:Int)) rfl rfl hix];rfl
  rw[wG src];obtain⟨δ',e,H,o,f,rfl⟩:=ql (P:=λδ=>∃H o f,δ=w8 (aj ns) (ax es) (ar rs) (cmD rows) (.list t) (.list L) (some (.int (placeOf rs (a:Int):Int))) (some (.int (a:Int))) (some (.int (cw es rs (a:Int)))) H o f) (tgt:=dg [9,10]) (body:=i8 cs) (ds:=fe (row.map PyData.int)) (λd hd δ Q=>by
   obtain⟨H,o,f,rfl⟩:=Q;obtain⟨k,x,I,rfl⟩:=uO hd;rw[LG]at I;obtain⟨J,rfl⟩:∃J:k<row.length,x=.int row[k]:=by
    by_cases z:k<row.length
    ·rw[L0 z]at I;exact⟨z,(Option.some.inj I).symm⟩
    ·rw[Mq (by omega)]at I;cases I
   obtain⟨i,hi,wi,ji⟩:=D.job_at (λm hm=>(A m hm).2.2.2.1) X ha (k:=k) (by rw[er];exact J);have hti:t[i]?=some (.tuple [.int (a:Int),.int (k:Int)]):=by rw[s i hi,wi];show some (cH (q a i))=_;unfold cH;rw[D.num i ha,ji]
   obtain⟨j,G,e8⟩:=Jr (S:=aj ns) (E:=ax es) (R:=ar rs) (C:=cmD rows) (W:=.list L) (by omega) htd hti (some (.int (placeOf rs (a:Int):Int))) (some (.int (cw es rs (a:Int)))) (some (.int row[k])) f;have hm:=main l J G;refine⟨_,w8 (aj ns) (ax es) (ar rs) (cmD rows) (.list t) (.list L) (some (.int (placeOf rs (a:Int):Int))) (some (.int (a:Int))) (some (.int (cw es rs (a:Int)))) (some (.int (k:Int))) (some (.int row[k])) (some (.int ((j+1:Nat):Int))),rfl,?_,_,_,_,rfl⟩;have s1:aT [] 11 t8 (w8 (aj ns) (ax es) (ar rs) (cmD rows) (.list t) (.list L) (some (.int (placeOf rs (a:Int):Int))) (some (.int (a:Int))) (some (.int (cw es rs (a:Int)))) (some (.int (k:Int))) (some (.int row[k])) f)=.nx (w8 (aj ns) (ax es) (ar rs) (cmD rows) (.list t) (.list L) (some (.int (placeOf rs (a:Int):Int))) (some (.int (a:Int))) (some (.int (cw es rs (a:Int)))) (some (.int (k:Int))) (some (.int row[k])) (some (.int ((j+1:Nat):Int)))) :=
    dJ (by show 11<12;decide) (by rw[iz];exact e8)
   show i8 cs (w8 (aj ns) (ax es) (ar rs) (cmD rows) (.list t) (.list L) (some (.int (placeOf rs (a:Int):Int))) (some (.int (a:Int))) (some (.int (cw es rs (a:Int)))) (some (.int (k:Int))) (some (.int row[k])) f)=_;unfold i8;rw[dR s1];have g:aq (bH cs) (ae (af 5) (ae (eZ (af 2) (fL (g2 aX (af 6) (gC (.int 1)))) fH) (ae (af 10) (ae (af 11) (ae (af 8) ah))))) (w8 (aj ns) (ax es) (ar rs) (cmD rows) (.list t) (.list L) (some (.int (placeOf rs (a:Int):Int))) (some (.int (a:Int))) (some (.int (cw es rs (a:Int)))) (some (.int (k:Int))) (some (.int row[k])) (some (.int ((j+1:Nat):Int))))=.ok (.bool true):=by
    refine gW ?_ hm;have gs:eZ (af 2) (fL (g2 aX (af 6) (gC (.int 1)))) fH (w8 (aj ns) (ax es) (ar rs) (cmD rows) (.list t) (.list L) (some (.int (placeOf rs (a:Int):Int))) (some (.int (a:Int))) (some (.int (cw es rs (a:Int)))) (some (.int (k:Int))) (some (.int row[k])) (some (.int ((j+1:Nat):Int))))=.ok (ar (rs.drop (placeOf rs (a:Int)+1))):=by
     have:cutD (rs.map PyData.int) (some ((placeOf rs (a:Int):Int)+1)) none=(rs.drop (placeOf rs (a:Int)+1)).map PyData.int:=by rw[show ((placeOf rs (a:Int):Int)+1)=((placeOf rs (a:Int)+1:Nat):Int) by omega,vB,List.map_drop]
     unfold w8 ar;simp only[lu,nY,mh,bK,cy,ao,au,Rs.ag,eC,Rs.ai,nR,Dw,this]
    rw[aA,show af 5 (w8 (aj ns) (ax es) (ar rs) (cmD rows) (.list t) (.list L) (some (.int (placeOf rs (a:Int):Int))) (some (.int (a:Int))) (some (.int (cw es rs (a:Int)))) (some (.int (k:Int))) (some (.int row[k])) (some (.int ((j+1:Nat):Int))))=.ok (.list L) from rfl,Rs.ag,aA,gs];rfl
   rw[cG,ph,dH,g];rfl) _ ⟨x9,K,M,rfl⟩
  exact⟨H,o,f,e⟩
 have s1:aT [] 1 (aq bx (ae (af 0) (ae (gC (.int 12)) (ae (gC (.int 4)) (ae (gC (.int 28)) (ae (gC (.bool true)) ah)))))) [some (aj ns),none,none,none,none,none,none,none,none,none,none,none]=.nx [some (aj ns),some (ax es),none,none,none,none,none,none,none,none,none,none]:=dJ (by decide:1<12) (gW rfl hes);have s2:aT [] 2 (aq bX (ae (af 0) (ae (gC (.int 0)) (ae (gF bM (ae (af 1) ah)) ah)))) [some (aj ns),some (ax es),none,none,none,none,none,none,none,none,none,none]=.nx [some (aj ns),some (ax es),some (ar rs),none,none,none,none,none,none,none,none,none]:=by refine dJ (by decide:2<12) (gW (ds:=[aj ns,.int 0,.int (es.length:Int)]) ?_ hrs);show (ae (af 0) (ae (gC (.int 0)) (ae (gF bM (ae (af 1) ah)) ah))) [some (aj ns),some (ax es),none,none,none,none,none,none,none,none,none,none]=_;simp only[aA,aH,fV,ao,au,cy,Rs.ag,JK,Rs.ai]
 have s3:aT [] 3 (aq (cf cs) (ae (af 0) (ae (gC (.int 5)) (ae (af 1) (ae (gC (.int 50)) ah))))) [some (aj ns),some (ax es),some (ar rs),none,none,none,none,none,none,none,none,none]=.nx [some (aj ns),some (ax es),some (ar rs),some (cmD rows),none,none,none,none,none,none,none,none]:=dJ (by decide:3<12) (gW rfl hcm);have s4:aT [] 4 (aq (ij cs) (ae (af 1) (ae (af 2) (ae (af 3) (ae (gC (.str "high")) ah))))) [some (aj ns),some (ax es),some (ar rs),some (cmD rows),none,none,none,none,none,none,none,none]=.nx [some (aj ns),some (ax es),some (ar rs),some (cmD rows),some (.list t),none,none,none,none,none,none,none]:=dJ (by decide:4<12) (gW rfl U);have s5:aT [] 5 (aq (bF cs) (ae (af 1) (ae (af 4) ah))) [some (aj ns),some (ax es),some (ar rs),some (cmD rows),some (.list t),none,none,none,none,none,none,none]=.nx (w8 (aj ns) (ax es) (ar rs) (cmD rows) (.list t) (.list L) none none none none none none):=dJ (by decide:5<12) (gW rfl Z);obtain⟨δ',e,_⟩:=ql (P:=λδ=>∃y6 y7 y8 H o f,δ=w8 (aj ns) (ax es) (ar rs) (cmD rows) (.list t) (.list L) y6 y7 y8 H o f) (tgt:=dg [6,7]) (body:=o8 cs) (ds:=fe (rs.map PyData.int)) (λd hd δ Q=>by
  obtain⟨y6,y7,y8,H,o,f,rfl⟩:=Q;obtain⟨p,x,I,rfl⟩:=uO hd;rw[LG]at I;obtain⟨hp,rfl⟩:∃hp:p<rs.length,x=.int rs[p]:=by
   by_cases z:p<rs.length
   ·rw[L0 z]at I;exact⟨z,(Option.some.inj I).symm⟩
   ·rw[Mq (by omega)]at I;cases I
  have hrg:=O.rng _ (LY hp);obtain⟨a,ea⟩:∃a:Nat,rs[p]=(a:Int):=⟨rs[p].toNat,by omega⟩
  have ha:a<es.length:=by omega
  have hpl:placeOf rs (a:Int)=p:=by have hg:=lT (O.mem (n:=(a:Int)) (by omega) (by omega));obtain⟨h2,e2⟩:=LM.mp hg;exact (Nr O.nd (h₀:=h2) (h₁:=hp)).mp (by rw[e2,ea])
  have l:rows[a]?=some (rows[a]'(by rw[R.ln];exact ha)):=L0 _;obtain⟨z9,z10,z11,ei⟩:=inner l H o f;rw[hpl]at ei;refine⟨_,w8 (aj ns) (ax es) (ar rs) (cmD rows) (.list t) (.list L) (some (.int (p:Int))) (some (.int (a:Int))) (some (.int (cw es rs (a:Int)))) z9 z10 z11,rfl,?_,_,_,_,_,_,_,rfl⟩
  ·rw[ea];show o8 cs (w8 (aj ns) (ax es) (ar rs) (cmD rows) (.list t) (.list L) (some (.int (p:Int))) (some (.int (a:Int))) y8 H o f)=_;have sh:aT [] 8 (aq fA (ae (af 1) (ae (af 2) (ae (af 7) ah)))) (w8 (aj ns) (ax es) (ar rs) (cmD rows) (.list t) (.list L) (some (.int (p:Int))) (some (.int (a:Int))) y8 H o f)=.nx (w8 (aj ns) (ax es) (ar rs) (cmD rows) (.list t) (.list L) (some (.int (p:Int))) (some (.int (a:Int))) (some (.int (cw es rs (a:Int)))) H o f) :=
    dJ (by show 8<12;decide) (gW rfl (n9 l1 l6 hok O (by omega) (by omega)))
   unfold o8;rw[dR sh];exact ei) _ ⟨none,none,none,none,none,none,rfl⟩
 have src:eK (ae (af 2) ah) (mask [] (w8 (aj ns) (ax es) (ar rs) (cmD rows) (.list t) (.list L) none none none none none none))=.ok (fe (rs.map PyData.int)):=rfl;have s6:eQ [] (eK (ae (af 2) ah)) (dg [6,7]) (o8 cs) (w8 (aj ns) (ax es) (ar rs) (cmD rows) (.list t) (.list L) none none none none none none)=.nx δ':=(wG src).trans e;unfold o8 i8 t8 at s6;unfold ye;show aE _ _ [some (aj ns),none,none,none,none,none,none,none,none,none,none,none]=_;rw[dR s1,dR s2,dR s3,dR s4,dR s5,dR s6];rfl
theorem JB (cs:Cs):LLq (ye cs (bH cs) fA (bF cs) (ij cs) (cf cs) bX bx) 1 11 (fG 63):=lawT_of (law_holds cs)
end RS
namespace L2
open PySem PySem.Spec PyProof.Rows
section
variable {E:XK}
end
end L2
set_option maxHeartbeats 4000000
namespace L2
open PySem PySem.Spec PyProof.Rows
def ndB:List Str->Bool
 |[]=>true
 |x::r=>!r.elem x&&ndB r
theorem tX:∀{l:List Str},ndB l=true->l.Nodup
 |[],_=>List.nodup_nil
 |x::r,h=>by simp only[ndB,L8,Nm]at h;exact M3.mpr ⟨λz=>(by have:=List.elem_eq_true_of_mem z;rw[h.1]at this;cases this),tX h.2⟩
section
variable {k n':Nat} {m:Str}
def AtX (X:Cx) (P:Program) (w:World) (K:PySem.W.Frag) (mg:Str->Option Value) (base:Heap):Prop:=X.prog=P/\X.w=w/\X.K=K/\X.mg=mg/\X.base=base
theorem ia.to (h:ia P w K mg base k x n gf) (a:AtX X P w K mg base) (hn:n=n'):ia X.prog X.w X.K X.mg X.base k x n' gf:=by obtain⟨rfl,rfl,rfl,rfl,rfl⟩:=a;subst hn;exact h
theorem iA.to (h:iA P w K mg base k C m n gf) (a:AtX X P w K mg base) (hn:n=n'):iA X.prog X.w X.K X.mg X.base k C m n' gf:=by obtain⟨rfl,rfl,rfl,rfl,rfl⟩:=a;subst hn;exact h
theorem jt.to (h:jt P w K mg base k C m g) (a:AtX X P w K mg base):jt X.prog X.w X.K X.mg X.base k C m g:=by obtain⟨rfl,rfl,rfl,rfl,rfl⟩:=a;exact h
theorem oJ.to {l:List Str} (h:oJ P w K mg base k x C l) (a:AtX X P w K mg base):oJ X.prog X.w X.K X.mg X.base k x C l:=by obtain⟨rfl,rfl,rfl,rfl,rfl⟩:=a;exact h
end
def wU (K:PySem.W.Frag) (C:Addr) (m q:Str) (st:Stmt) (ps:List Str):Prop:=∃f fd,Fun K m q st f fd/\Binds K fd ps []/\Meth K C m f
def Jx (K:PySem.W.Frag) (C:Addr) (q:Str) (st:Stmt) (ps:List Str):Prop:=∃f fd,Mk K C f/\Fun K "__init__" q st f fd/\Binds K fd ps []
end L2
namespace RS
open PySem PySem.Spec PyProof.Rows L2
theorem Aj (d:α) {us:List α} (h:us.length=n):∃f:Nat->α,us=(List.range n).map f :=
 ⟨λi=>us.getD i d,MW (by simp[h]) λi h1 h2=>by simp[LJ,L0 h1]⟩
section
variable {m q:Str} {G:Ds->Sr} {gf:Gf}
abbrev Bod (P:Program) (w:World) (K:PySem.W.Frag) (mg:Str->Option Value) (base:Heap) (q:Str) (st:Stmt) (k:Nat) (O:List Nat) (N:List Str) (G:Ds->Sr):Prop:=∀(f:Addr) (cdv:Value) (A:Around) (outer:List Env) (s:Shared) (H:Hp) (E:XK),N.Nodup->bY k (A.deeper (envOfC q (aB st) s.heap.objs.size f cdv))->PBD (cU (CXW P w) P w K mg base N q (aB st) f cdv A outer s H E) E O (b0 st) G
theorem dA (P:Program) (w:World) (base:Heap) (k:Nat) (O:List Nat) (N:List Str) (h:bP K mg x st ps) (a:∀ds,ds.length=ps.length->gf ds≠.no->bh (G (ds.map some++List.replicate (N.length-ps.length) none))=gf ds)
  (body:Bod P w K mg base x st k O N G) (S:cR N ps (aB st):=by exact⟨rfl,rfl,rfl,by decide +kernel,rfl,by decide +kernel,by decide +kernel⟩) (c:∀i∈O,ps.length<=i:=by decide):ia P w K mg base (k+1) x ps.length gf:=by
 obtain⟨f,fd,F,b,m⟩:=h;exact ia.of F S b m c (λcdv A outer s H E=>body f cdv A outer s H E S.nd) a
theorem dM (P:Program) (w:World) (base:Heap) (k:Nat) (O:List Nat) (N:List Str) (h:wU K C m q st ps) (cl:Cls K C) (a:∀ds,ds.length=ps.length->gf ds≠.no->bh (G (ds.map some++List.replicate (N.length-ps.length) none))=gf ds)
  (body:Bod P w K mg base q st k O N G) (S:cR N ps (aB st):=by exact⟨rfl,rfl,rfl,by decide +kernel,rfl,by decide +kernel,by decide +kernel⟩) (c:∀i∈O,ps.length<=i:=by decide):iA P w K mg base (k+1) C m ps.length gf:=by
 obtain⟨f,fd,F,b,hm⟩:=h;exact iA.of F S b cl hm c (λcdv A outer s H E=>body f cdv A outer s H E S.nd) a
theorem dK (k:Nat) (N:List Str) {p:Str} {G:List Addr->Ds->Sr} (h:wU K C m q st [p]) (cl:Cls K C) (e:∀a fds c,fZ fds=true->fds.length<1000->g fds=some c->∃δ,G [a] (some (ck C a fds)::List.replicate (N.length-1) none)=.nx δ/\δ[0]?=some (some (ck C a c)))
  (body:∀(as:List Addr) (f:Addr) (cdv:Value) (A:Around) (outer:List Env) (s:Shared) (H:Hp) (E:XK),N.Nodup->bY k (A.deeper (envOfC q (aB st) s.heap.objs.size f cdv))->PBN as (cU (CXW P w) P w K mg base N q (aB st) f cdv A outer s H E) E [] (b0 st) (G as)) (S:cR N [p] (aB st):=by exact⟨rfl,rfl,rfl,by decide +kernel,rfl,by decide +kernel,by decide +kernel⟩):jt P w K mg base (k+1) C m g:=by
 obtain⟨f,fd,F,b,hm⟩:=h;exact jt.of F S b cl hm (λas cdv A outer s H E=>body as f cdv A outer s H E S.nd) e
theorem dT (k:Nat) (O:List Nat) (N:List Str) (h:bP K mg x st ps) (hm:∀g,PySem.W.nsIn K mainGlobals x=some (some (.ref g))->mg x=some (.ref g)) (a:EO K x) (hB:mT mg base) (hK:K.In base) (e:∀ds,ds.length=ps.length->gf ds≠.no->bh (G (ds.map some++List.replicate (N.length-ps.length) none))=gf ds)
  (body:∀(f:Addr) (cdv:Value) (A:Around) (outer:List Env) (s:Shared) (H:Hp) (E:XK),N.Nodup->bY k (A.deeper (envOfC x (aB st) s.heap.objs.size f cdv))->∀c j,Bm (cU (CXW P w) P w K mg base N x (aB st) f cdv A outer s H E) c j->PBD (cU (CXW P w) P w K mg base N x (aB st) f cdv A outer s H E) E O (b0 st) G) (S:cR N ps (aB st):=by exact⟨rfl,rfl,rfl,by decide +kernel,rfl,by decide +kernel,by decide +kernel⟩) (l:∀i∈O,ps.length<=i:=by decide) (n:x∈kZ:=by decide) (o:∀(f L:Addr) (cdv:Value),(envOfC x (aB st) L f cdv).qual++"<lambda>"=x++".<locals>.<lambda>":=by exact λ_ _ _=>rfl):ia P w K mg base (k+1) x ps.length gf:=by
 obtain⟨f,fd,F,b,m⟩:=h;exact ia.ofL F S b m l n hm a hB hK (o f) (λcdv A outer s H E=>body f cdv A outer s H E S.nd) e
theorem dL (k:Nat) (O:List Nat) (N:List Str) (F:Fun K x x st f fd) (a:∀ds,ds.length=ps.length->gf ds≠.no->bh (G (ds.map some++List.replicate (N.length-ps.length) none))=gf ds)
  (body:Bod P w K mg base x st k O N G) (S:cR N ps (aB st):=by exact⟨rfl,rfl,rfl,by decide +kernel,rfl,by decide +kernel,by decide +kernel⟩) (b:∀i∈O,ps.length<=i:=by decide):gj P w K mg base (CXW P w) (k+1) f fd ps (spD K ps.length gf) :=
 yJ F S b (λcdv A outer s H E=>body f cdv A outer s H E S.nd) a
end
end RS
set_option maxHeartbeats 0
namespace RS
open PySem PySem.Spec PyProof.Rows L2
def top (i:Nat):Stmt:=PySem.Challenge.pw_ranksure_k08_whole_waits_once.main.body.getD i (.Pass ⟨0,0,0,0⟩)
structure oh (K:PySem.W.Frag) (C:Addr):Prop where
 cl:Cls K C
 na:∀f∈["number", "part", "tool", "times"],eU K C f
 mi:Jx K C "Holding.__init__" (inClass (top 40) 0) ["self", "number", "part", "tool", "times"]
structure yw (K:PySem.W.Frag) (C:Addr):Prop where
 cl:Cls K C
 na:∀f∈["number", "parts", "rank", "row", "job", "part", "spent"],eU K C f
 mi:Jx K C "Jobs.__init__" (inClass (top 32) 0) ["self", "number", "parts", "rank", "row"]
 mt_Jobs_are_done:wU K C "are_done" "Jobs.are_done" (inClass (top 32) 1) ["self"]
 mt_Jobs_is_there:wU K C "is_there" "Jobs.is_there" (inClass (top 32) 2) ["self", "time"]
 mt_Jobs_held:wU K C "held" "Jobs.held" (inClass (top 32) 3) ["self"]
 mt_Jobs_wanted:wU K C "wanted" "Jobs.wanted" (inClass (top 32) 4) ["self"]
 mt_Jobs_go_on:wU K C "go_on" "Jobs.go_on" (inClass (top 32) 5) ["self"]
structure Tx (K:PySem.W.Frag) (mg:Str->Option Value) (cs:Cs):Prop where
 f_is_whole:bP K mg "is_whole" (top 14) ["thing", "least", "most"]
 f_is_tuple:bP K mg "is_tuple" (top 15) ["thing", "fewest", "most"]
 f_is_part:bP K mg "is_part" (top 16) ["thing"]
 f_are_parts:bP K mg "are_parts" (top 17) ["thing"]
 f_is_errand:bP K mg "is_errand" (top 18) ["thing"]
 f_checked:bP K mg "checked" (top 19) ["errands"]
 f_checked_ranks:bP K mg "checked_ranks" (top 20) ["errands", "ranks"]
 f_checked_number:bP K mg "checked_number" (top 21) ["errands", "number"]
 f_check_place:bP K mg "check_place" (top 22) ["errands", "ranks", "number"]
 f_has_tool:bP K mg "has_tool" (top 23) ["errand", "tool"]
 f_height:bP K mg "height" (top 24) ["errands", "ranks", "tool"]
 f_heights_of:bP K mg "heights_of" (top 25) ["errands", "ranks"]
 f_have_moments:bP K mg "have_moments" (top 29) ["errand", "row"]
 f_is_row:bP K mg "is_row" (top 30) ["errand", "thing"]
 f_checked_comings:bP K mg "checked_comings" (top 31) ["errands", "comings"]
 f_height_by_high:bP K mg "height_by_high" (top 33) ["jobs", "tops"]
 f_holder:bP K mg "holder" (top 34) ["there", "tool"]
 f_lent_ranks:bP K mg "lent_ranks" (top 35) ["there"]
 f_picked:bP K mg "picked" (top 36) ["there", "tops", "lending"]
 f_run_of:bP K mg "run_of" (top 37) ["errands", "ranks", "rows", "lending"]
 f_run:bP K mg "run" (top 38) ["errands", "ranks", "comings", "lending"]
 f_holdings:bP K mg "holdings" (top 41) ["errands", "ranks", "number"]
 f_hold_by_high:bP K mg "hold_by_high" (top 42) ["errands", "ranks", "number"]
 f_hold:bP K mg "hold" (top 43) ["errands", "ranks", "number"]
 f_law_cell_at:bP K mg "_law_cell_at" (top 45) ["_law_script", "_law_k"]
 f_law_mixed:bP K mg "_law_mixed" (top 46) ["_law_script", "_law_k", "_law_many"]
 f_law_errand:bP K mg "_law_errand" (top 47) ["_law_script", "_law_at_here", "_law_top", "_law_tools"]
 f_law_errands:bP K mg "_law_errands" (top 48) ["_law_script", "_law_at_here", "_law_most", "_law_top", "_law_tools"]
 f_law_ranks:bP K mg "_law_ranks" (top 49) ["_law_script", "_law_at_here", "_law_many"]
 f_law_coming_row:bP K mg "_law_coming_row" (top 50) ["_law_script", "_law_at_here", "_law_errand_here", "_law_span"]
 f_law_comings:bP K mg "_law_comings" (top 51) ["_law_script", "_law_at_here", "_law_errands_here", "_law_span"]
 f_law_at:bP K mg "_law_at" (top 52) ["_law_errand_here", "_law_spent"]
 f_law_parts_done:bP K mg "_law_parts_done" (top 53) ["_law_errands_here", "_law_done"]
 f_law_is_once:bP K mg "_law_is_once" (top 54) ["_law_rows", "_law_lower", "_law_come", "_law_last", "_law_most"]
 f_law:bP K mg "law" (top 55) ["_law_script"]
 bs:∀x∈["all", "bool", "enumerate", "int", "isinstance", "len", "list", "max", "min", "range", "set", "tuple", "zip"],mg x=none
 cst:∀q∈([("LAST_COMING",9999),("LEAST_EVERY",2),("MOST_COMINGS",60),("MOST_ERRANDS",6),("MOST_EVERY",60),("MOST_LATE",20),("MOST_LENGTH",20),("MOST_PARTS",4),("TOOLS",4)]:List (Str×Int)),∃t,mg q.1=some (.int q.2 t)
 e_NoComings:qL K mg "NoComings" cs.NoComings
 e_NoErrand:qL K mg "NoErrand" cs.NoErrand
 e_NoErrands:qL K mg "NoErrands" cs.NoErrands
 e_NoRanks:qL K mg "NoRanks" cs.NoRanks
 m_Holding:mg "Holding"=some (.ref cs.Holding)
 k_Holding:oh K cs.Holding
 m_Jobs:mg "Jobs"=some (.ref cs.Jobs)
 k_Jobs:yw K cs.Jobs
 tb_picked:EO K "picked"
 nm_picked:∀g,PySem.W.nsIn K mainGlobals "picked"=some (some (.ref g))->mg "picked"=some (.ref g)
structure Ty (K:PySem.W.Frag) (mg:Str->Option Value) (cs:Cs) (base:Heap):Prop extends Tx K mg cs where
 hB:mT mg base
 hK:K.In base
section
theorem xZ:cR ["_law_script", "_law_k"] ["_law_script", "_law_k"] (aB (top 45)):=⟨rfl,rfl,rfl,by decide +kernel,rfl,by decide +kernel,by decide +kernel⟩
theorem wV (F:Fun K "_law_cell_at" "_law_cell_at" (top 45) f fd) (bl:mg "len"=none):gj P w K mg base CX0 1 f fd ["_law_script", "_law_k"] (Bx K):=by
 refine F.ok xZ (λvs H Q E h=>?_) (λcdv A outer s H vs Q E l h=>?_)
 ·obtain⟨a,ns,k,rfl,_⟩:=h;rfl
 ·obtain⟨a,ns,k,rfl,e,m,g⟩:=h;refine⟨_,cx (yM (xH (Kl (pv 1) (gN iN rfl bl PySem.boot_len (d7 (pv 0) fR)))) (hV (pC (CK sX (pv 0) (pv 1) (λ_ _=>rfl)))) uw)
   (cx (yM (iY (yb l.units) (pv 0) (wD fR) (i3 _)) (hV (pC fW)) uw)
   (hV (pC (eN lZ (eN mQ (CK sX (pv 0) (eN pj (pv 1) (gN iN rfl bl PySem.boot_len (d7 (pv 0) fR))) (λ_ _=>rfl)) fW) (pv 1))))),?_⟩
  refine⟨_,rfl,_,rfl,a,_,rfl,.inl e,k,_,rfl,rfl,_,rfl,?_⟩;have hlen:(ns.map V.int).length=ns.length:=L5 ..;rw[hlen];refine JP (λhc=>?_) (λhc=>?_)
  ·have hc:k<(ns.length:Int):=of_decide_eq_true hc;have hi:k.toNat<ns.length:=by omega
   refine⟨_,rfl,_,rfl,a,_,k,.int (ns.getD k.toNat 0),rfl,rfl,e,uA m ?_,?_⟩
   ·rw[LG,L0 hi,LJ,L0 hi];rfl
   ·have:=g H (av.refl H);rw[show cellAt ns k=ns.getD k.toNat 0 by unfold cellAt;rw[if_pos hc]]at this;exact this
  ·have hc:¬ k<(ns.length:Int):=λz=>hc (decide_eq_true z)
   refine⟨_,rfl,Me _,λp i=>⟨.list (ns.map .int),.list [],(tj e (sr ns)).same (gM i),tj (SqL.of aG) qi,shaped_ints ns,xp,_,rfl,?_⟩⟩;rw[BG];refine JP (λb=>?_) (λb=>?_)
   ·have b:ns=[]:=of_decide_eq_true b;have:=g _ (gM (o:=.lst []) i);rw[show cellAt ns k=0 by unfold cellAt;rw[if_neg hc,if_pos b]]at this;exact this
   ·have b:¬ ns=[]:=λz=>b (decide_eq_true z)
    have c:0<(ns.length:Int):=by
     cases ns with
     |nil=>exact absurd rfl b
     |cons _ _=>simp
    have h1:0<=k % (ns.length:Int):=Mt _ (by omega);have h2:k % (ns.length:Int)<(ns.length:Int):=MC _ c;have hi:(k % (ns.length:Int)).toNat<ns.length:=by omega
    have j:av H (upd H p (.lst [])):=gM i;refine⟨_,rfl,_,rfl,_,rfl,a,_,rfl,.inl (j.seq e),_,_,rfl,rfl,by rw[hlen];exact c,a,_,_,.int (ns.getD (k % (ns.length:Int)).toNat 0),rfl,rfl,j.seq e,?_,_,_,rfl,rfl,.inr ⟨by decide,by decide⟩,_,rfl,_,_,rfl,rfl,?_⟩
    ·rw[hlen];refine uA h1 ?_;rw[LG,L0 hi,LJ,L0 hi];rfl
    ·have:=g _ j;rw[show cellAt ns k=ns.getD (k % (ns.length:Int)).toNat 0*31+k by unfold cellAt;rw[if_neg hc,if_neg b]]at this;exact this
theorem vD:cR ["_law_script", "_law_k", "_law_many", "_law_drawn"] ["_law_script", "_law_k", "_law_many"] (aB (top 46)):=⟨rfl,rfl,rfl,by decide +kernel,rfl,by decide +kernel,by decide +kernel⟩
theorem CB {b:FuncData} (F:Fun K "_law_mixed" "_law_mixed" (top 46) f fd) (e:Fun K "_law_cell_at" "_law_cell_at" (top 45) c b) (g:Binds K b ["_law_script", "_law_k"] []) (j:mg "_law_cell_at"=some (.ref c)) (bl:mg "len"=none):gj P w K mg base CX0 2 f fd ["_law_script", "_law_k", "_law_many"] (Gn K):=by
 have l:gj P w K mg base CX0 1 c b _ (Bx K):=wV e bl;refine F.ok vD (λvs H Q E h=>?_) (λcdv A outer s H vs Q E m h=>?_)
 ·obtain⟨a,ns,k,many,rfl,_⟩:=h;rfl
 ·obtain⟨a,ns,k,many,rfl,n,o,hm,p⟩:=h;refine⟨_,cx (oT (i:=3) vD.nd rfl (Or.inl rfl) (eN pj (eN mQ (eN lZ (eN lZ (zv l m rfl j e.kp g .nil Kh (d7 (pv 0) (d7 (pv 1) fR))) (eN mQ fW (pv 1))) fW) fW) fW))
   (hV (pC (eN pj (eN pj (eN lZ (eN lZ (eN mQ (pv 3) (pv 3)) (eN mQ fW (pv 3))) (pv 1)) fW) (pv 2)))),?_⟩
  refine⟨_,rfl,_,rfl,a,ns,k,rfl,n,o,λH1 q=>?_⟩;refine⟨_,rfl,_,_,rfl,rfl,.inl ⟨by decide,by decide⟩,_,_,rfl,rfl,_,_,rfl,rfl,_,_,rfl,rfl,.inr ⟨by decide,by decide⟩,_,_,rfl,rfl,(by show (0:Int)<2147483647;decide),?_⟩;have b1:=E5 ns k;have b2:=Ej ns k;have eD:(cellAt ns k+7919*k+1)*48271 % 2147483647=zD ns k:=rfl;refine⟨_,rfl,_,rfl,_,_,rfl,rfl,.inl ⟨?_,?_⟩,_,rfl,_,_,rfl,rfl,.inl ⟨by decide,by decide⟩,_,_,rfl,rfl,_,rfl,_,_,rfl,rfl,_,_,rfl,rfl,(by show (0:Int)<2147483629;decide),_,rfl,_,_,rfl,rfl,hm,p H1 q⟩
  ·show -(2 ^ 64)<(cellAt ns k+7919*k+1)*48271 % 2147483647;rw[eD];omega
  ·show (cellAt ns k+7919*k+1)*48271 % 2147483647<2 ^ 64;rw[eD];omega
theorem uH (T:Tx K mg cs):ia P w K mg base 2 "_law_mixed" 3 ak:=by obtain⟨f,fd,F,b,m⟩:=T.f_law_mixed;obtain⟨fC,fdC,a,c,e⟩:=T.f_law_cell_at;exact ia.old (CB F a c e (T.bs _ (by decide))) m F.kp b FP
theorem Ar (T:Tx K mg cs):oJ P w K mg base 1 "Holding" cs.Holding ["number", "part", "tool", "times"]:=by
 obtain⟨f,fd,M,F,b⟩:=T.k_Holding.mi;refine⟨f,fd,_,M,kW (k:=0) (N:=["self", "number", "part", "tool", "times"]) F ⟨rfl,rfl,rfl,by decide +kernel,rfl,by decide +kernel,by decide +kernel⟩ (λvs H Q E h=>?_) (λcdv A outer s H vs Q E hr h=>?_),b,T.m_Holding⟩
 ·obtain⟨x,dx,args,rfl,hl,_⟩:=h;rw[LI,hl];rfl
 ·obtain⟨x,dx,args,rfl,hl,c,k⟩:=h;obtain⟨g,rfl⟩:=Aj .non hl;refine⟨_,(cx (fS (pv 0) (pv 1) rfl) (cx (fS (pv 0) (pv 2) rfl) (cx (fS (pv 0) (pv 3) rfl) (hV (fS (pv 0) (pv 4) rfl))))),?_⟩;refine⟨_,rfl,_,rfl,x,cs.Holding,dx,_,rfl,c,T.k_Holding.cl,T.k_Holding.na _ (by decide),(by show 0<1000;decide),_,rfl,_,rfl,x,cs.Holding,dx,_,rfl,aG,T.k_Holding.cl,T.k_Holding.na _ (by decide),(by show 1<1000;decide),_,rfl,_,rfl,x,cs.Holding,dx,_,rfl,aG,T.k_Holding.cl,T.k_Holding.na _ (by decide),(by show 2<1000;decide),_,rfl,_,rfl,x,cs.Holding,dx,_,rfl,aG,T.k_Holding.cl,T.k_Holding.na _ (by decide),(by show 3<1000;decide),?_⟩;exact k _ (λb a=>by rw[ay a,ay a,ay a,ay a]) (by rw[aG];rfl)
theorem xS (T:Tx K mg cs):MkD P w K mg base 1 "Jobs" cs.Jobs JN JT:=by
 obtain⟨f,fd,M,F,b⟩:=T.k_Jobs.mi;refine⟨f,fd,_,M,kW (k:=0) (N:=["self", "number", "parts", "rank", "row"]) F ⟨rfl,rfl,rfl,by decide +kernel,rfl,by decide +kernel,by decide +kernel⟩ (λvs H Q E h=>?_) (λcdv A outer s H vs Q E hr h=>?_),b,T.m_Jobs⟩
 ·obtain⟨x,dx,args,rfl,hl,_⟩:=h;rw[LI,hl];rfl
 ·obtain⟨x,dx,args,rfl,hl,c,k⟩:=h;obtain⟨g,rfl⟩:=Aj .non hl;refine⟨_,(cx (fS (pv 0) (pv 1) rfl) (cx (fS (pv 0) (pv 2) rfl) (cx (fS (pv 0) (pv 3) rfl) (cx (fS (pv 0) (pv 4) rfl) (cx (fS (pv 0) fW rfl) (cx (fS (pv 0) fW rfl) (hV (fS (pv 0) fW rfl)))))))),?_⟩;refine⟨_,rfl,_,rfl,x,cs.Jobs,dx,_,rfl,c,T.k_Jobs.cl,T.k_Jobs.na _ (by decide),(by show 0<1000;decide),_,rfl,_,rfl,x,cs.Jobs,dx,_,rfl,aG,T.k_Jobs.cl,T.k_Jobs.na _ (by decide),(by show 1<1000;decide),_,rfl,_,rfl,x,cs.Jobs,dx,_,rfl,aG,T.k_Jobs.cl,T.k_Jobs.na _ (by decide),(by show 2<1000;decide),_,rfl,_,rfl,x,cs.Jobs,dx,_,rfl,aG,T.k_Jobs.cl,T.k_Jobs.na _ (by decide),(by show 3<1000;decide),_,rfl,x,cs.Jobs,dx,_,rfl,aG,T.k_Jobs.cl,T.k_Jobs.na _ (by decide),(by show 4<1000;decide),_,rfl,x,cs.Jobs,dx,_,rfl,aG,T.k_Jobs.cl,T.k_Jobs.na _ (by decide),(by show 5<1000;decide),_,rfl,x,cs.Jobs,dx,_,rfl,aG,T.k_Jobs.cl,T.k_Jobs.na _ (by decide),(by show 6<1000;decide),?_⟩;exact k _ (λb a=>by rw[ay a,ay a,ay a,ay a,ay a,ay a,ay a]) (by rw[aG];rfl)
set_option hygiene false
local macro_rules | `(tactic| infer_instance)=>`(tactic| first|((with_reducible show _=_);exact rfl)|(with_reducible first|(show PD _ _ _ _;first|refine' HH ..|refine' GK ..|refine' Fd ..|refine' Kf ..|refine' HK ..|refine' Hc ..|refine' J6 ..|refine' GO ..|refine' HJ ..|refine' IY ..|refine' HA ..|refine' HD ..|refine' GP ..|refine' Jk ..|refine' Ia ..|refine' ID ..|refine' Ks ..|refine' Kz ..|refine' Jc ..|refine' GF ..|refine' Iw ..|refine' CC ..|refine' D4 ..|refine' HQ ..|(show PD _ _ _ (aq (sj _ _) _);apply F9)|refine' Ew ..|(show PD _ _ _ (aq _ _);apply DZ)|refine' Al ..|refine' AD ..|refine' IC ..|refine' G4 ..|refine' BM ..|refine' xU ..|refine' AV ..|refine' EZ ..|refine' E8 ..|refine' Ec ..|refine' DF ..|(show PD _ _ _ (bp _ _ _ _ ah);apply DN)|(show PD _ _ _ (bp _ _ _ _ _);apply EW)|refine' Kj ..|refine' Kq ..|refine' KA ..|refine' Jh ..|refine' J8 ..|refine' HE ..|refine' Gd ..)|(show PAD _ _ _ _;first|refine' BL ..|refine' FU ..)|(show PCD _ _ _ _;first|refine' IA ..|refine' Hj ..|refine' Hi ..|refine' IF ..|refine' HZ ..|refine' Ib ..|refine' E9 ..|refine' Dx ..|refine' El ..|refine' Gw (ym ..)|refine' Gw (Ck ..)|refine' FJ ..)|(show PSD _ _ _ _ _;first|refine' tY ..|refine' CH ..|refine' AE ..|(show PSD _ _ _ _ (pk _ _ _ _ _ _ _);apply DA)|refine' Dy ..|(show PSD _ _ _ (.Assign _ (.ListComp _ _ _ _) _) (aT _ _ (gL _));apply Dr;apply vh;focus with_unfolding_all exact rfl)|(show PSD _ _ _ (.Assign _ (.ListComp _ _ _ _) _) (fc _ _ _);apply Bs;apply vh;focus with_unfolding_all exact rfl)|refine' Fw ..|refine' BN ..|refine' Gh ..|(show PSD _ _ _ _ (pO _ _);apply B3)|refine' Dk ..|refine' FW ..|refine' xJ ..|refine' FD ..|refine' DB ..|(show PSD _ _ _ _ (eQ _ _ _ _);apply Ea)|refine' Ap ..)|(show PBD _ _ _ _ _;first|refine' sR ..|refine' nL ..|refine' iE ..)|(show PLD _ _ _ _;first|(show PLD _ _ _ (a9 _ _ _ _ _);apply BF)|refine' FO ..|refine' zY ..)|(show PID _ _ _ _ _;first|refine' xc ..|refine' Dv ..|refine' Ei ..|refine' Eh ..)|(show PIf _ _ _;first|exact PIf.nil|refine' PIf.one ..)|(show PWD _ _ _ _;first|refine' ym ..|refine' Ck ..|refine' Ce ..|refine' Ep ..)|(show TgS _ _ _ _;first|refine' CI ..|refine' DS ..)|(show POD _ _ _ _;first|refine' Cy ..|refine' C3 ..)|(show PSN _ _ _ _ _ _;first|refine' HM ..|refine' Ac ..|refine' FX ..|refine' wC ..|(show PSN _ _ _ _ _ (kF _ _ _ _ _);apply Cv)|refine' GV ..)|(show PBN _ _ _ _ _ _;first|refine' Ee ..|refine' yx ..|refine' uL ..)) <;> infer_instance|((with_reducible show PBD _ _ _ _ _); first|refine' iE ?_ ?_|refine' nL ?_) <;> infer_instance|((with_reducible show PBN _ _ _ _ _ _); first|refine' uL ?_ ?_|refine' yx ?_) <;> infer_instance|((with_reducible show PG _ _ _); first|refine' tW ?_ ?_ ?_|refine' CY ?_ ?_) <;> infer_instance|((with_reducible show PGs _ _ _); first|refine' oV ?_ ?_|exact yj) <;> infer_instance|exact rfl|((with_reducible show ia _ _ _ _ _ _ _ _ _);(with_reducible refine' ia.to ?z1 ?z2 ?z3);(case z1=>with_reducible assumption);(case z2=>exact⟨rfl,rfl,rfl,rfl,rfl⟩);(case z3=>rfl))|((with_reducible show iA _ _ _ _ _ _ _ _ _ _);(with_reducible refine' iA.to ?z1 ?z2 ?z3);(case z1=>with_reducible assumption);(case z2=>exact⟨rfl,rfl,rfl,rfl,rfl⟩);(case z3=>rfl))|((with_reducible show jt _ _ _ _ _ _ _ _ _);(with_reducible refine' jt.to ?z1 ?z2);(case z1=>with_reducible assumption);(case z2=>exact⟨rfl,rfl,rfl,rfl,rfl⟩))|((with_reducible show oJ _ _ _ _ _ _ _ _ _);(with_reducible refine' oJ.to ?z1 ?z2);(case z1=>with_reducible assumption);(case z2=>exact⟨rfl,rfl,rfl,rfl,rfl⟩))|exact hr|exact Fq|exact vK|exact T.bs _ (by decide +kernel)|exact T.cst (_,_) (by decide +kernel)|exact .inl rfl|exact .inr rfl|exact .inr (.inl rfl)|exact .inr (.inr rfl)|exact nd|exact tX (by kernel_rfl)|exact PassesOwn.leaving|exact DC|exact vt|exact λ_=>rfl|exact λ_ _=>rfl|((with_reducible intro _ _ _ _);infer_instance)|exact T.e_NoComings|exact T.e_NoErrand|exact T.e_NoErrands|exact T.e_NoRanks|exact GD|exact T.k_Holding.cl|exact T.k_Holding.na _ (by decide +kernel)|exact T.k_Jobs.cl|exact T.k_Jobs.na _ (by decide +kernel)|exact A8|exact bt_bool|exact uM|exact tR|exact bY.u1 hr|exact bY.u65 hr|exact hr.units|exact⟨rfl,rfl,rfl,rfl⟩|exact hr.in1.deeper _|exact bY.u1 (hr.in1.deeper _)|decide|with_unfolding_all rfl)
local macro_rules | `(tactic| nofun)=>`(tactic| (try have:=Ar (P:=P) (w:=w) (base:=base) T.toTx;try have:=qA P w T;try have:=wJ P w T;try have:=BK P w T;try have:=iW P w T;try have:=wY P w T;try have:=pL P w T;try have:=xh P w T;try have:=mB P w T;try have:=xM P w T;try have:=nG P w T;try have:=Ae P w T;try have:=uR P w T;try have:=vU P w T;try have:=AG P w T;try have:=qK P w T;try have:=Ic P w T;try have:=Cb P w T;try have:=lU P w T;try have:=oY P w T;try have:=B4 P w T;try have:=lO P w T;try have:=fX P w T;try have:=qO P w T;try have:=wg P w T;try have:=DI P w T;try have:=sP P w T;try have:=mj P w T;try have:=oO P w T;try have:=fT P w T;try have:=iP P w T;try have:=Bd P w T;try have:=JQ P w T;try have:=uH (P:=P) (w:=w) (base:=base) T.toTx;try have:=ml P w T;try have:=qR P w T;try have:=vQ P w T;try have:=tN P w T;try have:=qC P w T))
local macro_rules | `(tactic| and_intros)=>`(tactic| (nofun;intro f cdv A outer s H E nd hr;infer_instance))
theorem AH (T:Tx K mg cs) { aP aU cB aM gf:Gf} {gm_Jobs_go_on:List (Str×PyData)->Option (List (Str×PyData))} (iW:ia P w K mg base 3 "heights_of" 2 aP) (fX:iA P w K mg base 1 cs.Jobs "are_done" 1 aU) (oO:ia P w K mg base 6 "picked" 3 cB) (fT:iA P w K mg base 1 cs.Jobs "is_there" 2 aM) (iP:jt P w K mg base 3 cs.Jobs "go_on" gm_Jobs_go_on) (xS:MkD P w K mg base 1 "Jobs" cs.Jobs JN JT) {Gt:Ds->Sr}
  (hGt:∀δ,Gt δ≠.no->∃d ds fss,Gt δ=.rt d/\5<δ.length/\δ.length=9/\(eK (ae (af 2) ah)) (mask [6] δ)=.ok ds/\ds.length<=1000000/\fss.length=ds.length/\(∀(i:Nat) d,ds[i]?=some d->∃ow fs,jL d=some ow/\fss[i]?=some fs/\(ae (af 9) (ae (g2 dIx (g2 dIx (af 0) (af 9)) (gC (.int 3))) (ae (uy (af 1) (af 9)) (ae (af 10) ah)))) (mask [6] δ++ow)=.ok fs/\fs.length=JN.length) /\
   ∀as:List Addr,as.length=ds.length->as.Nodup->i7 cs aP aU cB aM gm_Jobs_go_on as (δ.set 5 (some (.list (ko cs.Jobs JN JT as fss))))=.rt d)
  (hL:∀ds,ds.length=4->gf ds≠.no->bh (aE (aT [6] 4 (aq aP (ae (af 0) (ae (af 1) ah)))) Gt (ds.map some++List.replicate 5 none))=gf ds):ia P w K mg base 7 "run_of" 4 gf :=
 dA P w base 6 [6] ["errands", "ranks", "rows", "lending", "tops", "queues", "told", "there", "best"] T.f_run_of hL λf cdv A outer s H E nd hr=>iE (by infer_instance) (DY (PS.imp (pJ (i:=5) (M:=["errands", "ranks", "rows", "lending", "tops", "queues", "told", "there", "best"]) (own:=["number", "row"]) (te:=eMk K E0 cs.Jobs JN JT (ae (af 9) (ae (g2 dIx (g2 dIx (af 0) (af 9)) (gC (.int 3))) (ae (uy (af 1) (af 9)) (ae (af 10) ah))))) rfl nd rfl (by first|exact Or.inl rfl|exact Or.inr rfl) rfl (show PID _ E _ _ (eK (ae (af 2) ah)) from by infer_instance) (λ_ _ _ _=>(CY rfl (oV (tW (i:=9) (tX (by kernel_rfl)) rfl (Or.inl rfl) (.inr rfl)) (oV (tW (i:=10) (tX (by kernel_rfl)) rfl (Or.inl rfl) (.inr rfl)) yj)))) (λ_ _ _ _=>.nil) (λ_ _ _ _=>J0 xS hr vK (by infer_instance))) (λD σ H h=>Jl (n0:=9) vt σ H _ h)) (λas=>by delta i7;infer_instance) (by decide) hGt)
variable (P w) (T:Ty K mg cs base)
def qA:=dA P w base 0 [] ["_law_rows", "_law_lower", "_law_come", "_law_last", "_law_most", "_law_found"] T.f_law_is_once (qT cs) (by delta eB;and_intros)
def wJ:=dA P w base 0 [] ["errand", "tool"] T.f_has_tool (xO cs) (by delta i6;and_intros)
def BK:=dA P w base 1 [] ["errands", "ranks", "tool", "place", "number"] T.f_height (Bp cs) (by delta lj;and_intros)
def iW:=dA P w base 2 [] ["errands", "ranks"] T.f_heights_of (tF cs) (by delta gw;and_intros)
def wY:=dA P w base 3 [5] ["errands", "ranks", "number", "place", "tops", "found", "lower", "part", "pair"] T.f_holdings (xt cs) (by delta iR;and_intros)
def pL:=dA P w base 4 [] ["errands", "ranks", "number"] T.f_hold_by_high (oC cs) (by delta eS;and_intros)
def xh:=dA P w base 0 [] ["thing", "least", "most"] T.f_is_whole (xN cs) (by delta iX;and_intros)
def mB:=dA P w base 1 [] ["errands", "number"] T.f_checked_number (lR cs) (by delta dY;and_intros)
def xM:=dA P w base 0 [] ["thing", "fewest", "most"] T.f_is_tuple (xg cs) (by delta iO;and_intros)
def nG:=dA P w base 1 [] ["errands", "ranks", "last"] T.f_checked_ranks (nE cs) (by delta cC;and_intros)
def Ae:=dA P w base 1 [] ["thing"] T.f_is_part (AK cs) (by delta gA;and_intros)
def uR:=dA P w base 2 [] ["thing"] T.f_are_parts (uG cs) (by delta fK;and_intros)
def vU:=dA P w base 3 [] ["thing", "every", "due", "late"] T.f_is_errand (v9 cs) (by delta dO;and_intros)
def AG:=dA P w base 4 [] ["errands"] T.f_checked (An cs) (by delta iM;and_intros)
def qK:=dA P w base 5 [] ["errands", "ranks", "number"] T.f_check_place (qG cs) (by delta fE;and_intros)
def Ic:=dA P w base 6 [] ["errands", "ranks", "number"] T.f_hold (Hl cs) (by delta uB;and_intros)
def Cb:=dA P w base 0 [] ["_law_errand_here", "_law_spent", "_law_k", "_law_part"] T.f_law_at (Dp cs) (by delta jM;and_intros)
def lU:=dA P w base 1 [2,3] ["_law_errands_here", "_law_done", "_law_spent", "_law_rows", "_law_job", "_law_k", "_law_tool", "_law_begun"] T.f_law_parts_done (mz cs) (by delta cW;and_intros)
def oY:=dA P w base 0 [] ["errand", "row", "every", "late", "earliest", "came", "moment"] T.f_have_moments (pz cs) (by delta eW;and_intros)
def B4:=dA P w base 1 [] ["errand", "thing"] T.f_is_row (DK cs) (by delta kP;and_intros)
def lO:=dA P w base 5 [] ["errands", "comings"] T.f_checked_comings (kR cs) (by delta dF;and_intros)
def fX:=dM P w base 0 [] ["self"] (gf:=aU cs) (G:=dB cs) T.k_Jobs.mt_Jobs_are_done T.k_Jobs.cl (mg:=mg) iK (by delta dB;and_intros)
def qO:=dM P w base 0 [] ["self"] (gf:=aJ cs) (G:=eu cs) T.k_Jobs.mt_Jobs_wanted T.k_Jobs.cl (mg:=mg) iK (by delta eu;and_intros)
def wg:=dM P w base 0 [] ["self"] (gf:=aR cs) (G:=fP cs) T.k_Jobs.mt_Jobs_held T.k_Jobs.cl (mg:=mg) iK (by delta fP;and_intros)
def DI:=dA P w base 1 [] ["there", "tool", "jobs"] (gf:=bG cs) (G:=jA cs _) T.f_holder iK (by delta jA;and_intros)
def sP:=dA P w base 2 [1] ["there", "lent", "jobs", "other"] (gf:=cp cs) (G:=gu cs _ _) T.f_lent_ranks iK (by delta gu;and_intros)
def mj:=dA P w base 1 [] ["jobs", "tops", "tool"] (gf:=bO cs) (G:=bV cs _) T.f_height_by_high iK (by delta bV;and_intros)
def oO:=dT (P:=P) (w:=w) 5 [] ["there", "tops", "lending", "free", "lent"] (gf:=cB cs) (G:=jB cs _ _ _ _) T.f_picked T.nm_picked T.tb_picked T.hB T.hK iK λf cdv A outer s H E nd hr c Pt TAB=>by delta jB;nofun;exact (iE (CH (by infer_instance) (nL (tY (qd (N:=["jobs", "tops"]) (p:="jobs") (cap:=[1]) (T.bs _ (by decide)) hr (by infer_instance) TAB (λq c' s H=>(by infer_instance))))) sR)      (iE (by infer_instance)      (iE (by infer_instance)      (nL (tY (qd (N:=["jobs", "lent"]) (p:="jobs") (cap:=[4]) (T.bs _ (by decide)) hr (by infer_instance) TAB (λq c' s H=>(by infer_instance))))))))
def fT:=dM P w base 0 [] ["self", "time"] (gf:=aM cs) (G:=dz cs) T.k_Jobs.mt_Jobs_is_there T.k_Jobs.cl (mg:=mg) iK (by delta dz;and_intros)
def iP:=dK (P:=P) (w:=w) (base:=base) (mg:=mg) 2 ["self"] T.k_Jobs.mt_Jobs_go_on T.k_Jobs.cl (CF cs) λas f cdv A outer s H E nd hr=>by delta gp;nofun;infer_instance
def Bd:=AH (P:=P) (w:=w) (base:=base) T.toTx (iW P w T) (fX P w T) (oO P w T) (fT P w T) (iP P w T) (xS T.toTx) (FK cs) (CN cs)
def JQ:=dA P w base 7 [] ["errands", "ranks", "comings", "lending"] T.f_run (JH cs) (by delta yr;and_intros)
def ml:=dA P w base 2 [6] ["_law_script", "_law_at_here", "_law_errand_here", "_law_span", "_law_seed", "_law_moment", "_law_made", "_law_k", "_law_drawn", "_law_come"] T.f_law_coming_row (mM cs) (by delta cX;and_intros)
def qR:=dA P w base 3 [] ["_law_script", "_law_at_here", "_law_errands_here", "_law_span"] T.f_law_comings (qD cs) (by delta eo;and_intros)
def vQ:=dA P w base 2 [3,4] ["_law_script", "_law_at_here", "_law_many", "_law_left", "_law_made", "_law_k"] T.f_law_ranks (uS cs) (by delta g6;and_intros)
def tN:=dA P w base 2 [7] ["_law_script", "_law_at_here", "_law_top", "_law_tools", "_law_every", "_law_late", "_law_due", "_law_parts", "_law_k", "_law_cell"] T.f_law_errand (tO cs) (by delta gr;and_intros)
def qC:=dA P w base 3 [] ["_law_script", "_law_at_here", "_law_most", "_law_top", "_law_tools", "_law_many"] T.f_law_errands (qQ cs) (by delta fF;and_intros)
theorem law_ok (T:Ty K mg cs base) (F:Fun K "law" "law" (top 55) f fd):gj P w K mg base (CXW P w) 9 f fd ["_law_script"] (spD K 1 (fG 63)) :=
 dL (ps:=["_law_script"]) 8 [] ["_law_script", "_law_errands_here", "_law_ranks_here", "_law_comings_here", "_law_done", "_law_rows", "_law_place", "_law_number", "_law_most", "_law_k", "_law_come", "_law_last"] F (JB cs) (by delta ye;and_intros)
end
end RS
namespace L2
open PySem PySem.Spec PyProof.Rows
theorem Ef {m:Str} {kV dc:Value}
  (hb:∀(kV doc pm:Value) (an:Option Addr) (cdv ct:Value) (us:List Value),us.length=ps.length->bindArgs (PySem.W.fnOf m qual (ff st) (b0 st) (aB st) .none kV doc pm an cdv ct) ⟨us,[]⟩=pure (ps.zip us))
  (hm:Meth K C m f) (l:K.lookup f=some ⟨oc,od,.func (PySem.W.fnOf m qual (ff st) (b0 st) (aB st) .none kV dc pm an cd ct),sl⟩)
  (c:PySem.W.codeIn K cd qual=true) (k:PySem.W.keepIn K (.ref f)=true):∃f fd,Fun K m qual st f fd/\Binds K fd ps []/\Meth K C m f :=
 have F:=xD (st:=st) l c k
 ⟨f,_,F,F.binds hb,hm⟩
end L2
set_option maxHeartbeats 4000000
namespace L2
open PySem PySem.Spec PyProof.Rows
variable {vs:Array Value} {P:Addr}
theorem Dc {o:Obj} (h1:PySem.W.nsIn K mainGlobals x=some (some (.ref f))) (h2:K.lookup f=some ⟨oc,od,.func fd,sl⟩) (h3:fd.code=.ref c) (h4:K.lookup c=some o) (h5:o.data=.fields vs) (h6:vs[11]?=some (.ref P)):PySem.W.tabIn K x=some (c,P):=by obtain⟨cl,di,da,so⟩:=o;cases h5;unfold PySem.W.tabIn;rw[h1];simp only;rw[h2];simp only;rw[h3];simp only;rw[h4];simp only;rw[h6]
theorem zG (hl:kZ=[x]) {p:Program} {d:DefRec} (hr:(recsOf p).find? (λe=>e.name==x)=some d) (hn:PySem.W.noTabs K=true) (T:Top p loose mean mg mb h) (X:K.In h):mO K h:=by
 refine⟨λP q ⟨x',hx,f,oc,od,fd,sl,c,h1,h2,h3,⟨o,vs,h4,h5,h6⟩,hq⟩=>?_,λP q q' ⟨x1,hx1,_,_,_,_,_,_,_,_,_,_,e1⟩ ⟨x2,hx2,_,_,_,_,_,_,_,_,_,_,e2⟩=>?_⟩
 ·rw[hl]at hx;cases Lx.mp hx;have ht:=Dc h1 h2 h3 h4 h5 h6;obtain⟨hc,hp⟩:=PySem.W.tab_of T X hr ht;refine⟨hp,?_,?_⟩
  ·cases z:K.lookup P with
   |none=>rfl
   |some o' =>exfalso;have e:=X P o' z;rw[hp]at e;cases e;have h7:=LD.mp hn (P,_) (PySem.W.mem_of_lookupK z);exact absurd (show false=true from h7) LK
  ·obtain⟨o2,vs2,_,_,_,_,_,_,_,g1,g2,g3,g4,_⟩:=hc;exact⟨c,o2,vs2,g1,g2,g3,g4⟩
 ·rw[hl]at hx1 hx2;rw[e1,e2,Lx.mp hx1,Lx.mp hx2]
theorem Aw {file:Str} {tf:Nat} {flags text:Int} {tg tt:Nat} {inF:Bool} (l:K.lookup c=some ⟨.type "code",od,.fields vs,sl⟩) (h11:vs[11]?=some (.ref P)) (h18:vs.getD 18 .none=.str file tf) (h7:vs.getD 7 .none=.int flags tg) (h9:vs.getD 9 .none=.bool inF) (h10:vs.getD 10 .none=.int text tt) (ne:(c != P)=true):PySem.W.codeHdIn K c P=true:=by unfold PySem.W.codeHdIn;rw[l];simp only;rw[h11,h18,h7,h9,h10,ne];simp
theorem Fc {od2:Option Addr} {sl2:Array (Option Value)} {file:Str} {tf:Nat} {flags text:Int} {tg tt:Nat} {inF:Bool} (h1:PySem.W.nsIn K mainGlobals x=some (some (.ref f))) (h2:K.lookup f=some ⟨oc,od,.func fd,sl⟩) (h3:fd.code=.ref c) (l:K.lookup c=some ⟨.type "code",od2,.fields vs,sl2⟩) (h11:vs[11]?=some (.ref P)) (h18:vs.getD 18 .none=.str file tf) (h7:vs.getD 7 .none=.int flags tg) (h9:vs.getD 9 .none=.bool inF) (h10:vs.getD 10 .none=.int text tt) (ne:(c != P)=true):EO K x :=
 ⟨f,oc,od,fd,sl,c,P,_,vs,h1,h2,h3,l,rfl,h11,Aw l h11 h18 h7 h9 h10 ne⟩
theorem xI (hl:kZ=[x]) {p:Program} (hr:((recsOf p).find? (λe=>e.name==x)).isSome=true) (hn:PySem.W.noTabs K=true) (T:Top p loose mean mg mb h) (X:K.In h):mO K h:=by obtain⟨d,hd⟩:=Option.isSome_iff_exists.mp hr;exact zG hl hd hn T X
end L2
set_option hygiene false
local macro_rules | `(tactic| and_intros)=>`(tactic| first|(refine' RS.Ca KX G (λ_ _ _ _ _ _ us hl=>by obtain⟨f,rfl⟩:=RS.Aj PySem.Value.none hl;rfl) ?za ?zl ?zc ?zk;(case za=>k_is);(case zl=>k_is);(case zc=>k_is);(case zk=>k_is))|(refine' L2.Ef (λ_ _ _ _ _ _ us hl=>by obtain⟨f,rfl⟩:=RS.Aj PySem.Value.none hl;rfl) ⟨?zm,?zf,?zp⟩ ?zl ?zc ?zq;(case zm=>k_is);(case zf=>k_is);(case zp=>k_is);(case zl=>k_is);(case zc=>k_is);(case zq=>k_is))|(refine' PySem.W.mg_of KX G ?za;(case za=>k_is))|(refine' PySem.W.mg_none_of KX G ?zz;(case zz=>k_is))|(refine' RS.Eo KX G ?zz;(case zz=>k_is))|(refine' RS.yp KX G ?za ?ze;(case za=>k_is);(case ze=>k_exc))|(refine'⟨_,RS.yp KX G ?za ?ze⟩;(case za=>k_is);(case ze=>k_exc))|(refine'⟨?zp,?zh,?zo,?zs⟩;(case zp=>k_is);(case zh=>k_is);(case zo=>k_is);(case zs=>k_is))|(refine' L2.Fs (λ_ _ _ _ _ _ us hl=>by obtain⟨f,rfl⟩:=RS.Aj PySem.Value.none hl;rfl) ?za ?zi ?zl ?zc ?zk ?zm ?zx;(case za=>k_is);(case zi=>k_is);(case zl=>k_is);(case zc=>k_is);(case zk=>k_is);(case zm=>k_is);(case zx=>k_is))|exact List.forall_mem_nil _|((first|refine List.forall_mem_cons.2 ⟨?_,?_⟩|refine List.forall_mem_singleton.2 ?_) <;> (try dsimp only) <;> and_intros)|(refine' L2.Fc ?za ?zb ?zc ?zd ?ze ?zf ?zg ?zh ?zi ?zj;(case za=>k_is);(case zb=>k_is);(case zc=>exact rfl);(case zd=>k_is);(case ze=>exact rfl);(case zf=>exact rfl);(case zg=>exact rfl);(case zh=>exact rfl);(case zi=>exact rfl);(case zj=>decide))|exact λg e=>PySem.W.mg_of KX G e|(delta L2.eU;k_is)|(dsimp only;and_intros))
open PySem PySem.W PyProof.Rows
set_option maxRecDepth 100000 in
set_option maxHeartbeats 0 in
theorem PySem.Challenge.cw_ranksure_k08_whole_waits_once_holds : PySem.Challenge.rw_ranksure_k08_whole_waits_once.Holds := by
 refine RS.hdTop ?_
 k_fill
 refine RS.JW (l:=PySem.Challenge.rw_ranksure_k08_whole_waits_once) (n:=63) (k:=9) (x:="_law_script") (st:=RS.top 55) rfl (by decide) rfl ⟨rfl,by decide,by decide⟩ (λw h Y=>PySem.W.km_in_of Y) (λ_ _ _ _ _ _ us hl=>by obtain⟨f,rfl⟩:=RS.Aj PySem.Value.none hl;rfl) ?F (λw h l m mg mb T X=>L2.xI (x:="picked") rfl (by kernel_rfl) (by kernel_rfl) T X)
 case F =>
  intro w mg h KX G;obtain⟨c_NoComings,h_NoComings⟩:∃C,L2.qL (L2.KOf KX) mg "NoComings" C:=by delta L2.KOf;and_intros
  obtain⟨c_NoErrand,h_NoErrand⟩:∃C,L2.qL (L2.KOf KX) mg "NoErrand" C:=by delta L2.KOf;and_intros
  obtain⟨c_NoErrands,h_NoErrands⟩:∃C,L2.qL (L2.KOf KX) mg "NoErrands" C:=by delta L2.KOf;and_intros
  obtain⟨c_NoRanks,h_NoRanks⟩:∃C,L2.qL (L2.KOf KX) mg "NoRanks" C:=by delta L2.KOf;and_intros
  obtain⟨c_Holding,h_Holding,k_Holding⟩:∃C,mg "Holding"=some (.ref C)/\RS.oh (L2.KOf KX) C:=by
   delta L2.KOf
   refine'⟨_,PySem.W.mg_of KX G ?za,⟨?zp,?zh,?zo,?zs⟩,?yHolding0,?yHolding1⟩
   (case za=>k_is);(case zp=>k_is);(case zh=>k_is);(case zo=>k_is);(case zs=>k_is);all_goals and_intros
  obtain⟨c_Jobs,h_Jobs,k_Jobs⟩:∃C,mg "Jobs"=some (.ref C)/\RS.yw (L2.KOf KX) C:=by
   delta L2.KOf
   refine'⟨_,PySem.W.mg_of KX G ?za,⟨?zp,?zh,?zo,?zs⟩,?yJobs0,?yJobs1,?yJobs2,?yJobs3,?yJobs4,?yJobs5,?yJobs6⟩
   (case za=>k_is);(case zp=>k_is);(case zh=>k_is);(case zo=>k_is);(case zs=>k_is);all_goals and_intros
  have T:RS.Tx (L2.KOf KX) mg ⟨0,c_NoErrands,c_NoRanks,c_NoComings,c_NoErrand,0,0,0,c_Holding,c_Jobs⟩:=by constructor <;> first|assumption|((try delta L2.KOf);and_intros)
  exact⟨T.f_law,λf fd F base hb hn hB=>RS.law_ok _ _ ⟨T,hB,hb⟩ F⟩
end
