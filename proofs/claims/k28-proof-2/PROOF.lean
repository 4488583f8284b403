import PyProof.Rows.All
import OpenK.AllK
import PySem.Challenge.RW_ranksure_k28_whole_stretch
import KE.RegKIsAll
import Wide.All
import OpenK.KWalk
import OpenK.KMake
import OpenK.KDescr
import OpenK.KCall
import OpenK.KOwn
import KE.KIsAll
import KE.KItem
import KE.KxBytes
import Wide.FinOn
import Lean
import PyProof.EqAt
import PyProof.EqKinds
import PyProof.TupleCall
import KE.KLam
import KE.LcSums
import PyProof.Rows.EqDataRows
import PyProof.RulesAs
import PyProof.ZipIter
import PyProof.Draws
import KE.KMinKey
import PyProof.Rows.TupAdd
import PyProof.ListMulRoad
import PyProof.AutoListH
import PyProof.Rows.Range3
import PyProof.ListRange
import PyProof.EnumMake
import PyProof.EnumFor
import PyProof.Rows.SetFrom
import PyProof.WalksMore
import PyProof.StrOps2
import PyProof.Rows.MinMaxN
import PyProof.ConsumeWalk
import PyProof.Rows.SortWalk
import PyProof.ExcArgsOwn
import PyProof.StrBlock2
import PyProof.Rows.CallKwBuiltin
import KE.KDictLaws
import KE.KDictMeth
import KE.KDictObj
import KE.KDictLetter
import OpenK.KDict
import KE.KDictOf
import PyProof.Rows.RegDictMethods
import PySem.PyData
import KE.KNestM
noncomputable section
set_option genSizeOf false
set_option genSizeOfSpec false
set_option genInjectivity false
set_option compiler.extract_closed false
set_option bootstrap.genMatcherCode false
set_option Elab.async false
set_option linter.all false
abbrev K0:=@List.mem_cons_of_mem
abbrev K1:=@List.map_cons
abbrev K2:=@PySem.Heap.get?_push_of_some
abbrev K3:=@List.getElem?_eq_getElem
abbrev K4:=@List.mem_cons_self
abbrev K5:=@List.length_map
abbrev K6:=@List.mem_cons
abbrev K7:=@List.mem_append_right
abbrev K8:=@Nat.le_refl
abbrev K9:=@Bool.and_eq_true
abbrev KR:=@PySem.Heap.lt_size
abbrev KS:=@List.mem_map
abbrev KU:=@List.length_append
abbrev KW:=@List.mem_singleton
abbrev KY:=@Nat.ne_of_lt
abbrev KZ:=@PySem.Heap.get?_push_size
abbrev L0:=@List.size_toArray
abbrev L1:=@Nat.lt_of_lt_of_le
abbrev L3:=@List.map_map
abbrev L4:=@List.all_eq_true
abbrev L5:=@Bool.false_eq_true
abbrev L6:=@List.length_cons
abbrev L7:=@List.not_mem_nil
abbrev L8:=@List.map_congr_left
abbrev L9:=@Bool.false_ne_true
abbrev La:=@List.getElem?_append_left
abbrev Lb:=@List.getElem?_map
abbrev Lc:=@List.length_singleton
abbrev Ld:=@List.lookup_cons
abbrev Le:=@List.getElem?_append_right
abbrev Lf:=@List.getElem?_set_ne
abbrev Lg:=@List.mem_append
abbrev Lh:=@List.getD_eq_getElem?_getD
abbrev Li:=@List.sum_cons
abbrev Lj:=@List.getElem?_eq_some_iff
abbrev Lk:=@List.cons_append
abbrev Ll:=@Int.toNat_natCast
abbrev Lm:=@List.mem_append_left
abbrev Ln:=@List.nil_append
abbrev Lo:=@Int.mul_le_mul_of_nonneg_right
abbrev Lp:=@List.getElem?_set_self
abbrev Lq:=@List.mem_filter
abbrev Lr:=@List.nodup_cons
abbrev Lu:=@List.mem_of_getElem?
abbrev Lv:=@Bool.and_eq_false_iff
abbrev Lw:=@Nat.zero_le
abbrev Lx:=@Bool.and_eq_true_iff
abbrev Ly:=@List.eq_nil_of_length_eq_zero
abbrev Lz:=@Nat.le_trans
abbrev LA:=@Nat.ne_of_gt
abbrev LB:=@Nat.le_add_right
abbrev LC:=@List.getElem_mem
abbrev LD:=@Int.le_refl
abbrev LF:=@Nat.lt_succ_of_lt
abbrev LG:=@List.map_append
abbrev LH:=@List.find?_cons
abbrev LI:=@List.replicate_succ
abbrev LJ:=@List.map_id
abbrev LK:=@List.filter_cons
abbrev LL:=@List.append_nil
abbrev LM:=@List.length_nil
abbrev LN:=@Int.emod_nonneg
abbrev LO:=@List.length_pos_iff
abbrev LP:=@Int.toNat_of_nonneg
abbrev LQ:=@List.mem_range
abbrev LR:=@Nat.lt_succ_self
abbrev LS:=@List.map_nil
abbrev LU:=@Int.emod_lt_of_pos
abbrev LV:=@List.findIdx?_cons
abbrev LW:=@Int.ediv_nonneg
abbrev LX:=@Nat.lt_irrefl
abbrev LY:=@List.all_cons
abbrev LZ:=@List.flatten_cons
abbrev M0:=@List.length_range
abbrev M1:=@List.getElem?_mapIdx
abbrev M3:=@List.findIdx?_eq_some_iff_getElem
abbrev M4:=@List.length_eq_zero_iff
abbrev M5:=@List.getElem?_cons_succ
abbrev M6:=@List.getElem?_cons_zero
abbrev M7:=@List.any_cons
abbrev M8:=@Bool.and_true
abbrev M9:=@Option.map_some
abbrev Ma:=@Int.natCast_nonneg
abbrev Mb:=@List.pairwise_cons
abbrev Mc:=@Option.map_eq_some_iff
abbrev Md:=@Int.add_mul_ediv_right
abbrev Me:=@Int.ediv_eq_zero_of_lt
abbrev Mf:=@List.append_assoc
abbrev Mg:=@List.getElem?_eq_none
abbrev Mh:=@Nat.zero_add
abbrev Mi:=@Option.bind_some
abbrev Mj:=@List.getElem_map
abbrev Ml:=@Nat.le_succ
abbrev Mm:=@List.filterMap_cons
abbrev Mn:=@List.of_mem_zip
abbrev Mo:=@List.forIn_cons
abbrev Mp:=@List.drop_eq_getElem_cons
abbrev Mq:=@List.zip_cons_cons
abbrev Mr:=@List.set_cons_succ
abbrev Ms:=@List.set_cons_zero
abbrev Mt:=@List.getElem?_replicate
abbrev Mu:=@PySem.Heap.get?_update_other
abbrev Mv:=@Bool.true_and
abbrev Mw:=@List.ext_getElem
abbrev Mx:=@Array.getElem?_toList
abbrev My:=@List.set_append_right
abbrev Mz:=@List.length_filter_le
abbrev MA:=@Int.ediv_lt_of_lt_mul
abbrev MB:=@List.getElem?_of_mem
abbrev MC:=@Int.mul_le_mul_of_nonneg_left
abbrev MD:=@Array.length_toList
abbrev ME:=@List.getElem?_range
abbrev MF:=@List.take_succ_cons
abbrev MG:=@Bool.not_false
abbrev MH:=@Int.add_mul
abbrev MI:=@Int.one_mul
abbrev MJ:=@List.mem_filterMap
abbrev MK:=@List.find?_eq_none
abbrev ML:=@Int.lt_of_lt_of_le
abbrev MM:=@Bool.not_true
abbrev MN:=@List.nodup_append
abbrev MO:=@Nat.le_of_lt
abbrev MP:=@List.drop_length
abbrev MQ:=@List.range'_succ
abbrev MR:=@List.any_eq_true
namespace RS
open PySem PySem.W PyProof.Rows
def AX (p:Program) (w:World) (m:Nat) (ann:Option Value):Nat->SharedT->Thread->Option SharedT
 | 0,_,_=>none
 | n+1,s,t=>match through t with
  | true=>some s
  | false=>match Fast.tw6613529449190102663 m ann t with
   | false=>none
   | true=>match Fast.tw10156331382660048174 (Fast.tw11892475500146522536 Fast.tw14364793385576792824) p w s t with
    | some x=>AX p w m ann n x.1 x.2
    | none=>none
theorem xh {p:Program} {w:World} {m:Nat} {ann:Option Value}:∀ {n:Nat} {s s':SharedT} {t:Thread},AX p w m ann n s t=some s'->topRun treeTable p w m ann n s.abs t=some s'.abs
 | 0,_,_,_,h=>by cases h
 | n+1,s,s',t,h=>by
  unfold AX at h;rw [<-Fast.te6613529449190102663,<-Fast.te10156331382660048174,<-Fast.te11892475500146522536,<-Fast.te14364793385576792824] at h;unfold topRun;cases ht:through t with
  | true=>rw [ht] at h;cases h;rfl
  | false =>
   rw [ht] at h;cases hk:stepOk m ann t with
   | false=>rw [hk] at h;cases h
   | true =>
    rw [hk] at h;cases hs:stepT (denote treeTable) p w s t with
    | none=>rw [hs] at h;cases h
    | some x =>rw [hs] at h;rw [stepT_spec (s':=x.1) (t':=x.2) hs];exact xh h
def Ig (l:List Obj):BT:=(l.foldl (fun x o=>(x.1.ins x.2 o,x.2+1)) (BT.nil,0)).1
def hdS (w:World) (os:OsState):SharedT:=⟨Ig (boot_heap w.params).objs.toList,11,(boot_heap w.params).life,Array.mk [],boot_drawn,boot_toks,os⟩
theorem EV (w:World):(fun os=>(hdS w os).abs)=fun os=>⟨boot_heap w.params,Array.mk [],boot_drawn,boot_toks,os⟩:=by kernel_rfl
theorem Hw (w:World):((boot_heap w.params).isNs mainGlobals&&(Array.mk []:Array GenState).size==0,(boot_heap w.params).objs.size,(boot_heap w.params).nsMap mainGlobals "__annotations__")=(true,11,some (.ref 6)):=by kernel_rfl
def DJ (p q:Program) (loose:List Str) (Xt:Shared->Bool) {α:Type} (Yf:Shared->α) (h:Heap) (s:Shared) :=
 (staticsOk (importedModules p.main.body) h s.heap&&namesBound p s.heap&&gensDone s&&laidKept h s.heap,Fast.tw4187177175401517315 q loose (importedModules p.main.body) Xt true s,Yf s)
theorem Hc {p q:Program} {loose:List Str} {Xt:Shared->Bool} {α:Type} {Yf:Shared->α} {Ya:World->α} {N M:Nat}
  (e:opening p=plainProg p.main.scope.names) (hN:Nat.ble 600 N=true) (f:∀ s,fenceModules? p s=some s) (le:Nat.ble M N=true)
  (h:∀ w,(fun os=>(AX p w 11 (some (.ref 6)) M (hdS w os) (topStub p)).map fun s=>DJ p q loose Xt Yf (boot_heap w.params) s.abs)=fun _=>some (true,openGood q loose,Ya w)):LeftO p q loose Xt Yf Ya N:=fun w=>by
 obtain ⟨⟨hp,gs,d,k,os⟩,e1,e'⟩:=Mc.mp (boot_open e hN f w);obtain ⟨rfl,rfl,rfl,rfl⟩:hp=boot_heap w.params/\gs=Array.mk []/\d=boot_drawn/\k=boot_toks:=by simpa using e'
 obtain ⟨z1,z2,z3⟩:_/\_/\_:=by simpa only [Prod.mk.injEq] using Hw w
 obtain ⟨s,hs,hv⟩:=Mc.mp (congrFun (h w) os);obtain ⟨l1,l2,l3⟩:_/\_/\_:=by simpa only [DJ,<-Fast.te4187177175401517315,Prod.mk.injEq] using hv
 have r:=xh hs;rw [congrFun (EV w) os] at r;have r:=topRun_mono (N-M) _ _ _ _ r;rw [show M+(N-M)=N by have:=Nat.le_of_ble_eq_true le;omega] at r;unfold openEnds;rw [e1];show (topFrom treeTable p w N _).map _=_;have t:topFrom treeTable p w N ⟨boot_heap w.params,Array.mk [],boot_drawn,boot_toks,os⟩=some s.abs:=by unfold topFrom;dsimp only;rw [z1,z2,z3,r];show (match staticsOk (importedModules p.main.body) (boot_heap w.params) s.abs.heap&&namesBound p s.abs.heap&&gensDone s.abs&&laidKept (boot_heap w.params) s.abs.heap with | true=>_ | false=>_)=_;rw [l1]
 rw [t];exact congrArg some (Prod.ext l2 l3)
end RS
section
open PySem PySem.W PyProof.Rows
def RS.vw:Program:=view PySem.Challenge.pw_ranksure_k28_whole_stretch [1,2,3,4,6,7,8,9,10,11,12,13,14,15,16,17,18,19,20,21,22,23,25,26,27,29,30,31,32,33,34,35,36,37,38,39,40,42,43,44,45,46,47,48,49,50,51]
local macro_rules | `(tactic| o_head $H)=>`(tactic| (refine holds_open (N:=4692) (Xt:=fun s=>xlAt RS.vw [] s&&recOk (RowW.records (OpenRow.toRowW (OpenLaw.row PySem.Challenge.rw_ranksure_k28_whole_stretch))) s) (XP:=XL RS.vw []) (q:=RS.vw) (loose:=[]) (Yf:=Hook.obs $H) (Ya:=Hook.val $H) (YP:=Hook.says $H) ?hl (Hook.of $H) (Hook.keeps $H) (fun s e=>xl_of s (Lx.mp e).1) XL.keeps (by rfl) (by rfl) (by rfl) (fun s e=>recFacts_of (Lx.mp e).2) (by rfl) (by assumption) (by decide +kernel) ⟨rfl,rfl,rfl,rfl,rfl,by decide +kernel⟩ ?hw ?hc;(case hl=>refine RS.Hc (M:=2396) (by kernel_rfl) (by rfl) (by intro s;kernel_rfl) (by rfl) fun w=>?_;kernel_rfl)))
set_option maxRecDepth 100000 in
set_option maxHeartbeats 0 in
open_top RS.hdTop for PySem.Challenge.rw_ranksure_k28_whole_stretch
end
set_option maxRecDepth 100000
namespace L2
open PySem PySem.Spec PyProof.Rows
abbrev Key:=Sum Int Str
def uR:Key->Value->Bool
 | .inl k,v=>Value.isInt k v
 | .inr x,v=>Value.isStrOf x v
def ze (w:World):Key->Int
 | .inl k=>hashInt k
 | .inr x=>hashStr w x
theorem dM:∀ {k:Key} {v:Value},uR k v=true->(∃ i t,k=Sum.inl i/\v=Value.int i t)\/(∃ x t,k=Sum.inr x/\v=Value.str x t)
 | .inl i,v,h=>by obtain ⟨t,e⟩:=Value.isInt_shape (k:=i) (v:=v) h;exact .inl ⟨i,t,rfl,e⟩
 | .inr x,v,h=>by obtain ⟨t,e⟩:=Value.isStrOf_shape (x:=x) (v:=v) h;exact .inr ⟨x,t,rfl,e⟩
theorem Bf (i:Int) (t:Tok):uR (.inl i) (.int i t)=true:=by simp [uR,Value.isInt]
theorem BS (x:Str) (t:Tok):uR (.inr x) (.str x t)=true:=by simp [uR,Value.isStrOf]
theorem HW (a b:Int):decide ((Sum.inl a:Key)=Sum.inl b)=(a==b):=by
 by_cases e:a=b
 ·subst e;simp
 ·have h:¬ (Sum.inl a:Key)=Sum.inl b:=fun q=>e (Sum.inl.inj q)
  rw [decide_eq_false h];exact (beq_eq_false_iff_ne.mpr e).symm
theorem Ij (a b:Str):decide ((Sum.inr a:Key)=Sum.inr b)=decide (a=b):=by
 by_cases e:a=b
 ·subst e;simp
 ·have h:¬ (Sum.inr a:Key)=Sum.inr b:=fun q=>e (Sum.inr.inj q)
  rw [decide_eq_false h,decide_eq_false e]
theorem ID (a:Int) (b:Str):decide ((Sum.inl a:Key)=Sum.inr b)=false:=decide_eq_false (fun q=>nomatch q)
theorem Hg (a:Str) (b:Int):decide ((Sum.inr a:Key)=Sum.inl b)=false:=decide_eq_false (fun q=>nomatch q)
def d7 (prog:Program) (w:World):PySem.KeyKind prog w Key where
 is:=uR
 hash:=ze w
 inj:=fun v a b ha hb=>by
  rcases dM ha with ⟨i,t,rfl,rfl⟩ | ⟨x,t,rfl,rfl⟩
  ·rcases dM hb with ⟨j,u,rfl,e⟩ | ⟨y,u,rfl,e⟩
   ·injection e with e1 _;rw [e1]
   ·exact nomatch e
  ·rcases dM hb with ⟨j,u,rfl,e⟩ | ⟨y,u,rfl,e⟩
   ·exact nomatch e
   ·injection e with e1 _;rw [e1]
 byValue:=fun k v h=>by rcases dM h with ⟨i,t,rfl,rfl⟩ | ⟨x,t,rfl,rfl⟩ <;> rfl
 pyHash:=fun hv h=>by
  rcases dM hv with ⟨i,t,rfl,rfl⟩ | ⟨x,t,rfl,rfl⟩
  ·exact wpAny_pyHash_int h
  ·exact wpAny_pyHash_str h
 eqBool:=fun hu hv h=>by
  rcases dM hu with ⟨i,t,rfl,rfl⟩ | ⟨x,t,rfl,rfl⟩
  ·rcases dM hv with ⟨j,u,rfl,rfl⟩ | ⟨y,u,rfl,rfl⟩
   ·rw [HW] at h;exact wpAny_eqBool_int h
   ·rw [ID] at h;exact SeqAt.EqAt.int_str i t y u _ _ _ _ h
  ·rcases dM hv with ⟨j,u,rfl,rfl⟩ | ⟨y,u,rfl,rfl⟩
   ·rw [Hg] at h;exact SeqAt.EqAt.str_int x t j u _ _ _ _ h
   ·rw [Ij] at h;exact wpAny_eqBool_str h
 «strs»:=fun k x t v h=>by
  rcases dM h with ⟨i,u,rfl,e⟩ | ⟨y,u,rfl,e⟩
  ·exact nomatch e
  ·injection e with e1 _
   subst e1;cases v <;> rfl
theorem wN (prog:Program) (w:World) (i:Int) (t:Tok):(d7 prog w).is (.inl i) (.int i t)=true:=Bf i t
theorem yq (prog:Program) (w:World) (x:Str) (t:Tok):(d7 prog w).is (.inr x) (.str x t)=true:=BS x t
inductive V where
 | non | bl (b:Bool) | int (i:Int) | str (x:Str) | byt (b:Array UInt8) | flt (b:UInt64) | ref (a:Addr) | ty (n:String)
 deriving DecidableEq
def RelV:V->Value->Prop
 | .non,u=>u=Value.none
 | .bl b,u=>u=Value.bool b
 | .int i,u=>∃ t,u=Value.int i t
 | .str x,u=>∃ t,u=Value.str x t
 | .byt b,u=>∃ t,u=Value.bytes b t
 | .flt b,u=>∃ t,u=Value.float b t
 | .ref a,u=>u=Value.ref a
 | .ty n,u=>u=Value.type n
abbrev Vals:List V->List Value->Prop:=Paired RelV
theorem Vals.length {xs:List V} {us:List Value} (r:Vals xs us):xs.length=us.length:=Paired.length r
theorem Vals.get:∀ {xs:List V} {us:List Value} {i:Nat} {x:V},Vals xs us->xs[i]?=some x->∃ u,us[i]?=some u/\RelV x u
 | _,_,_,_,.nil,e=>by simp at e
 | _,_,0,_,.cons r _,e=>by simp at e;subst e;exact ⟨_,rfl,r⟩
 | _,_,i+1,x,.cons _ t,e=>by obtain ⟨u,h1,h2⟩:=Vals.get (i:=i) (x:=x) t (by simpa using e);exact ⟨u,by simpa using h1,h2⟩
theorem Vals.set {x:V} {u:Value} (r:RelV x u):∀ {xs:List V} {us:List Value} (i:Nat),Vals xs us->Vals (xs.set i x) (us.set i u)
 | _,_,_,.nil=>.nil
 | _,_,0,.cons _ t=>.cons r t
 | _,_,i+1,.cons q t=>.cons q (Vals.set r i t)
theorem Vals.append {xs ys:List V} {us ws:List Value} (h:Vals xs us) (s:Vals ys ws):Vals (xs++ys) (us++ws):=by
 induction h with
 | nil=>exact s
 | cons r t ih=>exact .cons r ih
theorem Vals.take:∀ {xs:List V} {us:List Value} (n:Nat),Vals xs us->Vals (xs.take n) (us.take n)
 | _,_,0,_=>.nil
 | _,_,_+1,.nil=>.nil
 | _,_,n+1,.cons r t=>.cons r (Vals.take n t)
theorem Vals.drop:∀ {xs:List V} {us:List Value} (n:Nat),Vals xs us->Vals (xs.drop n) (us.drop n)
 | _,_,0,r=>r
 | _,_,_+1,.nil=>.nil
 | _,_,n+1,.cons _ t=>Vals.drop n t
def lL:Option V->Option Value->Prop
 | some v,some u=>RelV v u
 | none,none=>True
 | _,_=>False
def KV {κ:Type}:List (κ×V)->List (κ×Value)->Prop:=Paired fun (p:κ×V) (q:κ×Value)=>p.1=q.1/\RelV p.2 q.2
def kV:Key->V
 | .inl i=>.int i
 | .inr x=>.str x
inductive HO where
 | lst (xs:List V)
 | tup (xs:List V)
 | dK (kvs:List (Key×V)) | dT (kvs:List (List Key×V))
 | set (S:Int->Bool) (n:Nat)
 | ins (C dx:Addr) (fs:List (Str×V))
 | own (x:Addr)
 | xd (fs:List (Str×V))
 | met (f x:Addr)
 | rng (lo hi:Int)
 | frz (o:Obj) (u:HO)
 | tbl (q:Str)
 | ext (φ:Heap->Prop)
abbrev Hp:=Addr->Option HO
def upd (H:Hp) (a:Addr) (o:HO):Hp:=fun b=>if b=a then some o else H b
theorem aV {H:Hp} {a:Addr} {o:HO}:upd H a o a=some o:=by unfold upd;rw [if_pos rfl]
theorem aL {H:Hp} {a b:Addr} {o:HO} (h:b≠a):upd H a o b=H b:=by unfold upd;rw [if_neg h]
theorem Jg {H:Hp} {a b:Addr} {o u:HO} (h:H a=some o) (h':H b=some u) (d:o≠u):a≠b:=by intro e;subst e;rw [h] at h';exact d (Option.some.inj h')
theorem aX {H:Hp} {a b:Addr} {o:HO} (h:H a=some o) (h':H b=none):a≠b:=by intro e;subst e;rw [h] at h';cases h'
def xF (h:Heap) (a:Addr) (items:Array Value):Prop:=∃ o,h.get? a=some o/\o.cls=.type "tuple"/\o.dict=none/\∃ n,o.data=.seq items n
theorem xF.tup {h:Heap} {a:Addr} {items:Array Value} (x:xF h a items):IsTup h a items:=by obtain ⟨o,e,c,_,n,d⟩:=x;exact ⟨o,e,c,n,d⟩
theorem xF.new (h:Heap) (items:Array Value):xF (h.push { cls:=.type "tuple",data:=.seq items }) h.objs.size items:=⟨_,KZ _ rfl,rfl,rfl,_,rfl⟩
section
variable (P:Program) (w:World)
def dX (H:Hp) (h:Heap) (a:Addr):HO->Prop
 | .lst xs=>xs.length<=sizeLine/\∃ (its:List Value) (n:Nat),Vals xs its/\h.get? a=some { cls:=.type "list",data:=.seq its.toArray n }
 | .tup xs=>xs.length<=sizeLine/\∃ its:List Value,Vals xs its/\xF h a its.toArray
 | .dK kvs=>kvs.length<=sizeLine/\(a==sysModules)=false/\∃ vs,KV kvs vs/\h.DictOf (d7 P w) a vs
 | .dT kvs=>kvs.length<=sizeLine/\(a==sysModules)=false/\∃ xs:List (List Key×Addr×Value),
  Paired (fun (p:List Key×V) (q:List Key×Addr×Value)=>p.1=q.1/\H q.2.1=some (.tup (p.1.map kV))/\RelV p.2 q.2.2) kvs xs /\
  ∃ o es ep,h.get? a=some o/\o.ExactDict/\o.data=.dict es ep/\es.toList=xs.map (entryOfKey (tupleKind (d7 P w)))/\(xs.map (·.1)).Nodup
 | .set S n=>h.SetOf (intKind P w) a S n
 | .ins C dx fs=>H dx=some (.own a)/\fs.length<=1000/\dx≠a/\h.get? a=some (PySem.W.instObj C dx) /\
  ∃ mA,h.Ns1 dx mA/\(∀ f,lL (fs.lookup f) (mA f))/\PySem.Within mA (fs.map (·.1))
 | .own _=>∃ o,h.get? a=some o
 | .xd fs=>∃ mA,h.Ns1 a mA/\∀ f,lL (fs.lookup f) (mA f)
 | .rng lo hi=>∃ t u v,h.get? a=some { cls:=.type "range",data:=.fields #[.int lo t,.int hi u,.int 1 v] }
 | .frz o u=>h.get? a=some o/\dX H h a u
 | .tbl q=>∃ ps:Array Value,h.get? a=some { cls:=.none,data:=.fields ps }/\TriplesOk ps.toList/\∀ pos cv,codeAmong pos ps.toList=some cv->∃ c' o vs t,cv=.ref c'/\H c'=some (.frz o (.own c'))/\o.data=.fields vs/\vs[1]?=some (.str q t)
 | .met f x=>h.get? a=some (PySem.W.methodObj (.ref f) (.ref x))
 | .ext φ=>φ h/\(∃ o,h.get? a=some o)/\∀ h1 h2:Heap,φ h1->(∀ o,h1.get? a=some o->h2.get? a=some o)->φ h2
def HOk (H:Hp) (h:Heap):Prop:=∀ a o,H a=some o->dX P w H h a o
end
section
variable {P:Program} {w:World} {H H':Hp} {h h':Heap} {a:Addr} {o:HO}
theorem dX.lt (x:dX P w H h a o):a<h.objs.size:=by
 cases o with
 | lst xs=>obtain ⟨_,_,_,_,e⟩:=x;exact KR e
 | tup xs=>obtain ⟨_,_,_,p⟩:=x;exact p.tup.lt
 | dK kvs=>obtain ⟨_,_,_,_,o,_,_,e,_⟩:=x;exact KR e
 | dT kvs=>obtain ⟨_,_,_,_,o,_,_,e,_⟩:=x;exact KR e
 | set S n=>obtain ⟨o,_,_,_,e,_⟩:=x;exact KR e
 | ins C dx fs=>obtain ⟨_,_,_,e,_⟩:=x;exact KR e
 | own y=>obtain ⟨_,e⟩:=x;exact KR e
 | xd fs=>obtain ⟨_,⟨_,_,_,e,_⟩,_⟩:=x;exact KR e
 | rng lo hi=>obtain ⟨_,_,_,e⟩:=x;exact KR e
 | frz ob u=>obtain ⟨e,_⟩:=x;exact KR e
 | tbl q=>obtain ⟨_,e,_⟩:=x;exact KR e
 | met f y=>exact KR (show h.get? a=some _ from x)
 | ext φ=>obtain ⟨_,⟨_,e⟩,_⟩:=x;exact KR e
theorem Paired.mapP {α β:Type} {F G:α->β->Prop} {l₁:List α} {l₂:List β} (h:Paired F l₁ l₂) (f:∀ a b,F a b->G a b):Paired G l₁ l₂:=by
 induction h with
 | nil=>exact .nil
 | cons r t ih=>exact .cons (f _ _ r) ih
theorem dX.stay (x:dX P w H h a o) (k:∀ b u,(b=a\/H b=some (.own a))->h.get? b=some u->h'.get? b=some u)
  (ho:∀ b,H b=some (.own a)->H' b=some (.own a)) (ht:∀ b xs,H b=some (.tup xs)->H' b=some (.tup xs)) (hf:∀ b o u,H b=some (.frz o u)->H' b=some (.frz o u):=by exact fun _ _ _ q=>q):dX P w H' h' a o:=by
 induction o with
 | lst xs=>obtain ⟨z,its,n,r,e⟩:=x;exact ⟨z,its,n,r,k _ _ (.inl rfl) e⟩
 | tup xs=>obtain ⟨z,its,r,ob,e,c⟩:=x;exact ⟨z,its,r,ob,k _ _ (.inl rfl) e,c⟩
 | dK kvs=>obtain ⟨z,y,vs,r,ob,es,ep,e,c⟩:=x;exact ⟨z,y,vs,r,ob,es,ep,k _ _ (.inl rfl) e,c⟩
 | dT kvs =>obtain ⟨z,y,xs,r,ob,es,ep,e,c⟩:=x;exact ⟨z,y,xs,Paired.mapP r fun p q z=>⟨z.1,ht _ _ z.2.1,z.2.2⟩,ob,es,ep,k _ _ (.inl rfl) e,c⟩
 | set S n=>obtain ⟨ob,es,ep,t,e,c⟩:=x;exact ⟨ob,es,ep,t,k _ _ (.inl rfl) e,c⟩
 | ins C dx fs =>obtain ⟨d,z,ne,e,mA,⟨od,es,ep,e2,c⟩,r⟩:=x;exact ⟨ho _ d,z,ne,k _ _ (.inl rfl) e,mA,⟨od,es,ep,k _ _ (.inr d) e2,c⟩,r⟩
 | own y=>obtain ⟨ob,e⟩:=x;exact ⟨ob,k _ _ (.inl rfl) e⟩
 | xd fs=>obtain ⟨mA,⟨od,es,ep,e,c⟩,r⟩:=x;exact ⟨mA,⟨od,es,ep,k _ _ (.inl rfl) e,c⟩,r⟩
 | rng lo hi=>obtain ⟨t,u,v,e⟩:=x;exact ⟨t,u,v,k _ _ (.inl rfl) e⟩
 | frz ob u ih=>obtain ⟨e,q⟩:=x;exact ⟨k _ _ (.inl rfl) e,ih q⟩
 | tbl q =>obtain ⟨ps,e,t,c⟩:=x;exact ⟨ps,k a _ (.inl rfl) e,t,fun pos cv z=>by obtain ⟨c',o,vs,t',e1,e2,e3⟩:=c pos cv z;exact ⟨c',o,vs,t',e1,hf _ _ _ e2,e3⟩⟩
 | met f y =>have e:h.get? a=some (PySem.W.methodObj (.ref f) (.ref y)):=x;show h'.get? a=some (PySem.W.methodObj (.ref f) (.ref y));exact k a _ (.inl rfl) e
 | ext φ=>obtain ⟨p,⟨o,e⟩,st⟩:=x;exact ⟨st _ _ p fun o q=>k _ _ (.inl rfl) q,⟨o,k _ _ (.inl rfl) e⟩,st⟩
theorem HOk.lt (x:HOk P w H h) (e:H a=some o):a<h.objs.size:=(x a o e).lt
theorem HOk.fresh (x:HOk P w H h) (e:h.objs.size<=a):H a=none:=by
 cases q:H a with
 | none=>rfl
 | some u=>exact absurd (L1 (x.lt q) e) (LX _)
theorem HOk.kept (x:HOk P w H h) (k:∀ b u,h.get? b=some u->h'.get? b=some u):HOk P w H h':=fun a o e =>
 (x a o e).stay (fun b u _ q=>k b u q) (fun _ q=>q) fun _ _ q=>q
theorem HOk.laid (x:HOk P w H h) (k:∀ b u,h.get? b=some u->h'.get? b=some u) (hp:h.objs.size<=a) (new:dX P w (upd H a o) h' a o):HOk P w (upd H a o) h':=fun b u e=>by
 have hn:=x.fresh hp;by_cases hb:b=a
 ·subst hb;rw [aV] at e;cases e;exact new
 ·rw [aL hb] at e;exact (x b u e).stay (fun c v _ q=>k c v q) (fun c q=>by rw [aL (aX q hn)];exact q) (fun c xs q=>by rw [aL (aX q hn)];exact q) fun c ob w' q=>by rw [aL (aX q hn)];exact q
end
def Rd (H:Hp) (a:Addr) (u:HO):Prop:=H a=some u\/∃ o,H a=some (.frz o u)
theorem Rd.ok {P:Program} {w:World} {H:Hp} {h:Heap} {a:Addr} {u:HO} (r:Rd H a u) (x:HOk P w H h):dX P w H h a u:=by
 rcases r with r | ⟨o,r⟩
 ·exact x a u r
 ·obtain ⟨_,q⟩:=x a _ r;exact q
def Mut:Option HO->Prop
 | some (.lst _)=>True
 | some (.dK _)=>True
 | some (.dT _)=>True
 | some (.set _ _)=>True
 | some (.ins _ _ _)=>True
 | some (.ext _)=>True
 | _=>False
section
variable {P:Program} {w:World} {H:Hp} {h h':Heap} {x e:Addr} {o':HO}
theorem HOk.write (ok:HOk P w H h) (mu:Mut (H x)) (he:e=x\/H e=some (.own x)) (k:∀ b u,b≠e->h.get? b=some u->h'.get? b=some u) (heo:∃ u,h'.get? e=some u)
  (new:dX P w (upd H x o') h' x o'):HOk P w (upd H x o') h':=fun b u q=>by
 have nown:∀ c y,H c=some (.own y)->c≠x:=fun c y r z=>by subst z;rw [r] at mu;exact mu
 have ntup:∀ c xs,H c=some (.tup xs)->c≠x:=fun c xs r z=>by subst z;rw [r] at mu;exact mu
 have nfrz:∀ c o u,H c=some (.frz o u)->c≠x:=fun c o u r z=>by subst z;rw [r] at mu;exact mu
 by_cases hb:b=x
 ·subst hb;rw [aV] at q;cases q;exact new
 ·rw [aL hb] at q;by_cases hbe:b=e
  ·have q':H b=some (.own x):=by
    rcases he with z | z
    ·exact absurd (hbe.trans z) hb
    ·rw [hbe];exact z
   rw [q] at q';cases q';obtain ⟨v,hv⟩:=heo;exact ⟨v,by rw [hbe];exact hv⟩
  ·refine (ok b u q).stay (fun c v hc r=>k c v ?_ r) (fun c r=>by rw [aL (nown c b r)];exact r) (fun c xs r=>by rw [aL (ntup c xs r)];exact r) fun c o w' r=>by rw [aL (nfrz c o w' r)];exact r
   rcases hc with rfl | hc
   ·exact hbe
   ·rintro rfl
    rcases he with z | z
    ·exact nown c b hc z
    ·rw [hc] at z;cases z;exact hb rfl
end
structure Un (fs ex:List Addr) (H H':Hp) (h h':Heap):Prop where
 keep:∀ b o,h.get? b=some o->H b=none->b∉fs->b∉ex->h'.get? b=some o
 slot:∀ b o,h.get? b=some o->H b=none->b∈fs->b∉ex->∃ sl,h'.get? b=some { o with slots:=sl }
 free:∀ b o,h.get? b=some o->H b=none->b∉ex->H' b=none
 there:∀ b o,h.get? b=some o->b∉ex->∃ o',h'.get? b=some o'
 tups:∀ b xs,H b=some (.tup xs)->H' b=some (.tup xs)
 frzs:∀ b o u,H b=some (.frz o u)->H' b=some (.frz o u)
 tbls:∀ b q,H b=some (.tbl q)->H' b=some (.tbl q)
section
variable {fs fs' ex ex':List Addr} {H H1 H2:Hp} {h h1 h2 h':Heap} {a x e:Addr} {o:HO}
theorem Un.any (u:Un fs ex H H1 h h1) {b:Addr} {ob:Obj} (q:h.get? b=some ob) (n:H b=none) (hx:b∉ex):∃ sl,h1.get? b=some { ob with slots:=sl }:=by
 by_cases hb:b∈fs
 ·exact u.slot b ob q n hb hx
 ·exact ⟨ob.slots,u.keep b ob q n hb hx⟩
theorem Un.kept (k:∀ b u,h.get? b=some u->h'.get? b=some u):Un fs ex H H h h' :=
 ⟨fun b ob q _ _ _=>k b ob q,fun b ob q _ _ _=>⟨ob.slots,k b ob q⟩,fun _ _ _ n _=>n,fun b ob q _=>⟨ob,k b ob q⟩,fun _ _ q=>q,fun _ _ _ q=>q,fun _ _ q=>q⟩
theorem Un.refl:Un fs ex H H h h:=Un.kept fun _ _ q=>q
theorem Un.laid (k:∀ b u,h.get? b=some u->h'.get? b=some u) (hp:h.objs.size<=a) (hn:H a=none):Un fs ex H (upd H a o) h h' where
 keep:=fun b u q _ _ _=>k b u q
 slot:=fun b u q _ _ _=>⟨u.slots,k b u q⟩
 free:=fun b u q n _=>by rw [aL (KY (L1 (KR q) hp))];exact n
 there:=fun b u q _=>⟨u,k b u q⟩
 tups:=fun b xs q=>by rw [aL (aX q hn)];exact q
 frzs:=fun b u xs q=>by rw [aL (aX q hn)];exact q
 tbls:=fun b ps q=>by rw [aL (aX q hn)];exact q
theorem Un.write (mu:Mut (H x)) (he:e=x\/H e=some (.own x)) (k:∀ b u,b≠e->h.get? b=some u->h'.get? b=some u) (heo:∃ u,h'.get? e=some u):Un fs ex H (upd H x o) h h':=by
 have hx:∀ b,H b=none->b≠x:=fun b n z=>by subst z;rw [n] at mu;exact mu
 have hb:∀ b,H b=none->b≠e:=fun b n z=>by
  subst z;rcases he with r | r
  ·exact hx b n r
  ·rw [n] at r;cases r
 have hm:∀ b u,H b=some u->¬ Mut (some u)->b≠x:=fun b u q nm z=>by subst z;rw [q] at mu;exact nm mu
 refine ⟨fun b u q n _ _=>k b u (hb b n) q,fun b u q n _ _=>⟨u.slots,k b u (hb b n) q⟩,fun b u q n _=>by rw [aL (hx b n)];exact n,fun b u q _=>?_,
  fun b xs q=>by rw [aL (hm b _ q fun z=>z)];exact q,fun b u xs q=>by rw [aL (hm b _ q fun z=>z)];exact q,fun b ps q=>by rw [aL (hm b _ q fun z=>z)];exact q⟩
 by_cases hbe:b=e
 ·subst hbe;exact heo
 ·exact ⟨u,k b u hbe q⟩
end
def trk (h:Heap) (H:Hp):List Addr:=(List.range h.objs.size).filter fun a=>(H a).isSome
def tM (h:Heap) (H:Hp):Heap:=PySem.W.hideAll h (trk h H)
theorem BR (h:Heap) (H:Hp):(tM h H).objs.size=h.objs.size:=PySem.W.hideAll_size _ _
theorem Cy {h:Heap} {H:Hp} {b:Addr} {o:Obj} (e:h.get? b=some o) (n:H b=none):(tM h H).get? b=some o :=
 PySem.W.hideAll_get _ e fun hm=>by have q:(H b).isSome=true:=(Lq.mp hm).2;rw [n] at q;simp at q
theorem Fh {h:Heap} {H:Hp} {b:Addr} {o:Obj} (e:(tM h H).get? b=some o):h.get? b=some o/\H b=none:=by
 have e':h.get? b=some o:=PySem.W.of_hideAll (trk h H) e;refine ⟨e',?_⟩;cases q:H b with
 | none=>rfl
 | some x =>have hm:b∈trk h H:=Lq.mpr ⟨LQ.mpr (KR e'),by simp [q]⟩;have z:(tM h H).get? b=none:=PySem.W.hideAll_none (trk h H) hm;rw [z] at e;cases e
structure Mod (K:PySem.W.Frag) (mg:Str->Option Value) (base:Heap):Prop where
 kin:K.In base
 glob:base.Ns mainGlobals mg
 blt:∃ mb,base.Ns builtinsNs mb/\∀ x:Str,x≠"__name__"->mb x=bootBuiltins x
 nolimit:base.NoLimit
def qC:List Str:=["picked"]
def TabOf (K:PySem.W.Frag) (P:Addr) (q:Str):Prop:=∃ x∈qC,∃ f oc od fd sl c,PySem.W.nsIn K mainGlobals x=some (some (.ref f))/\K.lookup f=some ⟨oc,od,.func fd,sl⟩/\fd.code=.ref c/\(∃ o vs,K.lookup c=some o/\o.data=.fields vs/\vs[11]?=some (.ref P))/\q=x++".<locals>.<lambda>"
structure Cx where
 prog:Program
 w:World
 K:PySem.W.Frag
 mg:Str->Option Value
 base:Heap
 A:Around
 N:List Str
 s₀:Shared
 H₀:Hp
 env:Env
 outer:List Env
 stack:List Env
 ex:List Addr
 fn:Str->Bool
 calm:Bool
 pn:List (Addr×Obj)
 xe:Value->Shared->Prop
def frs (l:List Env):List Addr:=l.filterMap (·.frame)
abbrev Cx.fs (X:Cx):List Addr:=frs X.outer
def Vis (sc:Scope) (x:Str):Prop:=sc.names.lookup x=some .local\/sc.names.lookup x=some .cell\/sc.names.lookup x=some .free
def Loc (sc:Scope) (x:Str):Prop:=sc.names.lookup x=some .local\/sc.names.lookup x=some .cell
def Look (env:Env) (h:Heap) (m:Str->Option Value) (x:Str) (u:Value):Prop :=
 (env.kindOf x=some .local/\m x=some u)\/((env.kindOf x=some .cell\/env.kindOf x=some .free)/\∃ c,env.cells.lookup x=some c/\h.IsCell c (some u))
structure Cx.Ok (X:Cx):Prop where
 mod:Mod X.K X.mg X.base
 kind:X.env.scope.kind=.function
 glob:X.env.globals=mainGlobals
 blt:X.env.builtins=builtinsNs
 above:X.s₀.heap.objs.size<=X.env.locals
 inj:∀ x y c,X.env.cells.lookup x=some c->X.env.cells.lookup y=some c->x=y
 has:∀ x,(X.env.kindOf x=some .cell\/X.env.kindOf x=some .free)->∃ c,X.env.cells.lookup x=some c
 cab:∀ x c,X.fn x=true->X.env.cells.lookup x=some c->X.s₀.heap.objs.size<=c
 hd:X.calm=true->X.A.handled=none
 frames:X.A.frames=some X.stack
 stk:X.stack=X.outer\/(X.stack=X.env::X.outer/\X.env.frame=some X.env.locals)
 exf:∀ b∈X.ex,b≠X.env.locals/\∀ x c,X.env.cells.lookup x=some c->c≠b
 bs:∀ b o,X.base.get? b=some o->X.s₀.heap.get? b=some o/\X.H₀ b=none
 bsz:X.base.objs.size<=X.s₀.heap.objs.size
 noex:∀ b o,X.base.get? b=some o->b∉X.ex
 exfs:∀ b∈X.ex,b∉X.fs
 funs:X.s₀.heap.FunFrames X.base X.outer
 frf:∀ b∈X.fs,X.H₀ b=none
structure Inv (X:Cx) (pins:List (Addr×Obj)) (σ:List (Option V)) (H:Hp) (s:Shared):Prop where
 ok:X.Ok
 os:s.os=X.s₀.os
 bare:AllBare s.gens
 base:Un X.fs X.ex X.H₀ H X.s₀.heap s.heap
 loc:∃ m,s.heap.Ns X.env.locals m/\∀ (i:Nat) (x:Str) (v:V),X.N[i]?=some x->σ[i]?=some (some v)->Vis X.env.scope x->∃ u,RelV v u/\Look X.env s.heap m x u
 cell:∀ x c,X.env.cells.lookup x=some c->∃ v,s.heap.IsCell c v
 free:H X.env.locals=none
 freeC:∀ x c,X.env.cells.lookup x=some c->H c=none
 pin:∀ p∈X.pn++pins,s.heap.get? p.1=some p.2/\H p.1=none/\p.1≠X.env.locals/\p.1∉X.fs/\∀ v,p.2.data≠.cell v
 hok:HOk X.prog X.w H s.heap
 len:σ.length=X.N.length
 tab:∀ P q,TabOf X.K P q->H P=some (.tbl q)
section
variable {X:Cx} {pins:List (Addr×Obj)} {σ:List (Option V)} {H H':Hp} {s:Shared} {h':Heap}
theorem Cx.Ok.nofr (ok:X.Ok) {b:Addr} {o:Obj} (e:X.base.get? b=some o):b∉X.fs:=fun hb=>by have:=(ok.funs.mem hb).1;rw [e] at this;cases this
theorem Inv.bs (I:Inv X pins σ H s):∀ b o,X.base.get? b=some o->s.heap.get? b=some o/\H b=none:=fun b o e =>
 ⟨I.base.keep b o (I.ok.bs b o e).1 (I.ok.bs b o e).2 (I.ok.nofr e) (I.ok.noex b o e),I.base.free b o (I.ok.bs b o e).1 (I.ok.bs b o e).2 (I.ok.noex b o e)⟩
theorem Inv.bk (I:Inv X pins σ H s):∀ b o,X.base.get? b=some o->s.heap.get? b=some o:=fun b o e=>(I.bs b o e).1
theorem Inv.mod (I:Inv X pins σ H s):Mod X.K X.mg X.base:=I.ok.mod
theorem Inv.kIn (I:Inv X pins σ H s):X.K.In s.heap:=I.ok.mod.kin.keeps I.bk
theorem Inv.lt (I:Inv X pins σ H s):X.env.locals<s.heap.objs.size:=let ⟨_,hn,_⟩:=I.loc;hn.lt
theorem Inv.sz (I:Inv X pins σ H s):X.s₀.heap.objs.size<=s.heap.objs.size:=Lz I.ok.above (MO I.lt)
theorem Inv.nofs (I:Inv X pins σ H s) {a:Addr} (h:s.heap.objs.size<=a):a∉X.fs:=fun hb=>by obtain ⟨_,o,ho,_⟩:=I.ok.funs.mem hb;exact absurd (L1 (KR ho) (Lz I.sz h)) (LX _)
theorem Inv.cne (I:Inv X pins σ H s):∀ x c,X.env.cells.lookup x=some c->c≠X.env.locals:=fun x c e z=>by obtain ⟨v,o,ho,hd⟩:=I.cell x c e;obtain ⟨m,⟨o',es,ep,ho',hd',_⟩,_⟩:=I.loc;rw [z,ho'] at ho;cases ho;rw [hd'] at hd;cases hd
theorem Inv.funs (I:Inv X pins σ H s):s.heap.FunFrames X.base X.outer:=by
 have all:∀ (l:List Env),(∀ b∈frs l,b∈X.fs)->X.s₀.heap.FunFrames X.base l->s.heap.FunFrames X.base l:=by
  intro l
  induction l with
  | nil=>intro _ _;trivial
  | cons env r ih =>
   intro hs hl;obtain ⟨hk,⟨L,o,hf,hn,ho,hd⟩,hr⟩:=hl;have hL:L∈X.fs:=hs L (by unfold frs;rw [Mm,hf];exact K4);obtain ⟨sl,e⟩:=I.base.slot L o ho (I.ok.frf L hL) hL fun z=>I.ok.exfs L z hL
   exact ⟨hk,⟨L,_,hf,hn,e,hd⟩,ih (fun b hb=>hs b (by unfold frs;rw [Mm,hf];exact K0 _ hb)) hr⟩
 exact all X.outer (fun _ hb=>hb) I.ok.funs
theorem Inv.stack (I:Inv X pins σ H s):s.heap.FunFrames X.base X.stack:=by
 rcases I.ok.stk with e | ⟨e,hf⟩
 ·rw [e];exact I.funs
 ·rw [e];obtain ⟨m,hn,_⟩:=I.loc;refine .cons (by rw [I.ok.kind];decide) hf hn ?_ I.funs;exact Heap.get?_none_of_le (Lz I.ok.bsz I.ok.above)
theorem Inv.stkSub (I:Inv X pins σ H s):∀ b∈frs X.stack,b∈X.env.locals::X.fs:=fun b hb=>by
 rcases I.ok.stk with e | ⟨e,hf⟩
 ·rw [e] at hb;exact K0 _ hb
 ·rw [e] at hb;unfold frs at hb;rw [Mm,hf] at hb;exact hb
theorem Inv.stkFree (I:Inv X pins σ H s):∀ b∈frs X.stack,H b=none:=fun b hb=>by
 rcases K6.mp (I.stkSub b hb) with e | hb
 ·rw [e];exact I.free
 ·obtain ⟨_,o,ho,_⟩:=I.ok.funs.mem hb;exact I.base.free b o ho (I.ok.frf b hb) fun z=>I.ok.exfs b z hb
theorem Inv.step {g':Array GenState} {t':Nat} {d':Drawn} {ch:List Addr} (I:Inv X pins σ H s)
  (hch:∀ b∈ch,(b∈X.ex\/X.s₀.heap.objs.size<=b)/\b≠X.env.locals/\(∀ x c,X.env.cells.lookup x=some c->c≠b)/\∀ p∈X.pn++pins,p.1≠b)
  (keep:∀ b o,b≠X.env.locals->b∉X.fs->b∉ch->s.heap.get? b=some o->H b=none->h'.get? b=some o)
  (slot:∀ b o,b≠X.env.locals->b∈X.fs->b∉ch->s.heap.get? b=some o->H b=none->∃ sl,h'.get? b=some { o with slots:=sl }) (free:∀ b o,b∉ch->s.heap.get? b=some o->H b=none->H' b=none)
  (there:∀ b o,b∉ch->s.heap.get? b=some o->∃ o',h'.get? b=some o')
  (tups:∀ b xs,H b=some (.tup xs)->H' b=some (.tup xs)) (frzs:∀ b o u,H b=some (.frz o u)->H' b=some (.frz o u)) (tbls:∀ b q,H b=some (.tbl q)->H' b=some (.tbl q))
  (ns:∀ m,s.heap.Ns X.env.locals m->h'.Ns X.env.locals m) (hok:HOk X.prog X.w H' h') (hg:AllBare g') :
  Inv X pins σ H' { s with heap:=h',gens:=g',drawn:=d',toks:=t' }:=by
 have neL:∀ b o,X.s₀.heap.get? b=some o->b≠X.env.locals:=fun b o e=>KY (L1 (KR e) I.ok.above)
 have neC:∀ b o,X.s₀.heap.get? b=some o->b∉X.ex->b∉ch:=fun b o e hx hb=>by
  rcases (hch b hb).1 with z | z
  ·exact hx z
  ·exact absurd (L1 (KR e) z) (LX _)
 have cellK:∀ x c,X.env.cells.lookup x=some c->∀ v,s.heap.IsCell c v->h'.IsCell c v:=fun x c e v pz4=>by
  obtain ⟨o,ho,hd⟩:=pz4;have nch:c∉ch:=fun z=>(hch c z).2.2.1 x c e rfl
  by_cases hc:c∈X.fs
  ·obtain ⟨sl,q⟩:=slot c o (I.cne x c e) hc nch ho (I.freeC x c e);exact ⟨_,q,hd⟩
  ·exact ⟨o,keep c o (I.cne x c e) hc nch ho (I.freeC x c e),hd⟩
 refine ⟨I.ok,I.os,hg,⟨fun b o e n hb hx=>?_,fun b o e n hb hx=>?_,fun b o e n hx=>?_,fun b o e hx=>?_,fun b xs e=>tups b xs (I.base.tups b xs e),fun b o xs e=>frzs b o xs (I.base.frzs b o xs e),fun b ps e=>?_⟩,?_,fun x c e=>?_,?_,fun x c e=>?_,fun p hp=>?_,hok,I.len,fun P q t=>tbls P q (I.tab P q t)⟩
 ·exact keep b o (neL b o e) hb (neC b o e hx) (I.base.keep b o e n hb hx) (I.base.free b o e n hx)
 ·obtain ⟨sl,e1⟩:=I.base.slot b o e n hb hx;obtain ⟨sl',e2⟩:=slot b _ (neL b o e) hb (neC b o e hx) e1 (I.base.free b o e n hx);exact ⟨sl',e2⟩
 ·obtain ⟨o',e1⟩:=I.base.there b o e hx;exact free b o' (neC b o e hx) e1 (I.base.free b o e n hx)
 ·obtain ⟨o',e1⟩:=I.base.there b o e hx;exact there b o' (neC b o e hx) e1
 ·exact tbls b _ (I.base.tbls b ps e)
 ·obtain ⟨m,hn,hl⟩:=I.loc;refine ⟨m,ns m hn,fun i x v e1 e2 e3=>?_⟩;obtain ⟨u,r,l⟩:=hl i x v e1 e2 e3;refine ⟨u,r,?_⟩;rcases l with l | ⟨k,c,e,z⟩
  ·exact .inl l
  ·exact .inr ⟨k,c,e,cellK x c e _ z⟩
 ·obtain ⟨v,z⟩:=I.cell x c e;exact ⟨v,cellK x c e v z⟩
 ·obtain ⟨m,⟨o,_,_,ho,_⟩,_⟩:=I.loc;exact free _ o (fun z=>(hch _ z).2.1 rfl) ho I.free
 ·obtain ⟨v,o,ho,hd⟩:=I.cell x c e;exact free c o (fun z=>(hch c z).2.2.1 x c e rfl) ho (I.freeC x c e)
 ·obtain ⟨e,n,ne,nf,d⟩:=I.pin p hp;have nch:p.1∉ch:=fun z=>(hch p.1 z).2.2.2 p hp rfl
  exact ⟨keep p.1 p.2 ne nf nch e n,free p.1 p.2 nch e n,ne,nf,d⟩
theorem Inv.un {t':Nat} (I:Inv X pins σ H s) (u:Un X.fs [] H H' s.heap h') (hok:HOk X.prog X.w H' h'):Inv X pins σ H' { s with heap:=h',toks:=t' }:=by obtain ⟨m,⟨o,es,ep,ho,r⟩,_⟩:=id I.loc;obtain ⟨sl,hL⟩:=u.any ho I.free (by simp);exact I.step (g':=s.gens) (d':=s.drawn) (ch:=[]) (fun _ z=>nomatch z) (fun b o _ hb _ e n=>u.keep b o e n hb (by simp)) (fun b o _ hb _ e n=>u.slot b o e n hb (by simp)) (fun b o _ e n=>u.free b o e n (by simp)) (fun b o _ e=>u.there b o e (by simp)) u.tups u.frzs u.tbls (fun m' hm=>by obtain ⟨o',es',ep',ho',r'⟩:=hm;rw [ho] at ho';cases ho';exact ⟨_,es',ep',hL,r'⟩) hok I.bare
theorem Inv.call {g':Array GenState} {t':Nat} {d':Drawn} {ch:List Addr} (I:Inv X pins σ H s) (u:Un (frs X.stack) ch H H' s.heap h') (hok:HOk X.prog X.w H' h') (hg:AllBare g')
  (hch:∀ b∈ch,(b∈X.ex\/X.s₀.heap.objs.size<=b)/\b≠X.env.locals/\(∀ x c,X.env.cells.lookup x=some c->c≠b)/\∀ p∈X.pn++pins,p.1≠b) :
  Inv X pins σ H' { s with heap:=h',gens:=g',drawn:=d',toks:=t' }:=by
 obtain ⟨m,⟨o,es,ep,ho,r⟩,_⟩:=id I.loc;obtain ⟨sl,hL⟩:=u.any ho I.free fun z=>(hch _ z).2.1 rfl
 exact I.step (ch:=ch) hch (fun b o hL hb hc e n=>u.keep b o e n (fun z=>(K6.mp (I.stkSub b z)).elim hL hb) hc) (fun b o _ _ hc e n=>u.any e n hc) (fun b o hc e n=>u.free b o e n hc) (fun b o hc e=>u.there b o e hc) u.tups u.frzs u.tbls (fun m' hm=>by obtain ⟨o',es',ep',ho',r'⟩:=hm;rw [ho] at ho';cases ho';exact ⟨_,es',ep',hL,r'⟩) hok hg
theorem Inv.turned {t':Nat} {it:Addr} (I:Inv X pins σ H s) (k:∀ b o,b≠it->s.heap.get? b=some o->h'.get? b=some o) (hn:H it=none) (hL:it≠X.env.locals)
  (h1:it∈X.ex\/X.s₀.heap.objs.size<=it) (h2:∀ x c,X.env.cells.lookup x=some c->c≠it) (h3:∀ p∈X.pn++pins,p.1≠it):Inv X pins σ H { s with heap:=h',toks:=t' }:=by
 have nit:∀ b u,H b=some u->b≠it:=fun b u e z=>by rw [z,hn] at e;cases e
 refine I.step (g':=s.gens) (d':=s.drawn) (ch:=[it]) (fun b hb=>?_) (fun b o _ _ hc e _=>k b o (fun z=>hc (by simp [z])) e) (fun b o _ _ hc e _=>⟨o.slots,k b o (fun z=>hc (by simp [z])) e⟩) (fun _ _ _ _ n=>n)
  (fun b o hc e=>⟨o,k b o (fun z=>hc (by simp [z])) e⟩) (fun _ _ e=>e) (fun _ _ _ e=>e) (fun b ps e=>e) (fun m hm=>?_) (fun b u e=>?_) I.bare
 ·have e:b=it:=by simpa using hb
  subst e;exact ⟨h1,hL,h2,h3⟩
 ·obtain ⟨o,es,ep,ho,r⟩:=hm;exact ⟨o,es,ep,k _ o (Ne.symm hL) ho,r⟩
 ·refine (I.hok b u e).stay (fun c v hc q=>k c v ?_ q) (fun _ q=>q) fun _ _ q=>q
  rcases hc with z | z
  ·rw [z];exact nit b u e
  ·exact nit c _ z
theorem Inv.tok (I:Inv X pins σ H s) (t:Nat):Inv X pins σ H { s with toks:=t }:=I.un (h':=s.heap) (t':=t) Un.refl I.hok
theorem Inv.kept {t':Nat} (I:Inv X pins σ H s) (k:∀ b u,s.heap.get? b=some u->h'.get? b=some u):Inv X pins σ H { s with heap:=h',toks:=t' }:=I.un (Un.kept k) (I.hok.kept k)
theorem Inv.laid {a:Addr} {o:HO} {t':Nat} (I:Inv X pins σ H s) (k:∀ b u,s.heap.get? b=some u->h'.get? b=some u) (hp:s.heap.objs.size<=a) (new:dX X.prog X.w (upd H a o) h' a o) :
 Inv X pins σ (upd H a o) { s with heap:=h',toks:=t' }:=I.un (Un.laid k hp (I.hok.fresh hp)) (I.hok.laid k hp new)
theorem Inv.write {x e:Addr} {o:HO} {t':Nat} (I:Inv X pins σ H s) (mu:Mut (H x)) (he:e=x\/H e=some (.own x)) (k:∀ b u,b≠e->s.heap.get? b=some u->h'.get? b=some u) (heo:∃ u,h'.get? e=some u)
 (new:dX X.prog X.w (upd H x o) h' x o):Inv X pins σ (upd H x o) { s with heap:=h',toks:=t' }:=I.un (Un.write mu he k heo) (I.hok.write mu he k heo new)
theorem Inv.pins_of {pins':List (Addr×Obj)} (I:Inv X pins σ H s) (h:∀ p∈pins',s.heap.get? p.1=some p.2/\H p.1=none/\p.1≠X.env.locals/\p.1∉X.fs/\∀ v,p.2.data≠.cell v):Inv X pins' σ H s :=
 ⟨I.ok,I.os,I.bare,I.base,I.loc,I.cell,I.free,I.freeC,fun p hp=>(Lg.mp hp).elim (fun z=>I.pin p (Lm _ z)) (h p),I.hok,I.len,I.tab⟩
theorem yf {N:List Str} (hN:N.Nodup) {i j:Nat} {x:Str} (a:N[i]?=some x) (b:N[j]?=some x):i=j:=by obtain ⟨h1,e1⟩:=Lj.mp a;obtain ⟨h2,e2⟩:=Lj.mp b;exact (List.getElem_inj hN).mp (e1.trans e2.symm)
theorem uD {M:Model} {A:Around} {E:Value->Shared->Prop} {i:Nat} {x:Str} {v:V} {u:Value} {Q:Unit->Shared->Prop} (I:Inv X pins σ H s) (hN:X.N.Nodup) (hi:X.N[i]?=some x) (hx:Loc X.env.scope x) (r:RelV v u)
  (h:∀ s',Inv X pins (σ.set i (some v)) H s'->(∃ a,Heap.SameBut a s.heap s'.heap/\(a=X.env.locals\/X.env.cells.lookup x=some a))->Q () s') (hf:X.fn x=true\/X.env.scope.names.lookup x=some .local:=by first | exact .inl rfl | exact .inr rfl | assumption):wpAny M A (storeName X.env x u) Q E s:=by
 obtain ⟨m,hn,hl⟩:=id I.loc;have hcls:(X.env.scope.kind==.class || (X.env.scope.kind==.module&&X.env.locals != X.env.globals))=false:=by rw [I.ok.kind];rfl
 have hiσ:i<σ.length:=by rw [I.len];exact (Lj.mp hi).1
 have cne:=I.cne;have tracked:∀ {a:Addr} {h':Heap},(∃ o,s.heap.get? a=some o/\H a=none)->Heap.SameBut a s.heap h'->HOk X.prog X.w H h':=fun {a h'} ha hs b ob e=>by
  obtain ⟨_,_,hfree⟩:=ha;refine (I.hok b ob e).stay (fun c w' hc q=>(hs.2 c ?_).trans q) (fun _ q=>q) fun _ _ q=>q
  rintro rfl
  rcases hc with rfl | hc
  ·rw [hfree] at e;cases e
  ·rw [hfree] at hc;cases hc
 rcases hx with hk | hk
 ·refine wpAny_storeName_local hk hn (fun h' hn' hs=>?_) hcls;obtain ⟨oL,_,_,hoL,_⟩:=id hn;refine h _ ⟨I.ok,I.os,I.bare,⟨fun b o e n hb hx=>?_,fun b o e n hb hx=>?_,I.base.free,fun b o e hx=>?_,I.base.tups,I.base.frzs,I.base.tbls⟩,⟨_,hn',fun j y v' e1 e2 e3=>?_⟩,fun y c e=>?_,I.free,I.freeC,fun p hp=>?_,tracked ⟨oL,hoL,I.free⟩ hs,by simpa using I.len,I.tab⟩ ⟨_,hs,.inl rfl⟩
  ·exact (hs.2 b (KY (L1 (KR e) I.ok.above))).trans (I.base.keep b o e n hb hx)
  ·obtain ⟨sl,e1⟩:=I.base.slot b o e n hb hx;exact ⟨sl,(hs.2 b (KY (L1 (KR e) I.ok.above))).trans e1⟩
  ·obtain ⟨o',e1⟩:=I.base.there b o e hx;exact ⟨o',(hs.2 b (KY (L1 (KR e) I.ok.above))).trans e1⟩
  ·by_cases hj:j=i
   ·subst hj;rw [hi] at e1;cases e1;rw [Lp hiσ] at e2;cases e2;exact ⟨u,r,.inl ⟨hk,by simp⟩⟩
   ·rw [Lf (Ne.symm hj)] at e2;obtain ⟨u',r',q⟩:=hl j y v' e1 e2 e3;refine ⟨u',r',?_⟩;rcases q with ⟨k,e⟩ | ⟨k,c,e,z⟩
    ·refine .inl ⟨k,?_⟩;have:y≠x:=fun e=>hj (yf hN e1 (e▸hi))
     simp [this,e]
    ·exact .inr ⟨k,c,e,z.sameBut hs (cne y c e)⟩
  ·obtain ⟨w',z⟩:=I.cell y c e;exact ⟨w',z.sameBut hs (cne y c e)⟩
  ·obtain ⟨e,n,ne,nf,d⟩:=I.pin p hp;exact ⟨(hs.2 p.1 ne).trans e,n,ne,nf,d⟩
 ·have hfn:X.fn x=true:=by
   rcases hf with z | z
   ·exact z
   ·rw [z] at hk;cases hk
  obtain ⟨c,hc⟩:=I.ok.has x (.inl hk);obtain ⟨w',z⟩:=I.cell x c hc;refine wpAny_storeName_cell I.ok.kind hk hc z (fun h' hc' hs=>?_);obtain ⟨oc,hoc,hocd⟩:=id z;refine h { s with heap:=h' } ⟨I.ok,I.os,I.bare,⟨fun b o e n hb hx=>?_,fun b o e n hb hx=>?_,I.base.free,fun b o e hx=>?_,I.base.tups,I.base.frzs,I.base.tbls⟩,⟨m,hn.sameBut hs (Ne.symm (cne x c hc)),fun j y v' e1 e2 e3=>?_⟩,fun y c' e=>?_,I.free,I.freeC,fun p hp=>?_,tracked ⟨oc,hoc,I.freeC x c hc⟩ hs,by simpa using I.len,I.tab⟩ ⟨c,hs,.inr hc⟩
  ·exact (hs.2 b (KY (L1 (KR e) (I.ok.cab x c hfn hc)))).trans (I.base.keep b o e n hb hx)
  ·obtain ⟨sl,e1⟩:=I.base.slot b o e n hb hx;exact ⟨sl,(hs.2 b (KY (L1 (KR e) (I.ok.cab x c hfn hc)))).trans e1⟩
  ·obtain ⟨o',e1⟩:=I.base.there b o e hx;exact ⟨o',(hs.2 b (KY (L1 (KR e) (I.ok.cab x c hfn hc)))).trans e1⟩
  ·by_cases hj:j=i
   ·subst hj;rw [hi] at e1;cases e1;rw [Lp hiσ] at e2;cases e2;exact ⟨u,r,.inr ⟨.inl hk,c,hc,hc'⟩⟩
   ·rw [Lf (Ne.symm hj)] at e2;obtain ⟨u',r',q⟩:=hl j y v' e1 e2 e3;refine ⟨u',r',?_⟩;rcases q with q | ⟨k,c',e,z'⟩
    ·exact .inl q
    ·refine .inr ⟨k,c',e,z'.sameBut hs ?_⟩
     rintro rfl
     exact hj (yf hN e1 (I.ok.inj _ _ _ e hc▸hi))
  ·by_cases hcc:c'=c
   ·subst hcc;exact ⟨_,hc'⟩
   ·obtain ⟨w2,z2⟩:=I.cell y c' e;exact ⟨w2,z2.sameBut hs hcc⟩
  ·obtain ⟨e,n,ne,nf,d⟩:=I.pin p hp;refine ⟨(hs.2 p.1 ?_).trans e,n,ne,nf,d⟩;intro q;rw [q,hoc] at e;have q':oc=p.2:=Option.some.inj e;exact d w' (by rw [<-q'];exact hocd)
theorem xG {M:Model} {A:Around} {E:Value->Shared->Prop} {i:Nat} {x:Str} {v:V} {u:Value} {Q:Unit->Shared->Prop} (I:Inv X pins σ H s) (hN:X.N.Nodup) (hi:X.N[i]?=some x) (hx:Loc X.env.scope x) (r:RelV v u)
  (h:∀ s',Inv X pins (σ.set i (some v)) H s'->Q () s') (hf:X.fn x=true\/X.env.scope.names.lookup x=some .local:=by first | exact .inl rfl | exact .inr rfl | assumption):wpAny M A (storeName X.env x u) Q E s :=
 uD I hN hi hx r (fun s' I' _=>h s' I') hf
theorem Inv.call' {s':Shared} {ch:List Addr} (I:Inv X pins σ H s) (ho:s'.os=s.os) (u:Un (frs X.stack) ch H H' s.heap s'.heap) (hok:HOk X.prog X.w H' s'.heap) (hg:AllBare s'.gens)
  (hch:∀ b∈ch,(b∈X.ex\/X.s₀.heap.objs.size<=b)/\b≠X.env.locals/\(∀ x c,X.env.cells.lookup x=some c->c≠b)/\∀ p∈X.pn++pins,p.1≠b):Inv X pins σ H' s':=by
 obtain ⟨h',g',d',t',o'⟩:=s';have e:o'=s.os:=ho;subst e;exact I.call (g':=g') (t':=t') (d':=d') u hok hg hch
end
abbrev XK:=Value->Option Addr->Hp->Prop
abbrev St:=List (Option V)
abbrev VK:=V->Hp->Prop
abbrev TE:=St->Hp->VK->Prop
abbrev TT:=St->Hp->(Bool->Hp->Prop)->Prop
abbrev TA:=St->Hp->(List V->Hp->Prop)->Prop
structure Ends where
 nx:St->Hp->Prop
 rt:VK
 bk:St->Hp->Prop:=fun _ _=>False
 ct:St->Hp->Prop:=fun _ _=>False
abbrev TS:=Ends->St->Hp->Prop
def EP (X:Cx) (pins:List (Addr×Obj)) (σ:St) (Q:VK) (u:Value) (s':Shared):Prop:=∃ v H',Inv X pins σ H' s'/\RelV v u/\Q v H'
def TP (X:Cx) (pins:List (Addr×Obj)) (σ:St) (Q:Bool->Hp->Prop) (b:Bool) (s':Shared):Prop:=∃ H',Inv X pins σ H' s'/\Q b H'
def AP (X:Cx) (pins:List (Addr×Obj)) (σ:St) (Q:List V->Hp->Prop) (us:List Value) (s':Shared):Prop:=∃ vs H',Inv X pins σ H' s'/\Vals vs us/\Q vs H'
def SP (X:Cx) (pins:List (Addr×Obj)) (D:Ends) (f:Flow) (s':Shared):Prop :=
 match f with
 | .next=>∃ σ' H',Inv X pins σ' H' s'/\D.nx σ' H'
 | .brk=>∃ σ' H',Inv X pins σ' H' s'/\D.bk σ' H'
 | .cont=>∃ σ' H',Inv X pins σ' H' s'/\D.ct σ' H'
 | .ret u=>∃ v σ' H',Inv X pins σ' H' s'/\RelV v u/\D.rt v H'
def PE (X:Cx) (e:Expr) (t:TE):Prop :=
 ∀ (pins:List (Addr×Obj)) (s:Shared) (σ:St) (H:Hp) (Q:VK),Inv X pins σ H s->t σ H Q->wpAny (model X.prog X.w) X.A (eval e X.env) (EP X pins σ Q) X.xe s
def PT (X:Cx) (e:Expr) (t:TT):Prop :=
 ∀ (pins:List (Addr×Obj)) (s:Shared) (σ:St) (H:Hp) (Q:Bool->Hp->Prop),Inv X pins σ H s->t σ H Q->wpAny (model X.prog X.w) X.A (isTrue e X.env (eval e X.env)) (TP X pins σ Q) X.xe s
def PW (X:Cx) (e:Expr) (t:TT):Prop :=
 ∀ (whole:Sem Value) (pins:List (Addr×Obj)) (s:Shared) (σ:St) (H:Hp) (Q:Bool->Hp->Prop),Inv X pins σ H s->t σ H Q->wpAny (model X.prog X.w) X.A (isTrue e X.env whole) (TP X pins σ Q) X.xe s
theorem PW.pt {X:Cx} {e:Expr} {t:TT} (h:PW X e t):PT X e t:=h _
def PA (X:Cx) (es:List Expr) (t:TA):Prop :=
 ∀ (pos:Pos) (pins:List (Addr×Obj)) (s:Shared) (σ:St) (H:Hp) (Q:List V->Hp->Prop),Inv X pins σ H s->t σ H Q->wpAny (model X.prog X.w) X.A (spliced (backTo pos (starEach es X.env))) (AP X pins σ Q) X.xe s
def PS (X:Cx) (st:Stmt) (t:TS):Prop :=
 ∀ (pins:List (Addr×Obj)) (s:Shared) (σ:St) (H:Hp) (D:Ends),Inv X pins σ H s->t D σ H->wpAny (model X.prog X.w) X.A (exec st X.env) (SP X pins D) X.xe s
def PSs (X:Cx) (st:List Stmt) (t:TS):Prop :=
 ∀ (pins:List (Addr×Obj)) (s:Shared) (σ:St) (H:Hp) (D:Ends),Inv X pins σ H s->t D σ H->wpAny (model X.prog X.w) X.A (execs st X.env) (SP X pins D) X.xe s
theorem thn {α:Type} {t:Sem α} {Q Q':α->Shared->Prop} {M:Model} {A:Around} {E:Value->Shared->Prop} {s:Shared} (h:wpAny M A t Q E s) (hQ:∀ a s,Q a s->Q' a s):wpAny M A t Q' E s:=wpAny_mono h hQ fun _ _ x=>x
section
variable {X:Cx}
theorem bin {a b:Expr} {ta tb:TE} (ha:PE X a ta) (hb:PE X b tb) {pins:List (Addr×Obj)} {s:Shared} {σ:St} {H:Hp} {R:V->V->Hp->Prop} (I:Inv X pins σ H s) (h:ta σ H fun x H1=>tb σ H1 fun y H2=>R x y H2)
  {α:Type} {Q:α->Shared->Prop} {f:Value->Value->Sem α}
  (hf:∀ v u s2 x y H2,Inv X pins σ H2 s2->RelV x v->RelV y u->R x y H2->wpAny (model X.prog X.w) X.A (f v u) Q X.xe s2) :
  wpAny (model X.prog X.w) X.A (eval a X.env) (fun v s₁=>wpAny (model X.prog X.w) X.A (eval b X.env) (fun u s₂=>wpAny (model X.prog X.w) X.A (f v u) Q X.xe s₂) X.xe s₁) X.xe s:=by
 refine thn (ha pins s σ H _ I h) fun v s1 rz2=>?_
 obtain ⟨x,H1,I1,r1,q1⟩:=rz2;refine thn (hb pins s1 σ H1 _ I1 q1) fun u s2 rz2=>?_
 obtain ⟨y,H2,I2,r2,q2⟩:=rz2;exact hf v u s2 x y H2 I2 r1 r2 q2
def J1 (i:Nat):TE:=fun σ H Q=>∃ v,σ[i]?=some (some v)/\Q v H
def tC (v:V):TE:=fun _ H Q=>Q v H
theorem mh {i:Nat} {x:Str} {pos:Pos} (hN:X.N[i]?=some x) (hv:Vis X.env.scope x) (hd:(x==("__debug__":Str))=false:=by decide) (hcd:(x==("__classdict__":Str))=false:=by decide):PE X (.Name x pos) (J1 i):=by
 intro pins s σ H Q I h;obtain ⟨v,e,h⟩:=h;obtain ⟨m,hn,hl⟩:=I.loc;obtain ⟨u,r,l⟩:=hl i x v hN e hv;have fin:EP X pins σ Q u s:=⟨v,H,I,r,h⟩
 rcases l with ⟨hk,hm⟩ | ⟨hk,c,hc,hcell⟩
 ·exact wpAny_Name (wpAny_loadName_local I.ok.kind hk hn hm fin) hd
 ·rcases hk with hk | hk
  ·exact wpAny_Name (wpAny_loadName_cell I.ok.kind hk hc hcell fin) hd
  ·exact wpAny_Name (wpAny_loadName_free I.ok.kind hk hc hcell fin hcd) hd
theorem gZ {i j pos}:PE X (.Constant (.int i) j pos) (tC (.int i)):=fun _ _ _ H _ I h=>wpAny_Constant_int ⟨.int i,H,I.tok _,⟨_,rfl⟩,h⟩
theorem Jn {b j pos}:PE X (.Constant (.bool b) j pos) (tC (.bl b)):=fun _ _ _ H _ I h=>Constant_bool ⟨.bl b,H,I,rfl,h⟩
theorem Io {j pos}:PE X (.Constant .none j pos) (tC .non):=fun _ _ _ H _ I h=>Constant_none ⟨.non,H,I,rfl,h⟩
theorem IF {x j pos}:PE X (.Constant (.str x) j pos) (tC (.str x)):=fun _ _ _ H _ I h=>Calls.Constant_str ⟨.str x,H,I.tok _,⟨_,rfl⟩,h⟩
def Gl (X:Cx) (x:Str):Prop:=X.env.kindOf x=some .globalImplicit
theorem ql {E:Value->Shared->Prop} {pins:List (Addr×Obj)} {s:Shared} {σ:St} {H:Hp} {x:Str} {u:Value} {pos:Pos} {Q:Value->Shared->Prop} (I:Inv X pins σ H s) (hg:Gl X x) (hm:X.mg x=some u) (h:Q u s)
  (hd:(x==("__debug__":Str))=false:=by decide):wpAny (model X.prog X.w) X.A (eval (.Name x pos) X.env) Q E s :=
 Calls.Name_function_global I.ok.kind hg (Calls.loadGlobal_global (by rw [I.ok.glob];exact I.mod.glob.keeps I.bk) hm h) hd
theorem fX {E:Value->Shared->Prop} {pins:List (Addr×Obj)} {s:Shared} {σ:St} {H:Hp} {x:Str} {u:Value} {pos:Pos} {Q:Value->Shared->Prop} (I:Inv X pins σ H s) (hg:Gl X x) (hm:X.mg x=none) (hv:bootBuiltins x=some u) (h:Q u s)
  (hn:x≠"__name__":=by decide) (hd:(x==("__debug__":Str))=false:=by decide):wpAny (model X.prog X.w) X.A (eval (.Name x pos) X.env) Q E s:=by
 obtain ⟨mb,h1,h2⟩:=I.mod.blt;exact Calls.Name_function_global I.ok.kind hg (Calls.loadGlobal_builtin (by rw [I.ok.glob];exact I.mod.glob.keeps I.bk) hm (by rw [I.ok.blt];exact h1.keeps I.bk) ((h2 x hn).trans hv) h) hd
theorem Gq {x:Str} {v:V} {u:Value} {pos:Pos} (hg:Gl X x) (hm:X.mg x=some u) (r:RelV v u) (hd:(x==("__debug__":Str))=false:=by decide):PE X (.Name x pos) (tC v) :=
 fun _ _ _ H _ I h=>ql I hg hm ⟨v,H,I,r,h⟩ hd
theorem E1 {x:Str} {v:V} {u:Value} {pos:Pos} (hg:Gl X x) (hm:X.mg x=none) (hv:bootBuiltins x=some u) (r:RelV v u) (hn:x≠"__name__":=by decide) (hd:(x==("__debug__":Str))=false:=by decide):PE X (.Name x pos) (tC v) :=
 fun _ _ _ H _ I h=>fX I hg hm hv ⟨v,H,I,r,h⟩ hn hd
def t2I (ta tb:TE) (k:Int->Int->Hp->Prop):St->Hp->Prop:=fun σ H=>ta σ H fun x H1=>tb σ H1 fun y H2=>∃ i j,x=.int i/\y=.int j/\k i j H2
variable {a b:Expr} {ta tb:TE} {pos:Pos}
def PC (X:Cx) (op:CmpOp) (a b:Expr) (t:TE):Prop :=
 ∀ (pins:List (Addr×Obj)) (s:Shared) (σ:St) (H:Hp) (Q:VK),Inv X pins σ H s->t σ H Q ->
  wpAny (model X.prog X.w) X.A (eval a X.env) (fun v s₁=>wpAny (model X.prog X.w) X.A (eval b X.env) (fun u s₂=>wpAny (model X.prog X.w) X.A (compareOp op v u) (EP X pins σ Q) X.xe s₂) X.xe s₁) X.xe s
theorem xH (b:Expr) {op:CmpOp} (h:op≠.In) (h2:op≠.NotIn):behindInMarks op b=false:=by
 have e1:(op==CmpOp.In)=false:=by cases op <;> first | rfl | exact absurd rfl h
 have e2:(op==CmpOp.NotIn)=false:=by cases op <;> first | rfl | exact absurd rfl h2
 cases b <;> simp [behindInMarks,e1,e2]
def JU (p:Int->Int->Bool) (ta tb:TE):TE:=fun σ H Q=>t2I ta tb (fun i j H2=>Q (.bl (p i j)) H2) σ H
abbrev tLt:TE->TE->TE:=JU fun i j=>decide (i<j)
theorem Il {op:CmpOp} {p:Int->Int->Bool} (ha:PE X a ta) (hb:PE X b tb)
  (rule:∀ (i j:Int) (t u:Tok) (Q:Value->Shared->Prop) (s:Shared),Q (.bool (p i j)) s->wpAny (model X.prog X.w) X.A (compareOp op (.int i t) (.int j u)) Q X.xe s):PC X op a b (JU p ta tb):=by
 intro pins s σ H Q I h;refine bin ha hb I h fun v u s2 x y H2 I2 rx ry q=>?_
 obtain ⟨i,j,rfl,rfl,q⟩:=q;obtain ⟨t,rfl⟩:=rx;obtain ⟨t',rfl⟩:=ry;exact rule i j t t' _ s2 ⟨.bl _,H2,I2,rfl,q⟩
theorem IX (ha:PE X a ta) (hb:PE X b tb):PC X .Lt a b (tLt ta tb):=Il ha hb fun _ _ _ _ _ _ h=>lt_int h
def Ki (ta:TE):TE:=fun σ H Q=>ta σ H fun x H1=>Q (.bl (decide (x=.non))) H1
def Jv (ta:TE):TE:=fun σ H Q=>ta σ H fun x H1=>Q (.bl (!decide (x=.non))) H1
theorem RelV.none_iff {x:V} {v:Value} (r:RelV x v):(v==Value.none)=decide (x=.non):=by
 cases x with
 | non=>cases r;rfl
 | bl _=>cases r;rfl
 | int _=>obtain ⟨t,rfl⟩:=r;rfl
 | str _=>obtain ⟨t,rfl⟩:=r;rfl
 | byt _=>obtain ⟨t,rfl⟩:=r;rfl
 | flt _=>obtain ⟨t,rfl⟩:=r;rfl
 | ref _=>cases r;rfl
 | ty _=>cases r;rfl
theorem C1 {j pos'} (ha:PE X a ta):PC X .Is a (.Constant .none j pos') (Ki ta):=by
 intro pins s σ H Q I h;refine thn (ha pins s σ H _ I h) fun v s1 rz2=>?_
 obtain ⟨x,H1,I1,r1,q1⟩:=rz2;exact Constant_none (is_none_gen ⟨.bl _,H1,I1,by rw [r1.none_iff];rfl,q1⟩)
theorem Gw {j pos'} (ha:PE X a ta):PC X .IsNot a (.Constant .none j pos') (Jv ta):=by
 intro pins s σ H Q I h;refine thn (ha pins s σ H _ I h) fun v s1 rz2=>?_
 obtain ⟨x,H1,I1,r1,q1⟩:=rz2;exact Constant_none (isnot_none_gen ⟨.bl _,H1,I1,by rw [r1.none_iff];rfl,q1⟩)
def tB (t:TE):TT:=fun σ H Q=>t σ H fun x H1=>∃ c,x=.bl c/\Q c H1
theorem Ip {op:CmpOp} {t:TE} (h:PC X op a b t) (h1:behindInMarks op b=false:=by first | exact xH _ (by decide) (by decide) | rfl):PE X (.Compare a [op] [b] pos) t:=fun pins s σ H Q I hw=>wpAny_Compare1 (h pins s σ H Q I hw) h1
theorem zN {op:CmpOp} {t:TE} (h:PC X op a b t) (h1:behindInMarks op b=false:=by first | exact xH _ (by decide) (by decide) | rfl):PT X (.Compare a [op] [b] pos) (tB t):=by intro pins s σ H Q I hw;refine wpAny_isTrue_Compare1 (thn (h pins s σ H _ I hw) fun v s1 h1=>thn h1 fun u s2 h2=>thn h2 fun c s3 rz2=>?_) h1;obtain ⟨x,H1,I1,r1,q1⟩:=rz2;obtain ⟨d,rfl,q⟩:=q1;cases r1;exact wpAny_truthy_bool ⟨H1,I1,q⟩
theorem G2 {e:Expr} {t:TE} (h:PE X e t) (he:∀ whole,isTrue e X.env whole=(do let v <-whole;standAt e.pos;holding [v] (truthy v)):=by intro _;rfl):PT X e (tB t):=by intro pins s σ H Q I hw;refine isTrue_plain (thn (h pins s σ H _ I hw) fun v s1 rz2=>?_) (he _);obtain ⟨x,H1,I1,r1,q1⟩:=rz2;obtain ⟨d,rfl,q⟩:=q1;cases r1;exact wpAny_truthy_bool ⟨H1,I1,q⟩
variable {tA tB':TT} {rest:List Expr}
def Kl (t u:TT):TT:=fun σ H Q=>t σ H fun c H1=>if c=true then u σ H1 Q else Q false H1
def tOr (t u:TT):TT:=fun σ H Q=>t σ H fun c H1=>if c=true then Q true H1 else u σ H1 Q
def Kc (t:TT):TT:=fun σ H Q=>t σ H fun c H1=>Q (!c) H1
theorem Gb (ha:PT X a tA):PW X (.BoolOp .And [a] pos) tA:=by
 intro wh pins s σ H Q I h;refine isTrue_and (thn (ha pins s σ H Q I h) fun c s1 e=>?_);cases c with
 | true=>exact isTrue_and_nil e
 | false=>exact e
theorem HB (ha:PT X a tA):PW X (.BoolOp .Or [a] pos) tA:=by
 intro wh pins s σ H Q I h;refine isTrue_or (thn (ha pins s σ H Q I h) fun c s1 e=>?_);cases c with
 | false=>exact isTrue_or_nil e
 | true=>exact e
theorem Hh (ha:PT X a tA) (hb:PW X (.BoolOp .And (b::rest) pos) tB'):PW X (.BoolOp .And (a::b::rest) pos) (Kl tA tB'):=by
 intro wh pins s σ H Q I h;refine isTrue_and (thn (ha pins s σ H _ I h) fun c s1 rz2=>?_);obtain ⟨H1,I1,q1⟩:=rz2;cases c with
 | true=>exact hb wh pins s1 σ H1 Q I1 q1
 | false=>exact ⟨H1,I1,q1⟩
theorem Jw (ha:PT X a tA) (hb:PW X (.BoolOp .Or (b::rest) pos) tB'):PW X (.BoolOp .Or (a::b::rest) pos) (tOr tA tB'):=by
 intro wh pins s σ H Q I h;refine isTrue_or (thn (ha pins s σ H _ I h) fun c s1 rz2=>?_);obtain ⟨H1,I1,q1⟩:=rz2;cases c with
 | true=>exact ⟨H1,I1,q1⟩
 | false=>exact hb wh pins s1 σ H1 Q I1 q1
theorem HC (ha:PT X a tA):PT X (.UnaryOp .Not a pos) (Kc tA):=by intro pins s σ H Q I h;exact isTrue_not (ha pins s σ H (fun c H1=>Q (!c) H1) I h)
def Jt (ta tb:TE):TE:=fun σ H Q=>ta σ H fun x H1=>∃ c,x=.bl c/\if c=true then tb σ H1 Q else Q (.bl false) H1
def Ks (ta tb:TE):TE:=fun σ H Q=>ta σ H fun x H1=>∃ c,x=.bl c/\if c=true then Q (.bl true) H1 else tb σ H1 Q
theorem HV {op} {t:TE} (h:PE X a t):PE X (.BoolOp op [a] pos) t:=fun pins s σ H Q I hw=>BoolOp_one (h pins s σ H Q I hw)
theorem HU (ha:PE X a ta) (hb:PE X (.BoolOp .And (b::rest) pos) tb):PE X (.BoolOp .And (a::b::rest) pos) (Jt ta tb):=by
 intro pins s σ H Q I h;refine BoolOp_and (thn (ha pins s σ H _ I h) fun v s1 rz2=>?_);obtain ⟨x,H1,I1,r1,q1⟩:=rz2;obtain ⟨c,rfl,q1⟩:=q1;cases r1;refine wpAny_truthy_bool ?_;cases c with
 | true=>exact hb pins s1 σ H1 Q I1 q1
 | false=>exact ⟨.bl false,H1,I1,rfl,q1⟩
theorem IT (ha:PE X a ta) (hb:PE X (.BoolOp .Or (b::rest) pos) tb):PE X (.BoolOp .Or (a::b::rest) pos) (Ks ta tb):=by
 intro pins s σ H Q I h;refine BoolOp_or (thn (ha pins s σ H _ I h) fun v s1 rz2=>?_);obtain ⟨x,H1,I1,r1,q1⟩:=rz2;obtain ⟨c,rfl,q1⟩:=q1;cases r1;refine wpAny_truthy_bool ?_;cases c with
 | false=>exact hb pins s1 σ H1 Q I1 q1
 | true=>exact ⟨.bl true,H1,I1,rfl,q1⟩
def tIf (t:TT) (ta tb:TE):TE:=fun σ H Q=>t σ H fun c H1=>if c=true then ta σ H1 Q else tb σ H1 Q
theorem CY {c:Expr} (hc:PT X c tA) (ha:PE X a ta) (hb:PE X b tb):PE X (.IfExp c a b pos) (tIf tA ta tb):=by
 intro pins s σ H Q I h;refine wpAny_IfExp (thn (hc pins s σ H _ I h) fun d s1 rz2=>?_);obtain ⟨H1,I1,q1⟩:=rz2;cases d with
 | true=>exact ha pins s1 σ H1 Q I1 q1
 | false=>exact hb pins s1 σ H1 Q I1 q1
end
def SqL (K:PySem.W.Frag) (H:Hp) (a:Addr) (xs:List V):Prop :=
 Rd H a (.lst xs) \/
  ∃ (o:Obj) (its:Array Value) (n:Nat),K.lookup a=some o/\o.cls=.type "list"/\o.dict=none/\o.data=.seq its n/\its.size<=sizeLine/\Vals xs its.toList
def SqT (K:PySem.W.Frag) (H:Hp) (a:Addr) (xs:List V):Prop :=
 Rd H a (.tup xs) \/
  ∃ (o:Obj) (its:Array Value) (n:Nat),K.lookup a=some o/\o.cls=.type "tuple"/\o.data=.seq its n/\its.size<=sizeLine/\Vals xs its.toList
def Kx:Value->Option V
 | .none=>some .non
 | .bool b=>some (.bl b)
 | .int i _=>some (.int i)
 | .str x _=>some (.str x)
 | .bytes b _=>some (.byt b)
 | .float b _=>some (.flt b)
 | .ref a=>some (.ref a)
 | .type n=>some (.ty n)
 | _=>none
theorem RelV.abs {x:V} {u:Value} (r:RelV x u):Kx u=some x:=by
 cases x with
 | non=>cases r;rfl
 | bl _=>cases r;rfl
 | int _=>obtain ⟨t,rfl⟩:=r;rfl
 | str _=>obtain ⟨t,rfl⟩:=r;rfl
 | byt _=>obtain ⟨t,rfl⟩:=r;rfl
 | flt _=>obtain ⟨t,rfl⟩:=r;rfl
 | ref _=>cases r;rfl
 | ty _=>cases r;rfl
theorem RelV.inj {x y:V} {u:Value} (r:RelV x u) (q:RelV y u):x=y:=Option.some.inj (r.abs.symm.trans q.abs)
theorem Vals.inj {xs ys:List V} {us:List Value} (h:Vals xs us) (h':Vals ys us):xs=ys:=by
 induction h generalizing ys with
 | nil=>cases h';rfl
 | cons r t ih =>
  cases h' with
  | cons r' t'=>rw [r.inj r',ih t']
section
variable {X:Cx} {pins:List (Addr×Obj)} {σ:St} {H:Hp} {s:Shared} {a:Addr} {xs ys:List V}
theorem SqL.of {K:PySem.W.Frag} (h:H a=some (.lst xs)):SqL K H a xs:=.inl (.inl h)
theorem SqT.of {K:PySem.W.Frag} (h:H a=some (.tup xs)):SqT K H a xs:=.inl (.inl h)
theorem Inv.list (I:Inv X pins σ H s) (h:SqL X.K H a xs):∃ its:List Value,Vals xs its/\PlainL s.heap a its.toArray/\xs.length<=sizeLine:=by
 rcases h with h | ⟨o,its,n,hk,hc,hd,hs,hz,r⟩
 ·obtain ⟨z,its,n,r,e⟩:=h.ok I.hok;exact ⟨its,r,⟨_,n,e,rfl,rfl,rfl⟩,z⟩
 ·refine ⟨its.toList,r,⟨o,n,I.kIn a o hk,hc,hd,by simpa using hs⟩,?_⟩;have e:=r.length;simp only [MD] at e;omega
theorem Inv.tuple (I:Inv X pins σ H s) (h:SqT X.K H a xs):∃ its:List Value,Vals xs its/\IsTup s.heap a its.toArray/\xs.length<=sizeLine:=by
 rcases h with h | ⟨o,its,n,hk,hc,hs,hz,r⟩
 ·obtain ⟨z,its,r,p⟩:=h.ok I.hok;exact ⟨its,r,p.tup,z⟩
 ·refine ⟨its.toList,r,⟨o,I.kIn a o hk,hc,n,by simpa using hs⟩,?_⟩;have e:=r.length;simp only [MD] at e;omega
theorem Inv.list_inj (I:Inv X pins σ H s) (h:SqL X.K H a xs) (h':SqL X.K H a ys):xs=ys:=by
 obtain ⟨its,r,⟨o,n,e,_,_,d⟩,_⟩:=I.list h;obtain ⟨its',r',⟨o',n',e',_,_,d'⟩,_⟩:=I.list h';rw [e] at e';cases e';rw [d] at d';injection d' with d1 _
 have:its=its':=by simpa using congrArg Array.toList d1
 subst this;exact r.inj r'
theorem Inv.tuple_inj (I:Inv X pins σ H s) (h:SqT X.K H a xs) (h':SqT X.K H a ys):xs=ys:=by
 obtain ⟨its,r,⟨o,e,_,n,d⟩,_⟩:=I.tuple h;obtain ⟨its',r',⟨o',e',_,n',d'⟩,_⟩:=I.tuple h';rw [e] at e';cases e';rw [d] at d';injection d' with d1 _
 have:its=its':=by simpa using congrArg Array.toList d1
 subst this;exact r.inj r'
end
abbrev Cx.wish (X:Cx) (E:Value->Shared->Prop):Cx:={ X with xe:=E }
abbrev Cx.nox (X:Cx):Cx:=X.wish fun _ _=>False
theorem Cx.Ok.wish {X:Cx} (ok:X.Ok) (E:Value->Shared->Prop):(X.wish E).Ok :=
 ⟨ok.mod,ok.kind,ok.glob,ok.blt,ok.above,ok.inj,ok.has,ok.cab,ok.hd,ok.frames,ok.stk,ok.exf,ok.bs,ok.bsz,ok.noex,ok.exfs,ok.funs,ok.frf⟩
theorem Cx.Ok.unwish {X:Cx} {E:Value->Shared->Prop} (ok:(X.wish E).Ok):X.Ok :=
 ⟨ok.mod,ok.kind,ok.glob,ok.blt,ok.above,ok.inj,ok.has,ok.cab,ok.hd,ok.frames,ok.stk,ok.exf,ok.bs,ok.bsz,ok.noex,ok.exfs,ok.funs,ok.frf⟩
section
variable {X:Cx} {pins:List (Addr×Obj)} {σ:St} {H:Hp} {s:Shared} {E:Value->Shared->Prop}
theorem Inv.wish (I:Inv X pins σ H s) (E:Value->Shared->Prop):Inv (X.wish E) pins σ H s:=⟨I.ok.wish E,I.os,I.bare,I.base,I.loc,I.cell,I.free,I.freeC,I.pin,I.hok,I.len,I.tab⟩
theorem Inv.unwish (I:Inv (X.wish E) pins σ H s):Inv X pins σ H s:=⟨I.ok.unwish,I.os,I.bare,I.base,I.loc,I.cell,I.free,I.freeC,I.pin,I.hok,I.len,I.tab⟩
theorem SP.unwish {D:Ends} {f:Flow} {s':Shared} (h:SP (X.wish E) pins D f s'):SP X pins D f s':=by
 cases f with
 | next=>obtain ⟨σ',H',I,q⟩:=h;exact ⟨σ',H',I.unwish,q⟩
 | brk=>obtain ⟨σ',H',I,q⟩:=h;exact ⟨σ',H',I.unwish,q⟩
 | cont=>obtain ⟨σ',H',I,q⟩:=h;exact ⟨σ',H',I.unwish,q⟩
 | ret u=>obtain ⟨v,σ',H',I,r,q⟩:=h;exact ⟨v,σ',H',I.unwish,r,q⟩
theorem PSs.nox {st:List Stmt} {t:TS} (h:PSs X.nox st t):PSs X st t:=fun pins s σ H D I hw =>
 wpAny_mono (h pins s σ H D (I.wish _) hw) (fun _ _ q=>q.unwish) fun _ _ z=>False.elim z
end
section
variable {X:Cx} {st:Stmt} {rest:List Stmt} {t u:TS} {e:Expr} {te:TE} {pos:Pos}
def Jz:TS:=fun D σ H=>D.nx σ H
def Kw (t u:TS):TS:=fun D σ H=>t { D with nx:=u D } σ H
theorem vY:PSs X [] Jz:=fun _ _ σ H _ I h=>wpAny_execs_nil ⟨σ,H,I,h⟩
theorem ej (h1:PS X st t) (h2:PSs X rest u):PSs X (st::rest) (Kw t u):=by
 intro pins s σ H D I h;refine wpAny_execs_cons (thn (h1 pins s σ H { D with nx:=u D } I h) fun f s1 q=>?_);cases f with
 | next =>obtain ⟨σ',H',I',q⟩:=q;exact h2 pins s1 σ' H' D I' q
 | ret v=>exact q
 | brk=>exact q
 | cont=>exact q
theorem jW (h1:PS X st t):PSs X [st] t:=by
 intro pins s σ H D I h;refine wpAny_execs_cons (thn (h1 pins s σ H D I h) fun f s1 q=>?_);cases f with
 | next=>exact wpAny_execs_nil q
 | ret v=>exact q
 | brk=>exact q
 | cont=>exact q
theorem Inv.quiet {pins:List (Addr×Obj)} {σ:St} {H:Hp} {s:Shared} (I:Inv X pins σ H s):interactive X.env=false:=by simp [interactive,I.ok.kind]
def Jh (te:TE):TS:=fun D σ H=>te σ H fun _ H1=>D.nx σ H1
theorem qB (he:PE X e te) (hs:swapsWith e none pos.line X.env=pure false:=by rfl):PS X (.Expr e pos) (Jh te):=by intro pins s σ H D I h;exact wpAny_Expr_any (thn (he pins s σ H _ I h) fun v s1 qz2=>(by obtain ⟨x,H1,I1,r1,q1⟩:=qz2;exact ⟨σ,H1,I1,q1⟩)) I.quiet hs
def KA (te:TE):TS:=fun D σ H=>te σ H D.rt
theorem sY (he:PE X e te):PS X (.Return (some e) pos) (KA te):=by intro pins s σ H D I h;exact wpAny_Return_some (thn (he pins s σ H _ I h) fun v s1 qz2=>(by obtain ⟨x,H1,I1,r1,q1⟩:=qz2;exact ⟨x,σ,H1,I1,r1,q1⟩))
def Kn (c:TT) (t u:TS):TS:=fun D σ H=>c σ H fun b H1=>if b=true then t D σ H1 else u D σ H1
theorem A8 {c:Expr} {a b:List Stmt} {tc:TT} (hc:PT X c tc) (ha:PSs X a t) (hb:PSs X b u):PS X (.If c a b pos) (Kn tc t u):=by
 intro pins s σ H D I h;refine wpAny_If (thn (hc pins s σ H _ I h) fun d s1 rz2=>?_);obtain ⟨H1,I1,q1⟩:=rz2;cases d with
 | true=>exact ha pins s1 σ H1 D I1 q1
 | false=>exact hb pins s1 σ H1 D I1 q1
end
abbrev TG:=V->St->Hp->(St->Hp->Prop)->Prop
abbrev TGs:=List V->St->Hp->(St->Hp->Prop)->Prop
def PG (X:Cx) (target:Expr) (t:TG):Prop :=
 ∀ (pins:List (Addr×Obj)) (s:Shared) (σ:St) (H:Hp) (v:V) (u:Value) (Q:St->Hp->Prop),Inv X pins σ H s->RelV v u->t v σ H Q ->
  wpAny (model X.prog X.w) X.A (assign target X.env u) (fun _ s'=>∃ σ' H',Inv X pins σ' H' s'/\Q σ' H') X.xe s
def PGs (X:Cx) (ts:List Expr) (t:TGs):Prop :=
 ∀ (pins:List (Addr×Obj)) (s:Shared) (σ:St) (H:Hp) (vs:List V) (us:List Value) (Q:St->Hp->Prop),Inv X pins σ H s->Vals vs us->t vs σ H Q ->
  wpAny (model X.prog X.w) X.A (assignInOrder ((assignEach ts X.env).map (·.2)) us) (fun _ s'=>∃ σ' H',Inv X pins σ' H' s'/\Q σ' H') X.xe s
abbrev He:=V->V->V->Hp->(Hp->Prop)->Prop
def JM (X:Cx) (t:He):Prop :=
 ∀ (pins:List (Addr×Obj)) (s:Shared) (σ:St) (H:Hp) (o i v:V) (ov iv u:Value) (Q:Hp->Prop),Inv X pins σ H s->RelV o ov->RelV i iv->RelV v u->t o i v H Q ->
  wpAny (model X.prog X.w) X.A (setItem ov iv u) (fun _ s'=>∃ H',Inv X pins σ H' s'/\Q H') X.xe s
section
variable {X:Cx} {pos:Pos}
def kY (i:Nat):TG:=fun v σ H Q=>Q (σ.set i (some v)) H
theorem bD {i:Nat} {x:Str} (hN:X.N.Nodup) (hi:X.N[i]?=some x) (hx:Loc X.env.scope x) (hf:X.fn x=true\/X.env.scope.names.lookup x=some .local:=by first | exact .inl rfl | exact .inr rfl | assumption):PG X (.Name x pos) (kY i):=by intro pins s σ H v u Q I r h;exact wpAny_assign_Name (xG I hN hi hx r (fun s' I'=>⟨_,H,I',h⟩) hf)
def HY:TGs:=fun vs σ H Q=>vs=[]/\Q σ H
def Ah (t:TG) (u:TGs):TGs:=fun vs σ H Q=>∃ v r,vs=v::r/\t v σ H fun σ' H'=>u r σ' H' Q
theorem nz:PGs X [] HY:=by intro pins s σ H vs us Q I r h;obtain ⟨e,h⟩:=h;subst e;cases r;exact assignInOrder_nil ⟨σ,H,I,h⟩
theorem dN {e:Expr} {es:List Expr} {t:TG} {u:TGs} (h1:PG X e t) (h2:PGs X es u)
  (hs:(assignEach (e::es) X.env).map (·.2)=assign e X.env::(assignEach es X.env).map (·.2):=by rfl):PGs X (e::es) (Ah t u):=by
 intro pins s σ H vs us Q I r h;obtain ⟨v,vr,e1,h⟩:=h;subst e1;cases r with
 | cons r rr =>rw [hs];refine assignInOrder_cons (thn (h1 pins s σ H _ _ _ I r h) fun _ s1 rz2=>?_);obtain ⟨σ1,H1,I1,q1⟩:=rz2;exact h2 pins s1 σ1 H1 _ _ Q I1 rr q1
def G1 (K:PySem.W.Frag) (n:Nat) (t:TGs):TG:=fun v σ H Q=>∃ a xs,v=.ref a/\SqT K H a xs/\xs.length=n/\t xs σ H Q
theorem rH {es:List Expr} {k:Nat} {t:TGs} {n:Nat} (hc:X.calm=true) (h:PGs X es t)
  (hn:(assignEach es X.env).length=n:=by rfl) (hst:(assignEach es X.env).findIdx? (·.1)=none:=by rfl):PG X (.Tuple es k pos) (G1 X.K n t):=by
 intro pins s σ H v u Q I r hw;obtain ⟨a,xs,e1,hq,hl,hw⟩:=hw;subst e1;cases r;obtain ⟨its,rv,ht,hz⟩:=I.tuple hq;refine assign_Tuple_tuple (I.ok.hd hc) ht (by simp [hn,<-hl,rv.length]) hst fun h' hx=>?_
 have I1:Inv X pins σ H { s with heap:=h' }:=I.kept (t':=s.toks) fun b o e=>hx b o (KY (KR e)) e
 exact h pins _ σ H xs _ Q I1 (by simpa using rv) hw
def KD (to ti:TE) (t:He):TG:=fun v σ H Q=>to σ H fun o H1=>ti σ H1 fun i H2=>t o i v H2 fun H3=>Q σ H3
theorem Ik {o i:Expr} {to ti:TE} {t:He} (ho:PE X o to) (hi:PE X i ti) (hs:JM X t)
  (ha:∀ v,assign (.Subscript o i pos) X.env v=(do
   let ov <-holding [v] (eval o X.env);let iv <-holding [v,ov] (eval i X.env)
   standAt pos
   holding [v,ov,iv] (setItem ov iv v)
   release [v,ov,iv] []):=by intro _;rfl):PG X (.Subscript o i pos) (KD to ti t):=by
 intro pins s σ H v u Q I r h;rw [ha];refine wpAny_bind (wpAny_holding (thn (ho pins s σ H _ I h) fun ov s1 rz2=>?_));obtain ⟨x,H1,I1,r1,q1⟩:=rz2;refine wpAny_bind (wpAny_holding (thn (hi pins s1 σ H1 _ I1 q1) fun iv s2 rz2=>?_));obtain ⟨y,H2,I2,r2,q2⟩:=rz2;refine wpAny_bind (wpAny_standAt (wpAny_bind (wpAny_holding (thn (hs pins s2 σ H2 x y v ov iv u _ I2 r1 r2 r q2) fun _ s3 rz2=>?_))));obtain ⟨H3,I3,q3⟩:=rz2;exact wpAny_release ⟨σ,H3,I3,q3⟩
def C5 (te:TE) (g:TG):TS:=fun D σ H=>te σ H fun x H1=>g x σ H1 D.nx
theorem Dl {tg e:Expr} {te:TE} {g:TG} (he:PE X e te) (hg:PG X tg g) (hs:swapsWithSole [tg] e pos.line X.env=pure false:=by rfl) (hw:swappedStores [tg] e X.env=pure none:=by rfl)
  (h1:(assignEach [tg] X.env).map (·.2)=[assign tg X.env]:=by rfl):PS X (.Assign [tg] e pos) (C5 te g):=by
 intro pins s σ H D I h;refine wpAny_Assign_stores (thn (he pins s σ H _ I h) fun v s1 rz2=>?_) hs hw;obtain ⟨x,H1,I1,r1,q1⟩:=rz2;rw [h1];exact thn (hg pins s1 σ H1 x v _ I1 r1 q1) fun _ s2 q=>q
theorem rT {i:Nat} {x:Str} {e:Expr} {te:TE} {pos':Pos} (hN:X.N.Nodup) (hi:X.N[i]?=some x) (hx:Loc X.env.scope x) (he:PE X e te) (hs:swapsWith e (some (.Name x pos')) pos.line X.env=pure false:=by rfl) (hf:X.fn x=true\/X.env.scope.names.lookup x=some .local:=by first | exact .inl rfl | exact .inr rfl | assumption) :
  PS X (.Assign [.Name x pos'] e pos) (C5 te (kY i)):=by
 intro pins s σ H D I h;refine wpAny_Assign_Name (thn (he pins s σ H _ I h) fun v s1 rz2=>?_) hs;obtain ⟨y,H1,I1,r1,q1⟩:=rz2;exact xG I1 hN hi hx r1 (fun s2 I2=>⟨_,H1,I2,q1⟩) hf
end
section
variable {X:Cx} {pos:Pos}
def Ir (c:TT) (tb:TS):TS:=fun D σ H=>∃ W:Nat->St->Hp->Prop,(∃ m,W m σ H)/\∀ m σ H,W m σ H ->
 c σ H fun b H1=>if b=true then ∃ N:St->Hp->Prop,(∀ σ' H',N σ' H'->∃ m',m' < m/\W m' σ' H')/\tb { D with nx:=N,ct:=N,bk:=D.nx } σ H1 else D.nx σ H1
theorem xC {c:Expr} {body:List Stmt} {tc:TT} {tb:TS} (hp:PassesOwn (model X.prog X.w) X.A X.env X.xe) (hc:PT X c tc) (hb:PSs X body tb):PS X (.While c body [] pos) (Ir tc tb):=by
 intro pins s σ H D I h;obtain ⟨W,⟨m0,w0⟩,turn⟩:=h;refine wpAny_While (codeAny_whileLoop (fun n s'=>∃ σ' H',Inv X pins σ' H' s'/\W n σ' H') ?_ m0 ⟨σ,H,I,w0⟩)
 rintro n s1 ⟨σ1,H1,I1,w1⟩
 refine wpAny_passesOwn hp (thn (hc pins s1 σ1 H1 _ I1 (turn n σ1 H1 w1)) fun b s2 rz2=>?_);obtain ⟨H2,I2,q2⟩:=rz2;cases b with
 | true =>
  obtain ⟨N,hN,q2⟩:=q2;rw [if_pos rfl];refine wpAny_passesOwn hp (thn (hb pins s2 σ1 H2 _ I2 q2) fun f s3 q3=>?_);cases f with
  | next =>obtain ⟨σ3,H3,I3,n3⟩:=q3;obtain ⟨m',hm,w3⟩:=hN σ3 H3 n3;exact ⟨m',hm,σ3,H3,I3,w3⟩
  | cont =>obtain ⟨σ3,H3,I3,n3⟩:=q3;obtain ⟨m',hm,w3⟩:=hN σ3 H3 n3;exact ⟨m',hm,σ3,H3,I3,w3⟩
  | brk=>exact q3
  | ret v=>exact q3
 | false =>rw [if_neg L9];exact wpAny_execs_nil ⟨σ1,H2,I2,q2⟩
end
structure It where
 go:Nat->Hp->Prop
 yld:Nat->Hp->V->Hp->Prop
 stop:Nat->Hp->Prop
def qJ (X:Cx) (pins:List (Addr×Obj)) (H:Hp) (b:Addr):Prop :=
 H b=none/\b≠X.env.locals/\b∉X.fs/\(b∈X.ex\/X.s₀.heap.objs.size<=b)/\(∀ x c,X.env.cells.lookup x=some c->c≠b)/\∀ p∈X.pn++pins,p.1≠b
theorem Inv.fpOk {X:Cx} {pins:List (Addr×Obj)} {σ:St} {H H':Hp} {s:Shared} {b:Addr} (I:Inv X pins σ H s) (hb:s.heap.objs.size<=b) (hn:H' b=none):qJ X pins H' b:=by
 refine ⟨hn,LA (L1 I.lt hb),I.nofs hb,.inr (Lz I.sz hb),fun x c e z=>?_,fun p hp z=>?_⟩
 ·obtain ⟨v,q⟩:=I.cell x c e;exact absurd (L1 q.lt (by rw [z];exact hb)) (LX _)
 ·exact absurd (L1 (KR (I.pin p hp).1) (by rw [z];exact hb)) (LX _)
structure Turn (P:Program) (w:World) (K:PySem.W.Frag) (tg:Expr) (J:It) (fp:List Addr) (it:Addr) (tn:Nat->Heap->Prop):Prop where
 mem:it∈fp
 obj:∀ i h,tn i h->∀ b∈fp,∃ o,h.get? b=some o/\∀ v,o.data≠.cell v
 keep:∀ i h h',tn i h->(∀ b∈fp,∀ o,h.get? b=some o->h'.get? b=some o)->tn i h'
 item:∀ (X:Cx),X.prog=P->X.w=w->X.K=K->X.calm=true->∀ (i:Nat) (pins:List (Addr×Obj)) (s:Shared) (σ:St) (H:Hp) (E:Value->Shared->Prop),Inv X pins σ H s->(∀ b∈fp,qJ X pins H b)->tn i s.heap->J.go i H ->
  wpAny (model P w) X.A (pyNext (.ref it)) (fun r s1=>∃ u,r=some u /\
   wpAny (model P w) X.A (letOwnedTupleGo tg (.ref it) u) (fun _ s2=>∃ x H',Inv X pins σ H' s2/\RelV x u/\J.yld i H x H'/\tn (i+1) s2.heap/\∀ b∈fp,H' b=none) E s1) E s
 done:∀ (X:Cx),X.prog=P->X.w=w->X.K=K->X.calm=true->∀ (i:Nat) (pins:List (Addr×Obj)) (s:Shared) (σ:St) (H:Hp) (E:Value->Shared->Prop),Inv X pins σ H s->(∀ b∈fp,qJ X pins H b)->tn i s.heap->J.stop i H ->
  wpAny (model P w) X.A (pyNext (.ref it)) (fun r s1=>r=none/\Inv X pins σ H s1) E s
 self:∀ (A:Around) (i:Nat) (s:Shared) (Q:Value->Shared->Prop) (E:Value->Shared->Prop),tn i s.heap->Q (.ref it) s->wpAny (model P w) A (pyIter (.ref it)) Q E s
abbrev TI:=St->Hp->(It->Hp->Prop)->Prop
def PIE (X:Cx) (pins:List (Addr×Obj)) (σ:St) (tg:Expr) (R:It->Hp->Prop) (itv:Value) (s2:Shared):Prop :=
 ∃ (it:Addr) (fp:List Addr) (tn:Nat->Heap->Prop) (J:It) (H':Hp),itv=.ref it/\Inv X pins σ H' s2/\Turn X.prog X.w X.K tg J fp it tn/\tn 0 s2.heap/\(∀ b∈fp,qJ X pins H' b)/\R J H'
def PI (X:Cx) (tg iter:Expr) (wi:TI):Prop :=
 ∀ (pins:List (Addr×Obj)) (s:Shared) (σ:St) (H:Hp) (R:It->Hp->Prop),Inv X pins σ H s->wi σ H R ->
  wpAny (model X.prog X.w) X.A (eval iter X.env) (fun v s1=>wpAny (model X.prog X.w) X.A (pyIter v) (PIE X pins σ tg R) X.xe s1) X.xe s
theorem An {M:Model} {A:Around} {E:Value->Shared->Prop} {s:Shared} {tg:Expr} {it:Addr} {u:Value} {o:Obj} {n:String} {vs:Array Value} {Q:Unit->Shared->Prop} (ho:s.heap.get? it=some o) (hc:o.cls=.type n) (hd:o.data=.fields vs)
    (hn:["enumerate", "zip", "dict_itemiterator", "dict_reverseitemiterator", "odict_iterator", "itertools.zip_longest", "itertools.pairwise"].contains n=false) (hQ:Q () s):wpAny M A (letOwnedTupleGo tg (.ref it) u) Q E s:=by
  unfold letOwnedTupleGo
  cases tg <;> first
    | exact wpAny_pure hQ
    | (cases u <;> first
        | exact wpAny_pure hQ
        | (refine wpAny_bind (wpAny_load ho ?_)
           rw [hc,hd]
           show wpAny M A (if (["enumerate", "zip", "dict_itemiterator", "dict_reverseitemiterator", "odict_iterator", "itertools.zip_longest", "itertools.pairwise"].contains n&&vs[0]?==some (rawInt _))=true then _ else _) Q E s
           rw [if_neg (by intro h;rw [hn,Bool.false_and] at h;cases h)]
           exact wpAny_pure hQ))
def Itl (K:PySem.W.Frag) (a:Addr):It :=
 ⟨fun i H=>∃ xs x,SqL K H a xs/\xs[i]?=some x,fun i H x H'=>H'=H/\∀ xs,SqL K H a xs->xs[i]?=some x,fun i H=>∃ xs,SqL K H a xs/\xs.length<=i⟩
def Itt (K:PySem.W.Frag) (a:Addr):It :=
 ⟨fun i H=>∃ xs x,SqT K H a xs/\xs[i]?=some x,fun i H x H'=>H'=H/\∀ xs,SqT K H a xs->xs[i]?=some x,fun i H=>∃ xs,SqT K H a xs/\xs.length<=i⟩
def Itr (lo:Int) (n:Nat):It:=⟨fun i _=>i<n,fun i H x H'=>H'=H/\x=.int (lo+i),fun i _=>n<=i⟩
theorem BH {P:Program} {w:World} {K:PySem.W.Frag} {tg:Expr} (a it:Addr):Turn P w K tg (Itl K a) [it] it (fun i h=>h.IsListIter it a i) where
 mem:=by simp
 obj:=fun i h st b hb=>by
  have e:b=it:=by simpa using hb
  subst e;obtain ⟨o,e,c,d⟩:=st;exact ⟨o,e,fun v z=>by rw [d] at z;cases z⟩
 keep:=fun i h h' st k=>st.at fun o e=>k it (by simp) o e
 item:=by
  intro X hP hw hK hc i pins s σ H E I hf st hg;subst hP hw hK;obtain ⟨xs,x,hq,hx⟩:=hg;obtain ⟨its,rv,p,hz⟩:=I.list hq;obtain ⟨u,hu,ru⟩:=rv.get hx;obtain ⟨f0,f1,f2,f3,f4,f5⟩:=hf it (by simp);refine wpAny_pyNext_list_item st p.isList (x:=u) (by simpa using hu) fun h' st' sb=>?_
  have I1:Inv X pins σ H { s with heap:=h' }:=I.turned (t':=s.toks) (fun b o hb e=>(sb.2 b hb).trans e) f0 f1 f3 f4 f5;obtain ⟨o,e,c,d⟩:=id st';exact ⟨u,rfl,An (s:={ s with heap:=h' }) e c d (by decide) ⟨x,H,I1,ru,⟨rfl,fun ys hy=>by rw [I.list_inj hy hq];exact hx⟩,st',fun b hb=>(hf b hb).1⟩⟩
 done:=by intro X hP hw hK hc i pins s σ H E I hf st hg;subst hP hw hK;obtain ⟨xs,hq,hx⟩:=hg;obtain ⟨its,rv,p,hz⟩:=I.list hq;obtain ⟨f0,f1,f2,f3,f4,f5⟩:=hf it (by simp);have hl:=rv.length;exact wpAny_pyNext_list_end (I.ok.hd hc) st p.isList (by simp;omega) fun h' eb=>⟨rfl,I.turned (t':=s.toks) (fun b o hb e=>eb b o hb e) f0 f1 f3 f4 f5⟩
 self:=fun _ _ _ _ _ st h=>wpAny_pyIter_listiter st h
theorem zR {P:Program} {w:World} {K:PySem.W.Frag} {tg:Expr} (a it:Addr):Turn P w K tg (Itt K a) [it] it (fun i h=>h.IsTupleIter it a i) where
 mem:=by simp
 obj:=fun i h st b hb=>by
  have e:b=it:=by simpa using hb
  subst e;obtain ⟨o,e,c,d⟩:=st;exact ⟨o,e,fun v z=>by rw [d] at z;cases z⟩
 keep:=fun i h h' st k=>st.at fun o e=>k it (by simp) o e
 item:=by
  intro X hP hw hK hc i pins s σ H E I hf st hg;subst hP hw hK;obtain ⟨xs,x,hq,hx⟩:=hg;obtain ⟨its,rv,p,hz⟩:=I.tuple hq;obtain ⟨u,hu,ru⟩:=rv.get hx;obtain ⟨f0,f1,f2,f3,f4,f5⟩:=hf it (by simp);refine wpAny_pyNext_tuple_item st (show s.heap.IsTuple a its.toArray from p) (x:=u) (by simpa using hu) fun h' st' sb=>?_
  have I1:Inv X pins σ H { s with heap:=h' }:=I.turned (t':=s.toks) (fun b o hb e=>(sb.2 b hb).trans e) f0 f1 f3 f4 f5;obtain ⟨o,e,c,d⟩:=id st';exact ⟨u,rfl,An (s:={ s with heap:=h' }) e c d (by decide) ⟨x,H,I1,ru,⟨rfl,fun ys hy=>by rw [I.tuple_inj hy hq];exact hx⟩,st',fun b hb=>(hf b hb).1⟩⟩
 done:=by intro X hP hw hK hc i pins s σ H E I hf st hg;subst hP hw hK;obtain ⟨xs,hq,hx⟩:=hg;obtain ⟨its,rv,p,hz⟩:=I.tuple hq;obtain ⟨f0,f1,f2,f3,f4,f5⟩:=hf it (by simp);have hl:=rv.length;exact wpAny_pyNext_tuple_end (I.ok.hd hc) st (show s.heap.IsTuple a its.toArray from p) (by simp;omega) fun h' eb=>⟨rfl,I.turned (t':=s.toks) (fun b o hb e=>eb b o hb e) f0 f1 f3 f4 f5⟩
 self:=fun _ _ _ _ _ st h=>wpAny_pyIter_tupleiter st h
theorem yI {P:Program} {w:World} {K:PySem.W.Frag} {tg:Expr} (it:Addr) (lo:Int) (n:Nat):Turn P w K tg (Itr lo n) [it] it (fun i h=>IsRangeIter h it (lo+(i:Nat)*1) ((n:Int)-(i:Nat)) 1) where
 mem:=by simp
 obj:=fun i h st b hb=>by
  have e:b=it:=by simpa using hb
  subst e;exact ⟨_,st,fun v z=>by have z':Data.fields _=Data.cell v:=z;cases z'⟩
 keep:=fun i h h' st k=>k it (by simp) _ st
 item:=by
  intro X hP hw hK hc i pins s σ H E I hf st hg;subst hP hw hK;obtain ⟨f0,f1,f2,f3,f4,f5⟩:=hf it (by simp);have W:=Walks.range (prog:=X.prog) (w:=X.w) (I.ok.hd hc) it lo 1 n;refine W.item i s _ _ hg st fun v h' tk hv st' kk=>?_
  obtain ⟨t,rfl⟩:=hv;have I1:Inv X pins σ H { s with heap:=h',toks:=tk }:=I.turned (fun b o hb e=>kk b o (by simpa using hb) e) f0 f1 f3 f4 f5;refine ⟨_,rfl,An (s:={ s with heap:=h',toks:=tk }) (n:="range_iterator") st' rfl rfl (by decide) ⟨.int (lo+i),H,I1,⟨t,?_⟩,⟨rfl,rfl⟩,st',fun b hb=>(hf b hb).1⟩⟩;rw [Int.mul_one]
 done:=by intro X hP hw hK hc i pins s σ H E I hf st hg;subst hP hw hK;obtain ⟨f0,f1,f2,f3,f4,f5⟩:=hf it (by simp);exact wpAny_pyNext_range_end (I.ok.hd hc) st (by have:n<=i:=hg;omega) fun h' eb=>⟨rfl,I.turned (t':=s.toks) (fun b o hb e=>eb b o hb e) f0 f1 f3 f4 f5⟩
 self:=fun _ _ _ _ _ st h=>wpAny_pyIter_rangeiter st h
section
variable {X:Cx} {tg:Expr}
def IS (K:PySem.W.Frag) (tl:TE):TI:=fun σ H R=>tl σ H fun x H1=>∃ a,x=.ref a/\(∃ xs,SqL K H1 a xs)/\R (Itl K a) H1
def Kd (K:PySem.W.Frag) (tl:TE):TI:=fun σ H R=>tl σ H fun x H1=>∃ a,x=.ref a/\(∃ xs,SqT K H1 a xs)/\R (Itt K a) H1
theorem ED {l:Expr} {tl:TE} (hl:PE X l tl):PI X tg l (IS X.K tl):=by
 intro pins s σ H R I h;refine thn (hl pins s σ H _ I h) fun v s1 rz2=>?_
 obtain ⟨x,H1,I1,r1,q1⟩:=rz2;obtain ⟨a,e,⟨xs,hq⟩,q⟩:=q1;subst e;cases r1;obtain ⟨its,rv,p,hz⟩:=I1.list hq;refine wpAny_pyIter_list p.isList ?_;refine ⟨s1.heap.objs.size,[s1.heap.objs.size],_,_,H1,rfl,I1.kept (t':=s1.toks) fun b o e=>K2 _ e,BH a _,⟨_,KZ _ rfl,rfl,rfl⟩,fun b hb=>?_,q⟩;have e:b=s1.heap.objs.size:=by simpa using hb
 subst e;exact I1.fpOk (K8 _) (I1.hok.fresh (K8 _))
theorem GV {l:Expr} {tl:TE} (hl:PE X l tl):PI X tg l (Kd X.K tl):=by
 intro pins s σ H R I h;refine thn (hl pins s σ H _ I h) fun v s1 rz2=>?_
 obtain ⟨x,H1,I1,r1,q1⟩:=rz2;obtain ⟨a,e,⟨xs,hq⟩,q⟩:=q1;subst e;cases r1;obtain ⟨its,rv,p,hz⟩:=I1.tuple hq;refine wpAny_pyIter_tuple (show s1.heap.IsTuple a its.toArray from p) ?_;refine ⟨s1.heap.objs.size,[s1.heap.objs.size],_,_,H1,rfl,I1.kept (t':=s1.toks) fun b o e=>K2 _ e,zR a _,⟨_,KZ _ rfl,rfl,rfl⟩,fun b hb=>?_,q⟩;have e:b=s1.heap.objs.size:=by simpa using hb
 subst e;exact I1.fpOk (K8 _) (I1.hok.fresh (K8 _))
theorem xT {pins:List (Addr×Obj)} {σ:St} {H:Hp} {s:Shared} {R:It->Hp->Prop} {E:Value->Shared->Prop} {lo hi:Int} {t u v:Tok} {tk:Nat} (I:Inv X pins σ H s) (h1:-(2 ^ 62)<=lo) (h2:lo<2 ^ 62) (h3:-(2 ^ 62)<=hi) (h4:hi<2 ^ 62)
  (q:R (Itr lo (hi-lo).toNat) H):wpAny (model X.prog X.w) X.A (pyIter (.ref s.heap.objs.size)) (PIE X pins σ tg R) E { s with heap:=s.heap.push { cls:=.type "range",data:=.fields #[.int lo t,.int hi u,.int 1 v] },toks:=tk }:=by
 refine wpAny_pyIter_range (IsRange.new ..) (small_one h1 h2 h3 h4) ?_;have I1:Inv X pins σ H { s with heap:=s.heap.push { cls:=.type "range",data:=.fields #[.int lo t,.int hi u,.int 1 v] },toks:=tk }:=I.kept fun b o e=>K2 _ e
 refine ⟨(s.heap.push { cls:=.type "range",data:=.fields #[.int lo t,.int hi u,.int 1 v] }).objs.size,[(s.heap.push { cls:=.type "range",data:=.fields #[.int lo t,.int hi u,.int 1 v] }).objs.size],_,_,H,rfl,
  I1.kept (t':=tk) fun b o e=>K2 _ e,yI _ lo (hi-lo).toNat,?_,fun b hb=>?_,q⟩
 ·have e1:lo+((0:Nat):Int)*1=lo:=by simp
  have e2:(((hi-lo).toNat:Nat):Int)-((0:Nat):Int)=Builtin.Range.rangeSize lo hi 1:=by rw [rangeSize_one];split <;> omega
  show IsRangeIter _ _ (lo+((0:Nat):Int)*1) ((((hi-lo).toNat:Nat):Int)-((0:Nat):Int)) 1;rw [e1,e2];exact KZ _ rfl
 ·have e:b=(s.heap.push { cls:=.type "range",data:=.fields #[.int lo t,.int hi u,.int 1 v] }).objs.size:=by simpa using hb
  subst e;exact I1.fpOk (K8 _) (I1.hok.fresh (K8 _))
def JH (ta:TA):TI:=fun σ H R=>ta σ H fun vs H1=>∃ j:Int,vs=[.int j]/\-(2 ^ 62)<=j/\j<2 ^ 62/\R (Itr 0 j.toNat) H1
def Js (ta:TA):TI:=fun σ H R=>ta σ H fun vs H1=>∃ i j:Int,vs=[.int i,.int j]/\(-(2 ^ 62)<=i/\i<2 ^ 62/\-(2 ^ 62)<=j/\j<2 ^ 62)/\R (Itr i (j-i).toNat) H1
theorem BL {a:Expr} {ta:TA} {p pos:Pos} (hg:Gl X "range") (hm:X.mg "range"=none) (ha:PA X [a] ta) (hs:starEach [a] X.env=[(false,eval a X.env)]:=by rfl):PI X tg (.Call (.Name "range" p) [a] [] pos) (JH ta):=by
 intro pins s σ H R I h;refine Call_ (fX I hg hm boot_range (PyProof.Rows.callWith_type1 (thn (ha pos pins s σ H _ I h) fun us s1 rz2=>?_) hs rfl));obtain ⟨vs,H1,I1,r1,q1⟩:=rz2;obtain ⟨j,e,q1,q2,q⟩:=q1;subst e;cases r1 with
 | cons r rr =>cases rr;obtain ⟨t,rfl⟩:=r;exact call_range_1 (xT I1 (by omega) (by omega) q1 q2 (by simpa using q))
theorem Bp {a b:Expr} {ta:TA} {p pos:Pos} (hg:Gl X "range") (hm:X.mg "range"=none) (ha:PA X [a,b] ta) (hs:starEach [a,b] X.env=[(false,eval a X.env),(false,eval b X.env)]:=by rfl) (hs2:starEach [b] X.env=[(false,eval b X.env)]:=by rfl) :
  PI X tg (.Call (.Name "range" p) [a,b] [] pos) (Js ta):=by
 intro pins s σ H R I h;refine Call_ (fX I hg hm boot_range (PyProof.Rows.callWith_type1 (thn (ha pos pins s σ H _ I h) fun us s1 rz2=>?_) (by rw [hs,hs2]) (by rw [hs2];rfl)));obtain ⟨vs,H1,I1,r1,q1⟩:=rz2;obtain ⟨i,j,e,⟨q1,q2,q3,q4⟩,q⟩:=q1;subst e;cases r1 with
 | cons r rr =>
  cases rr with
  | cons r' rr =>cases rr;obtain ⟨t,rfl⟩:=r;obtain ⟨t',rfl⟩:=r';exact call_range_2 (xT I1 q1 q2 q3 q4 q)
def Kh (wi:TI) (g:TG) (tb:TS):TS:=fun D σ H=>wi σ H fun J H1=>∃ W:Nat->Nat->St->Hp->Prop,(∃ m,W 0 m σ H1)/\∀ i m σ H,W i m σ H ->
 (J.stop i H/\D.nx σ H)\/(J.go i H/\∃ N:St->Hp->Prop,(∀ σ' H',N σ' H'->∃ m',m' < m/\W (i+1) m' σ' H')/\∀ x H',J.yld i H x H'->g x σ H' fun σ2 H2=>tb { D with nx:=N,ct:=N,bk:=D.nx } σ2 H2)
def qR (fp:List Addr) (h:Heap):List (Addr×Obj):=fp.filterMap fun b=>(h.get? b).map fun o=>(b,o)
theorem j4 {fp:List Addr} {h:Heap} {b:Addr} {o:Obj} (hb:b∈fp) (e:h.get? b=some o):(b,o)∈qR fp h:=MJ.mpr ⟨b,hb,by rw [e];rfl⟩
theorem BF {fp:List Addr} {h:Heap} {p:Addr×Obj} (hp:p∈qR fp h):p.1∈fp/\h.get? p.1=some p.2:=by
 obtain ⟨b,hb,e⟩:=MJ.mp hp;cases q:h.get? b with
 | none=>rw [q] at e;cases e
 | some o =>rw [q] at e;have e':(b,o)=p:=Option.some.inj e;subst e';exact ⟨hb,q⟩
theorem Inv.pinned {pins:List (Addr×Obj)} {σ:St} {H:Hp} {s:Shared} {fp:List Addr} (I:Inv X pins σ H s) (hf:∀ b∈fp,qJ X pins H b) (ho:∀ b∈fp,∃ o,s.heap.get? b=some o/\∀ v,o.data≠.cell v):Inv X (pins++qR fp s.heap) σ H s :=
 I.pins_of fun p hp=>(Lg.mp hp).elim (fun z=>I.pin p (K7 _ z)) fun z=>by obtain ⟨hb,e⟩:=BF z;obtain ⟨f0,f1,f2,_⟩:=hf p.1 hb;obtain ⟨o,e',d⟩:=ho p.1 hb;rw [e] at e';cases e';exact ⟨e,f0,f1,f2,d⟩
theorem Inv.unpinned {pins pl:List (Addr×Obj)} {σ:St} {H:Hp} {s:Shared} (I:Inv X (pins++pl) σ H s):Inv X pins σ H s:=I.pins_of fun p hp=>I.pin p (K7 _ (Lm _ hp))
theorem Ib {iter:Expr} {body:List Stmt} {wi:TI} {g:TG} {tb:TS} {pos:Pos} (hp:PassesOwn (model X.prog X.w) X.A X.env X.xe) (hc:X.calm=true) (hi:PI X tg iter wi) (hg:PG X tg g) (hb:PSs X body tb)
  (hs:∀ x,foldedSetIterable iter X.env x=pure x:=by intro _;rfl):PS X (.For tg iter body [] pos) (Kh wi g tb):=by
 intro pins s σ H D I h;refine wpAny_For (thn (hi pins s σ H _ I h) fun v s1 h1=>thn h1 fun itv s2 h2=>?_) hs;obtain ⟨it,fp,tn,J,H2,e,I2,T,st2,f2,W,⟨m0,w0⟩,turn⟩:=h2;subst e
 -- what stays true of the iterator's objects through the loop
 have stat:∀ {H':Hp},(∀ b∈fp,H' b=none)->∀ b∈fp,qJ X pins H' b:=fun hn b hb=>⟨hn b hb,(f2 b hb).2⟩
 refine codeAny_forLoop_any (fun n s'=>∃ i σ' H',Inv X pins σ' H' s'/\tn i s'.heap/\(∀ b∈fp,H' b=none)/\W i n σ' H') ?_ m0 ⟨0,σ,H2,I2,st2,fun b hb=>(f2 b hb).1,w0⟩
 rintro n s3 ⟨i,σ3,H3,I3,st3,fr3,w3⟩
 rcases turn i n σ3 H3 w3 with ⟨stop,qn⟩ | ⟨go,N,hN,step⟩
 ·refine wpAny_passesOwn hp (thn (T.done X rfl rfl rfl hc i pins s3 σ3 H3 X.xe I3 (stat fr3) st3 stop) fun r s4 rz2=>?_);obtain ⟨hr,I4⟩:=rz2;subst hr;exact wpAny_execs_nil ⟨σ3,H3,I4,qn⟩
 ·refine wpAny_passesOwn hp (thn (T.item X rfl rfl rfl hc i pins s3 σ3 H3 X.xe I3 (stat fr3) st3 go) fun r s4 rz2=>?_);obtain ⟨u,hr,h4⟩:=rz2;subst hr;refine wpAny_passesOwn hp (thn h4 fun _ s5 rz2=>?_);obtain ⟨x,H5,I5,r5,y5,st5,fr5⟩:=rz2;have I5':=I5.pinned (stat fr5) (T.obj _ _ st5);refine wpAny_passesOwn hp (thn (hg _ s5 σ3 H5 x u _ I5' r5 (step x H5 y5)) fun _ s6 rz2=>?_);obtain ⟨σ6,H6,I6,q6⟩:=rz2;refine wpAny_passesOwn hp (thn (hb _ s6 σ6 H6 _ I6 q6) fun f s7 q7=>?_);have again:∀ {σ7:St} {H7:Hp},Inv X (pins++qR fp s5.heap) σ7 H7 s7->N σ7 H7->∃ m,m<n/\∃ i σ' H',Inv X pins σ' H' s7/\tn i s7.heap/\(∀ b∈fp,H' b=none)/\W i m σ' H':=fun {σ7 H7} I7 n7=>by obtain ⟨m',hm,w7⟩:=hN σ7 H7 n7;refine ⟨m',hm,i+1,σ7,H7,I7.unpinned,T.keep _ _ _ st5 fun b hb o e=>(I7.pin (b,o) (K7 _ (K7 _ (j4 hb e)))).1,fun b hb=>?_,w7⟩;obtain ⟨o,e,d⟩:=T.obj _ _ st5 b hb;exact (I7.pin (b,o) (K7 _ (K7 _ (j4 hb e)))).2.1
  cases f with
  | next=>obtain ⟨σ7,H7,I7,n7⟩:=q7;exact again I7 n7
  | cont=>obtain ⟨σ7,H7,I7,n7⟩:=q7;exact again I7 n7
  | brk=>obtain ⟨σ7,H7,I7,q7⟩:=q7;exact ⟨σ7,H7,I7.unpinned,q7⟩
  | ret v=>obtain ⟨x7,σ7,H7,I7,r7,q7⟩:=q7;exact ⟨x7,σ7,H7,I7.unpinned,r7,q7⟩
end
abbrev R2:=V->V->Hp->VK->Prop
def OpR (X:Cx) (f:Value->Value->Sem Value) (r:R2):Prop :=
 ∀ (pins:List (Addr×Obj)) (s:Shared) (σ:St) (H:Hp) (x y:V) (v u:Value) (Q:VK),Inv X pins σ H s->RelV x v->RelV y u->r x y H Q ->
  wpAny (model X.prog X.w) X.A (f v u) (EP X pins σ Q) X.xe s
def UnR (X:Cx) (f:Value->Sem Value) (r:V->Hp->VK->Prop):Prop :=
 ∀ (pins:List (Addr×Obj)) (s:Shared) (σ:St) (H:Hp) (x:V) (v:Value) (Q:VK),Inv X pins σ H s->RelV x v->r x H Q ->
  wpAny (model X.prog X.w) X.A (f v) (EP X pins σ Q) X.xe s
def kr (X:Cx) (f:Value) (r:List V->Hp->VK->Prop):Prop :=
 ∀ (pins:List (Addr×Obj)) (s:Shared) (σ:St) (H:Hp) (xs:List V) (us:List Value) (Q:VK),Inv X pins σ H s->Vals xs us->r xs H Q ->
  wpAny (model X.prog X.w) X.A (call f us) (EP X pins σ Q) X.xe s
def tOp (r:R2) (ta tb:TE):TE:=fun σ H Q=>ta σ H fun x H1=>tb σ H1 fun y H2=>r x y H2 Q
def tUn (r:V->Hp->VK->Prop) (ta:TE):TE:=fun σ H Q=>ta σ H fun x H1=>r x H1 Q
def rI (C:Int->Int->Prop) (g:Int->Int->V):R2:=fun x y H Q=>∃ i j,x=.int i/\y=.int j/\C i j/\Q (g i j) H
def rI0 (g:Int->Int->V):R2:=fun x y H Q=>∃ i j,x=.int i/\y=.int j/\Q (g i j) H
def rU (g:Int->V):V->Hp->VK->Prop:=fun x H Q=>∃ i,x=.int i/\Q (g i) H
section
variable {X:Cx} {a b c:Expr} {ta tb tc:TE} {pos:Pos}
theorem Ie (ha:PE X a ta) (hb:PE X b tb) {pins:List (Addr×Obj)} {s:Shared} {σ:St} {H:Hp} {R:V->V->Hp->Prop} (I:Inv X pins σ H s)
  (h:ta σ H fun x H1=>tb σ H1 fun y H2=>R x y H2) {Q:Value->Shared->Prop} {f:Value->Value->Sem Value}
  (hf:∀ v u s2 x y H2,Inv X pins σ H2 s2->RelV x v->RelV y u->R x y H2->wpAny (model X.prog X.w) X.A (f v u) Q X.xe s2) :
  wpAny (model X.prog X.w) X.A (eval a X.env) (fun v s₁=>wpAny (model X.prog X.w) X.A (eval b X.env) (fun u s₂=>wpAny (model X.prog X.w) X.A (f v u) Q X.xe s₂) X.xe s₁) X.xe s:=by
 refine thn (ha pins s σ H _ I h) fun v s1 rz2=>?_
 obtain ⟨x,H1,I1,r1,q1⟩:=rz2;refine thn (hb pins s1 σ H1 _ I1 q1) fun u s2 rz2=>?_
 obtain ⟨y,H2,I2,r2,q2⟩:=rz2;exact hf v u s2 x y H2 I2 r1 r2 q2
theorem fB {op:Operator} {r:R2} (ho:OpR X (binaryOp op) r) (ha:PE X a ta) (hb:PE X b tb):PE X (.BinOp a op b pos) (tOp r ta tb):=by intro pins s σ H Q I h;exact wpAny_BinOp (Ie ha hb I h fun v u s2 x y H2 I2 rx ry q=>ho pins s2 σ H2 x y v u Q I2 rx ry q)
theorem JX {op:UnaryOp} {r:V->Hp->VK->Prop} (ho:UnR X (unaryOp op) r) (ha:PE X a ta):PE X (.UnaryOp op a pos) (tUn r ta):=by intro pins s σ H Q I h;exact UnaryOp_ (thn (ha pins s σ H _ I h) fun v s1 qz2=>(by obtain ⟨x,H1,I1,r1,q1⟩:=qz2;exact ho pins s1 σ H1 x v Q I1 r1 q1))
theorem opI {f:Value->Value->Sem Value} {C:Int->Int->Prop} {g:Int->Int->Int}
  (rule:∀ (i j:Int) (t u:Tok) (s:Shared) (Q:Value->Shared->Prop) (E:Value->Shared->Prop),C i j->Q (.int (g i j) s.toks) { s with toks:=s.toks+1 }->wpAny (model X.prog X.w) X.A (f (.int i t) (.int j u)) Q E s) :
  OpR X f (rI C fun i j=>.int (g i j)):=by
 intro pins s σ H x y v u Q I rx ry h;obtain ⟨i,j,rfl,rfl,hc,q⟩:=h;obtain ⟨t,rfl⟩:=rx;obtain ⟨t',rfl⟩:=ry;exact rule i j t t' s _ _ hc ⟨.int (g i j),H,I.tok _,⟨_,rfl⟩,q⟩
theorem JB {f:Value->Value->Sem Value} {g:Int->Int->Int}
  (rule:∀ (i j:Int) (t u:Tok) (s:Shared) (Q:Value->Shared->Prop) (E:Value->Shared->Prop),Q (.int (g i j) s.toks) { s with toks:=s.toks+1 }->wpAny (model X.prog X.w) X.A (f (.int i t) (.int j u)) Q E s) :
  OpR X f (rI0 fun i j=>.int (g i j)):=by
 intro pins s σ H x y v u Q I rx ry h;obtain ⟨i,j,rfl,rfl,q⟩:=h;obtain ⟨t,rfl⟩:=rx;obtain ⟨t',rfl⟩:=ry;exact rule i j t t' s _ _ ⟨.int (g i j),H,I.tok _,⟨_,rfl⟩,q⟩
theorem Hl {f:Value->Value->Sem Value} {g:Int->Int->Bool}
  (rule:∀ (i j:Int) (t u:Tok) (s:Shared) (Q:Value->Shared->Prop) (E:Value->Shared->Prop),Q (.bool (g i j)) s->wpAny (model X.prog X.w) X.A (f (.int i t) (.int j u)) Q E s) :
  OpR X f (rI0 fun i j=>.bl (g i j)):=by
 intro pins s σ H x y v u Q I rx ry h;obtain ⟨i,j,rfl,rfl,q⟩:=h;obtain ⟨t,rfl⟩:=rx;obtain ⟨t',rfl⟩:=ry;exact rule i j t t' s _ _ ⟨.bl (g i j),H,I,rfl,q⟩
def J0 (i j:Int):Prop:=0<j/\j<1073741824
def Jd (i j:Int):Prop:=0<=j/\j<=1000000/\i.natAbs<2 ^ 64
def FG (i j:Int):Prop:=(-(2 ^ 64)<i/\i<2 ^ 64)\/(-(2 ^ 64)<j/\j<2 ^ 64)
theorem FG.ok {i j:Int} (h:FG i j):IntMulOk i j:=by
 rcases h with ⟨h1,h2⟩ | ⟨h1,h2⟩
 ·exact .of_left (intBits_le_64 h1 h2)
 ·exact .of_right (intBits_le_64 h1 h2)
theorem pj:OpR X (binaryOp .Add) (rI0 fun i j=>.int (i+j)):=JB fun _ _ _ _ _ _ _ q=>add_int q
theorem Ii:OpR X (binaryOp .Sub) (rI0 fun i j=>.int (i-j)):=JB fun _ _ _ _ _ _ _ q=>sub_int q
theorem pG:OpR X (binaryOp .Mult) (rI FG fun i j=>.int (i*j)):=opI fun _ _ _ _ _ _ _ hc q=>mul_int q hc.ok
theorem FA:OpR X (binaryOp .FloorDiv) (rI J0 fun i j=>.int (i / j)):=opI fun i j _ _ _ _ _ hc q=>by have h1:(0:Int)<j:=hc.1;have h2:j<1073741824:=hc.2;exact floordiv_int (by omega) (by rw [Int.fdiv_eq_ediv_of_nonneg i (by omega)];exact q) (.inl (PyProof.noPylong_small (by omega)))
theorem sx:OpR X (binaryOp .Mod) (rI (fun _ j=>0<j) fun i j=>.int (i % j)):=opI fun i j _ _ _ _ _ hc q=>by have h1:(0:Int)<j:=hc;exact mod_int' (by omega) (by rw [Int.fmod_eq_emod_of_nonneg i (by omega)];exact q)
theorem Hd:OpR X (binaryOp .Pow) (rI Jd fun i j=>.int (i ^ j.toNat)):=opI fun _ _ _ _ _ _ _ hc q=>pow_int_small hc.1 hc.2.1 hc.2.2 q
theorem unI {f:Value->Sem Value} {g:Int->Int}
  (rule:∀ (i:Int) (t:Tok) (s:Shared) (Q:Value->Shared->Prop) (E:Value->Shared->Prop),Q (.int (g i) s.toks) { s with toks:=s.toks+1 }->wpAny (model X.prog X.w) X.A (f (.int i t)) Q E s) :
  UnR X f (rU fun i=>.int (g i)):=by
 intro pins s σ H x v Q I rx h;obtain ⟨i,rfl,q⟩:=h;obtain ⟨t,rfl⟩:=rx;exact rule i t s _ _ ⟨.int (g i),H,I.tok _,⟨_,rfl⟩,q⟩
theorem HR:UnR X (unaryOp .USub) (rU fun i=>.int (-i)):=unI fun _ _ _ _ _ q=>neg_int q
end
section
variable {X:Cx} {a b c:Expr} {ta tb tc:TE} {pos:Pos}
theorem DV:OpR X (compareOp .Lt) (rI0 fun i j=>.bl (decide (i<j))):=Hl fun _ _ _ _ _ _ _ q=>lt_int q
theorem Az:OpR X (compareOp .LtE) (rI0 fun i j=>.bl (decide (i<=j))):=Hl fun _ _ _ _ _ _ _ q=>le_int q
theorem Gz:OpR X (compareOp .Gt) (rI0 fun i j=>.bl (decide (j<i))):=Hl fun _ _ _ _ _ _ _ q=>gt_int q
theorem OpR.or {f:Value->Value->Sem Value} {r r':R2} (h:OpR X f r) (h':OpR X f r'):OpR X f (fun x y H Q=>r x y H Q\/r' x y H Q):=by
 intro pins s σ H x y v u Q I rx ry q;rcases q with q | q
 ·exact h pins s σ H x y v u Q I rx ry q
 ·exact h' pins s σ H x y v u Q I rx ry q
theorem jh (b:Expr) {op:CmpOp} (h:op≠.In:=by decide) (h2:op≠.NotIn:=by decide):behindInMarks op b=false:=by
 have e1:(op==CmpOp.In)=false:=by cases op <;> first | rfl | exact absurd rfl h
 have e2:(op==CmpOp.NotIn)=false:=by cases op <;> first | rfl | exact absurd rfl h2
 cases b <;> simp [behindInMarks,e1,e2]
theorem mV {op:CmpOp} {r:R2} (ho:OpR X (compareOp op) r) (ha:PE X a ta) (hb:PE X b tb) (hm:behindInMarks op b=false):PE X (.Compare a [op] [b] pos) (tOp r ta tb):=by intro pins s σ H Q I h;exact wpAny_Compare1 (Ie ha hb I h fun v u s2 x y H2 I2 rx ry q=>ho pins s2 σ H2 x y v u Q I2 rx ry q) hm
def GK (t:TE):TT:=fun σ H Q=>t σ H fun x H'=>∃ k,x=.bl k/\Q k H'
theorem lz {op:CmpOp} {r:R2} (ho:OpR X (compareOp op) r) (ha:PE X a ta) (hb:PE X b tb) (hm:behindInMarks op b=false):PT X (.Compare a [op] [b] pos) (GK (tOp r ta tb)):=by
 intro pins s σ H Q I h;refine wpAny_isTrue_Compare1 (thn (ha pins s σ H _ I h) fun v s1 rz2=>?_) hm;obtain ⟨x,H1,I1,r1,q1⟩:=rz2;refine thn (hb pins s1 σ H1 _ I1 q1) fun u s2 rz2=>?_
 obtain ⟨y,H2,I2,r2,q2⟩:=rz2;refine thn (ho pins s2 σ H2 x y v u _ I2 r1 r2 q2) fun c s3 rz2=>?_
 obtain ⟨z,H3,I3,r3,k,e,q3⟩:=rz2;subst e;cases r3;exact wpAny_truthy_bool ⟨H3,I3,q3⟩
def Hq (r r':R2) (ta tb tc:TE):TE:=fun σ H Q=>ta σ H fun x H1=>tb σ H1 fun y H2=>r x y H2 fun z H3=>∃ k,z=.bl k /\
 (if k=true then tc σ H3 fun w' H4=>r' y w' H4 Q else Q (.bl false) H3)
theorem CL {op op':CmpOp} {r r':R2} (ho:OpR X (compareOp op) r) (ho':OpR X (compareOp op') r') (ha:PE X a ta) (hb:PE X b tb) (hc:PE X c tc)
  (hm:lastMarks [op,op'] [b,c]=false:=by with_unfolding_all rfl):PE X (.Compare a [op,op'] [b,c] pos) (Hq r r' ta tb tc):=by
 intro pins s σ H Q I h;refine Compare_chain (thn (ha pins s σ H _ I h) fun v s1 rz2=>?_) hm;obtain ⟨x,H1,I1,r1,q1⟩:=rz2;refine chain_link (thn (hb pins s1 σ H1 _ I1 q1) fun u s2 rz2=>?_);obtain ⟨y,H2,I2,r2,q2⟩:=rz2;refine thn (ho pins s2 σ H2 x y v u _ I2 r1 r2 q2) fun d s3 rz2=>?_
 obtain ⟨z,H3,I3,r3,k,e,q3⟩:=rz2;subst e;cases r3;refine wpAny_truthy_bool ?_;cases k with
 | false=>exact ite_ff ⟨.bl false,H3,I3,rfl,q3⟩
 | true=>exact ite_tt (chain_last (thn (hc pins s3 σ H3 _ I3 q3) fun w' s4 qz2=>(by obtain ⟨z',H4,I4,r4,q4⟩:=qz2;exact ho' pins s4 σ H4 y z' u w' Q I4 r2 r4 q4)))
theorem vE:(sizeLine:Nat)<2 ^ 63:=by rw [sizeLine_eq];decide
theorem vals1 {x:V} {us:List Value} (r:Vals [x] us):∃ u,us=[u]/\RelV x u:=by
 cases r with
 | cons r1 r2=>cases r2;exact ⟨_,rfl,r1⟩
theorem vals2 {x y:V} {us:List Value} (r:Vals [x,y] us):∃ u w',us=[u,w']/\RelV x u/\RelV y w':=by
 cases r with
 | cons r1 r2 =>
  cases r2 with
  | cons r3 r4=>cases r4;exact ⟨_,_,rfl,r1,r3⟩
theorem BX (hc:X.calm=true):kr X (.builtin "max") (fun xs H Q=>∃ i j,xs=[.int i,.int j]/\Q (.int (if j>i then j else i)) H):=by
 intro pins s σ H xs us Q I r h;obtain ⟨i,j,rfl,q⟩:=h;obtain ⟨u,w',rfl,⟨t,rfl⟩,⟨t',rfl⟩⟩:=vals2 r;refine max_two_ints (I.ok.hd hc) fun h' tk k=>⟨_,H,I.kept k,?_,q⟩
 by_cases hj:j>i
 ·rw [if_pos hj,if_pos hj];exact ⟨_,rfl⟩
 ·rw [if_neg hj,if_neg hj];exact ⟨_,rfl⟩
theorem By (hc:X.calm=true):kr X (.builtin "min") (fun xs H Q=>∃ i j,xs=[.int i,.int j]/\Q (.int (if j<i then j else i)) H):=by
 intro pins s σ H xs us Q I r h;obtain ⟨i,j,rfl,q⟩:=h;obtain ⟨u,w',rfl,⟨t,rfl⟩,⟨t',rfl⟩⟩:=vals2 r;refine min_two_ints (I.ok.hd hc) fun h' tk k=>⟨_,H,I.kept k,?_,q⟩
 by_cases hj:j<i
 ·rw [if_pos hj,if_pos hj];exact ⟨_,rfl⟩
 ·rw [if_neg hj,if_neg hj];exact ⟨_,rfl⟩
theorem Ca:kr X (.type "int") (fun xs H Q=>(∃ i,xs=[.int i]/\Q (.int i) H)\/∃ k,xs=[.bl k]/\Q (.int (if k then 1 else 0)) H):=by
 intro pins s σ H xs us Q I r h;rcases h with ⟨i,rfl,q⟩ | ⟨k,rfl,q⟩
 ·obtain ⟨u,rfl,t,rfl⟩:=vals1 r;exact call_int_int ⟨.int i,H,I,⟨_,rfl⟩,q⟩
 ·obtain ⟨u,rfl,r1⟩:=vals1 r;cases r1;exact call_int_bool ⟨.int (if k then 1 else 0),H,I.tok _,⟨_,rfl⟩,q⟩
end
structure zu (h:Heap) (x dx C:Addr) (mA:Str->Option Value):Prop where
 obj:h.get? x=some (PySem.W.instObj C dx)
 ns:h.Ns1 dx mA
 ne:dx≠x
theorem BQ {h:Heap} {dx:Addr} {mA:Str->Option Value} (n:h.Ns1 dx mA):∃ od,h.get? dx=some od/\∀ name,PySem.W.lookIn name od=some (mA name):=by
 obtain ⟨o,es,ep,ho,hd,hk,_,hm⟩:=n;refine ⟨o,ho,fun name=>?_⟩;have e:=hm name;unfold nsFind findBy at e;rw [<-Array.find?_toList] at e;unfold PySem.W.lookIn;rw [hd];dsimp only;split
 ·rename_i y q;rw [q] at e;exact congrArg some e
 ·rename_i q;rw [q] at e;have a:es.toList.any (·.refKey)=false:=by rw [List.any_eq_false];intro y hy;obtain ⟨z,t,hkey⟩:=hk y (Array.mem_toList_iff.mp hy);simp [DictEntry.refKey,hkey]
  have a':¬ es.toList.any (·.refKey)=true:=by rw [a];exact L9
  rw [if_neg a'];exact congrArg some e
theorem zu.look {h:Heap} {x dx C:Addr} {mA:Str->Option Value} (I:zu h x dx C mA):∃ od,PySem.W.InstAt h x (PySem.W.instObj C dx) C (some od)/\∀ name,PySem.W.lookIn name od=some (mA name) :=
 let ⟨od,ho,hl⟩:=BQ I.ns
 ⟨od,⟨I.obj,rfl,rfl,ho⟩,hl⟩
section
variable {prog:Program} {w:World} {A:Around} {E:Value->Shared->Prop} {s:Shared} {K:PySem.W.Frag} {x dx C f:Addr} {mA:Str->Option Value} {name:Str} {v:Value}
theorem get_map {expr:Bool} {Q:Value->Shared->Prop} (X:K.In s.heap) (I:zu s.heap x dx C mA) (hg:PySem.W.plainGet K C name=true) (hh:PySem.W.hasDictIn K C=true)
  (ha:PySem.W.findIn K (.ref C) name=some none) (hv:mA name=some v) (hv':PySem.W.handedIn v=true) (h:Q v { s with toks:=s.toks+1 }) :
  wpAny (model prog w) A (getAttr (.ref x) name expr) Q E s:=by
 obtain ⟨od,J,hl⟩:=I.look;exact PySem.W.get_value X J (PySem.W.plainGet_of hg).1 (PySem.W.findObj_own hh ha rfl (by rw [hl,hv])) hv' h
theorem Ed {pl:Sem Bool} {Q:Value×List Value->Shared->Prop} (X:K.In s.heap) (I:zu s.heap x dx C mA) (hg:PySem.W.plainGet K C name=true)
  (hf:PySem.W.findIn K (.ref C) name=some (some (.ref f))) (ht:PySem.W.isFn K (.ref f)=true) (hv:mA name=none) (h:Q (.ref f,[.ref x]) s) :
  wpAny (model prog w) A (getMethod (.ref x) name pl) Q E s:=by
 obtain ⟨od,J,hl⟩:=I.look;exact PySem.W.method_fn X J (PySem.W.plainGet_of hg).1 (PySem.W.plainGet_of hg).2 hf (beq_iff_eq.mp ht) (by show (PySem.W.lookIn name od).map (·.isSome)=some false;rw [hl,hv];rfl) h
theorem F6 {ns:List Str} {Q:Unit->Shared->Prop} (X:K.In s.heap) (I:zu s.heap x dx C mA)
  (hs:PySem.W.findIn K (.ref C) "__setattr__"=some (some (.builtin "object.__setattr__"))) (hp:PySem.W.plainOver K C=true) (ht:PySem.W.takerIn K C name=some none) (hh:PySem.W.hasDictIn K C=true)
  (hw:PySem.Within mA ns) (hsz:ns.length<=sizeLine)
  (h:∀ h',zu h' x dx C (fun y=>if y=name then some v else mA y)->Heap.SameBut dx s.heap h'->Q () { s with heap:=h',toks:=s.toks+2 }) :
  wpAny (model prog w) A (setAttr (.ref x) name v) Q E s:=by
 obtain ⟨od,J,hl⟩:=I.look;refine PySem.W.set_plain X J hs (PySem.W.osa_open (s:={ s with toks:=s.toks+1 }) (r:=none) X J hp ht fun b=>?_);obtain ⟨cd,hc,hd'⟩:=PySem.W.any_some hh;have hx:s.heap.get? x=some ⟨.ref C,some dx,.plain,#[]⟩:=I.obj;refine wpAny_bind (wpAny_pure (wpAny_bind (wpAny_bind (wpAny_loadPart hx (wpAny_bind (PySem.W.Looks.here (s:={ s with toks:=s.toks+1 }) (PySem.W.looks_clsIn X hc) ?_))))));rw [hd'];refine wpAny_pure (a:=some dx) (wpAny_bind (wpAny_pure (wpAny_bind ?_)));refine wpAny_nsSet1 (s:={ s with toks:=s.toks+1 }) I.ns fun h' hn2 hs2=>?_
 obtain ⟨oD,esD,epD,hoD,hdD,hcD⟩:=hn2.count (PySem.Within.cons name v hw);refine wpAny_bind (wpAny_lookBehind hoD (by rw [hdD];exact pastItsLine_dict (Lz hcD (by rw [L6];omega))) ?_);exact wpAny_pure (h _ ⟨(hs2.2 _ (Ne.symm I.ne)).trans I.obj,hn2,I.ne⟩ hs2)
theorem Cr {R:Result->Shared->Prop} {vs:List Value} {kw:List (Str×Value)} (X:K.In s.heap) (hm:PySem.W.makesIn K C=true)
  (hi:PySem.W.findIn K (.ref C) "__init__"=some (some (.ref f))) (hf:PySem.W.typeIn K (.ref f)=some (.type "function"))
  (h:codeAny (model prog w) (A.under (.builtin "type.__call__" ⟨.ref C::vs,kw⟩)) (.call (.ref f) ⟨.ref (s.heap.objs.size+1)::vs,kw⟩) (PySem.W.InitBack (s.heap.objs.size+1) R)
   { s with heap:=(s.heap.push PySem.W.emptyDict).push (PySem.W.instObj C s.heap.objs.size) }) :
  codeAny (model prog w) A (.call (.ref C) ⟨vs,kw⟩) R s:=by
 obtain ⟨hh,g,d,t,os⟩:=s;exact PySem.W.make_core (PySem.W.makes_of X hm) (PySem.W.looks_findIn X hi) (fun self=>PySem.W.bind_fn X self hf) (.inl rfl) h
end
def i4 (f:Str) (v:V):List (Str×V)->List (Str×V)
 | []=>[(f,v)]
 | (g,x)::r=>if g=f then (g,v)::r else (g,x)::i4 f v r
theorem lg (f g:Str) (v:V):∀ fs:List (Str×V),(i4 f v fs).lookup g=if g=f then some v else fs.lookup g
 | []=>by
  show List.lookup g [(f,v)]=_;by_cases h:g=f
  ·have hb:(g==f)=true:=beq_iff_eq.mpr h;simp only [List.lookup,hb,if_pos h]
  ·have hb:(g==f)=false:=beq_eq_false_iff_ne.mpr h;simp only [List.lookup,hb,if_neg h]
 | (k,x)::r=>by
  have ih:=lg f g v r;rw [show i4 f v ((k,x)::r)=(if k=f then (k,v)::r else (k,x)::i4 f v r) from rfl];by_cases hk:k=f
  ·rw [if_pos hk];by_cases h:g=k
   ·have hb:(g==k)=true:=beq_iff_eq.mpr h;simp only [List.lookup,hb,if_pos (h.trans hk)]
   ·have hb:(g==k)=false:=beq_eq_false_iff_ne.mpr h;simp only [List.lookup,hb,if_neg (fun e:g=f=>h (e.trans hk.symm))]
  ·rw [if_neg hk];by_cases h:g=k
   ·have hb:(g==k)=true:=beq_iff_eq.mpr h;simp only [List.lookup,hb,if_neg (fun e:g=f=>hk (h.symm.trans e))]
   ·have hb:(g==k)=false:=beq_eq_false_iff_ne.mpr h;simp only [List.lookup,hb];exact ih
theorem oO (f:Str) (v:V):∀ fs:List (Str×V),f∈(i4 f v fs).map (·.1)/\∀ g,g∈fs.map (·.1)->g∈(i4 f v fs).map (·.1)
 | []=>⟨by simp [i4],fun g h=>by simp at h⟩
 | (k,x)::r=>by
  obtain ⟨i1,i2⟩:=oO f v r;rw [show i4 f v ((k,x)::r)=(if k=f then (k,v)::r else (k,x)::i4 f v r) from rfl];by_cases hk:k=f
  ·rw [if_pos hk];subst hk;exact ⟨by simp,fun g h=>by simpa using h⟩
  ·rw [if_neg hk];refine ⟨?_,fun g h=>?_⟩
   ·rw [K1];exact K0 _ i1
   ·rw [K1] at h ⊢;rcases K6.mp h with e | e
    ·exact K6.mpr (.inl e)
    ·exact K0 _ (i2 g e)
theorem pU (f:Str) (v:V):∀ fs:List (Str×V),(i4 f v fs).length<=fs.length+1
 | []=>by simp [i4]
 | (k,x)::r=>by
  have ih:=pU f v r;rw [show i4 f v ((k,x)::r)=(if k=f then (k,v)::r else (k,x)::i4 f v r) from rfl];by_cases hk:k=f
  ·rw [if_pos hk,L6,L6];omega
  ·rw [if_neg hk,L6,L6];omega
theorem lL.some_of {v:V} {o:Option Value} (r:lL (some v) o):∃ u,o=some u/\RelV v u:=by
 cases o with
 | none=>exact (show False from r).elim
 | some u=>exact ⟨u,rfl,r⟩
theorem lL.none_of {o:Option Value} (r:lL none o):o=none:=by
 cases o with
 | none=>rfl
 | some u=>exact (show False from r).elim
theorem Cd {v:V} {u:Value} (r:RelV v u):PySem.W.handedIn u=true:=by
 cases v with
 | non=>cases (show u=Value.none from r);rfl
 | bl b=>cases (show u=Value.bool b from r);rfl
 | int i=>obtain ⟨t,e⟩:=(show ∃ t,u=Value.int i t from r);cases e;rfl
 | str x=>obtain ⟨t,e⟩:=(show ∃ t,u=Value.str x t from r);cases e;rfl
 | byt b=>obtain ⟨t,e⟩:=(show ∃ t,u=Value.bytes b t from r);cases e;rfl
 | flt b=>obtain ⟨t,e⟩:=(show ∃ t,u=Value.float b t from r);cases e;rfl
 | ref a=>cases (show u=Value.ref a from r);rfl
 | ty n=>cases (show u=Value.type n from r);rfl
section
variable {P:Program} {w:World} {H H':Hp} {h h':Heap} {a C dx:Addr} {fs fs':List (Str×V)}
theorem vN (hok:HOk P w H h) (e:H a=some (.ins C dx fs)):∃ mA,zu h a dx C mA/\(∀ f,lL (fs.lookup f) (mA f))/\PySem.Within mA (fs.map (·.1))/\fs.length<=1000/\H dx=some (.own a):=by
 obtain ⟨d,z,ne,ob,mA,n,r,q⟩:=(show dX P w H h a (.ins C dx fs) from hok a _ e)
 exact ⟨mA,⟨ob,n,ne⟩,r,q,z,d⟩
end
structure Cls (K:PySem.W.Frag) (C:Addr):Prop where
 pg:PySem.W.plainGet K C Str.empty=true
 hd:PySem.W.hasDictIn K C=true
 po:PySem.W.plainOver K C=true
 sa:PySem.W.findIn K (.ref C) "__setattr__"=some (some (.builtin "object.__setattr__"))
theorem Cls.get {K:PySem.W.Frag} {C:Addr} (c:Cls K C) (f:Str):PySem.W.plainGet K C f=true:=c.pg
def eG (K:PySem.W.Frag) (C:Addr) (f:Str):Prop:=PySem.W.findIn K (.ref C) f=some none
theorem eG.taker {K:PySem.W.Frag} {C:Addr} {f:Str} (n:eG K C f):PySem.W.takerIn K C f=some none:=by unfold PySem.W.takerIn;rw [show PySem.W.findIn K (.ref C) f=some none from n];rfl
structure Meth (K:PySem.W.Frag) (C:Addr) (m:Str) (f:Addr):Prop where
 at_:PySem.W.findIn K (.ref C) m=some (some (.ref f))
 fn:PySem.W.isFn K (.ref f)=true
 kp:PySem.W.keepIn K (.ref f)=true
section
variable {X:Cx} {pins:List (Addr×Obj)} {σ:St} {H:Hp} {s:Shared} {a C dx:Addr} {fs:List (Str×V)} {f:Str} {v:V} {A:Around} {E:Value->Shared->Prop}
theorem rB {b:Bool} {Q:Value->Shared->Prop} (I:Inv X pins σ H s) (e:H a=some (.ins C dx fs)) (c:Cls X.K C) (n:eG X.K C f) (l:fs.lookup f=some v)
  (h:∀ u s',Inv X pins σ H s'->RelV v u->Q u s'):wpAny (model X.prog X.w) A (getAttr (.ref a) f b) Q E s:=by
 obtain ⟨mA,O,r,_,_,_⟩:=vN I.hok e;obtain ⟨u,hu,ru⟩:=lL.some_of (v:=v) (o:=mA f) (by rw [<-l];exact r f);exact get_map I.kIn O (c.get f) c.hd n hu (Cd ru) (h u _ (I.tok _) ru)
theorem rQ {m:Str} {g:Addr} {pl:Sem Bool} {Q:Value×List Value->Shared->Prop} (I:Inv X pins σ H s) (e:H a=some (.ins C dx fs)) (c:Cls X.K C) (k:Meth X.K C m g) (l:fs.lookup m=none)
  (h:Q (.ref g,[.ref a]) s):wpAny (model X.prog X.w) A (getMethod (.ref a) m pl) Q E s:=by
 obtain ⟨mA,O,r,_,_,_⟩:=vN I.hok e;have hn:mA m=none:=lL.none_of (by rw [<-l];exact r m);exact Ed I.kIn O (c.get m) k.at_ k.fn hn h
theorem sA {y:V} {u:Value} {Q:Unit->Shared->Prop} (I:Inv X pins σ H s) (e:H a=some (.ins C dx fs)) (c:Cls X.K C) (n:eG X.K C f) (hl:fs.length<1000) (ry:RelV y u)
  (h:∀ s',Inv X pins σ (upd H a (.ins C dx (i4 f y fs))) s'->Q () s'):wpAny (model X.prog X.w) A (setAttr (.ref a) f u) Q E s:=by
 obtain ⟨mA,O,r,wi,_,ho⟩:=vN I.hok e;have hz:(fs.map (·.1)).length<=sizeLine:=by rw [K5,sizeLine_eq];omega
 refine F6 I.kIn O c.sa c.po n.taker c.hd wi hz fun h' O' sb=>h _ ?_
 have hd:∃ o,h'.get? dx=some o:=let ⟨o,_,_,e',_⟩:=O'.ns;⟨o,e'⟩;refine I.write (x:=a) (e:=dx) (by rw [e];exact True.intro) (.inr ho) (fun b q hb z=>(sb.2 b hb).trans z) hd ?_;refine ⟨by rw [aL O.ne];exact ho,?_,O.ne,O'.obj,_,O'.ns,fun g=>?_,fun g hg=>?_⟩
 ·have:=pU f y fs;omega
 ·show lL ((i4 f y fs).lookup g) (if g=f then some u else mA g);rw [lg];by_cases q:g=f
  ·rw [if_pos q,if_pos q];exact ry
  ·rw [if_neg q,if_neg q];exact r g
 ·by_cases q:g=f
  ·rw [q];exact (oO f y fs).1
  ·refine (oO f y fs).2 g (wi g fun z=>hg ?_);show (if g=f then some u else mA g)=none;rw [if_neg q];exact z
theorem Inv.made (I:Inv X pins σ H s):Inv X pins σ (upd (upd H s.heap.objs.size (.own (s.heap.objs.size+1))) (s.heap.objs.size+1) (.ins C s.heap.objs.size []))
  { s with heap:=(s.heap.push PySem.W.emptyDict).push (PySem.W.instObj C s.heap.objs.size) }:=by
 have e1:(s.heap.push PySem.W.emptyDict).get? s.heap.objs.size=some PySem.W.emptyDict:=KZ s.heap rfl;have e2:((s.heap.push PySem.W.emptyDict).push (PySem.W.instObj C s.heap.objs.size)).get? (s.heap.objs.size+1)=some (PySem.W.instObj C s.heap.objs.size):=by
  have:=KZ (s.heap.push PySem.W.emptyDict) (o:=PySem.W.instObj C s.heap.objs.size) rfl
  rwa [Heap.size_push] at this
 have e3:(s.heap.push PySem.W.emptyDict).Ns s.heap.objs.size (fun _=>none):=⟨PySem.W.emptyDict,#[],_,e1,rfl,(fun e he=>absurd he (by simp)),fun _=>rfl⟩
 have I1:=I.laid (a:=s.heap.objs.size) (o:=.own (s.heap.objs.size+1)) (h':=s.heap.push PySem.W.emptyDict) (t':=s.toks) (fun b u q=>K2 _ q) (K8 _) ⟨_,e1⟩;refine I1.laid (a:=s.heap.objs.size+1) (o:=.ins C s.heap.objs.size []) (t':=s.toks) (fun b u q=>K2 _ q) (Nat.le_of_eq (Heap.size_push _ _)) ?_;have ne:s.heap.objs.size≠s.heap.objs.size+1:=KY (LR _);refine ⟨by rw [aL ne,aV],Lw _,ne,e2,fun _=>none,(Heap.Ns1.of_empty e3).at fun o q=>K2 _ q,fun _=>True.intro,fun y hy=>absurd rfl hy⟩
theorem FX {prog:Program} {w:World} {env:Env} {e:Expr} {f:Str} {pos:Pos} {s:Shared} {Q:Value->Shared->Prop} (hb:attributeBase e f env (eval e env)=eval e env)
  (h:wpAny (model prog w) A (eval e env) (fun o s₁=>wpAny (model prog w) A (getAttr o f true) Q E s₁) E s):wpAny (model prog w) A (eval (.Attribute e f pos) env) Q E s :=
 Attribute_any_ h (by rw [arm_eval_Attribute,hb])
end
def KJ (K:PySem.W.Frag) (ta:TE) (f:Str):TE:=fun σ H Q=>ta σ H fun x H1=>∃ a C dx fs v,x=.ref a/\H1 a=some (.ins C dx fs)/\Cls K C/\eG K C f/\fs.lookup f=some v/\Q v H1
def Kv (K:PySem.W.Frag) (ta tv:TE) (f:Str):TS:=fun D σ H=>tv σ H fun y H1=>ta σ H1 fun x H2=>∃ a C dx fs,x=.ref a/\H2 a=some (.ins C dx fs)/\Cls K C/\eG K C f/\fs.length<1000 /\
 D.nx σ (upd H2 a (.ins C dx (i4 f y fs)))
def Jp (X:Cx) (op:Operator) (rd:V->V->Hp->VK->Prop):Prop :=
 ∀ (pins:List (Addr×Obj)) (s:Shared) (σ:St) (H:Hp) (x y:V) (u v:Value) (Q:VK),Inv X pins σ H s->RelV x u->RelV y v->rd x y H Q->wpAny (model X.prog X.w) X.A (inplaceOp op u v) (EP X pins σ Q) X.xe s
def Gh (K:PySem.W.Frag) (ta tv:TE) (rd:V->V->Hp->VK->Prop) (f:Str):TS:=fun D σ H=>ta σ H fun x H1=>∃ a C dx fs v,x=.ref a/\H1 a=some (.ins C dx fs)/\Cls K C/\eG K C f/\fs.lookup f=some v /\
 tv σ H1 fun y H2=>rd v y H2 fun z H3=>∃ dx' fs',H3 a=some (.ins C dx' fs')/\fs'.length<1000/\D.nx σ (upd H3 a (.ins C dx' (i4 f z fs')))
section
variable {X:Cx} {o e value:Expr} {f:Str} {pos pos' tpos:Pos} {ta tv:TE}
theorem HL (he:PE X e ta) (hb:attributeBase e f X.env (eval e X.env)=eval e X.env):PE X (.Attribute e f pos) (KJ X.K ta f):=by intro pins s σ H Q I h;refine FX hb (thn (he pins s σ H _ I h) fun u s1 rz2=>?_);obtain ⟨x,H1,I1,rx,a,C,dx,fs,v,ex,ea,c,n,l,q⟩:=rz2;subst ex;obtain rfl:u=Value.ref a:=rx;exact rB I1 ea c n l fun u' s2 I2 ru=>⟨v,H1,I2,ru,q⟩
theorem lj (ha:PE X o ta) (hv:PE X value tv) (hs:swapsWith value (some (.Attribute o f pos')) pos.line X.env=pure false):PS X (.Assign [.Attribute o f pos'] value pos) (Kv X.K ta tv f):=by
 intro pins s σ H D I h;refine plainObj_wpAny_Assign_Attribute (thn (hv pins s σ H _ I h) fun u s1 rz2=>?_) hs;obtain ⟨y,H1,I1,ry,q⟩:=rz2;refine thn (ha pins s1 σ H1 _ I1 q) fun ov s2 rz2=>?_
 obtain ⟨x,H2,I2,rx,a,C,dx,fs,ex,ea,c,n,l,q2⟩:=rz2;subst ex;obtain rfl:ov=Value.ref a:=rx;exact sA I2 ea c n l ry fun s3 I3=>⟨σ,_,I3,q2⟩
theorem B1 {op:Operator} {rd:V->V->Hp->VK->Prop} (ha:PE X o ta) (hv:PE X value tv) (hop:Jp X op rd):PS X (.AugAssign (.Attribute o f tpos) op value pos) (Gh X.K ta tv rd f):=by
 intro pins s σ H D I h;refine wpAny_AugAssign_AttributeAny (thn (ha pins s σ H _ I h) fun ov s1 rz2=>?_);obtain ⟨x,H1,I1,rx,a,C,dx,fs,v,ex,ea,c,n,l,q⟩:=rz2;subst ex;obtain rfl:ov=Value.ref a:=rx;refine rB I1 ea c n l fun u s2 I2 ru=>thn (hv pins s2 σ H1 _ I2 q) fun w3 s3 rz2=>?_
 obtain ⟨y,H2,I3,ry,q3⟩:=rz2;refine thn (hop pins s3 σ H2 v y u w3 _ I3 ru ry q3) fun w4 s4 rz2=>?_
 obtain ⟨z,H3,I4,rz,dx',fs',ea',l',q4⟩:=rz2;exact sA I4 ea' c n l' rz fun s5 I5=>⟨σ,_,I5,q4⟩
def Kp:V->V->Hp->VK->Prop:=fun x y H Q=>∃ i j,x=.int i/\y=.int j/\Q (.int (i+j)) H
theorem HK:Jp X .Add Kp:=by
 rintro pins s σ H x y u v Q I rx ry ⟨i,j,rfl,rfl,q⟩
 obtain ⟨t,rfl⟩:=(show ∃ t,u=Value.int i t from rx)
 obtain ⟨t',rfl⟩:=(show ∃ t',v=Value.int j t' from ry)
 exact PyProof.Rows.iadd_int ⟨.int (i+j),H,I.tok _,⟨_,rfl⟩,q⟩
end
section
variable {X:Cx} {pins:List (Addr×Obj)} {σ:St} {H:Hp} {s:Shared} {A:Around} {E:Value->Shared->Prop} {Q:Value->Shared->Prop} {c:Value} {b:Bool}
inductive sj (K:PySem.W.Frag) (H:Hp):V->Value->Prop where
 | non:sj K H .non (.type "NoneType")
 | bl (x:Bool):sj K H (.bl x) (.type "bool")
 | int (i:Int):sj K H (.int i) (.type "int")
 | str (x:Str):sj K H (.str x) (.type "str")
 | flt (x:UInt64):sj K H (.flt x) (.type "float")
 | lst {a:Addr} {xs:List V} (e:H a=some (.lst xs)):sj K H (.ref a) (.type "list")
 | frz {a:Addr} {o:Obj} {xs:List V} (e:H a=some (.frz o (.lst xs))):sj K H (.ref a) (.type "list")
 | tup {a:Addr} {xs:List V} (e:H a=some (.tup xs)):sj K H (.ref a) (.type "tuple")
 | dK {a:Addr} {kvs:List (Key×V)} (e:H a=some (.dK kvs)):sj K H (.ref a) (.type "dict")
 | dT {a:Addr} {kvs:List (List Key×V)} (e:H a=some (.dT kvs)):sj K H (.ref a) (.type "dict")
 | ins {a C dx:Addr} {fs:List (Str×V)} (e:H a=some (.ins C dx fs)) (cl:Cls K C) (ha:PySem.W.findIn K (.ref C) "__class__"=some (some (.builtin "object.__class__")))
  (hn:PySem.W.specialIn K (.builtin "object.__class__") "__get__"=some (some (.builtin "getset_descriptor.__get__"))) (htk:PySem.W.takesIn K (.builtin "object.__class__")=some true)
  (hm:PySem.W.mroIn K C (.type "object")=some true):sj K H (.ref a) (.ref C)
end
structure cR (k:Nat) (A:Around):Prop where
 hd:A.handled=none
 dp:A.depth+3*k+5<recursionLimit
 un:A.units+16*k+200<cLine
theorem cR.mono {j k:Nat} {A:Around} (r:cR k A) (h:j<=k):cR j A:=⟨r.hd,by have:=r.dp;omega,by have:=r.un;omega⟩
theorem cR.deeper {k:Nat} {A:Around} (r:cR (k+1) A) (env:Env):cR k (A.deeper env) :=
 ⟨r.hd,by have:=r.dp;show A.depth+1+3*k+5<_;omega,by have:=r.un;show A.units+3+16*k+200<_;omega⟩
theorem cR.in1 {k:Nat} {A:Around} (r:cR (k+1) A):cR k A.in1 :=
 ⟨r.hd,by have:=r.dp;show A.depth+3*k+5<_;omega,by have:=r.un;show A.units+1+16*k+200<_;omega⟩
theorem zX {A:Around} {C:Addr} {us:List Value} {kw:List (Str×Value)}:(A.under (.builtin "type.__call__" ⟨.ref C::us,kw⟩)).depth=A.depth+1:=by first | rfl | simp [Around.under,Code.weight,Code.isCreation,Code.isGuard,Code.isCaller,Code.frames,Code.isFrame,guardIds]
theorem zt {A:Around} {C:Addr} {us:List Value} {kw:List (Str×Value)}:(A.under (.builtin "type.__call__" ⟨.ref C::us,kw⟩)).units=A.units+1:=by first | rfl | simp [Around.under,Code.cUnits,Code.frames,Code.isFrame]
theorem cR.make {k:Nat} {A:Around} (r:cR (k+1) A) (C:Addr) (us:List Value) (kw:List (Str×Value)):cR k (A.under (.builtin "type.__call__" ⟨.ref C::us,kw⟩)) :=
 ⟨r.hd,by have:=r.dp;rw [zX];omega,by have:=r.un;rw [zt];omega⟩
theorem cR.depth {k:Nat} {A:Around} (r:cR k A):A.depth<recursionLimit:=by have:=r.dp;omega
theorem cR.units {k:Nat} {A:Around} (r:cR k A):A.units+64<cLine:=by have:=r.un;omega
def IG:TA:=fun _ H Q=>Q [] H
def GD (ta:TE) (tr:TA):TA:=fun σ H Q=>ta σ H fun x H1=>tr σ H1 fun xs H2=>Q (x::xs) H2
section
variable {X:Cx} {e:Expr} {es:List Expr} {te:TE} {t:TA} {pos:Pos}
theorem gM:PA X [] IG:=fun _ _ _ _ H Q I h=>Calls.spliced_nil ⟨[],H,I,.nil,h⟩
theorem eX (ha:PE X e te) (hr:PA X es t) (hs:starEach (e::es) X.env=(false,eval e X.env)::starEach es X.env:=by rfl):PA X (e::es) (GD te t):=by intro pos pins s σ H Q I h;rw [hs];show wpAny _ _ (spliced ((false,eval e X.env)::backTo pos (starEach es X.env))) _ _ s;refine Calls.spliced_cons (thn (ha pins s σ H _ I h) fun u s1 rz2=>?_);obtain ⟨x,H1,I1,r1,q1⟩:=rz2;exact thn (hr pos pins s1 σ H1 _ I1 q1) fun us s2 qz2=>(by obtain ⟨xs,H2,I2,r2,q2⟩:=qz2;exact ⟨x::xs,H2,I2,.cons r1 r2,q2⟩)
def KG (t:TA):TE:=fun σ H Q=>t σ H fun xs H1=>xs.length<=sizeLine/\∀ p,H1 p=none->Q (.ref p) (upd H1 p (.tup xs))
def Kq (t:TA):TE:=fun σ H Q=>t σ H fun xs H1=>xs.length<=sizeLine/\∀ p,H1 p=none->Q (.ref p) (upd H1 p (.lst xs))
theorem Hs {x1} (h:PA X es t):PE X (.Tuple es x1 pos) (KG t):=by intro pins s σ H Q I hq;refine wpAny_Tuple_spliced (thn (h pos pins s σ H _ I hq) fun us s1 rz2=>?_);obtain ⟨xs,H1,I1,r,z,q⟩:=rz2;refine ⟨by rw [<-r.length];exact z,?_⟩;have hf:H1 s1.heap.objs.size=none:=I1.hok.fresh (K8 _);refine ⟨.ref s1.heap.objs.size,upd H1 s1.heap.objs.size (.tup xs),I1.laid (t':=s1.toks) (fun b u e=>K2 _ e) (K8 _) ?_,rfl,q _ hf⟩;exact ⟨z,us,r,⟨_,KZ _ rfl,rfl,rfl,_,rfl⟩⟩
theorem zE (h:PA X es t):PE X (.List es pos) (Kq t):=by intro pins s σ H Q I hq;refine wpAny_List_spliced (thn (h pos pins s σ H _ I hq) fun us s1 rz2=>?_);obtain ⟨xs,H1,I1,r,z,q⟩:=rz2;refine ⟨by rw [<-r.length];exact z,?_⟩;have hf:H1 s1.heap.objs.size=none:=I1.hok.fresh (K8 _);refine ⟨.ref s1.heap.objs.size,upd H1 s1.heap.objs.size (.lst xs),I1.laid (t':=s1.toks) (fun b u e=>K2 _ e) (K8 _) ?_,rfl,q _ hf⟩;exact ⟨z,us,0,r,KZ _ rfl⟩
end
abbrev Sp:=List V->Hp->VK->XK->Prop
abbrev CXT:=List Env->Hp->Shared->XK->Value->Shared->Prop
structure vB (P:Program) (w:World) (K:PySem.W.Frag) (mg:Str->Option Value) (base:Heap) (A:Around) (outer:List Env) (s:Shared) (H:Hp):Prop where
 frames:A.frames=some outer
 mod:Mod K mg base
 bs:∀ b o,base.get? b=some o->s.heap.get? b=some o/\H b=none
 bsz:base.objs.size<=s.heap.objs.size
 funs:s.heap.FunFrames base outer
 frf:∀ b∈frs outer,H b=none
 hok:HOk P w H s.heap
 bare:AllBare s.gens
 tab:∀ P q,TabOf K P q->H P=some (.tbl q)
def CE (outer:List Env) (P:Program) (w:World) (H:Hp) (s:Shared) (Q:VK) (u:Value) (s':Shared):Prop :=
 ∃ v H',s'.os=s.os/\AllBare s'.gens/\Un (frs outer) [] H H' s.heap s'.heap/\HOk P w H' s'.heap/\RelV v u/\Q v H'
def CR (CX:CXT) (outer:List Env) (P:Program) (w:World) (H:Hp) (s:Shared) (Q:VK) (E:XK) (r:Result) (s':Shared):Prop :=
 match r with
 | .ok (.ret u)=>CE outer P w H s Q u s'
 | .ok _=>False
 | .error e=>CX outer H s E e s'
structure iC (P:Program) (w:World) (K:PySem.W.Frag) (mg:Str->Option Value) (base:Heap) (CX:CXT) (k:Nat) (f:Addr) (fd:FuncData) (ps:List Str) (sp:Sp):Prop where
 len:∀ vs H Q E,sp vs H Q E->vs.length=ps.length
 run:∀ (A:Around) (outer:List Env) (s:Shared) (H:Hp) (args:Args) (us:List Value) (vs:List V) (Q:VK) (E:XK),cR k A->vB P w K mg base A outer s H->BindsTo s fd args (ps.zip us)->Vals vs us->sp vs H Q E ->
  codeAny (model P w) A (.call (.ref f) args) (CR CX outer P w H s Q E) s
theorem vB.make {P:Program} {w:World} {K:PySem.W.Frag} {mg:Str->Option Value} {base:Heap} {A:Around} {outer:List Env} {s:Shared} {H:Hp} (e:vB P w K mg base A outer s H) (C:Addr) (us:List Value) (kw:List (Str×Value)) :
 vB P w K mg base (A.under (.builtin "type.__call__" ⟨.ref C::us,kw⟩)) outer s H:=⟨by first | exact e.frames | (simpa [Around.under,Code.envs,Code.isFrame,pushEnvs] using e.frames),e.mod,e.bs,e.bsz,e.funs,e.frf,e.hok,e.bare,e.tab⟩
section
variable {X:Cx} {pins:List (Addr×Obj)} {σ:St} {H:Hp} {s s':Shared}
theorem Inv.env0 (I:Inv X pins σ H s):vB X.prog X.w X.K X.mg X.base X.A X.stack s H :=
 ⟨I.ok.frames,I.ok.mod,I.bs,Lz I.ok.bsz I.sz,I.stack,I.stkFree,I.hok,I.bare,I.tab⟩
theorem Inv.after {Q:VK} {u:Value} (I:Inv X pins σ H s) (h:CE X.stack X.prog X.w H s Q u s'):EP X pins σ Q u s':=by obtain ⟨v,H',os,bare,un,hok,r,q⟩:=h;obtain ⟨hh,g,d,t,os'⟩:=s';obtain rfl:os'=s.os:=os;exact ⟨v,H',I.call (h':=hh) (g':=g) (d':=d) (t':=t) (ch:=[]) un hok bare (fun b z=>absurd z (by simp)),r,q⟩
end
def JW (sp:Sp) (dvs:List V) (E:XK) (t:TA):TE:=fun σ H Q=>t σ H fun vs H1=>sp (vs++dvs) H1 Q E
def AK (C:Addr) (m:Str) (sp:Sp) (dvs:List V) (E:XK) (ta:TE) (t:TA):TE:=fun σ H Q=>ta σ H fun x H1=>∃ a dx fs,x=.ref a/\H1 a=some (.ins C dx fs)/\fs.lookup m=none /\
 t σ H1 fun vs H2=>sp (x::(vs++dvs)) H2 Q E
def JV (C:Addr) (sp:Sp) (dvs:List V) (E:XK) (t:TA):TE:=fun σ H Q=>t σ H fun vs H1=>∀ x dx,H1 x=none->H1 dx=none->dx≠x ->
 sp (.ref x::(vs++dvs)) (upd (upd H1 dx (.own x)) x (.ins C dx [])) (fun v H2=>v=.non/\Q (.ref x) H2) E
def Binds (K:PySem.W.Frag) (fd:FuncData) (ps:List Str) (ds:List Value):Prop :=
 ∀ (s:Shared) (us:List Value),K.In s.heap->(us++ds).length=ps.length->BindsTo s fd ⟨us,[]⟩ (ps.zip (us++ds))
theorem Binds.all {K:PySem.W.Frag} {fd:FuncData} {ps:List Str} (h:∀ us:List Value,us.length=ps.length->bindArgs fd ⟨us,[]⟩=pure (ps.zip us)):Binds K fd ps []:=fun s us _ hl=>by rw [LL] at hl ⊢;exact .of_eq (h us hl)
def Passes (CX:CXT) (X:Cx) (E:XK):Prop:=∀ (pins:List (Addr×Obj)) (σ:St) (H:Hp) (s:Shared) (e:Value) (s':Shared),Inv X pins σ H s->CX X.stack H s E e s'->X.xe e s'
section
variable {X:Cx} {CX:CXT} {k:Nat} {f C:Addr} {fd:FuncData} {ps:List Str} {sp:Sp} {dvs:List V} {ds:List Value} {E:XK} {x m:Str} {p pos apos:Pos} {e o:Expr} {es:List Expr} {ta:TE} {t:TA}
theorem yA {pins:List (Addr×Obj)} {σ:St} {H:Hp} {s:Shared} {Q:VK} {us:List Value} {vs:List V} (F:iC X.prog X.w X.K X.mg X.base CX k f fd ps sp) (hr:cR k X.A) (hb:Binds X.K fd ps ds) (hd:Vals dvs ds) (hx:Passes CX X E)
  (I:Inv X pins σ H s) (r:Vals vs us) (h:sp (vs++dvs) H Q E):wpAny (model X.prog X.w) X.A (call (.ref f) us) (EP X pins σ Q) X.xe s:=by
 have r2:Vals (vs++dvs) (us++ds):=r.append hd;have hl:(us++ds).length=ps.length:=by rw [<-r2.length];exact F.len _ _ _ _ h
 refine wpAny_call (codeAny_mono (F.run X.A X.stack s H ⟨us,[]⟩ (us++ds) (vs++dvs) Q E hr I.env0 (hb s us I.kIn hl) r2 h) fun r s' hq=>?_);cases r with
 | error e=>exact hx pins σ H s e s' I hq
 | ok fl =>
  cases fl with
  | ret u=>exact I.after hq
  | next=>exact False.elim hq
  | brk=>exact False.elim hq
  | cont=>exact False.elim hq
theorem AA (F:iC X.prog X.w X.K X.mg X.base CX k f fd ps sp) (hr:cR k X.A) (hg:Gl X x) (hm:X.mg x=some (.ref f)) (hk:PySem.W.keepIn X.K (.ref f)=true) (hb:Binds X.K fd ps ds) (hd:Vals dvs ds) (hx:Passes CX X E)
  (ha:PA X (e::es) t) (hdb:(x==("__debug__":Str))=false:=by decide) (he:starEach (e::es) X.env=(false,eval e X.env)::starEach es X.env:=by rfl) (hpl:(backTo pos (starEach es X.env)).any (·.1)=false:=by rfl) :
  PE X (.Call (.Name x p) (e::es) [] pos) (JW sp dvs E t):=by
 intro pins s σ H Q I h;refine wpAny_Call_Name_kw (ql I hg hm ?_ hdb);refine PySem.W.callWith_K (h₀:=X.base) I.ok.mod.kin hk (thn (ha pos pins s σ H _ I h) fun us s1 rz2=>?_) he hpl;obtain ⟨vs,H1,I1,r,q⟩:=rz2;refine ⟨I1.kIn,?_⟩;exact yA F hr hb hd hx I1 r q
theorem FR {pl:Sem Bool} (he:PE X o ta) (c:Cls X.K C) (hm:Meth X.K C m f) (F:iC X.prog X.w X.K X.mg X.base CX k f fd ps sp) (hr:cR k X.A) (hb:Binds X.K fd ps ds) (hd:Vals dvs ds) (hx:Passes CX X E) (ha:PA X (e::es) t)
  (hst:starEach (e::es) X.env=(false,eval e X.env)::starEach es X.env:=by rfl) (hpl:(backTo pos (starEach es X.env)).any (·.1)=false:=by rfl)
  (ht:eval (.Call (.Attribute o m apos) (e::es) [] pos) X.env=(do
   let ov <-eval o X.env
   standAt apos.atName
   let (f,first) <-holding [ov] (getMethod ov m pl)
   callWith pos f first (backTo pos (starEach (e::es) X.env)) (backToKw pos (keywordEach [] X.env))):=by rfl) :
  PE X (.Call (.Attribute o m apos) (e::es) [] pos) (AK C m sp dvs E ta t):=by
 intro pins s σ H Q I h;refine PySem.W.methodCall_KW (pl:=pl) (thn (he pins s σ H _ I h) fun u s1 rz2=>?_) ht;obtain ⟨x,H1,I1,rx,a,dx,fs,ex,ea,l,q⟩:=rz2;subst ex;obtain rfl:u=Value.ref a:=rx;refine rQ I1 ea c hm l ?_;refine PySem.W.callWith_K (first:=[.ref a]) (h₀:=X.base) I.ok.mod.kin hm.kp (thn (ha pos pins s1 σ H1 _ I1 q) fun us s2 rz2=>?_) hst hpl;obtain ⟨vs,H2,I2,r,q2⟩:=rz2;refine ⟨I2.kIn,?_⟩;exact yA (us:=.ref a::us) (vs:=.ref a::vs) F hr hb hd hx I2 (.cons rfl r) q2
theorem xA {pl:Sem Bool} (he:PE X o ta) (c:Cls X.K C) (hm:Meth X.K C m f) (F:iC X.prog X.w X.K X.mg X.base CX k f fd ps sp) (hr:cR k X.A) (hb:Binds X.K fd ps ds) (hd:Vals dvs ds) (hx:Passes CX X E)
  (ht:eval (.Call (.Attribute o m apos) [] [] pos) X.env=(do
   let ov <-eval o X.env
   standAt apos.atName
   let (f,first) <-holding [ov] (getMethod ov m pl)
   callWith pos f first (backTo pos (starEach [] X.env)) (backToKw pos (keywordEach [] X.env))):=by rfl) :
  PE X (.Call (.Attribute o m apos) [] [] pos) (AK C m sp dvs E ta IG):=by
 intro pins s σ H Q I h;refine PySem.W.methodCall_KW (pl:=pl) (thn (he pins s σ H _ I h) fun u s1 rz2=>?_) ht;obtain ⟨x,H1,I1,rx,a,dx,fs,ex,ea,l,q⟩:=rz2;subst ex;obtain rfl:u=Value.ref a:=rx;refine rQ I1 ea c hm l ?_;exact PySem.W.callWith_K0 (first:=[.ref a]) I1.kIn hm.kp (yA (us:=[.ref a]) (vs:=[.ref a]) F hr hb hd hx I1 (.cons rfl .nil) q)
structure Mk (K:PySem.W.Frag) (C f:Addr):Prop where
 makes:PySem.W.makesIn K C=true
 init:PySem.W.findIn K (.ref C) "__init__"=some (some (.ref f))
 fn:PySem.W.isFn K (.ref f)=true
 kp:PySem.W.keepIn K (.ref C)=true
theorem Dg {pins:List (Addr×Obj)} {σ:St} {H:Hp} {s:Shared} {Q:VK} {us:List Value} {vs:List V} (M:Mk X.K C f) (F:iC X.prog X.w X.K X.mg X.base CX k f fd ps sp) (hr:cR (k+1) X.A) (hb:Binds X.K fd ps ds) (hd:Vals dvs ds)
  (hx:Passes CX X E) (I:Inv X pins σ H s) (r:Vals vs us)
  (h:∀ x dx,H x=none->H dx=none->dx≠x->sp (.ref x::(vs++dvs)) (upd (upd H dx (.own x)) x (.ins C dx [])) (fun v H2=>v=.non/\Q (.ref x) H2) E) :
  wpAny (model X.prog X.w) X.A (call (.ref C) us) (EP X pins σ Q) X.xe s:=by
 have hq:=h (s.heap.objs.size+1) s.heap.objs.size (I.hok.fresh (Ml _)) (I.hok.fresh (K8 _)) (KY (LR _));have I2:=Inv.made (C:=C) I;have r2:Vals (V.ref (s.heap.objs.size+1)::(vs++dvs)) (Value.ref (s.heap.objs.size+1)::(us++ds)):=.cons rfl (r.append hd);have hl:(Value.ref (s.heap.objs.size+1)::us++ds).length=ps.length:=by have e:=r2.length;rw [F.len _ _ _ _ hq] at e;exact e.symm
 refine wpAny_call (Cr (f:=f) I.kIn M.makes M.init (beq_iff_eq.mp M.fn) (codeAny_mono (F.run _ X.stack _ _ ⟨Value.ref (s.heap.objs.size+1)::us,[]⟩ (Value.ref (s.heap.objs.size+1)::(us++ds)) _ _ E (hr.make C us [])
  (I2.env0.make C us []) (hb _ (Value.ref (s.heap.objs.size+1)::us) I2.kIn hl) r2 hq) fun r s' hq'=>?_))
 cases r with
 | error e=>exact hx pins σ _ _ e s' I2 hq'
 | ok fl =>
  cases fl with
  | ret u =>obtain ⟨v,H',I3,rv,ev,q3⟩:=I2.after hq';subst ev;exact ⟨rv,⟨V.ref (s.heap.objs.size+1),H',I3,rfl,q3⟩⟩
  | next=>exact False.elim hq'
  | brk=>exact False.elim hq'
  | cont=>exact False.elim hq'
theorem Fj (M:Mk X.K C f) (F:iC X.prog X.w X.K X.mg X.base CX k f fd ps sp) (hr:cR (k+1) X.A) (hg:Gl X x) (hm:X.mg x=some (.ref C)) (hb:Binds X.K fd ps ds) (hd:Vals dvs ds) (hx:Passes CX X E)
  (ha:PA X (e::es) t) (hdb:(x==("__debug__":Str))=false:=by decide) (he:starEach (e::es) X.env=(false,eval e X.env)::starEach es X.env:=by rfl) (hpl:(backTo pos (starEach es X.env)).any (·.1)=false:=by rfl) :
  PE X (.Call (.Name x p) (e::es) [] pos) (JV C sp dvs E t):=by
 intro pins s σ H Q I h;refine wpAny_Call_Name_kw (ql I hg hm ?_ hdb);refine PySem.W.callWith_K (h₀:=X.base) I.ok.mod.kin M.kp (thn (ha pos pins s σ H _ I h) fun us s1 rz2=>?_) he hpl;obtain ⟨vs,H1,I1,r,q⟩:=rz2;refine ⟨I1.kIn,?_⟩;exact Dg M F hr hb hd hx I1 r q
end
def PK (X:Cx) (kws:List Keyword) (t:TA):Prop :=
 ∀ (pos:Pos) (pins:List (Addr×Obj)) (s:Shared) (σ:St) (H:Hp) (Q:List V->Hp->Prop),Inv X pins σ H s->t σ H Q->wpAny (model X.prog X.w) X.A (evalAll ((backToKw pos (keywordEach kws X.env)).map (·.2))) (AP X pins σ Q) X.xe s
section
variable {X:Cx} {CX:CXT} {k:Nat} {f C:Addr} {fd:FuncData} {ps ks:List Str} {sp:Sp} {E:XK} {x m:Str} {p pos apos kpos:Pos} {e o:Expr} {es:List Expr} {kws:List Keyword} {te ta:TE} {t tk:TA} {nm:Option Str}
theorem Hy:PK X [] IG:=fun _ _ _ _ H Q I h=>wpAny_evalAll_nil ⟨[],H,I,.nil,h⟩
theorem FK (ha:PE X e te) (hr:PK X kws t):PK X (⟨nm,e,kpos⟩::kws) (GD te t):=by intro pos pins s σ H Q I h;show wpAny _ _ (evalAll ((do let v <-eval e X.env;standAt pos;pure v)::(backToKw pos (keywordEach kws X.env)).map (·.2))) _ _ s;refine wpAny_evalAll_cons (wpAny_bind (thn (ha pins s σ H _ I h) fun u s1 rz2=>?_));obtain ⟨x,H1,I1,r1,q1⟩:=rz2;refine wpAny_bind (wpAny_standAt (wpAny_pure ?_));exact thn (hr pos pins s1 σ H1 _ I1 q1) fun us s2 qz2=>(by obtain ⟨xs,H2,I2,r2,q2⟩:=qz2;exact ⟨x::xs,H2,I2,.cons r1 r2,q2⟩)
variable {g:List Value->List Value->List Value} {gV:List V->List V->List V}
end
structure aZ (N P:List Str) (sc:Scope):Prop where
 kind:sc.kind=.function
 co:sc.isCoroutine=false
 gen:sc.isGenerator=false
 nd:N.Nodup
 pre:N.take P.length=P
 par:∀ x∈P,sc.names.lookup x=some .local\/sc.names.lookup x=some .cell
 nofree:∀ y∈sc.names,y.2≠.free
theorem ud {kindOf:Str->Option NameKind} {x:Str}:∀ {binds:List (Str×Value)} {m:Str->Option Value},(∀ v,(x,v)∉binds)->bindL kindOf binds m x=m x
 | [],_,_=>rfl
 | (n,v)::r,m,h=>by
  unfold bindL;rw [ud fun w hw=>h w (K0 _ hw)];split
  ·have:x≠n:=by rintro rfl;exact h v K4
   simp [this]
  ·rfl
theorem uC {kindOf:Str->Option NameKind} {x:Str}:∀ {binds:List (Str×Value)} {m:Str->Option Value},(∀ v,(x,v)∉binds)->bindC kindOf binds m x=m x
 | [],_,_=>rfl
 | (n,v)::r,m,h=>by
  unfold bindC;rw [uC fun w hw=>h w (K0 _ hw)];split
  ·rfl
  ·have:x≠n:=by rintro rfl;exact h v K4
   simp [this]
theorem uF {kindOf:Str->Option NameKind} {x:Str} {v:Value}:∀ {P:List Str} {vs:List Value} {i:Nat} {m:Str->Option Value},P.Nodup->P[i]?=some x->vs[i]?=some v->kindOf x=some .local ->
  bindL kindOf (P.zip vs) m x=some v
 | [],_,_,_,_,h,_,_=>by simp at h
 | _::_,[],_,_,_,_,h,_=>by simp at h
 | p::P,w::vs,0,m,nd,h1,h2,hk=>by simp at h1 h2;subst h1;subst h2;show bindL kindOf ((p,w)::P.zip vs) m p=_;unfold bindL;rw [ud fun v hv=>(Lr.mp nd).1 (Mn hv).1,if_pos hk];simp
 | p::P,w::vs,i+1,m,nd,h1,h2,hk=>by show bindL kindOf ((p,w)::P.zip vs) m x=_;unfold bindL;exact uF (i:=i) (Lr.mp nd).2 (by simpa using h1) (by simpa using h2) hk
theorem uj {kindOf:Str->Option NameKind} {x:Str} {v:Value}:∀ {P:List Str} {vs:List Value} {i:Nat} {m:Str->Option Value},P.Nodup->P[i]?=some x->vs[i]?=some v->kindOf x≠some .local ->
  bindC kindOf (P.zip vs) m x=some v
 | [],_,_,_,_,h,_,_=>by simp at h
 | _::_,[],_,_,_,_,h,_=>by simp at h
 | p::P,w::vs,0,m,nd,h1,h2,hk=>by simp at h1 h2;subst h1;subst h2;show bindC kindOf ((p,w)::P.zip vs) m p=_;unfold bindC;rw [uC fun v hv=>(Lr.mp nd).1 (Mn hv).1,if_neg hk];simp
 | p::P,w::vs,i+1,m,nd,h1,h2,hk=>by show bindC kindOf ((p,w)::P.zip vs) m x=_;unfold bindC;exact uj (i:=i) (Lr.mp nd).2 (by simpa using h1) (by simpa using h2) hk
def start (N:List Str) (vs:List V):St:=vs.map some++List.replicate (N.length-vs.length) none
def eF (CX:CXT) (P:Program) (w:World) (K:PySem.W.Frag) (mg:Str->Option Value) (base:Heap) (N:List Str) (qual:Str) (scope:Scope) (f:Addr) (cd:Value) (A:Around) (outer:List Env) (s:Shared) (H:Hp) (E:XK):Cx where
 prog:=P
 w:=w
 K:=K
 mg:=mg
 base:=base
 A:=A.deeper (envOfC qual scope s.heap.objs.size f cd)
 N:=N
 s₀:=s
 H₀:=H
 env:=envOfC qual scope s.heap.objs.size f cd
 outer:=outer
 stack:=envOfC qual scope s.heap.objs.size f cd::outer
 ex:=[]
 calm:=true
 fn:=fun _=>true
 pn:=[]
 xe:=fun e s'=>wpAny (model P w) (A.deeper (envOfC qual scope s.heap.objs.size f cd)) (leaving (envOfC qual scope s.heap.objs.size f cd) e) (fun _ s''=>CX outer H s E e s'') (fun e' s''=>CX outer H s E e' s'') s'
theorem sM {sc:Scope} {n:Nat} {x:Str} (h:sc.names.lookup x=some .cell):∃ c,(cellsFrom n sc.names []).lookup x=some c:=by have q:=PySem.W.cellsFrom_some sc.names n [] (.inl h);exact Option.isSome_iff_exists.mp q
theorem Bx {CX:CXT} {P:Program} {w:World} {K:PySem.W.Frag} {mg:Str->Option Value} {base:Heap} {N ps:List Str} {qual:Str} {scope:Scope} {f:Addr} {cd:Value} {A:Around} {outer:List Env} {s s1:Shared} {H:Hp} {E:XK} {us:List Value} {vs:List V}
  (S:aZ N ps scope) (hd:A.handled=none) (e0:vB P w K mg base A outer s H) (hl:vs.length=ps.length) (r:Vals vs us)
  (x:InCallC s s.heap.objs.size (bindL (envOfC qual scope s.heap.objs.size f cd).kindOf (ps.zip us) fun _=>none) (cellsFrom (s.heap.objs.size+1) scope.names []) (bindC (envOfC qual scope s.heap.objs.size f cd).kindOf (ps.zip us) fun _=>none) s1) :
  Inv (eF CX P w K mg base N qual scope f cd A outer s H E) [] (start N vs) H s1:=by
 have hpl:ps.length<=N.length:=by have:=congrArg List.length S.pre;rw [List.length_take] at this;omega
 obtain ⟨h1,tk,rfl,hk⟩:=x.done;have noA:∀ b:Addr,b∉(eF CX P w K mg base N qual scope f cd A outer s H E).ex:=fun b z=>absurd (show b∈([]:List Addr) from z) (by simp)
 refine ⟨⟨e0.mod,S.kind,rfl,rfl,K8 _,fun y z c h1 h2=>?_,fun y hy=>?_,fun y c _ h=>?_,fun _=>hd,Around.frames_deeper e0.frames,.inr ⟨rfl,rfl⟩,fun b z=>absurd z (noA b),e0.bs,e0.bsz,fun b _ _=>noA b,fun b z=>absurd z (noA b),e0.funs,e0.frf⟩,
  rfl,e0.bare,Un.kept hk,⟨_,x.toInCall.ns,fun i y v h1 h2 h3=>?_⟩,fun y c h=>⟨_,x.cell y c h⟩,e0.hok.fresh (K8 _),fun y c h=>?_,fun p hp=>absurd (show p∈([]:List (Addr×Obj)) from hp) (by simp),e0.hok.kept hk,?_,e0.tab⟩
 ·exact name_of_addr x.apart (PySem.mem_of_lookup h1) (PySem.mem_of_lookup h2)
 ·have hy:scope.names.lookup y=some .cell\/scope.names.lookup y=some .free:=hy;rcases hy with hy | hy
  ·exact sM hy
  ·exact absurd rfl (S.nofree _ (PySem.mem_of_lookup hy))
 ·exact MO (x.above y c (PySem.mem_of_lookup h))
 ·have hi:i<vs.length:=by
   unfold start at h2;by_cases hi:i<vs.length
   ·exact hi
   ·rw [Le (by simpa using hi)] at h2;rw [Mt] at h2;split at h2 <;> cases h2
  have ha:vs[i]?=some v:=by
   unfold start at h2;rw [La (by simpa using hi),Lb] at h2;cases e:vs[i]? with
   | none=>rw [e] at h2;cases h2
   | some a=>rw [e] at h2;cases h2;rfl
  obtain ⟨u,hu,rv⟩:=r.get ha;have hp:ps[i]?=some y:=by rw [<-S.pre,List.getElem?_take_of_lt (by omega)];exact h1
  have ndP:ps.Nodup:=by rw [<-S.pre];exact S.nd.sublist (List.take_sublist _ _)
  refine ⟨u,rv,?_⟩;rcases S.par y (Lu hp) with k | k
  ·exact .inl ⟨k,uF ndP hp hu k⟩
  ·obtain ⟨c,e⟩:=sM (n:=s.heap.objs.size+1) k;refine .inr ⟨.inl k,c,e,?_⟩;have q:=x.cell y c e;rw [uj ndP hp hu (by show scope.names.lookup y≠_;rw [k];decide)] at q;exact q
 ·exact e0.hok.fresh (MO (x.above y c (PySem.mem_of_lookup h)))
 ·unfold start;show _=N.length;rw [KU,K5,List.length_replicate];omega
theorem Co {CX:CXT} {P:Program} {w:World} {K:PySem.W.Frag} {mg:Str->Option Value} {base:Heap} {k:Nat} {f:Addr} {name qual:Str} {params:Arguments} {body:List Stmt} {scope:Scope} {dV kV doc pm cdv ct oc:Value} {an od:Option Addr}
  {osl:Array (Option Value)} {N ps:List Str} {sp:Sp} (lk:K.lookup f=some ⟨oc,od,.func (PySem.W.fnOf name qual params body scope dV kV doc pm an cdv ct),osl⟩) (hcd:PySem.W.codeIn K cdv qual=true) (S:aZ N ps scope)
  (len:∀ vs H Q E,sp vs H Q E->vs.length=ps.length)
  (hbody:∀ (A:Around) (outer:List Env) (s:Shared) (H:Hp) (vs:List V) (Q:VK) (E:XK),cR k (A.deeper (envOfC qual scope s.heap.objs.size f cdv))->sp vs H Q E ->
   ∃ t,PSs (eF CX P w K mg base N qual scope f cdv A outer s H E) body t/\t { nx:=fun _ H'=>Q .non H',rt:=Q } (start N vs) H) :
  iC P w K mg base CX (k+1) f (PySem.W.fnOf name qual params body scope dV kV doc pm an cdv ct) ps sp:=by
 refine ⟨len,fun A outer s H args us vs Q E hr e0 hb r hsp=>?_⟩;have hl:=len _ _ _ _ hsp;have KX:K.In s.heap:=e0.mod.kin.keeps fun b o e=>(e0.bs b o e).1
 have lim:s.heap.NoLimit:=e0.mod.nolimit.keeps fun b o e=>(e0.bs b o e).1
 have hkind:∀ y∈ps.zip us,scope.names.lookup y.1=some .local\/(scope.names.lookup y.1=some .cell/\((cellsFrom (s.heap.objs.size+1) scope.names []).lookup y.1).isSome=true):=fun pz0 hy=>by
  obtain ⟨n,v⟩:=pz0;rcases S.par n (Mn hy).1 with q | q
  ·exact .inl q
  ·exact .inr ⟨q,PySem.W.cellsFrom_some _ _ _ (.inl q)⟩
 refine codeAny_call_function hr.depth (KX _ _ lk) rfl S.co S.gen rfl (PySem.W.codeRec_of KX hcd) (hb _ _ _ _ ?_);refine wpAny_newFunctionEnv_cells S.kind hkind fun env he s1 x=>?_
 subst he;refine ⟨lim.keeps x.toInCall.keep,codeAny_func ?_⟩;obtain ⟨t,ht,hq⟩:=hbody A outer s H vs Q E (hr.deeper _) hsp;have I:Inv (eF CX P w K mg base N qual scope f cdv A outer s H E) [] (start N vs) H s1:=Bx S hr.hd e0 hl r x;refine wpAny_mono (ht [] s1 (start N vs) H _ I hq) (fun fl s' hs=>?_) fun e s' hs=>hs
 have fin:∀ {σ':St} {H':Hp} {v:V} {u:Value},Inv (eF CX P w K mg base N qual scope f cdv A outer s H E) [] σ' H' s'->RelV v u->Q v H'->CE outer P w H s Q u s' :=
  fun {σ' H' v u} J rv q=>⟨v,H',J.os,J.bare,J.base,J.hok,rv,q⟩
 cases fl with
 | ret u =>obtain ⟨v,σ',H',J,rv,q⟩:=hs;exact fin J rv q
 | next =>obtain ⟨σ',H',J,q⟩:=hs;exact fin (v:=V.non) (u:=Value.none) J rfl q
 | brk =>obtain ⟨_,_,_,q⟩:=hs;exact False.elim q
 | cont =>obtain ⟨_,_,_,q⟩:=hs;exact False.elim q
section
variable {X:Cx} {x:Str} {p pos:Pos} {e:Expr} {es:List Expr} {t:TA} {id T:String} {r:List V->Hp->VK->Prop}
def tCB (r:List V->Hp->VK->Prop) (t:TA):TE:=fun σ H Q=>t σ H fun vs H1=>r vs H1 Q
theorem gH (hc:kr X (.builtin id) r) (hg:Gl X x) (hm:X.mg x=none) (hv:bootBuiltins x=some (.builtin id)) (ha:PA X (e::es) t) (hn:x≠"__name__":=by decide) (hdb:(x==("__debug__":Str))=false:=by decide)
  (he:starEach (e::es) X.env=(false,eval e X.env)::starEach es X.env:=by rfl) (hpl:(backTo pos (starEach es X.env)).any (·.1)=false:=by rfl):PE X (.Call (.Name x p) (e::es) [] pos) (tCB r t):=by
 intro pins s σ H Q I h;refine wpAny_Call_Name_kw (fX I hg hm hv ?_ hn hdb);exact PyProof.Rows.callWith_builtin1 (thn (ha pos pins s σ H _ I h) fun us s1 qz2=>(by obtain ⟨vs,H1,I1,r1,q1⟩:=qz2;exact hc pins s1 σ H1 vs us Q I1 r1 q1)) he hpl
theorem oq (hc:kr X (.type T) r) (hg:Gl X x) (hm:X.mg x=none) (hv:bootBuiltins x=some (.type T)) (ha:PA X (e::es) t) (hn:x≠"__name__":=by decide) (hdb:(x==("__debug__":Str))=false:=by decide)
  (he:starEach (e::es) X.env=(false,eval e X.env)::starEach es X.env:=by rfl) (hpl:(backTo pos (starEach es X.env)).any (·.1)=false:=by rfl):PE X (.Call (.Name x p) (e::es) [] pos) (tCB r t):=by
 intro pins s σ H Q I h;refine wpAny_Call_Name_kw (fX I hg hm hv ?_ hn hdb);exact PyProof.Rows.callWith_type1 (thn (ha pos pins s σ H _ I h) fun us s1 qz2=>(by obtain ⟨vs,H1,I1,r1,q1⟩:=qz2;exact hc pins s1 σ H1 vs us Q I1 r1 q1)) he hpl
end
end L2
namespace HT
open PySem PyProof.Rows
def lexLt:List Int->List Int->Bool
 | [],[]=>false
 | [],_::_=>true
 | _::_,[]=>false
 | x::xs,y::ys=>if x=y then lexLt xs ys else decide (x<y)
theorem qK (x y:Int) (xs ys:List Int):lexLt (x::xs) (y::ys)=if x=y then lexLt xs ys else decide (x<y):=rfl
theorem lP:lexLt [] []=false:=rfl
theorem qQ (y:Int) (ys:List Int):lexLt [] (y::ys)=true:=rfl
theorem su (x:Int) (xs:List Int):lexLt (x::xs) []=false:=rfl
theorem CS (A:Around) (s:Shared) (a:Int) (t:Tok) (c:Int) (u:Tok):∃ e,SeqAt.EqAt A s (.int a t) (.int c u) e/\(e=true↔a=c) :=
 ⟨(a==c),SeqAt.EqAt.int_int a t c u,by simp⟩
theorem De (A:Around) (s:Shared) (a:Int) (t:Tok) (c:Int) (u:Tok) (prog:Program) (w:World) (E:Value->Shared->Prop) (Q:Value->Shared->Prop) (h:Q (.bool (decide (a<c))) s) :
  wpAny (model prog w) A (richCompare .Lt (.int a t) (.int c u)) Q E s :=
 (PyProof.Rows.lt_int h:wpAny (model prog w) A (compareOp .Lt (.int a t) (.int c u)) Q E s)
section
open PySem.SeqAt
open PySem.AutoSeq1 (wpAny_loadPart')
open PySem.MeetsSeq PySem.MeetsSeq2 PySem.MeetsSeq3
theorem tQ (l b:Addr) (items items2:Array Value) (n n2:Nat) (dd dd2:Option Addr) (sl sl2:Array (Option Value)) (ns ms:List Int) (hi:IntsAre items.toList ns) (hj:IntsAre items2.toList ms) :
  Meets (Builtin.«tuple.__lt__» ⟨[.ref l,.ref b],[]⟩)
   (fun _ R s=>s.heap.get? l=some { cls:=.type "tuple",dict:=dd,data:=.seq items n,slots:=sl }/\s.heap.get? b=some { cls:=.type "tuple",dict:=dd2,data:=.seq items2 n2,slots:=sl2 } /\
    R (.ok (.ret (.bool (lexLt ns ms)))) s) :=
 .of_wp fun prog w A R s h=>by
  obtain ⟨hp,g,d,tk,os⟩:=s;obtain ⟨hl,hb,h⟩:=h;have f2:=AutoSeq1.sub_tuple_tuple;have z1:items.size=ns.length:=by rw [<-hi.length];simp
  have z2:items2.size=ms.length:=by rw [<-hj.length];simp
  wp_walk using wpAny_loadPart' hl,wpAny_loadPart' hb,wpAny_forIn_list _ (fun rest b s'=>b.1=none/\s'=⟨hp,g,d,tk,os⟩/\∃ (vs ws:List Value) (ns' ms':List Int),rest=vs.zip ws /\
   IntsAre vs ns'/\IntsAre ws ms'/\ns'.length+items2.size=ms'.length+items.size/\R (.ok (.ret (.bool (lexLt ns' ms')))) ⟨hp,g,d,tk,os⟩) _
  case turn =>
   rintro ⟨y,x⟩ rest b s' ⟨hb',rfl,vs,ws,ns',ms',hz,hvi,hwi,hlen,hR⟩
   cases hvi with
   | nil=>rw [List.zip_nil_left] at hz;cases hz
   | cons a t hvi' =>
    cases hwi with
    | nil=>rw [List.zip_nil_right] at hz;cases hz
    | cons c u hwi' =>
     rw [Mq] at hz;injection hz with hyx hrest
     injection hyx with hy hx
     subst hy hx;rw [qK] at hR;simp only [L6] at hlen;obtain ⟨e,he,hiff⟩:=CS A.in1 ⟨hp,g,d,tk,os⟩ a t c u;refine wpAny_bind (he prog w _ _ ?_);cases e with
     | true =>
      rw [if_pos (hiff.mp rfl)] at hR
      wp_walk
      exact ⟨rfl,rfl,_,_,_,_,hrest,hvi',hwi',by omega,hR⟩
     | false =>
      rw [if_neg (fun q=>absurd (hiff.mpr q) L9)] at hR;have hri:=De A.in1 ⟨hp,g,d,tk,os⟩ a t c u prog w
      wp_walk using hri
      exact ⟨_,rfl,by simpa using hR⟩
  case fin =>
   rintro ⟨b1,b2⟩ s' ⟨hb',rfl,vs,ws,ns',ms',hz,hvi,hwi,hlen,hR⟩
   simp only at hb';subst hb';have hv:lexLt ns' ms'=decide (items.size<items2.size):=by
    cases hvi with
    | nil =>
     cases hwi with
     | nil =>simp only [LM] at hlen;rw [lP];exact (decide_eq_false (by omega)).symm
     | cons c u hw =>simp only [LM,L6] at hlen;rw [qQ];exact (decide_eq_true (by omega)).symm
    | cons a t hv =>
     cases hwi with
     | nil =>simp only [LM,L6] at hlen;rw [su];exact (decide_eq_false (by omega)).symm
     | cons c u hw =>rw [Mq] at hz;cases hz
   rw [hv] at hR
   wp_walk
   exact ⟨_,rfl,by simpa [Builtin.Tuple.tupleCompareSizes] using hR⟩
  case h =>exact ⟨rfl,rfl,items.toList,items2.toList,ns,ms,rfl,hi,hj,by omega,h⟩
end
section
variable {prog:Program} {w:World} {A:Around} {E:Value->Shared->Prop} {s:Shared}
theorem yZ {l b:Addr} {items items2:Array Value} {ns ms:List Int} {Q:Value->Shared->Prop} (hl:IsTup s.heap l items) (hb:IsTup s.heap b items2) (hi:IntsAre items.toList ns) (hj:IntsAre items2.toList ms)
  (hu:A.units<cLine) (h:Q (.bool (lexLt ns ms)) s):wpAny (model prog w) A (compareOp .Lt (.ref l) (.ref b)) Q E s:=by
 obtain ⟨⟨cls,dd,data,sl⟩,ho,hc,n,hd⟩:=id hl;obtain ⟨⟨cls2,dd2,data2,sl2⟩,ho2,hc2,n2,hd2⟩:=id hb;simp only at hc hd hc2 hd2;subst hc hd hc2 hd2;exact richCompare_meets_room (op:=.Lt) ⟨_,ho,rfl⟩ ⟨_,ho2,rfl⟩ PySem.F.slot_tuple_lt PySem.F.entry_tuple_lt (PySem.F.args_tuple_lt_2 _ _) (tQ l b items items2 n n2 dd dd2 sl sl2 ns ms hi hj)
  ⟨ho,ho2,show Value.bool (lexLt ns ms)≠Value.notImplemented/\Q (.bool (lexLt ns ms)) s from ⟨(fun x=>nomatch x),h⟩⟩ hu
theorem FF {t b:Addr} {vs ws:List Value} {Q:Value->Shared->Prop} (ht:IsTup s.heap t vs.toArray) (hb:IsTup s.heap b ws.toArray) (hv:vs≠[])
  (h1:ws=[]->Q (.ref t) s) (h2:ws≠[]->Q (.ref s.heap.objs.size) { s with heap:=s.heap.push { cls:=.type "tuple",data:=.seq (vs++ws).toArray } })
  (hsz:vs.length+ws.length<=sizeLine):wpAny (model prog w) A (binaryOp .Add (.ref t) (.ref b)) Q E s:=by
 obtain ⟨⟨cls,dd,data,sl⟩,ho,hc,n,hd⟩:=id ht;obtain ⟨⟨cls2,dd2,data2,sl2⟩,ho2,hc2,n2,hd2⟩:=id hb;simp only at hc hd hc2 hd2;subst hc hd hc2 hd2;have e:vs.toArray++ws.toArray=(vs++ws).toArray:=by simp
 by_cases hw:ws=[]
 ·exact concat_meets ⟨_,ho,rfl⟩ ⟨_,ho2,rfl⟩ noFill_tuple_add seq_tuple_add PySem.F.slot_tuple_add PySem.F.entry_tuple_add (PySem.F.args_tuple_add_2 _ _)
   (tuple_addW1 t b vs.toArray ws.toArray n n2 dd dd2 sl sl2 (by simpa using hv) (by simp [hw])) ⟨ho,ho2,h1 hw⟩
 ·refine concat_meets ⟨_,ho,rfl⟩ ⟨_,ho2,rfl⟩ noFill_tuple_add seq_tuple_add PySem.F.slot_tuple_add PySem.F.entry_tuple_add (PySem.F.args_tuple_add_2 _ _)
   (tuple_addW2 t b vs.toArray ws.toArray n n2 dd dd2 sl sl2 (by simpa using hv) (by simpa using hw) (by rw [L0,L0];exact hsz)) ⟨ho,ho2,?_⟩
  rw [e];exact h2 hw
def sIx (n d:Nat):Option Int->Nat
 | none=>d
 | some v=>if v<0 then (v+(n:Int)).toNat else min v.toNat n
end
end HT
namespace L2
open PySem PySem.Spec PyProof.Rows
theorem intsAre_of {ns:List Int}:∀ {us:List Value},Vals (ns.map V.int) us->IntsAre us ns:=by
 induction ns with
 | nil=>intro us r;rw [LS] at r;cases r;exact .nil
 | cons n ns ih =>
  intro us r;rw [K1] at r;cases r with
  | cons r1 r2 =>obtain ⟨t,e⟩:=r1;subst e;exact .cons n t (ih r2)
section
variable {X:Cx} {e:Expr} {te:TE} {lo hi:Option Expr} {tl th:TO} {pos p2:Pos}
def Kb (K:PySem.W.Frag):R2:=fun x y H Q=>∃ a b ns ms,x=.ref a/\y=.ref b/\SqT K H a (ns.map V.int)/\SqT K H b (ms.map V.int)/\Q (.bl (HT.lexLt ns ms)) H
theorem G6 (hu:X.A.units<cLine):OpR X (compareOp .Lt) (Kb X.K):=by intro pins s σ H x y v u Q I rx ry h;obtain ⟨a,b,ns,ms,rfl,rfl,ha,hb,q⟩:=h;cases rx;cases ry;obtain ⟨its,r1,p1,_⟩:=I.tuple ha;obtain ⟨its2,r2,p2,_⟩:=I.tuple hb;have i1:IntsAre its.toArray.toList ns:=intsAre_of r1;have i2:IntsAre its2.toArray.toList ms:=intsAre_of r2;exact HT.yZ p1 p2 i1 i2 hu ⟨.bl (HT.lexLt ns ms),H,I,rfl,q⟩
def Jj (K:PySem.W.Frag):R2:=fun x y H Q=>∃ a b xs ys,x=.ref a/\y=.ref b/\SqT K H a xs/\SqT K H b ys/\xs≠[]/\xs.length+ys.length<=sizeLine /\
 (ys=[]->Q (.ref a) H)/\(ys≠[]->∀ p,H p=none->Q (.ref p) (upd H p (.tup (xs++ys))))
theorem Vals.nil_iff {xs:List V} {us:List Value} (r:Vals xs us):us=[]↔xs=[]:=by
 cases r with
 | nil=>simp
 | cons _ _=>simp
theorem E3:OpR X (binaryOp .Add) (Jj X.K):=by intro pins s σ H x y v u Q I rx ry h;obtain ⟨a,b,xs,ys,rfl,rfl,ha,hb,hx,hz,q1,q2⟩:=h;cases rx;cases ry;obtain ⟨its,r1,p1,_⟩:=I.tuple ha;obtain ⟨its2,r2,p2,_⟩:=I.tuple hb;refine HT.FF p1 p2 (fun z=>hx (r1.nil_iff.mp z)) (fun z=>⟨.ref a,H,I,rfl,q1 (r2.nil_iff.mp z)⟩) (fun z=>?_) (by rw [<-r1.length,<-r2.length];exact hz);refine ⟨.ref s.heap.objs.size,_,I.laid (t':=s.toks) (o:=.tup (xs++ys)) (fun b ob q=>K2 _ q) (K8 _) ?_,rfl,q2 (fun w=>z (r2.nil_iff.mpr w)) _ (I.hok.fresh (K8 _))⟩;exact ⟨by rw [KU];exact hz,_,r1.append r2,xF.new _ _⟩
end
def ixN (n:Nat) (i:Int):Option Nat:=if 0<=i then (if i<n then some i.toNat else none) else if -(n:Int)<=i then some (i+n).toNat else none
def atI {α:Type} (xs:List α) (i:Int):Option α:=(ixN xs.length i).bind fun j=>xs[j]?
theorem vO {n:Nat} {i:Int} {j:Nat} (h:ixN n i=some j):seqIndex? i n=some j/\j<n/\-(n:Int)<=i/\i<n:=by
 unfold ixN at h;by_cases h0:0<=i
 ·rw [if_pos h0] at h;by_cases h1:i<n
  ·rw [if_pos h1] at h;have e:i.toNat=j:=Option.some.inj h;exact ⟨by rw [seqIndex_of h0 h1,e],by omega,by omega,h1⟩
  ·rw [if_neg h1] at h;cases h
 ·rw [if_neg h0] at h;by_cases h1:-(n:Int)<=i
  ·rw [if_pos h1] at h;have e:(i+n).toNat=j:=Option.some.inj h;exact ⟨by rw [seqIndex_neg (by omega) h1,e],by omega,h1,by omega⟩
  ·rw [if_neg h1] at h;cases h
theorem AR {α:Type} {xs:List α} {i:Int} {v:α} (h:atI xs i=some v):∃ j,seqIndex? i xs.length=some j/\xs[j]?=some v/\j<xs.length/\-(xs.length:Int)<=i/\i<xs.length:=by
 unfold atI at h;cases e:ixN xs.length i with
 | none=>rw [e] at h;cases h
 | some j =>rw [e] at h;obtain ⟨h1,h2,h3,h4⟩:=vO e;exact ⟨j,h1,h,h2,h3,h4⟩
theorem qv {α:Type} {xs:List α} {j:Nat} {v:α} (h:xs[j]?=some v):atI xs (j:Int)=some v:=by
 have hj:j<xs.length:=(Lj.mp h).1;have e:ixN xs.length (j:Int)=some j:=by unfold ixN;rw [if_pos (by omega),if_pos (by omega)];simp
 unfold atI;rw [e];exact h
def Ai (b:Expr):Prop:=∀ o i,subscripted b false o i=operate [o,i] (getItem o i)
def IxR (X:Cx) (r:R2):Prop :=
 ∀ (value slice:Expr) (pins:List (Addr×Obj)) (s:Shared) (σ:St) (H:Hp) (x y:V) (v u:Value) (Q:VK),Inv X pins σ H s->RelV x v->RelV y u->r x y H Q ->
  subscripted slice false v u=operate [v,u] (getItem v u)->wpAny (model X.prog X.w) X.A (subscriptTail value slice v u) (EP X pins σ Q) X.xe s
def MtR (X:Cx) (id:String) (r:V->List V->Hp->VK->Prop):Prop :=
 ∀ (pins:List (Addr×Obj)) (s:Shared) (σ:St) (H:Hp) (x:V) (xs:List V) (v:Value) (us:List Value) (Q:VK),Inv X pins σ H s->RelV x v->Vals xs us->r x xs H Q ->
  wpAny (model X.prog X.w) X.A (call (.builtin id) (v::us)) (EP X pins σ Q) X.xe s
section
variable {X:Cx} {a b:Expr} {ta tb:TE} {pos:Pos}
theorem IxR.or {r r':R2} (h:IxR X r) (h':IxR X r'):IxR X (fun x y H Q=>r x y H Q\/r' x y H Q):=by
 intro value slice pins s σ H x y v u Q I rx ry q hs;rcases q with q | q
 ·exact h value slice pins s σ H x y v u Q I rx ry q hs
 ·exact h' value slice pins s σ H x y v u Q I rx ry q hs
theorem CO {r:R2} (hr:IxR X r) (ha:PE X a ta) (hb:PE X b tb) (hs:Ai b):PE X (.Subscript a b pos) (tOp r ta tb):=by intro pins s σ H Q I h;exact Subscript_ (Ie ha hb I h fun v u s2 x y H2 I2 rx ry q=>hr a b pins s2 σ H2 x y v u Q I2 rx ry q (hs _ _))
def JF (K:PySem.W.Frag):R2:=fun x y H Q=>∃ p xs i v,x=.ref p/\y=.int i/\SqL K H p xs/\atI xs i=some v/\Q v H
def JY (K:PySem.W.Frag):R2:=fun x y H Q=>∃ p xs i v,x=.ref p/\y=.int i/\SqT K H p xs/\atI xs i=some v/\Q v H
theorem vl:IxR X (JF X.K):=by
 intro value slice pins s σ H x y v u Q I rx ry h hs;obtain ⟨p,xs,i,z,rfl,rfl,hq,he,q⟩:=h;cases rx;obtain ⟨t,rfl⟩:=ry;obtain ⟨its,r,pl,hz⟩:=I.list hq;obtain ⟨j,h1,h2,h3,h4,h5⟩:=AR he;obtain ⟨w,ew,rw'⟩:=r.get h2;have hl:=r.length;have hn:=vE;have fin:EP X pins σ Q w s:=⟨z,H,I,rw',q⟩
 by_cases h0:0<=i
 ·have hj:i.toNat=j:=by rw [seqIndex_of h0 h5] at h1;exact Option.some.inj h1
  exact item_listR pl.isList h0 (by omega) (by rw [hj];simpa using ew) fin hs
 ·have hj:(i+(its.toArray.size:Int)).toNat=j:=by rw [seqIndex_neg (by omega) h4] at h1;rw [L0,<-hl];exact Option.some.inj h1
  exact subscriptTail_builtinR (x:=w) pl.isList.typeIs slot_list_getitem.lookup
   (wpAny_getItem_list_neg (Q:=fun r s'=>r=w/\EP X pins σ Q r s') pl.isList (by omega) (by rw [L0] <;> omega) (by omega) (by rw [hj];simpa using ew) ⟨rfl,fin⟩) hs
theorem IC:IxR X (JY X.K):=by
 intro value slice pins s σ H x y v u Q I rx ry h hs;obtain ⟨p,xs,i,z,rfl,rfl,hq,he,q⟩:=h;cases rx;obtain ⟨t,rfl⟩:=ry;obtain ⟨its,r,pl,hz⟩:=I.tuple hq;obtain ⟨j,h1,h2,h3,h4,h5⟩:=AR he;obtain ⟨w,ew,rw'⟩:=r.get h2;have hl:=r.length;have hn:=vE;have fin:EP X pins σ Q w s:=⟨z,H,I,rw',q⟩
 exact subscriptTail_builtinR (x:=w) pl.typeIs slot_tuple_getitem.lookup
  (getItem_tuple (j:=j) (Q:=fun r s'=>r=w/\EP X pins σ Q r s') pl (by omega) (by omega) (by rw [L0,<-hl];exact h1) (by simpa using ew) ⟨rfl,fin⟩) hs
theorem zK (its:List Value) (n j:Nat) (u:Value):Obj.mapSeq (·.setIfInBounds j u) { cls:=.type "list",data:=.seq its.toArray n }={ cls:=.type "list",data:=.seq (its.set j u).toArray n }:=by simp [Obj.mapSeq]
theorem Inv.lst {pins:List (Addr×Obj)} {σ:St} {H:Hp} {s:Shared} {p:Addr} {xs:List V} (I:Inv X pins σ H s) (h:H p=some (.lst xs)) :
  ∃ (its:List Value) (n:Nat),Vals xs its/\s.heap.get? p=some { cls:=.type "list",data:=.seq its.toArray n }/\xs.length<=sizeLine:=by
 obtain ⟨z,its,n,r,e⟩:=I.hok p _ h;exact ⟨its,n,r,e,z⟩
theorem Inv.lstUpd {pins:List (Addr×Obj)} {σ:St} {H:Hp} {s:Shared} {p:Addr} {xs ys:List V} {its its':List Value} {n n':Nat} {f:Obj->Obj} (I:Inv X pins σ H s) (h:H p=some (.lst xs))
  (ho:s.heap.get? p=some { cls:=.type "list",data:=.seq its.toArray n }) (hf:f { cls:=.type "list",data:=.seq its.toArray n }={ cls:=.type "list",data:=.seq its'.toArray n' }) (r:Vals ys its') (hz:ys.length<=sizeLine) (t:Nat) :
  Inv X pins σ (upd H p (.lst ys)) { s with heap:=s.heap.update p f,toks:=t }:=by
 have e:(s.heap.update p f).get? p=some { cls:=.type "list",data:=.seq its'.toArray n' }:=by rw [Heap.get?_update_self f ho (by rw [hf] <;> rfl),hf]
 refine I.write (x:=p) (e:=p) (by rw [h];trivial) (.inl rfl) (fun b u hb q=>(Mu _ _ (Ne.symm hb)).trans q) ⟨_,e⟩ ?_;exact ⟨hz,its',n',r,e⟩
def Jm:V->V->V->Hp->(Hp->Prop)->Prop:=fun o i v H Q=>∃ p xs k j,o=.ref p/\i=.int k/\H p=some (.lst xs)/\ixN xs.length k=some j/\Q (upd H p (.lst (xs.set j v)))
theorem set_list:JM X Jm:=by
 intro pins s σ H o i v ov iv u Q I ro ri rv h;obtain ⟨p,xs,k,j,rfl,rfl,hp,hj,q⟩:=h;cases ro;obtain ⟨t,rfl⟩:=ri;obtain ⟨its,n,r,ho,hz⟩:=I.lst hp;obtain ⟨h1,h2,h3,h4⟩:=vO hj;have hl:=r.length;have hn:=vE;have I':Inv X pins σ (upd H p (.lst (xs.set j v))) { s with heap:=s.heap.update p (Obj.mapSeq (·.setIfInBounds j u)) } :=
  I.lstUpd hp ho (zK its n j u) (r.set rv j) (by rw [List.length_set];exact hz) s.toks
 by_cases h0:0<=k
 ·have hk:k.toNat=j:=by rw [seqIndex_of h0 h4] at h1;exact Option.some.inj h1
  exact PySem.W.ki_setAt ho h0 (by omega) (by rw [L0,<-hl];exact h4) (by rw [hk];exact ⟨_,I',q⟩)
 ·have hk:(k+(its.toArray.size:Int)).toNat=j:=by rw [seqIndex_neg (by omega) h3] at h1;rw [L0,<-hl];exact Option.some.inj h1
  exact PySem.W.ki_setBack ho (by omega) (by rw [L0,<-hl];exact h3) (by omega) (by rw [hk];exact ⟨_,I',q⟩)
def kg:V->Bool
 | .non=>true
 | .bl _=>true
 | .int _=>true
 | .str _=>true
 | _=>false
def eqV:V->V->Bool
 | .non,.non=>true
 | .bl a,.bl b=>a==b
 | .bl a,.int b=>(if a then 1 else 0)==b
 | .int a,.bl b=>a==(if b then 1 else 0)
 | .int a,.int b=>a==b
 | .str a,.str b=>a==b
 | _,_=>false
theorem Ho {A:Around} {s:Shared} {y x:V} {u v:Value} (ry:RelV y u) (rx:RelV x v) (fy:kg y=true) (fx:kg x=true):SeqAt.EqAt A s u v (eqV y x):=by
 cases y with
 | non =>
  cases ry;cases x with
  | non=>cases rx;exact SeqAt.EqAt.same _
  | bl b=>cases rx;exact SeqAt.EqAt.none_bool b
  | int b=>obtain ⟨t,rfl⟩:=rx;exact SeqAt.EqAt.none_int b t
  | str b=>obtain ⟨t,rfl⟩:=rx;exact SeqAt.EqAt.none_str b t
  | _=>exact absurd (show false=true from fx) L9
 | bl a =>
  cases ry;cases x with
  | non=>cases rx;exact SeqAt.EqAt.bool_none a
  | bl b=>cases rx;exact SeqAt.EqAt.bool_bool a b
  | int b=>obtain ⟨t,rfl⟩:=rx;exact SeqAt.EqAt.bool_int a b t
  | str b=>obtain ⟨t,rfl⟩:=rx;exact SeqAt.EqAt.bool_str a b t
  | _=>exact absurd (show false=true from fx) L9
 | int a =>
  obtain ⟨t',rfl⟩:=ry;cases x with
  | non=>cases rx;exact SeqAt.EqAt.int_none a t'
  | bl b=>cases rx;exact SeqAt.EqAt.int_bool a t' b
  | int b=>obtain ⟨t,rfl⟩:=rx;exact SeqAt.EqAt.int_int a t' b t
  | str b=>obtain ⟨t,rfl⟩:=rx;exact SeqAt.EqAt.int_str a t' b t
  | _=>exact absurd (show false=true from fx) L9
 | str a =>
  obtain ⟨t',rfl⟩:=ry;cases x with
  | non=>cases rx;exact SeqAt.EqAt.str_none a t'
  | bl b=>cases rx;exact SeqAt.EqAt.str_bool a t' b
  | int b=>obtain ⟨t,rfl⟩:=rx;exact SeqAt.EqAt.str_int a t' b t
  | str b=>obtain ⟨t,rfl⟩:=rx;exact SeqAt.EqAt.str_str a t' b t
  | _=>exact absurd (show false=true from fx) L9
 | _=>exact absurd (show false=true from fy) L9
def eqU (x:V) (u:Value):Bool:=match u with
 | .none=>eqV .non x
 | .bool b=>eqV (.bl b) x
 | .int i _=>eqV (.int i) x
 | .str z _=>eqV (.str z) x
 | _=>false
theorem yO {x y:V} {u:Value} (r:RelV y u) (f:kg y=true):eqU x u=eqV y x:=by
 cases y with
 | non=>cases r;rfl
 | bl b=>cases r;rfl
 | int i=>obtain ⟨t,rfl⟩:=r;rfl
 | str z=>obtain ⟨t,rfl⟩:=r;rfl
 | _=>exact absurd (show false=true from f) L9
theorem vZ {x:V}:∀ {xs:List V} {us:List Value},Vals xs us->xs.all kg=true->us.any (eqU x)=xs.any fun y=>eqV y x
 | _,_,.nil,_=>rfl
 | y::xs,u::us,.cons r t,f=>by rw [LY,K9] at f;rw [M7,M7,yO r f.1,vZ t f.2]
theorem mX {A:Around} {s:Shared} {x:V} {v:Value} (rx:RelV x v) (fx:kg x=true):∀ {xs:List V} {us:List Value},Vals xs us->xs.all kg=true->∀ u∈us,SeqAt.EqAt A s u v (eqU x u)
 | _,_,.nil,_=>fun u hu=>by cases hu
 | y::xs,u::us,.cons r t,f=>fun u' hu=>by
  rw [LY,K9] at f;rcases K6.mp hu with rfl | hu
  ·rw [yO r f.1];exact Ho r rx f.1 fx
  ·exact mX rx fx t f.2 u' hu
def inV (x:V) (xs:List V):Bool:=xs.any fun y=>eqV y x
def rIn (K:PySem.W.Frag) (neg:Bool):R2:=fun x y H Q=>∃ p xs,y=.ref p/\(SqL K H p xs\/SqT K H p xs)/\kg x=true/\xs.all kg=true/\Q (.bl (if neg then !inV x xs else inV x xs)) H
theorem Br:OpR X (compareOp .In) (rIn X.K false):=by
 intro pins s σ H x y v u Q I rx ry h;obtain ⟨p,xs,rfl,hq,fx,fs,q⟩:=h;cases ry;rcases hq with hq | hq
 ·obtain ⟨its,r,pl,hz⟩:=I.list hq;refine SeqAt.in_listAt (eqU x) pl.isList (fun w hw=>mX rx fx r fs w (by simpa using hw)) ⟨.bl _,H,I,rfl,?_⟩;rw [show its.toArray.any (eqU x)=its.any (eqU x) by simp,vZ r fs];exact q
 ·obtain ⟨its,r,pl,hz⟩:=I.tuple hq;refine SeqAt.in_tupleAt (eqU x) pl (fun w hw=>mX rx fx r fs w (by simpa using hw)) ⟨.bl _,H,I,rfl,?_⟩;rw [show its.toArray.any (eqU x)=its.any (eqU x) by simp,vZ r fs];exact q
theorem j7:kr X (.builtin "len") (fun xs H Q=>∃ p ys,xs=[.ref p]/\(SqL X.K H p ys\/SqT X.K H p ys)/\Q (.int ys.length) H):=by
 intro pins s σ H xs us Q I r h;obtain ⟨p,ys,rfl,hq,q⟩:=h;obtain ⟨u,rfl,rx⟩:=vals1 r;cases rx;have hn:=vE;rcases hq with hq | hq
 ·obtain ⟨its,r',pl,hz⟩:=I.list hq;have hlen:=r'.length;exact Calls.call_len_list pl.isList (by simp only [L0] <;> omega) ⟨.int ys.length,H,I.tok _,⟨s.toks+1,by rw [L0,hlen]⟩,q⟩
 ·obtain ⟨its,r',pl,hz⟩:=I.tuple hq;have hlen:=r'.length;exact len_tuple pl (by simp only [L0] <;> omega) ⟨.int ys.length,H,I.tok _,⟨s.toks+1,by rw [L0,hlen]⟩,q⟩
theorem vP:kr X (.type "list") (fun xs H Q=>∃ p ys,xs=[.ref p]/\(SqL X.K H p ys\/SqT X.K H p ys)/\∀ l,H l=none->Q (.ref l) (upd H l (.lst ys))):=by
 intro pins s σ H xs us Q I r h;obtain ⟨p,ys,rfl,hq,q⟩:=h;obtain ⟨u,rfl,rx⟩:=vals1 r;cases rx;have fin:∀ (its:List Value),Vals ys its->ys.length<=sizeLine->∀ (h':Heap) (c':Nat),(∀ b o',s.heap.get? b=some o'->h'.get? b=some o') ->
   h'.get? s.heap.objs.size=some { cls:=.type "list",dict:=none,data:=.seq its.toArray c',slots:=#[] }->EP X pins σ Q (.ref s.heap.objs.size) { s with heap:=h' }:=fun its r' hz h' c' kp e =>
  ⟨.ref s.heap.objs.size,_,I.laid (t':=s.toks) kp (K8 _) (show dX X.prog X.w _ h' _ (.lst ys) from ⟨hz,its,c',r',e⟩),rfl,q _ (I.hok.fresh (K8 _))⟩
 rcases hq with hq | hq
 ·obtain ⟨its,r',pl,hz⟩:=I.list hq;have hlen:=r'.length;obtain ⟨o,ho,hc,n,hd⟩:=pl.isList;exact call_list_seq p (.inl rfl) ho hc hd (fun h' c' kp e=>fin its r' hz h' c' kp e) (by simp only [L0] <;> omega)
 ·obtain ⟨its,r',pl,hz⟩:=I.tuple hq;have hlen:=r'.length;obtain ⟨o,ho,hc,n,hd⟩:=pl;exact call_list_seq p (.inr rfl) ho hc hd (fun h' c' kp e=>fin its r' hz h' c' kp e) (by simp only [L0] <;> omega)
theorem tJ:kr X (.type "tuple") (fun xs H Q=>∃ p ys,xs=[.ref p]/\((SqL X.K H p ys/\∀ l,H l=none->Q (.ref l) (upd H l (.tup ys)))\/(SqT X.K H p ys/\Q (.ref p) H))):=by
 intro pins s σ H xs us Q I r h;obtain ⟨p,ys,rfl,h⟩:=h;obtain ⟨u,rfl,rx⟩:=vals1 r;cases rx;rcases h with ⟨hq,q⟩ | ⟨hq,q⟩
 ·obtain ⟨its,r',pl,hz⟩:=I.list hq;have hlen:=r'.length;refine call_tuple_list pl.isList (fun h' kp=>?_) (by simp only [L0] <;> omega);have I1:Inv X pins σ H { s with heap:=h' }:=I.kept (t':=s.toks) kp;have I2:Inv X pins σ (upd H h'.objs.size (.tup ys)) { s with heap:=h'.push { cls:=.type "tuple",data:=.seq its.toArray } } :=
   I1.laid (t':=s.toks) (fun b o e=>K2 _ e) (K8 _) (show dX X.prog X.w _ _ _ (.tup ys) from ⟨hz,its,r',xF.new _ _⟩)
  exact ⟨.ref h'.objs.size,_,I2,rfl,q _ (I1.hok.fresh (K8 _))⟩
 ·obtain ⟨its,r',pl,hz⟩:=I.tuple hq;exact call_tuple_same pl ⟨.ref p,H,I,rfl,q⟩
def tyV (K:PySem.W.Frag) (T:String) (x:V) (H:Hp):Prop:=match x with
 | .str _=>T="str"
 | .int _=>T="int"
 | .ref p=>(T="list"/\∃ xs,SqL K H p xs)\/(T="tuple"/\∃ o,K.lookup p=some o/\o.cls=.type "tuple"/\o.dict=none) \/
  (T="dict"/\((∃ kvs,H p=some (.dK kvs))\/∃ kvs,H p=some (.dT kvs)))\/(T="set"/\∃ S n,H p=some (.set S n))
 | _=>False
theorem G7 {pins:List (Addr×Obj)} {σ:St} {H:Hp} {s:Shared} {T:String} {x:V} {v:Value} (I:Inv X pins σ H s) (r:RelV x v) (ty:tyV X.K T x H) :
  s.TypeIs v T/\∀ a,v=.ref a->∃ ob,s.heap.get? a=some ob/\ob.dict=none:=by
 cases x with
 | str z =>obtain ⟨t,rfl⟩:=r;cases (show T="str" from ty);exact ⟨typeIs_str s z t,fun _ e=>nomatch e⟩
 | int i =>obtain ⟨t,rfl⟩:=r;cases (show T="int" from ty);exact ⟨typeIs_int s i t,fun _ e=>nomatch e⟩
 | ref p =>
  cases r;rcases ty with ⟨rfl,xs,hq⟩ | ⟨rfl,o,hk,hc,hd⟩ | ⟨rfl,hk⟩ | ⟨rfl,S,n,hk⟩
  ·obtain ⟨its,_,pl,_⟩:=I.list hq;refine ⟨pl.isList.typeIs,fun a e=>?_⟩;cases e;obtain ⟨o,n,e,c,hd,_⟩:=pl;exact ⟨o,e,hd⟩
  ·refine ⟨⟨o,I.kIn p o hk,hc⟩,fun a e=>?_⟩;cases e;exact ⟨o,I.kIn _ o hk,hd⟩
  ·have z:∃ o,s.heap.get? p=some o/\o.ExactDict:=by
    rcases hk with ⟨kvs,hk⟩ | ⟨kvs,hk⟩
    ·obtain ⟨_,_,_,_,o,_,_,e,ex,_⟩:=I.hok p _ hk;exact ⟨o,e,ex⟩
    ·obtain ⟨_,_,_,_,o,_,_,e,ex,_⟩:=I.hok p _ hk;exact ⟨o,e,ex⟩
   obtain ⟨o,e,ex⟩:=z;refine ⟨⟨o,e,ex.1⟩,fun a e2=>?_⟩;cases e2;exact ⟨o,e,ex.2.1⟩
  ·obtain ⟨o,_,_,_,e,ex,_⟩:=I.hok p _ hk;refine ⟨⟨o,e,ex.1⟩,fun a e2=>?_⟩;cases e2;exact ⟨o,e,ex.2.1⟩
 | _=>exact False.elim ty
def tBM (K:PySem.W.Frag) (T:String) (r:V->List V->Hp->VK->Prop) (to:TE) (t:TA):TE:=fun σ H Q=>to σ H fun x H1=>tyV K T x H1/\t σ H1 fun xs H2=>r x xs H2 Q
variable {o e:Expr} {es:List Expr} {to:TE} {t:TA} {name:Str} {apos cpos:Pos} {T id:String} {r:V->List V->Hp->VK->Prop}
theorem DN (pa:PlainAttrs T) (slot:Slot T name id) (hty:typeOf (.builtin id)=pure (.type "method_descriptor")) (hm:MtR X id r) (ho:PE X o to) (ha:PA X (e::es) t)
  (hbase:attributeBase o name X.env (eval o X.env)=eval o X.env:=by rfl)
  (hfew:((backTo cpos (starEach (e::es) X.env)).all (fun x=>!x.1)&&(backToKw cpos (keywordEach [] X.env)).all (fun x=>x.1.isSome)
  &&decide ((e::es).length+([]:List Keyword).length+(if ([]:List Keyword).isEmpty then 0 else 1)<30))=true:=by rfl)
  (hline:(apos.endLine==cpos.line)=true:=by rfl) (hs:starEach (e::es) X.env=(false,eval e X.env)::starEach es X.env:=by rfl) (hplain:(backTo cpos (starEach es X.env)).any (·.1)=false:=by rfl) :
  PE X (.Call (.Attribute o name apos) (e::es) [] cpos) (tBM X.K T r to t):=by
 intro pins s σ H Q I h;refine wpAny_Call_method_late hbase hfew hline rfl (thn (ho pins s σ H _ I h) fun v s1 rz2=>?_);obtain ⟨x,H1,I1,r1,ty,q1⟩:=rz2;obtain ⟨h1,h2⟩:=G7 I1 r1 ty;refine ⟨T,id,pa,slot,hty,h1,h2,?_⟩;have hA:=ha cpos pins s1 σ H1 _ I1 q1;rw [hs] at hA ⊢;refine Calls.callWith_builtin (by show (false || (backTo cpos (starEach es X.env)).any (·.1))=false;rw [hplain] <;> rfl) (Calls.evalArgs_plain ?_);exact thn hA fun us s2 qz2=>(by obtain ⟨vs,H2,I2,r2,q2⟩:=qz2;exact hm pins s2 σ H2 x vs v us Q I2 r1 r2 q2)
end
def MtM (X:Cx) (id:String) (r:V->List V->Hp->VK->Prop):Prop :=
 ∀ (pins:List (Addr×Obj)) (s:Shared) (σ:St) (H:Hp) (x:V) (xs:List V) (v:Value) (us:List Value) (Q:VK),Inv X pins σ H s->RelV x v->Vals xs us->r x xs H Q ->
  wpAny (model X.prog X.w) X.A (call (.builtin id) (v::us)) (EP X pins σ Q) X.xe s
theorem Vals.one {x:V} {us:List Value} (h:Vals [x] us):∃ u,us=[u]/\RelV x u:=by
 cases h with
 | cons r t=>cases t;exact ⟨_,rfl,r⟩
theorem Vals.zero:∀ {us:List Value},Vals [] us->us=[]
 | _,.nil=>rfl
theorem Vals.eraseIdx:∀ {xs:List V} {us:List Value} (i:Nat),Vals xs us->Vals (xs.eraseIdx i) (us.eraseIdx i)
 | _,_,_,.nil=>.nil
 | _,_,0,.cons _ t=>t
 | _,_,i+1,.cons r t=>.cons r (Vals.eraseIdx i t)
theorem Vals.rep {xs:List V} {us:List Value} (h:Vals xs us):∀ k:Nat,Vals (List.replicate k xs).flatten (List.replicate k us).flatten
 | 0=>.nil
 | k+1=>by rw [LI,LI,LZ,LZ];exact Vals.append h (Vals.rep h k)
theorem uS {α:Type}:∀ (l:List α) (i:Nat),(l.eraseIdx i).length<=l.length
 | [],_=>K8 _
 | _::_,0=>Ml _
 | _::r,i+1=>Nat.succ_le_succ (uS r i)
theorem foldl_rep (its:List Value):∀ (k:Nat) (acc:List Value),
  List.foldl (fun x1 x2=>x1++x2) acc.toArray (List.replicate k its.toArray)=(acc++(List.replicate k its).flatten).toArray
 | 0,acc=>by simp
 | k+1,acc=>by
  have e:acc.toArray++its.toArray=(acc++its).toArray:=by simp
  have e2:(acc++its)++(List.replicate k its).flatten=acc++(List.replicate (k+1) its).flatten:=by rw [LI,LZ,Mf]
  rw [<-e2,<-foldl_rep its k (acc++its),<-e,LI,List.foldl_cons]
section
variable {X:Cx} {pins:List (Addr×Obj)} {σ:St} {H:Hp} {s:Shared} {l b:Addr} {xs ys zs:List V}
theorem Inv.lset {its its':List Value} {n:Nat} {f:Array Value->Array Value} {t':Nat} (I:Inv X pins σ H s) (hH:H l=some (.lst xs))
  (e:s.heap.get? l=some { cls:=.type "list",data:=.seq its.toArray n }) (hf:f its.toArray=its'.toArray) (hv:Vals ys its') (hz:ys.length<=sizeLine) :
  Inv X pins σ (upd H l (.lst ys)) { s with heap:=s.heap.update l (Obj.mapSeq f),toks:=t' }:=by
 have q:=PySem.IsL.update e f;rw [hf] at q;refine I.write (x:=l) (e:=l) (by rw [hH];exact trivial) (.inl rfl) (fun b' u hb hu=>(Mu s.heap (Obj.mapSeq f) (Ne.symm hb)).trans hu) ⟨_,q⟩ ?_;exact ⟨hz,its',_,hv,q⟩
theorem Inv.lnew {its:List Value} {t':Nat} (I:Inv X pins σ H s) (hv:Vals ys its) (hz:ys.length<=sizeLine) :
  Inv X pins σ (upd H s.heap.objs.size (.lst ys)) { s with heap:=s.heap.push { cls:=.type "list",data:=.seq its.toArray },toks:=t' } :=
 I.laid (fun _ _ q=>K2 _ q) (K8 _) ⟨hz,its,0,hv,KZ _ rfl⟩
theorem Inv.fresh (I:Inv X pins σ H s):H s.heap.objs.size=none:=I.hok.fresh (K8 _)
theorem Inv.lstM (I:Inv X pins σ H s) (hH:H l=some (.lst xs)):xs.length<=sizeLine/\∃ (its:List Value) (n:Nat),Vals xs its/\xs.length=its.length/\s.heap.get? l=some { cls:=.type "list",data:=.seq its.toArray n }:=by obtain ⟨z,its,n,r,e⟩:=I.hok l _ hH;exact ⟨z,its,n,r,r.length,e⟩
theorem DX {n:Nat} (h:n<=sizeLine):Builtin.List.listTooLong n=false:=by unfold Builtin.List.listTooLong;exact decide_eq_false (by omega)
end
section
variable {X:Cx}
def F9:V->List V->Hp->VK->Prop:=fun x vs H Q=>∃ l xs y,x=.ref l/\vs=[y]/\H l=some (.lst xs)/\xs.length<sizeLine/\Q .non (upd H l (.lst (xs++[y])))
theorem nU:MtM X "list.append" F9:=by intro pins s σ H x vs v us Q I rx rv h;obtain ⟨l,xs,y,rfl,rfl,hH,hz,q⟩:=h;cases rx;obtain ⟨u,rfl,ru⟩:=rv.one;obtain ⟨z,its,n,r,hl,e⟩:=I.lstM hH;refine call_meets F.slot_list_append ⟨_,e,rfl⟩ F.entry_list_append (F.args_list_append_2 _ _) (PySem.list_append l its.toArray n u (by rw [L0];omega)) ⟨e,?_⟩;refine ⟨.non,_,I.lset (its':=its++[u]) hH e (by simp) (r.append (.cons ru .nil)) ?_,rfl,q⟩;rw [KU,Lc];omega
def HH:V->List V->Hp->VK->Prop:=fun x vs H Q=>∃ l xs i k y,x=.ref l/\vs=[.int i]/\H l=some (.lst xs)/\-(2 ^ 63)<=i/\i<2 ^ 63/\seqIndex? i xs.length=some k/\xs[k]?=some y/\Q y (upd H l (.lst (xs.eraseIdx k)))
theorem EA:MtM X "list.pop" HH:=by
 intro pins s σ H x vs v us Q I rx rv h;obtain ⟨l,xs,i,k,y,rfl,rfl,hH,h1,h2,hk,hy,q⟩:=h;cases rx;obtain ⟨u,rfl,ru⟩:=rv.one;obtain ⟨t,rfl⟩:=ru;obtain ⟨z,its,n,r,hl,e⟩:=I.lstM hH;obtain ⟨w,hw,rw'⟩:=r.get hy;refine call_meets F.slot_list_pop ⟨_,e,rfl⟩ F.entry_list_pop (F.args_list_pop_2 _ _)
  (MeetsSeq.list_pop_at l its.toArray n i t k w (fitsIndex_both h1 h2) (by rw [L0,<-hl];exact hk) (by rw [<-Mx];exact hw) (by rw [L0];omega)) ⟨e,?_⟩
 refine ⟨y,_,I.lset (its':=its.eraseIdx k) hH e ?_ (r.eraseIdx k) ?_,rw',q⟩
 ·show its.toArray.eraseIdxIfInBounds k=(its.eraseIdx k).toArray;rw [List.eraseIdxIfInBounds_toArray]
 ·have:=uS xs k;omega
def Ju:R2:=fun x y H Q=>∃ l b xs zs,x=.ref l/\y=.ref b/\H l=some (.lst xs)/\H b=some (.lst zs)/\xs.length+zs.length<=sizeLine/\∀ p,H p=none->Q (.ref p) (upd H p (.lst (xs++zs)))
theorem II:OpR X (binaryOp .Add) Ju:=by
 intro pins s σ H x y v u Q I rx ry h;obtain ⟨l,b,xs,zs,rfl,rfl,hH,hB,hz,q⟩:=h;cases rx;cases ry;obtain ⟨z,its,n,r,hl,e⟩:=I.lstM hH;obtain ⟨z2,its2,n2,r2,hl2,e2⟩:=I.lstM hB;refine PySem.P.add_list e e2 ?_ (by rw [L0,L0];omega);have ea:its.toArray++its2.toArray=(its++its2).toArray:=by simp
 rw [ea];exact ⟨.ref _,_,I.lnew (t':=s.toks) (r.append r2) (by rw [KU];omega),rfl,q _ I.fresh⟩
def Jx:R2:=fun x y H Q=>∃ l k xs,x=.ref l/\y=.int k/\H l=some (.lst xs)/\-(2 ^ 63)<=k/\k<2 ^ 63/\xs.length*k.toNat<=sizeLine /\
 ∀ p,H p=none->Q (.ref p) (upd H p (.lst (List.replicate k.toNat xs).flatten))
theorem len_rep {α:Type} (xs:List α) (k:Nat):(List.replicate k xs).flatten.length=k*xs.length:=by
 induction k with
 | zero=>simp
 | succ k ih=>rw [LI,LZ,KU,ih,Nat.succ_mul,Nat.add_comm]
theorem HS:OpR X (binaryOp .Mult) Jx:=by
 intro pins s σ H x y v u Q I rx ry h;obtain ⟨l,k,xs,rfl,rfl,hH,h1,h2,hz,q⟩:=h;cases rx;obtain ⟨t,rfl⟩:=ry;obtain ⟨z,its,n,r,hl,e⟩:=I.lstM hH;have hlen:its.toArray.size*k.toNat<=sizeLine:=by rw [L0,<-hl];exact hz
 have hcap:¬ its.toArray.size*k.toNat>(2 ^ 63-1) / 8:=by
  have:(sizeLine:Nat)<=(2 ^ 63-1) / 8:=by decide
  omega
 have hfit:¬ (!Builtin.List.listFitsIndex k)=true:=by rw [fitsIndex_both h1 h2];exact L9
 have hlong:¬ Builtin.List.listTooLong (its.toArray.size*k.toNat)=true:=by rw [DX hlen];exact L9
 have hnew:List.foldl (fun x1 x2=>x1++x2) #[] (List.replicate (if its.toArray.isEmpty=true then 0 else k.toNat) its.toArray)=(List.replicate k.toNat its).flatten.toArray:=by
  have f0:∀ m:Nat,List.foldl (fun x1 x2=>x1++x2) #[] (List.replicate m its.toArray)=(List.replicate m its).flatten.toArray:=fun m=>by have:=foldl_rep its m [];rw [Ln] at this;exact this
  rw [f0];cases its with
  | nil=>simp
  | cons a r'=>rw [if_neg (by simp)]
 refine wpAny_binaryOp_repeat_ref (T:="list") (U:="int") (by decide) ⟨_,e,rfl⟩ (fun s'=>typeIs_int s' k t) noFill_list_mul F.fills_int_mul F.slot_int_rmul repeat_list F.slot_int_index.lookup
  (call_meets F.slot_int_rmul (typeIs_int s k t) F.entry_int_rmul (F.args_int_rmul_2 _ _) (int___rmul___int_list k t l its.toArray n)
   ⟨e,rfl,⟨_,e,rfl⟩,call_meets F.slot_list_mul ⟨_,e,rfl⟩ F.entry_list_mul (F.args_list_mul_2 _ _) (AutoListH.list___mul___list_int_3 l its.toArray n k t hfit hcap hlong) ⟨e,?_⟩⟩)
 rw [hnew];exact ⟨.ref _,_,I.lnew (t':=s.toks) (r.rep k.toNat) (by rw [len_rep,Nat.mul_comm];exact hz),rfl,q _ I.fresh⟩
end
section
variable {prog:Program} {w:World} {A:Around} {E:Value->Shared->Prop} {s:Shared}
end
section
variable {X:Cx}
end
end L2
namespace Att
open PySem PySem.W PySem.Calls PyProof.Rows
theorem qf {P:Params} {h:Heap}:∀ (ns:List Int) (vs:List Value),WellAll P h vs (ns.map WData.int)->IntsAre vs ns:=by
 intro ns
 induction ns with
 | nil =>intro vs w;rw [LS] at w;cases w;exact .nil
 | cons n ns ih =>
  intro vs w;rw [K1] at w;cases w with
  | cons a b =>cases a;exact .cons _ _ (ih _ b)
theorem BY {l:OpenLaw} {n:Nat} (hn:l.most=some n) {P:Params} {h:Heap} {args:List WData} {vals:List Value}
  (hpre:l.row.toRowW.claim.pre args=true) (hwl:WellAll P h vals args) :
  ∃ a vs ns,vals=[Value.ref a]/\args=[WData.list (ns.map WData.int)]/\h.get? a=some { cls:=.type "list",data:=.seq vs.toArray }/\IntsAre vs ns/\ns.length<=n:=by
 have hsh:WShape.hasAll [] args [.list .int]=true:=(pre_splitW hpre).1;have hc:l.pre.holds [] { args:=args }=true:=(pre_splitW hpre).2;obtain ⟨d,r,rfl,h1,h2⟩:=hasAllW_cons hsh;obtain rfl:=hasAllW_nil h2;obtain ⟨xs,rfl,h3⟩:=hasW_list h1;obtain ⟨ns,rfl⟩:=items_int h3;have hlen:ns.length<=n:=by
  unfold OpenLaw.pre at hc;have h4:(WTm.not (.lt (.lit (.int (n:Int))) (.len (.arg 0)))).holds [] { args:=[.list (ns.map .int)] }=true:=by have h4:=(holds_andW hc).1;rw [hn] at h4;exact h4
  have h5:=condW_of h4 (w_not (w_lt w_lit (w_len_list (w_arg rfl))));rw [K5] at h5;refine Nat.le_of_not_lt fun q=>?_
  have q':(n:Int)<((ns.length:Nat):Int):=by omega
  first
   | (rw [decide_eq_true q'] at h5;exact absurd h5 (by decide))
   | (simp at h5;omega)
 cases hwl with
 | cons w1 w2 =>
  cases w2;cases w1 with
  | list ho hall=>exact ⟨_,_,ns,rfl,rfl,ho,qf ns _ hall,hlen⟩
theorem B3 (l:OpenLaw) (args:List WData):l.row.toRowW.claim.post args (.bool true) args=true :=
 postW_of (r:=l.row.toRowW) (X:=(true==true))
  (show WShape.has [] (.bool true) .bool=true by first | rfl | decide | simp [WShape.has,WShape.arms,WShape.armsAll])
  (show (WTm.eq .res (.lit (.bool true))).value [] { args:=args,res:=some (.bool true),after:=args }=some (.bool (true==true)) from w_eq_bool (w_res rfl) w_lit) rfl
theorem yl {l:OpenLaw} {n:Nat} {q:Program} {loose:List Str} {XP:(Str->Option Value)->Heap->Prop} {YP:World->Heap->Prop} {d:DefRec}
  (hn:l.most=some n) (hdf:d.params.defaults=[])
  (call:∀ (w:World) (s₀ s₁:Shared) (mg mb:Str->Option Value) (fa:Addr) (o:Obj) (pm cd doc:Value) (a:Addr) (vs:List Value) (ns:List Int),
   Ground q loose [] XP w s₀ mg mb s₁.heap->YP w s₁.heap ->
   s₁.heap.get? fa=some o->o.data=.func (docDef d.name d.params d.body d.scope pm cd doc)->s₁.heap.CodeRec cd d.name->mg d.name=some (.ref fa) ->
   s₁.heap.get? a=some { cls:=.type "list",data:=.seq vs.toArray }->IntsAre vs ns->ns.length<=n->s₁.gens=#[] ->
   codeAny (model l.prog w) callerA (.call (.ref fa) ⟨[.ref a],[]⟩) (fun r s'=>r=.ok (.ret (.bool true))/\OldK s₁.heap s'.heap/\s'.os=s₁.os/\AllBare s'.gens) s₁) :
  WalkO q loose XP YP l.row.toRowW d [] (fun f vs=>PySem.call f vs):=by
 intro w s₀ s₁ mg mb G Y fa o pm cd doc dV kV ho hd hcd hD hmg hg args vals as hpre hlay hrd hwl hlo;obtain rfl:dV=.none:=Dflts.none hD hdf;obtain rfl:kV=.none:=Dflts.noKw hD;obtain ⟨a,vs,ns,rfl,rfl,hobj,hints,hlen⟩:=BY hn hpre hwl;refine enter_call (codeAny_mono (call w s₀ s₁ mg mb fa o pm cd doc a vs ns G Y ho (fd_plain hd) hcd hmg hobj hints hlen hg) fun r s' hq=>?_);obtain ⟨rfl,h2,h3,h4⟩:=hq;exact ⟨.inl ⟨.bool true,.bool true,[],rfl,fun _=>rfl,.bool true,B3 l _,fun _=>⟨List.Pairwise.nil,fun _ hm=>(nomatch hm)⟩⟩,h2,h3,h4⟩
section
variable {prog:Program} {w:World} {A:Around} {E:Value->Shared->Prop} {s:Shared} {K:Frag}
end
end Att
namespace L2
open PySem PySem.Spec PyProof.Rows
theorem u5:∀ {vs:List Value} {ns:List Int},IntsAre vs ns->Vals (ns.map V.int) vs
 | _,_,.nil=>.nil
 | _,_,.cons n t h=>.cons ⟨t,rfl⟩ (u5 h)
def GY (H:Hp):Prop:=∀ b,H b=none\/(∃ o xs,H b=some (.frz o (.lst xs)))\/∃ q,H b=some (.tbl q)
def pA (K:PySem.W.Frag) (h:Heap):Prop:=(∀ P q,TabOf K P q->h.get? P=some { cls:=.none,data:=.fields #[] }/\K.lookup P=none/\isCodeTable h P)/\∀ P q q',TabOf K P q->TabOf K P q'->q=q'
section
open Classical
def lU (K:PySem.W.Frag):Hp:=fun b=>if h:∃ q,TabOf K b q then some (.tbl h.choose) else none
theorem dW (K:PySem.W.Frag) (b:Addr):lU K b=none\/∃ q,TabOf K b q/\lU K b=some (.tbl q):=by
 unfold lU;split
 ·rename_i h;exact .inr ⟨_,h.choose_spec,rfl⟩
 ·exact .inl rfl
theorem uY {K:PySem.W.Frag} {h:Heap} (hT:pA K h) {P:Addr} {q:Str} (t:TabOf K P q):lU K P=some (.tbl q):=by
 rcases dW K P with e | ⟨q',t',e⟩
 ·unfold lU at e;rw [dif_pos ⟨q,t⟩] at e;cases e
 ·rw [e,hT.2 P q q' t t']
end
def pT (mg:Str->Option Value) (base:Heap):Prop:=∃ bm o,mg "__builtins__"=some (.ref bm)/\bm≠builtinsNs/\bm≠mainGlobals/\base.get? bm=some o/\o.cls=.type "module"/\o.dict=some builtinsNs/\o.data=.plain
theorem law_call {P:Program} {w:World} {K:PySem.W.Frag} {mg mb:Str->Option Value} {CX:CXT} {k:Nat} {fa a:Addr} {fd:FuncData} {x:Str} {sp:Sp} {s₁:Shared} {vs:List Value} {ns:List Int}
  (KX:K.In s₁.heap) (hns:s₁.heap.Ns mainGlobals mg) (hb:s₁.heap.Ns builtinsNs mb) (hbb:∀ x:Str,x≠"__name__"->mb x=bootBuiltins x) (hlim:s₁.heap.NoLimit) (hg:s₁.gens=#[])
  (ha:s₁.heap.get? a=some { cls:=.type "list",data:=.seq vs.toArray }) (hi:IntsAre vs ns) (hl:ns.length<=sizeLine) (hr:cR k callerA)
  (hBl:pT mg s₁.heap) (F:∀ base:Heap,K.In base->base.Ns mainGlobals mg->pT mg base->iC P w K mg base CX k fa fd [x] sp) (hbind:∀ (s:Shared) (u:Value),BindsTo s fd ⟨[u],[]⟩ [(x,u)])
  (hsp:∀ H:Hp,GY H->SqL K H a (ns.map V.int)->sp [.ref a] H (fun v _=>v=.bl true) fun _ _ _=>False)
  (hCX:∀ H e s',CX [] H s₁ (fun _ _ _=>False) e s'->False) (hT:pA K s₁.heap) :
  codeAny (model P w) callerA (.call (.ref fa) ⟨[.ref a],[]⟩) (fun r s'=>r=.ok (.ret (.bool true))/\OldK s₁.heap s'.heap/\s'.os=s₁.os/\AllBare s'.gens) s₁:=by
 have rv:=u5 hi;have lenV:=hi.length
 -- from an abstract heap in which nothing but the script may be tracked
 have core:∀ H:Hp,GY H->SqL K H a (ns.map V.int)->HOk P w H s₁.heap->(∀ b,H b≠none->b=a\/∃ q,TabOf K b q)->(H a≠none->K.lookup a=none)->(∀ P q,TabOf K P q->H P=some (.tbl q)) ->
   codeAny (model P w) callerA (.call (.ref fa) ⟨[.ref a],[]⟩) (fun r s'=>r=.ok (.ret (.bool true))/\OldK s₁.heap s'.heap/\s'.os=s₁.os/\AllBare s'.gens) s₁:=by
  intro H hO hS hok hA hK hTb;have base_of:∀ {b:Addr} {o:Obj},s₁.heap.get? b=some o->H b=none->(tM s₁.heap H).get? b=some o:=fun e n=>Cy e n
  have noA:∀ {b:Addr} {o:Obj} {es:Array DictEntry} {ep:Nat},s₁.heap.get? b=some o->o.data=.dict es ep->H b=none:=fun {b o es ep} e d=>by
   cases q:H b with
   | none=>rfl
   | some u =>
    rcases hA b (by rw [q];simp) with e' | ⟨qq,e'⟩
    case inr=>rw [(hT.1 b qq e').1] at e;cases e;cases d
    subst e';rw [ha] at e;cases e;have d':Data.seq vs.toArray _=Data.dict es ep:=d;cases d'
  have nsK:∀ {b:Addr} {m:Str->Option Value},s₁.heap.Ns b m->(tM s₁.heap H).Ns b m:=fun {b m} qz2=>(by obtain ⟨o,es,ep,e,d,r⟩:=qz2;exact ⟨o,es,ep,base_of e (noA e d),d,r⟩)
  have hKb:K.In (tM s₁.heap H):=fun b o e=>base_of (KX b o e) (by
   cases q:H b with
   | none=>rfl
   | some u =>
    rcases hA b (by rw [q];simp) with e' | ⟨qq,e'⟩
    case inr=>rw [(hT.1 b qq e').2.1] at e;cases e
    subst e';rw [hK (by rw [q];simp)] at e;cases e)
  have hM:Mod K mg (tM s₁.heap H):=⟨hKb,nsK hns,⟨mb,nsK hb,hbb⟩,let ⟨mc,h1,h2⟩:=hlim;⟨mc,nsK h1,h2⟩⟩
  have e0:vB P w K mg (tM s₁.heap H) callerA [] s₁ H:=⟨rfl,hM,fun b o e=>Fh e,Nat.le_of_eq (BR _ _),trivial,fun b hb=>absurd (show b∈([]:List Addr) from hb) (by simp),hok,.of_eq hg,hTb⟩
  have hBb:pT mg (tM s₁.heap H):=by
   obtain ⟨bm,ob,b1,b2,b3,b4,b5,b6,b7⟩:=hBl;refine ⟨bm,ob,b1,b2,b3,base_of b4 ?_,b5,b6,b7⟩;cases q:H bm with
   | none=>rfl
   | some u =>
    rcases hA bm (by rw [q];simp) with e' | ⟨qq,e'⟩
    case inr=>rw [(hT.1 bm qq e').1] at b4;cases b4;cases b5
    subst e';rw [ha] at b4;cases b4;simp at b5
  refine codeAny_mono ((F _ hKb (nsK hns) hBb).run callerA [] s₁ H ⟨[.ref a],[]⟩ [.ref a] [.ref a] _ _ hr e0 (hbind s₁ (.ref a)) (.cons rfl .nil) (hsp H hO hS)) fun r s' h=>?_
  cases r with
  | error e=>exact (hCX H e s' h).elim
  | ok fl =>
   cases fl with
   | next=>exact False.elim h
   | brk=>exact False.elim h
   | cont=>exact False.elim h
   | ret u =>
    obtain ⟨v,H',os,bare,un,hok',r',q⟩:=h;have q':v=.bl true:=q;subst q';obtain rfl:u=Value.bool true:=r';have old:∀ b o,s₁.heap.get? b=some o->s'.heap.get? b=some o\/(isCodeTable s₁.heap b/\o.cls=.none/\∃ vs more,o.data=.fields vs/\s'.heap.get? b=some { o with data:=.fields (vs++more) }):=fun b o e=>?old
    case old =>
     cases q:H b with
     | none=>exact .inl <| un.keep b o e q (by intro z;exact absurd (show b∈([]:List Addr) from z) (by simp)) (by simp)
     | some u =>
      rcases hO b with z | ⟨ob,xs,z⟩ | ⟨qq,z⟩
      ·rw [q] at z;cases z
      ·have z2:=un.frzs b ob _ z;obtain ⟨e1,_⟩:=hok b _ z;obtain ⟨e2,_⟩:=hok' b _ z2;rw [e] at e1;cases e1;exact .inl e2
      ·have z2:=un.tbls b qq z;obtain ⟨ps,e2,_⟩:=hok' b _ z2;rcases hA b (by rw [z];simp) with e' | ⟨q2,e'⟩
       ·obtain ⟨ps0,e3,_⟩:=hok b _ z;rw [e'] at e3;rw [ha] at e3;cases e3
       ·obtain ⟨e3,_,e4⟩:=hT.1 b q2 e';rw [e] at e3;cases e3;exact .inr ⟨e4,rfl,#[],ps,rfl,by simpa using e2⟩
    exact ⟨rfl,⟨fun b o e=>(old b o e).imp id fun z=>.inl z,fun b o e=>by rcases old b o e with z | ⟨_,_,_,_,_,z⟩ <;> exact ⟨_,z⟩⟩,os,bare⟩
 have tok:∀ b q,TabOf K b q->dX P w (fun _=>none) s₁.heap b (.tbl q):=fun b q t=>⟨#[],(hT.1 b q t).1,trivial,fun pos cv z=>nomatch z⟩
 have tokH:∀ (H:Hp) b q,TabOf K b q->dX P w H s₁.heap b (.tbl q):=fun H b q t=>⟨#[],(hT.1 b q t).1,trivial,fun pos cv z=>nomatch z⟩
 have na:∀ q,¬ TabOf K a q:=fun q t=>by have:=(hT.1 a q t).1;rw [ha] at this;cases this
 cases hk:K.lookup a with
 | some o =>
  have e:=KX a o hk;rw [ha] at e;cases e;refine core (lU K) (fun b=>(dW K b).imp id fun qz0=>(by obtain ⟨q,_,e⟩:=qz0;exact .inr ⟨q,e⟩)) (.inr ⟨_,vs.toArray,_,hk,rfl,rfl,rfl,by rw [L0,lenV];exact hl,by simpa using rv⟩) (fun b u z=>?_) (fun b z=>?_) (fun z=>?_) fun P q t=>uY hT t
  ·rcases dW K b with e | ⟨q,t,e⟩
   ·rw [z] at e;cases e
   ·rw [z] at e;cases e;exact tokH _ b q t
  ·rcases dW K b with e | ⟨q,t,e⟩
   ·exact absurd e z
   ·exact .inr ⟨q,t⟩
  ·rcases dW K a with e | ⟨q,t,e⟩
   ·exact absurd e z
   ·exact absurd t (na q)
 | none =>
  have eT:∀ b,b≠a->(fun b=>if b=a then some (HO.frz { cls:=.type "list",data:=.seq vs.toArray } (.lst (ns.map V.int))) else lU K b) b=lU K b:=fun b h=>if_neg h
  have eA:(fun b=>if b=a then some (HO.frz { cls:=.type "list",data:=.seq vs.toArray } (.lst (ns.map V.int))) else lU K b) a=some (HO.frz { cls:=.type "list",data:=.seq vs.toArray } (.lst (ns.map V.int))):=if_pos rfl;refine core (fun b=>if b=a then some (.frz { cls:=.type "list",data:=.seq vs.toArray } (.lst (ns.map V.int))) else lU K b) (fun b=>?_) (.inl (.inr ⟨{ cls:=.type "list",data:=.seq vs.toArray },if_pos rfl⟩)) (fun b u z=>?_) (fun b z=>?_) (fun _=>hk) fun P q t=>?_
  ·by_cases hb:b=a
   ·exact .inr (.inl ⟨_,_,if_pos hb⟩)
   ·rw [eT b hb];exact (dW K b).imp id fun qz0=>(by obtain ⟨q,_,e⟩:=qz0;exact .inr ⟨q,e⟩)
  ·by_cases hb:b=a
   ·subst hb;rw [eA] at z;cases z;exact ⟨ha,by rw [K5];exact hl,vs,_,rv,ha⟩
   ·rw [eT b hb] at z;rcases dW K b with e | ⟨q,t,e⟩
    · rw [z] at e;cases e
    · rw [z] at e;cases e;exact tokH _ b q t
  ·by_cases hb:b=a
   ·exact .inl hb
   ·rcases dW K b with e | ⟨q,t,e⟩
    · exact absurd ((if_neg hb).trans e) z
    · exact .inr ⟨q,t⟩
  ·exact (if_neg (fun z=>na q (by rw [<-z];exact t))).trans (uY hT t)
abbrev KOf {K:PySem.W.Frag} {h:Heap} (_:K.In h):PySem.W.Frag:=K
theorem AU {l:PySem.W.OpenLaw} {n k:Nat} {q:Program} {loose:List Str} {XP:(Str->Option Value)->Heap->Prop} {YP:World->Heap->Prop} {d:DefRec} {K:Params->PySem.W.Frag} {CX:World->CXT} {sp:World->Sp} {x:Str}
  (hn:l.most=some n) (hn2:n<=sizeLine) (hdf:d.params.defaults=[]) (hr:cR k callerA)
  (hY:∀ (w:World) (h:Heap),YP w h->(K w.params).In h)
  (F:∀ (w:World) (mg:Str->Option Value) (fa:Addr) (h:Heap),(K w.params).In h->h.Ns mainGlobals mg->mg d.name=some (.ref fa) ->
   ∃ fd:FuncData,(∀ (s:Shared) (u:Value),BindsTo s fd ⟨[u],[]⟩ [(x,u)]) /\
    ∀ base:Heap,(K w.params).In base->base.Ns mainGlobals mg->pT mg base->iC l.prog w (K w.params) mg base (CX w) k fa fd [x] (sp w))
  (hsp:∀ (w:World) (H:Hp) (a:Addr) (ns:List Int),ns.length<=n->GY H->SqL (K w.params) H a (ns.map V.int)->sp w [.ref a] H (fun v _=>v=.bl true) fun _ _ _=>False)
  (hCX:∀ (w:World) (H:Hp) (s:Shared) (e:Value) (s':Shared),CX w [] H s (fun _ _ _=>False) e s'->False) (hTb:∀ (w:World) (h:Heap) (loose':List Str) (mean:ExcName->Option Value) (mg mb:Str->Option Value),PyProof.Rows.Top q loose' mean mg mb h->(K w.params).In h->pA (K w.params) h) :
  PySem.W.WalkO q loose XP YP l.row.toRowW d [] (fun f vs=>PySem.call f vs):=by
 refine Att.yl hn hdf fun w s₀ s₁ mg mb fa o pm cd doc a vs ns G Y ho hd hcd hmg hobj hints hlen hg=>?_
 have KX:=hY w _ Y;obtain ⟨fd,hb,hF⟩:=F w mg fa _ KX G.T.g hmg;exact law_call KX G.T.g G.T.b G.T.builtins G.T.nolimit hg hobj hints (Lz hlen hn2) hr (by obtain ⟨bm,ob,M⟩:=PySem.W.bmod_of_top G.T;exact ⟨bm,ob,M.name,M.ne,(fun z=>by obtain ⟨o,es,ep,e1,e2,_⟩:=M.ns;rw [<-z,M.obj] at e1;cases e1;rw [M.data] at e2;cases e2),M.obj,M.cls,M.dict,M.data⟩) hF hb (fun H hO hS=>hsp w H a ns hlen hO hS) (fun H e s'=>hCX w H s₁ e s') (hTb w _ _ _ _ _ G.T KX)
def inClass (s:Stmt) (j:Nat):Stmt:=match s with
 | .ClassDef _ _ _ body _ _ _ _ _ _ _=>body.getD j (.Pass ⟨0,0,0,0⟩)
 | _=>.Pass ⟨0,0,0,0⟩
def fF (s:Stmt):Arguments:=match s with
 | .FunctionDef _ a _ _ _ _ _ _ _ _=>a
 | _=>{ posonlyargs:=[],args:=[],vararg:=none,kwonlyargs:=[],kw_defaults:=[],kwarg:=none,defaults:=[] }
def dm (s:Stmt):List Stmt:=match s with
 | .FunctionDef _ _ b _ _ _ _ _ _ _=>b
 | _=>[]
def ax (s:Stmt):Scope:=match s with
 | .FunctionDef _ _ _ _ _ _ sc _ _ _=>sc
 | _=>{ kind:=.function,names:=[],isGenerator:=false,isCoroutine:=false }
abbrev CX0:CXT:=fun _ _ _ _ _ _=>False
abbrev E0:XK:=fun _ _ _=>False
theorem IZ {X:Cx}:Passes CX0 X E0:=fun _ _ _ _ _ _ _ h=>h.elim
structure Fun (K:PySem.W.Frag) (x qual:Str) (st:Stmt) (f:Addr) (fd:FuncData):Prop where
 ex:∃ (oc:Value) (od:Option Addr) (kV doc pm:Value) (an:Option Addr) (cdv ct:Value) (osl:Array (Option Value)),
  fd=PySem.W.fnOf x qual (fF st) (dm st) (ax st) .none kV doc pm an cdv ct/\K.lookup f=some ⟨oc,od,.func fd,osl⟩/\PySem.W.codeIn K cdv qual=true
 kp:PySem.W.keepIn K (.ref f)=true
section
variable {P:Program} {w:World} {K:PySem.W.Frag} {mg:Str->Option Value} {base:Heap}
theorem Fun.ok {x qual:Str} {st:Stmt} {f:Addr} {fd:FuncData} {N ps:List Str} {k:Nat} {sp:Sp} (F:Fun K x qual st f fd) (S:aZ N ps (ax st)) (len:∀ vs H Q E,sp vs H Q E->vs.length=ps.length)
  (hbody:∀ (cdv:Value) (A:Around) (outer:List Env) (s:Shared) (H:Hp) (vs:List V) (Q:VK) (E:XK),cR k (A.deeper (envOfC qual (ax st) s.heap.objs.size f cdv))->sp vs H Q E ->
   ∃ t,PSs (eF CX0 P w K mg base N qual (ax st) f cdv A outer s H E).nox (dm st) t/\t { nx:=fun _ H'=>Q .non H',rt:=Q } (start N vs) H):iC P w K mg base CX0 (k+1) f fd ps sp:=by
 obtain ⟨oc,od,kV,doc,pm,an,cdv,ct,osl,rfl,lk,hcd⟩:=F.ex;refine Co lk hcd S len fun A outer s H vs Q E hr hsp=>?_
 obtain ⟨t,h,q⟩:=hbody cdv A outer s H vs Q E hr hsp;exact ⟨t,h.nox,q⟩
theorem Fun.binds {x qual:Str} {st:Stmt} {f:Addr} {fd:FuncData} {ps:List Str} (F:Fun K x qual st f fd)
  (h:∀ (kV doc pm:Value) (an:Option Addr) (cdv ct:Value) (us:List Value),us.length=ps.length->bindArgs (PySem.W.fnOf x qual (fF st) (dm st) (ax st) .none kV doc pm an cdv ct) ⟨us,[]⟩=pure (ps.zip us)):Binds K fd ps []:=by
 obtain ⟨oc,od,kV,doc,pm,an,cdv,ct,osl,rfl,lk,hcd⟩:=F.ex;exact .all (h kV doc pm an cdv ct)
theorem zk {x qual:Str} {st:Stmt} {f:Addr} {oc:Value} {od an:Option Addr} {osl:Array (Option Value)} {kV doc pm cdv ct:Value} (l:K.lookup f=some ⟨oc,od,.func (PySem.W.fnOf x qual (fF st) (dm st) (ax st) .none kV doc pm an cdv ct),osl⟩)
 (c:PySem.W.codeIn K cdv qual=true) (k:PySem.W.keepIn K (.ref f)=true):Fun K x qual st f (PySem.W.fnOf x qual (fF st) (dm st) (ax st) .none kV doc pm an cdv ct):=⟨⟨oc,od,kV,doc,pm,an,cdv,ct,osl,rfl,l,c⟩,k⟩
end
section
variable {X:Cx}
theorem pv (i:Nat) {x:Str} {pos:Pos} (hN:X.N[i]?=some x:=by rfl) (hv:Vis X.env.scope x:=by first | exact Or.inl rfl | exact Or.inr (Or.inl rfl) | exact Or.inr (Or.inr rfl)) (hd:(x==("__debug__":Str))=false:=by decide)
 (hcd:(x==("__classdict__":Str))=false:=by decide):PE X (.Name x pos) (J1 i):=mh hN hv hd hcd
end
theorem Jy {c A B:Prop} [Decidable c] (h1:c->A) (h2:¬ c->B):if c then A else B:=by
 by_cases h:c
 ·rw [if_pos h];exact h1 h
 ·rw [if_neg h];exact h2 h
def aA (H H':Hp):Prop:=∀ b o,H b=some o->H' b=some o
theorem aA.refl (H:Hp):aA H H:=fun _ _ h=>h
theorem aA.trans {H H1 H2:Hp} (a:aA H H1) (b:aA H1 H2):aA H H2:=fun c o h=>b c o (a c o h)
theorem aA.free {H H':Hp} (e:aA H H') {l:Addr} (h:H' l=Option.none):H l=Option.none:=by
 cases q:H l with
 | none=>rfl
 | some o =>rw [e l o q] at h;cases h
theorem aA.seq {K:PySem.W.Frag} {H H':Hp} {a:Addr} {xs:List V} (e:aA H H') (h:SqL K H a xs):SqL K H' a xs:=by
 rcases h with (h | ⟨o,h⟩) | h
 ·exact .inl (.inl (e _ _ h))
 ·exact .inl (.inr ⟨o,e _ _ h⟩)
 ·exact .inr h
end L2
set_option maxHeartbeats 4000000
namespace L2
open PySem PySem.Spec PyProof.Rows
def uX (CX:CXT) (P:Program) (w:World) (K:PySem.W.Frag) (mg:Str->Option Value) (base:Heap) (N:List Str) (qual:Str) (scope:Scope) (f:Addr) (cd:Value) (cl:List (Str×Addr)) (A:Around) (outer:List Env) (s:Shared) (H:Hp) (E:XK):Cx where
 prog:=P
 w:=w
 K:=K
 mg:=mg
 base:=base
 A:=A.deeper (PySem.W.envX qual scope s.heap.objs.size f cd cl)
 N:=N
 s₀:=s
 H₀:=H
 env:=PySem.W.envX qual scope s.heap.objs.size f cd cl
 outer:=outer
 stack:=PySem.W.envX qual scope s.heap.objs.size f cd cl::outer
 ex:=[]
 calm:=true
 fn:=fun _=>false
 pn:=[]
 xe:=fun e s'=>wpAny (model P w) (A.deeper (PySem.W.envX qual scope s.heap.objs.size f cd cl)) (leaving (PySem.W.envX qual scope s.heap.objs.size f cd cl) e) (fun _ s''=>CX outer H s E e s'') (fun e' s''=>CX outer H s E e' s'') s'
theorem u6 {α:Type} {y:Str} {u:α}:∀ {l:List (Str×α)},(l.map (·.1)).Nodup->(y,u)∈l->l.lookup y=some u
 | [],_,h=>by cases h
 | (z,w)::l,nd,h=>by
  rw [Ld];rw [K1,Lr] at nd;rcases K6.mp h with h | h
  ·cases h;simp
  ·have m:y∈l.map (·.1):=List.mem_map_of_mem (f:=(·.1)) h;have:y≠z:=fun q=>nd.1 (by subst q;exact m)
   rw [show (y==z)=false by simpa using this];exact u6 nd.2 h
theorem BM {α:Type} {y:Str} {u:α} {ps:List Str} {us:List α} {i:Nat} (nd:ps.Nodup) (hl:us.length=ps.length) (h1:ps[i]?=some y) (h2:us[i]?=some u):(ps.zip us).reverse.lookup y=some u:=by
 refine u6 ?_ ?_
 ·rw [List.map_reverse,List.map_fst_zip (by omega)];exact (List.reverse_perm ps).symm.nodup nd
 ·rw [List.mem_reverse];refine Lu (i:=i) ?_;rw [List.getElem?_zip_eq_some];exact ⟨h1,h2⟩
structure nA (N ps:List Str) (sc:Scope):Prop where
 kind:sc.kind=.function
 co:sc.isCoroutine=false
 gen:sc.isGenerator=false
 nd:N.Nodup
 pre:N.take ps.length=ps
 par:∀ x∈ps,sc.names.lookup x=some .local
 nocell:∀ x∈sc.names,x.2≠.cell
structure HJ (s:Shared) (H:Hp) (cl:List (Str×Addr)) (sc:Scope) (N:List Str) (n:Nat) (ws:List (Option V)):Prop where
 inj:∀ x y c,cl.lookup x=some c->cl.lookup y=some c->x=y
 has:∀ x,sc.names.lookup x=some .free->∃ c,cl.lookup x=some c
 cell:∀ x c,cl.lookup x=some c->∃ v,s.heap.IsCell c v
 free:∀ x c,cl.lookup x=some c->H c=none
 len:N.length=n+ws.length
 val:∀ (i:Nat) (x:Str) (v:V),N[n+i]?=some x->ws[i]?=some (some v)->∃ u c,RelV v u/\sc.names.lookup x=some .free/\cl.lookup x=some c/\s.heap.IsCell c (some u)
theorem Gn {CX:CXT} {P:Program} {w:World} {K:PySem.W.Frag} {mg:Str->Option Value} {base:Heap} {N ps:List Str} {qual:Str} {scope:Scope} {f:Addr} {cd:Value} {cl:List (Str×Addr)} {A:Around} {outer:List Env} {s:Shared} {H:Hp} {E:XK} {us:List Value} {vs:List V} {ws:List (Option V)} {h1:Heap} {tk:Nat}
  (S:nA N ps scope) (hd:A.handled=none) (e0:vB P w K mg base A outer s H) (hl:vs.length=ps.length) (r:Vals vs us) (C:HJ s H cl scope N ps.length ws)
  (hns:h1.Ns s.heap.objs.size (fun x=>(ps.zip us).reverse.lookup x)) (hk:∀ b o,s.heap.get? b=some o->h1.get? b=some o) :
  Inv (uX CX P w K mg base N qual scope f cd cl A outer s H E) [] (vs.map some++ws) H { s with heap:=h1,toks:=tk }:=by
 have noA:∀ b:Addr,b∉(uX CX P w K mg base N qual scope f cd cl A outer s H E).ex:=fun b z=>absurd (show b∈([]:List Addr) from z) (by simp)
 have kc:∀ c v,s.heap.IsCell c v->h1.IsCell c v:=fun c v q=>by obtain ⟨o,e,d⟩:=q;exact ⟨o,hk _ _ e,d⟩
 refine ⟨⟨e0.mod,S.kind,rfl,rfl,K8 _,fun y z c h1 h2=>C.inj y z c h1 h2,fun y hy=>?_,fun y c z _=>(by cases z),fun _=>hd,Around.frames_deeper e0.frames,.inr ⟨rfl,rfl⟩,fun b z=>absurd z (noA b),e0.bs,e0.bsz,fun b _ _=>noA b,fun b z=>absurd z (noA b),e0.funs,e0.frf⟩,
  rfl,e0.bare,Un.kept hk,⟨_,hns,fun i y v h1 h2 h3=>?_⟩,fun y c h=>?_,e0.hok.fresh (K8 _),fun y c h=>C.free y c h,fun p hp=>absurd (show p∈([]:List (Addr×Obj)) from hp) (by simp),e0.hok.kept hk,?_,e0.tab⟩
 ·have hy:scope.names.lookup y=some .cell\/scope.names.lookup y=some .free:=hy;rcases hy with hy | hy
  ·exact absurd rfl (S.nocell _ (PySem.mem_of_lookup hy))
  ·exact C.has y hy
 ·have h1:N[i]?=some y:=h1;by_cases hi:i<vs.length
  ·have ha:vs[i]?=some v:=by
    rw [La (by simpa using hi),Lb] at h2;cases e:vs[i]? with
    | none=>rw [e] at h2;cases h2
    | some a=>rw [e] at h2;cases h2;rfl
   obtain ⟨u,hu,rv⟩:=r.get ha;have hp:ps[i]?=some y:=by rw [<-S.pre,List.getElem?_take_of_lt (by omega)];exact h1
   have ndP:ps.Nodup:=by rw [<-S.pre];exact S.nd.sublist (List.take_sublist _ _)
   refine ⟨u,rv,.inl ⟨S.par y (Lu hp),?_⟩⟩;exact BM ndP (by rw [<-r.length,hl]) hp hu
  ·rw [Le (by simpa using hi),K5] at h2;have e:N[ps.length+(i-vs.length)]?=some y:=by rw [<-hl,Nat.add_sub_cancel' (by omega)];exact h1
   obtain ⟨u,c,rv,k,l,q⟩:=C.val _ _ _ e h2;exact ⟨u,rv,.inr ⟨.inr k,c,l,kc _ _ q⟩⟩
 ·obtain ⟨v,q⟩:=C.cell y c h;exact ⟨v,kc _ _ q⟩
 ·show _=N.length;rw [KU,K5,hl,C.len]
theorem Ge {CX:CXT} {P:Program} {w:World} {K:PySem.W.Frag} {mg:Str->Option Value} {base:Heap} {N ps:List Str} {k:Nat} {name qual:Str} {params:Arguments} {body:Expr} {scope:Scope} {f c':Addr} {pm ctv:Value} {cl:List (Str×Addr)} {A:Around} {outer:List Env} {s:Shared} {H:Hp} {Q:VK} {E:XK} {us:List Value} {vs:List V} {ws:List (Option V)} {t:TE}
  (S:nA N ps scope) (hr:cR (k+1) A) (e0:vB P w K mg base A outer s H) (hl:vs.length=ps.length) (r:Vals vs us) (C:HJ s H cl scope N ps.length ws)
  (ho:s.heap.get? f=some (PySem.W.kla_obj name qual params body scope cl pm c' ctv)) (hcd:s.heap.CodeRec (.ref c') qual)
  (hb:bindArgs (PySem.W.kla_fn name qual params body scope cl pm (.ref c') ctv) ⟨us,[]⟩=pure (ps.zip us))
  (hbody:PE (uX CX P w K mg base N qual scope f (.ref c') cl A outer s H E) body t) (hq:t (vs.map some++ws) H Q) :
  codeAny (model P w) A (.call (.ref f) ⟨us,[]⟩) (CR CX outer P w H s Q E) s:=by
 have lim:s.heap.NoLimit:=e0.mod.nolimit.keeps fun b o e=>(e0.bs b o e).1
 refine PySem.W.kla_callFunE hr.depth ho rfl S.co S.gen rfl hcd ?_;rw [hb];refine wpAny_pure (wpAny_newFunctionEnv S.nocell (fun y hy=>S.par y.1 (Mn (a:=y.1) (b:=y.2) hy).1) (fun h₁ hns hsb=>⟨lim.fresh _ hsb,?_⟩) S.kind);have hk₁:∀ b o,s.heap.get? b=some o->h₁.get? b=some o:=fun b o e=>hsb.extBut b o (KY (KR e)) (K2 _ e)
 have I:=Gn (CX:=CX) (qual:=qual) (f:=f) (cd:=.ref c') (E:=E) (tk:=s.toks+(ps.zip us).length) S hr.hd e0 hl r C hns hk₁;exact PySem.W.kla_codeExpr (wpAny_mono (hbody [] _ _ H Q I hq) (fun u s' qz2=>(by obtain ⟨v,H',J,rv,q⟩:=qz2;exact ⟨v,H',J.os,J.bare,J.base,J.hok,rv,q⟩)) fun _ _ y=>y)
def oa:List (Str×NameKind)->List (Str×Addr)->List (Str×Addr)->List (Str×Addr)
 | [],_,acc=>acc
 | (n,k)::r,cells,acc=>oa r cells (if k==.free then (match cells.lookup n with | some c=>(n,c)::acc | none=>acc) else acc)
theorem jJ (env:Env):∀ (names:List (Str×NameKind)) (acc:List (Str×Addr)),(∀ y∈names,y.2=.free->∃ c,env.cells.lookup y.1=some c) ->
  (forIn names acc (fun (x:Str×NameKind) (cs:List (Str×Addr))=>match x with
   | (name,kind)=>if (kind==NameKind.free)=true then do let c <-cellOf env name;pure (ForInStep.yield ((name,c)::cs)) else pure (ForInStep.yield cs)):Sem (List (Str×Addr)))=pure (oa names env.cells acc)
 | [],acc,_=>rfl
 | (n,k)::r,acc,h=>by
  rw [Mo];have hr:∀ y∈r,y.2=.free->∃ c,env.cells.lookup y.1=some c:=fun y hy=>h y (K0 _ hy)
  dsimp only [oa];by_cases hk:k=.free
  ·subst hk;obtain ⟨c,hc⟩:=h (n,.free) K4 rfl;have hc':env.cells.lookup n=some c:=hc;have e:cellOf env n=pure c:=by unfold cellOf;rw [hc']
   rw [if_pos (show (NameKind.free==NameKind.free)=true by decide),if_pos (show (NameKind.free==NameKind.free)=true by decide),e,hc'];exact jJ env r ((n,c)::acc) hr
  ·have hb:¬ (k==NameKind.free)=true:=by simpa using hk
   rw [if_neg hb,if_neg hb];exact jJ env r acc hr
theorem ke {scope:Scope} {env:Env} (h:∀ y∈scope.names,y.2=.free->∃ c,env.cells.lookup y.1=some c):closureFor scope env=pure (oa scope.names env.cells []):=by have e:=jJ env scope.names [] h;unfold closureFor;rw [<-bind_pure (forIn scope.names [] _)] at e;exact e
theorem sO:∀ (names:List (Str×NameKind)) (cells acc:List (Str×Addr)) (x:Str) (c:Addr),(∀ x c,acc.lookup x=some c->cells.lookup x=some c)->(oa names cells acc).lookup x=some c->cells.lookup x=some c
 | [],_,_,x,c,h,e=>h x c e
 | (n,k)::r,cells,acc,x,c,h,e=>by
  refine sO r cells _ x c (fun y d hy=>?_) e;split at hy
  ·split at hy
   ·rename_i c' hc';rw [Ld] at hy;by_cases hyn:(y==n)=true
    ·rw [hyn] at hy;have hy':y=n:=eq_of_beq hyn;subst hy';cases hy;exact hc'
    ·have:(y==n)=false:=by simpa using hyn
     rw [this] at hy;exact h y d hy
   ·exact h y d hy
  ·exact h y d hy
theorem uf:∀ (names:List (Str×NameKind)) (cells acc:List (Str×Addr)) (x:Str),(∃ c,acc.lookup x=some c)->∃ c,(oa names cells acc).lookup x=some c
 | [],_,_,_,h=>h
 | (n,k)::r,cells,acc,x,h=>by
  refine uf r cells _ x ?_;split
  ·split
   ·rw [Ld];cases (x==n)
    ·exact h
    ·exact ⟨_,rfl⟩
   ·exact h
  ·exact h
theorem nN:∀ (names:List (Str×NameKind)) (cells acc:List (Str×Addr)) (x:Str) (c:Addr),(x,NameKind.free)∈names->cells.lookup x=some c->∃ c,(oa names cells acc).lookup x=some c
 | [],_,_,_,_,h,_=>by simp at h
 | (n,k)::r,cells,acc,x,c,h,e=>by
  rcases K6.mp h with h | h
  ·injection h with h1 h2
   subst h1;subst h2;refine uf r cells _ x ?_;rw [if_pos (by decide),e];exact ⟨c,by simp [Ld]⟩
  ·exact nN r cells _ x c h e
def blk (X:Cx) (M:List Str) (scope:Scope) (own:List Str) (C:Addr) (s2:Shared) (H2:Hp) (fp:List Addr):Cx where
 prog:=X.prog
 w:=X.w
 K:=X.K
 mg:=X.mg
 base:=X.base
 A:=X.A
 N:=M++own
 s₀:=s2
 H₀:=H2
 env:=compEnvC scope (oa scope.names X.env.cells []) C X.env
 outer:=X.stack
 stack:=X.stack
 ex:=fp
 fn:=fun _=>false
 calm:=X.calm
 pn:=[]
 xe:=fun _ _=>False
structure kS (X:Cx) (M:List Str) (scope:Scope) (own:List Str):Prop where
 kind:scope.kind=.function
 nocell:∀ y∈scope.names,y.2≠.cell
 names:∀ y∈scope.names,y.2=.local->scope.names.lookup y.1=some .local
 free:∀ y∈scope.names,y.2=.free->Vis X.env.scope y.1/\X.env.scope.names.lookup y.1≠some .local
 own:∀ x∈own,scope.names.lookup x=some .local
 outer:∀ p∈X.N.zip M,(p.1=p.2/\scope.names.lookup p.2≠some .local)\/scope.names.lookup p.2=none
 len:M.length=X.N.length
def pV (N M:List Str) (osc scope:Scope) (own:List Str):Bool :=
 (scope.kind==.function)&&scope.names.all (fun y=>y.2 != .cell)&&scope.names.all (fun y=>y.2 != .local || scope.names.lookup y.1==some .local) &&
 scope.names.all (fun y=>y.2 != .free || (osc.names.lookup y.1==some .cell || osc.names.lookup y.1==some .free)) &&
 own.all (fun x=>scope.names.lookup x==some .local)&&(N.zip M).all (fun p=>(p.1==p.2&&scope.names.lookup p.2 != some .local) || scope.names.lookup p.2==none)&&(M.length==N.length)
theorem kS.of {X:Cx} {M:List Str} {scope:Scope} {own:List Str} (h:pV X.N M X.env.scope scope own=true):kS X M scope own:=by
 unfold pV at h;simp only [K9,L4,Bool.or_eq_true,bne_iff_ne,beq_iff_eq,ne_eq] at h;obtain ⟨⟨⟨⟨⟨⟨h1,h2⟩,h3⟩,h4⟩,h5⟩,h6⟩,h7⟩:=h;refine ⟨h1,h2,fun y hy e=>(h3 y hy).resolve_left fun z=>z e,fun y hy e=>?_,h5,h6,h7⟩;rcases (h4 y hy).resolve_left fun z=>z e with q | q
 ·exact ⟨.inr (.inl q),by rw [q];intro z;cases z⟩
 ·exact ⟨.inr (.inr q),by rw [q];intro z;cases z⟩
theorem eZ {env:Env}:∀ {names:List (Str×NameKind)} {x:Str} {k:NameKind},
  (names.map fun (n,k)=>if (k==NameKind.free&&env.scope.kind==.function&&env.kindOf n==some .cell) then (n,NameKind.cell) else (n,k)).lookup x=some k->(k=.cell\/k=.free)->(∀ y∈names,y.2≠.cell)->(x,NameKind.free)∈names
 | [],_,_,h,_,_=>by simp at h
 | (n,k')::r,x,k,h,hk,hn=>by
  have hr:∀ y∈r,y.2≠NameKind.cell:=fun y hy=>hn y (K0 _ hy)
  rw [K1,Ld] at h;by_cases hc:(k'==NameKind.free&&env.scope.kind==.function&&env.kindOf n==some .cell)=true
  ·have hf:k'=.free:=by have:=hc;simp only [K9] at this;exact eq_of_beq this.1.1
   simp only [if_pos hc] at h;cases hx:x==n with
   | true =>have:x=n:=eq_of_beq hx;subst this;subst hf;exact K4
   | false =>rw [hx] at h;exact K0 _ (eZ h hk hr)
  ·simp only [if_neg hc] at h;cases hx:x==n with
   | true =>
    rw [hx] at h;have e:k'=k:=Option.some.inj h;have:x=n:=eq_of_beq hx;subst this;subst e;rcases hk with hk | hk
    ·exact absurd hk (hn _ K4)
    ·subst hk;exact K4
   | false =>rw [hx] at h;exact K0 _ (eZ h hk hr)
theorem eW {env:Env}:∀ {names:List (Str×NameKind)} {x:Str} {k:NameKind},
  (names.map fun (n,k)=>if (k==NameKind.free&&env.scope.kind==.function&&env.kindOf n==some .cell) then (n,NameKind.cell) else (n,k)).lookup x=some k->(∃ k0,names.lookup x=some k0/\(k=k0\/(k=.cell/\k0=.free)))
 | [],_,_,h=>by simp at h
 | (n,k')::r,x,k,h=>by
  rw [K1,Ld] at h;rw [Ld];by_cases hc:(k'==NameKind.free&&env.scope.kind==.function&&env.kindOf n==some .cell)=true
  ·have hf:k'=.free:=by have:=hc;simp only [K9] at this;exact eq_of_beq this.1.1
   simp only [if_pos hc] at h;cases hx:x==n with
   | true =>rw [hx] at h;exact ⟨k',rfl,.inr ⟨(Option.some.inj h).symm,hf⟩⟩
   | false =>rw [hx] at h;exact eW h
  ·simp only [if_neg hc] at h;cases hx:x==n with
   | true =>rw [hx] at h;exact ⟨k',rfl,.inl (Option.some.inj h).symm⟩
   | false =>rw [hx] at h;exact eW h
section
variable {X:Cx} {M:List Str} {pins:List (Addr×Obj)} {σ:St} {H2:Hp} {s2:Shared} {scope:Scope} {own:List Str} {fp:List Addr}
theorem Inv.blk {h1:Heap} {t':Nat} {C D:Addr} (I:Inv X pins σ H2 s2) (B:kS X M scope own) (hf:∀ b∈fp,qJ X pins H2 b) (hfs:∀ b∈fp,b<s2.heap.objs.size)
  (hD:D=s2.heap.objs.size) (hC:C=s2.heap.objs.size+1) (hl:h1.get? D=some { cls:=.type "list",data:=.seq ([]:List Value).toArray 0 })
  (hn:h1.Ns C (fun _=>none)) (hk:∀ b o,s2.heap.get? b=some o->h1.get? b=some o) :
  Inv (L2.blk X M scope own C s2 H2 fp) [] (σ++List.replicate own.length none) (upd H2 D (.lst [])) { s2 with heap:=h1,toks:=t' }:=by
 have hcl:∀ x c,(oa scope.names X.env.cells []).lookup x=some c->X.env.cells.lookup x=some c:=fun x c e=>sO _ _ _ _ _ (fun _ _ z=>by simp at z) e
 have hlt:∀ x c,(oa scope.names X.env.cells []).lookup x=some c->c<s2.heap.objs.size:=fun x c e=>by obtain ⟨v,q⟩:=I.cell x c (hcl x c e);exact q.lt
 have freeD:H2 D=none:=I.hok.fresh (by rw [hD];exact K8 _);have freeC:H2 C=none:=I.hok.fresh (by rw [hC];exact Ml _);have hCD:C≠D:=by rw [hC,hD];exact Nat.succ_ne_self _
 have hu:Un (frs X.stack) fp H2 (upd H2 D (.lst [])) s2.heap h1:=Un.laid hk (by rw [hD];exact K8 _) freeD;refine ⟨⟨I.ok.mod,?_,I.ok.glob,I.ok.blt,?_,?_,?_,?_,I.ok.hd,I.ok.frames,.inl rfl,?_,I.bs,Lz I.ok.bsz I.sz,?_,?_,I.stack,I.stkFree⟩,rfl,I.bare,hu,?_,?_,?_,?_,?_,?_,?_,fun P q t=>hu.tbls P q (I.tab P q t)⟩
 ·exact B.kind
 ·show s2.heap.objs.size<=C;rw [hC];exact Ml _
 ·intro x y c e1 e2;exact I.ok.inj x y c (hcl x c e1) (hcl y c e2)
 ·intro x hx;have hm:(x,NameKind.free)∈scope.names:=by
   rcases hx with hx | hx
   ·exact eZ hx (.inl rfl) B.nocell
   ·exact eZ hx (.inr rfl) B.nocell
  obtain ⟨hv,hnl⟩:=B.free _ hm rfl;have hh:X.env.kindOf x=some .cell\/X.env.kindOf x=some .free:=by
   rcases hv with z | z | z
   ·exact absurd z hnl
   ·exact .inl z
   ·exact .inr z
  obtain ⟨c,e⟩:=I.ok.has x hh;exact nN _ _ _ x c hm e
 ·intro x c hfn _;exact absurd (show false=true from hfn) (by decide)
 ·intro b hb;refine ⟨?_,fun x c e z=>?_⟩
  ·show b≠C;rw [hC];exact KY (LF (hfs b hb))
  ·exact (hf b hb).2.2.2.2.1 x c (hcl x c e) z
 ·intro b o e hb;obtain ⟨_,_,_,f3,_⟩:=hf b hb;rcases f3 with z | z
  ·exact I.ok.noex b o e z
  ·exact absurd (L1 (KR (I.ok.bs b o e).1) z) (LX _)
 ·intro b hb hs;obtain ⟨_,f1,f2,_⟩:=hf b hb;rcases K6.mp (I.stkSub b hs) with z | z
  ·exact f1 z
  ·exact f2 z
 ·refine ⟨_,hn,fun i x v e1 e2 e3=>?_⟩;have hi:i<σ.length:=by
   by_cases hi:i<σ.length
   ·exact hi
   ·rw [Le (by omega),Mt] at e2;split at e2 <;> cases e2
  rw [La hi] at e2;have hiN:i<X.N.length:=by rw [<-I.len];exact hi
  have hiM:i<M.length:=by rw [B.len];exact hiN
  have e1M:M[i]?=some x:=by
   have:(M++own)[i]?=some x:=e1
   rwa [La hiM] at this
  obtain ⟨y,ey⟩:∃ y,X.N[i]?=some y:=⟨_,K3 hiN⟩
  have hz:(y,x)∈X.N.zip M:=Lu (i:=i) (by rw [List.getElem?_zip_eq_some];exact ⟨ey,e1M⟩);have hin:∃ k,scope.names.lookup x=some k:=by
   rcases e3 with z | z | z
   ·obtain ⟨k0,hk0,_⟩:=eW (show _=some NameKind.local from z);exact ⟨k0,hk0⟩
   ·obtain ⟨k0,hk0,_⟩:=eW (show _=some NameKind.cell from z);exact ⟨k0,hk0⟩
   ·obtain ⟨k0,hk0,_⟩:=eW (show _=some NameKind.free from z);exact ⟨k0,hk0⟩
  have hout:y=x/\scope.names.lookup x≠some .local:=by
   rcases B.outer _ hz with q | q
   ·exact q
   ·obtain ⟨k,hk⟩:=hin;rw [q] at hk;cases hk
  have e1':X.N[i]?=some x:=by rw [<-hout.1];exact ey
  have hx:(relabel scope X.env).names.lookup x=some .cell\/(relabel scope X.env).names.lookup x=some .free:=by
   rcases e3 with z | z
   ·obtain ⟨k0,hk0,hk⟩:=eW (show _=some NameKind.local from z);rcases hk with hk | ⟨hk,_⟩
    ·subst hk;exact absurd hk0 hout.2
    ·cases hk
   ·exact z
  have hm:(x,NameKind.free)∈scope.names:=by
   rcases hx with hx | hx
   ·exact eZ hx (.inl rfl) B.nocell
   ·exact eZ hx (.inr rfl) B.nocell
  obtain ⟨hv,hnl⟩:=B.free _ hm rfl;obtain ⟨m,_,hl'⟩:=I.loc;obtain ⟨u,r,l⟩:=hl' i x v e1' e2 hv;refine ⟨u,r,.inr ⟨hx,?_⟩⟩;rcases l with ⟨z,_⟩ | ⟨_,c,hc,z⟩
  ·exact absurd z hnl
  ·obtain ⟨c',hc'⟩:=nN scope.names X.env.cells [] x c hm hc;have:=hcl x c' hc';rw [hc] at this;cases this;exact ⟨c,hc',z.keeps hk⟩
 ·intro x c e;obtain ⟨v,q⟩:=I.cell x c (hcl x c e);exact ⟨v,q.keeps hk⟩
 ·show upd H2 D (.lst []) C=none;rw [aL hCD];exact freeC
 ·intro x c e;have h1:=hlt x c e;rw [aL (by rw [hD];exact KY h1)];exact I.freeC x c (hcl x c e)
 ·intro p hp;exact absurd (show p∈([]:List (Addr×Obj))++[] from hp) (by simp)
 ·exact I.hok.laid hk (by rw [hD];exact K8 _) ⟨Lw _,[],0,.nil,hl⟩
 ·show (σ++List.replicate own.length none).length=(M++own).length;rw [KU,KU,List.length_replicate,I.len,B.len]
theorem Inv.unblk {C:Addr} {σ':St} {H':Hp} {s':Shared} {h':Heap} (I:Inv X pins σ H2 s2) (hf:∀ b∈fp,qJ X pins H2 b) (hCs:s2.heap.objs.size<=C)
  (J:Inv (L2.blk X M scope own C s2 H2 fp) [] σ' H' s') (hs:Heap.SameBut C s'.heap h'):Inv X pins σ H' { s' with heap:=h' }:=by
 have hC:H' C=none:=J.free;have k:∀ b o,b≠C->s'.heap.get? b=some o->h'.get? b=some o:=fun b o hb e=>(hs.2 b hb).trans e
 have old:∀ b o,s2.heap.get? b=some o->b≠C:=fun b o e=>KY (L1 (KR e) hCs)
 have u:Un (frs X.stack) fp H2 H' s2.heap s'.heap:=J.base;refine I.call' (s':={ s' with heap:=h' }) (ch:=fp) J.os ?_ ?_ J.bare fun b hb=>?_
 ·refine ⟨fun b o e n h1 h2=>k b o (old b o e) (u.keep b o e n h1 h2),fun b o e n h1 h2=>?_,u.free,fun b o e h1=>?_,u.tups,u.frzs,u.tbls⟩
  ·obtain ⟨sl,q⟩:=u.slot b o e n h1 h2;exact ⟨sl,k b _ (old b o e) q⟩
  ·obtain ⟨o',q⟩:=u.there b o e h1;exact ⟨o',k b o' (old b o e) q⟩
 ·intro b o e;refine (J.hok b o e).stay (fun c v hc q=>k c v ?_ q) (fun _ q=>q) fun _ _ q=>q
  rintro rfl
  rcases hc with z | z
  ·subst z;rw [hC] at e;cases e
  ·rw [hC] at z;cases z
 ·obtain ⟨f0,f1,f2,f3,f4,f5⟩:=hf b hb;exact ⟨f3,f1,f4,f5⟩
end
section
variable {prog:Program} {w:World} {A:Around} {R:Result->Shared->Prop} {s:Shared}
theorem v9 {elt target iter:Expr} {ifs:List Expr} {scope:Scope} {pos:Pos} {it acc:Value} {env:Env} (I:Nat->Shared->Prop)
  (turn:∀ n s,I n s->wpAny (model prog w) A (pyNext it) (fun r s₁=>match r with
   | none=>R (.ok .next) s₁
   | some v=>wpAny (model prog w) A (letOwnedTupleGo target it v) (fun _ s1'=>wpAny (model prog w) A (assign target env v) (fun _ s₂ =>
    wpAny (model prog w) A (forIn ifs true fun c r=>if r=true then do let ok <-isTrue c env (eval c env);pure (ForInStep.yield ok) else pure (ForInStep.yield r)) (fun ok s₃ =>
     if ok=true then wpAny (model prog w) A (eval elt env) (fun x s₄ =>
      wpAny (model prog w) A (call (.builtin "list.append") [acc,x]) (fun _ s₅=>∃ m,m<n/\I m s₅) (fun _ _=>False) s₄) (fun _ _=>False) s₃
     else ∃ m,m<n/\I m s₃) (fun _ _=>False) s₂) (fun _ _=>False) s1') (fun _ _=>False) s₁) (fun _ _=>False) s)
  (n:Nat) (h:I n s) :
  codeAny (model prog w) A (.compLoop (.ListComp elt [⟨target,iter,ifs,0⟩] scope pos) 0 it acc env) R s:=by
 refine codeAny_loop rfl I (fun n s hI=>?_) n h;show wpAny _ A ((compTurn (.ListComp elt [⟨target,iter,ifs,0⟩] scope pos) 0 it acc env).onRaise (fun x=>do noteFrame x env;theTreesLotGoes x)) _ _ s;refine wpAny_noted ?_;rw [compTurn_list];refine wpAny_bind (wpAny_standAt (wpAny_bind (wpAny_mono (turn n s hI) (fun r s₁ h₁=>?_) fun _ _ h'=>h'.elim)));cases r with
 | none=>exact wpAny_pure h₁
 | some v =>
  refine wpAny_bind (wpAny_mono h₁ (fun _ s1' h1'=>?_) fun _ _ h'=>h'.elim);refine wpAny_bind (wpAny_mono h1' (fun _ s₂ h₂=>wpAny_bind (wpAny_mono h₂ (fun ok s₃ h₃=>?_) fun _ _ h'=>h'.elim)) fun _ _ h'=>h'.elim);cases ok with
  | false=>exact wpAny_pure ⟨rfl,h₃⟩
  | true =>exact wpAny_bind (wpAny_bind (wpAny_mono h₃ (fun x s₄ h₄=>wpAny_bind (wpAny_mono h₄ (fun _ s₅ h₅=>wpAny_pure (wpAny_pure ⟨rfl,h₅⟩)) fun _ _ h'=>h'.elim)) fun _ _ h'=>h'.elim))
end
def Aq:TT:=fun _ H Q=>Q true H
inductive PTs (X:Cx):List Expr->TT->Prop
 | nil:PTs X [] Aq
 | one {c:Expr} {t:TT} (h:PT X c t):PTs X [c] t
theorem PTs.run {X:Cx} {ifs:List Expr} {t:TT} (h:PTs X ifs t) {pins:List (Addr×Obj)} {s:Shared} {σ:St} {H:Hp} {Q:Bool->Hp->Prop} (I:Inv X pins σ H s) (q:t σ H Q) :
  wpAny (model X.prog X.w) X.A (forIn ifs true fun c r=>if r=true then do let ok <-isTrue c X.env (eval c X.env);pure (ForInStep.yield ok) else pure (ForInStep.yield r)) (TP X pins σ Q) X.xe s:=by
 cases h with
 | nil=>exact wpAny_tests_nil ⟨H,I,q⟩
 | one h=>exact wpAny_tests_one (h pins s σ H Q I q)
def LCR (J:It) (n:Nat) (g:TG) (tt:TT) (te:TE) (σ:St) (H1:Hp) (Q:VK):Prop:=∀ D,H1 D=none->∃ W:Nat->Nat->List V->Hp->Prop,(∃ m,W 0 m [] (upd H1 D (.lst []))) /\
 ∀ i m ys H,W i m ys H->H D=some (.lst ys)/\((J.stop i H/\Q (.ref D) H)\/(J.go i H/\∀ x H' σ',σ'.length=n->J.yld i H x H'->g x (σ++σ') H' fun σ2 H2=>tt σ2 H2 fun b H3 =>
  if b=true then te σ2 H3 fun v H4=>H4 D=some (.lst ys)/\ys.length<sizeLine/\(∃ σ'',σ2=σ++σ''/\σ''.length=n)/\∃ m',m' < m/\W (i+1) m' (ys++[v]) (upd H4 D (.lst (ys++[v])))
  else (∃ σ'',σ2=σ++σ''/\σ''.length=n)/\∃ m',m' < m/\W (i+1) m' ys H3))
def tLC (n:Nat) (wi:TI) (g:TG) (tt:TT) (te:TE):TE:=fun σ H Q=>wi σ H fun J H1=>LCR J n g tt te σ H1 Q
theorem sV {X:Cx} {M:List Str} {elt tg iter:Expr} {ifs:List Expr} {scope:Scope} {pos cpos:Pos} {own:List Str} {wi:TI} {g:TG} {tt:TT} {te:TE} {use:Option (Value->Sem Unit)} {Qf:Value->Shared->Prop} (hc:X.calm=true) (hi:PI X tg iter wi)
  (hg:∀ C s2 H2 fp,PG (blk X M scope own C s2 H2 fp) tg g) (ht:∀ C s2 H2 fp,PTs (blk X M scope own C s2 H2 fp) ifs tt) (he:∀ C s2 H2 fp,PE (blk X M scope own C s2 H2 fp) elt te)
  (hB:pV X.N M X.env.scope scope own=true) (hs:∀ x,foldedSetIterable iter X.env x=pure x) {pins:List (Addr×Obj)} {s:Shared} {σ:St} {H:Hp} {Q:VK} (I:Inv X pins σ H s) (h:tLC own.length wi g tt te σ H Q)
  (fin:∀ (C D:Addr) (s5:Shared) (H4:Hp),(∀ h',Heap.SameBut C s5.heap h'->Inv X pins σ H4 { s5 with heap:=h' })->(∃ m,s5.heap.Ns C m)->H4 C=none->C≠X.env.locals->(∀ x c,X.env.cells.lookup x=some c->c≠C)->(∀ p∈X.pn++pins,p.1≠C)->X.s₀.heap.objs.size<=C->Q (.ref D) H4 ->
   compPost (model X.prog X.w) X.A X.xe use Qf (.ref D) C (.ok .next) s5) :
  wpAny (model X.prog X.w) X.A (comprehension (.ListComp elt [⟨tg,iter,ifs,0⟩] scope pos) scope X.env cpos (newList []) false (eval iter X.env) use) Qf X.xe s:=by
 have B:kS X M scope own:=kS.of hB;have hclos:closureFor scope X.env=pure (oa scope.names X.env.cells []):=ke fun y hy hf=>by
  obtain ⟨hv,hnl⟩:=B.free y hy hf;have hh:X.env.kindOf y.1=some .cell\/X.env.kindOf y.1=some .free:=by
   rcases hv with z | z | z
   ·exact absurd z hnl
   ·exact .inl z
   ·exact .inr z
  exact I.ok.has y.1 hh
 refine wpAny_comprehension_free (use:=use) rfl hs hclos B.kind B.names (thn (hi pins s σ H _ I h) fun v s1 h1=>thn h1 fun itv s2 h2=>?_);obtain ⟨it,fp,tn,J,H2,e,I2,T,st2,f2,hD⟩:=h2;subst e;have ffs:∀ b∈fp,b<s2.heap.objs.size:=fun b hb=>by obtain ⟨o,q,_⟩:=T.obj _ _ st2 b hb;exact KR q
 obtain ⟨W,⟨m0,w0⟩,turn⟩:=hD s2.heap.objs.size (I2.hok.fresh (K8 _));refine wpAny_newObj_type (wpAny_newFunctionEnv B.nocell (by intro y hy;simp at hy) (fun h₁ hns₁ hsb₁=>?_) B.kind);dsimp only at hns₁ hsb₁ ⊢;generalize hG:s2.heap.push { cls:=.type "list",dict:=none,data:=.seq ([]:List Value).toArray }=G at hns₁ hsb₁ ⊢;have hC:G.objs.size=s2.heap.objs.size+1:=by rw [<-hG,Heap.size_push]
 have hk:∀ b o,s2.heap.get? b=some o->h₁.get? b=some o:=fun b o e=>hsb₁.extBut b o (by rw [hC];exact KY (LF (KR e))) (K2 _ (hG▸K2 _ e))
 have hDC:s2.heap.objs.size≠G.objs.size:=by rw [hC];exact KY (LR _)
 have hl:h₁.get? s2.heap.objs.size=some { cls:=.type "list",data:=.seq ([]:List Value).toArray 0 }:=hsb₁.extBut _ _ hDC (K2 _ (hG▸KZ _ rfl));have hns:h₁.Ns G.objs.size (fun _=>none):=by
  have e:(fun x=>([]:List (Str×Value)).reverse.lookup x)=fun _=>none:=by funext x;rfl
  rw [<-e];exact hns₁
 have I3:=fun t'=>I2.blk (t':=t') (C:=G.objs.size) (D:=s2.heap.objs.size) B f2 ffs rfl hC hl hns hk
 have stat:∀ {H':Hp},(∀ b∈fp,H' b=none)->∀ b∈fp,qJ (blk X M scope own G.objs.size s2 H2 fp) [] H' b:=fun hn b hb=>by
  refine ⟨hn b hb,?_,?_,.inl hb,fun x c e z=>?_,fun p hp=>absurd (show p∈([]:List (Addr×Obj))++[] from hp) (by simp)⟩
  ·show b≠G.objs.size;rw [hC];exact KY (LF (ffs b hb))
  ·exact (I3 0).ok.exfs b hb
  ·exact ((I3 0).ok.exf b hb).2 x c e z
 have loop:∀ s3:Shared,(∃ t',s3={ s2 with heap:=h₁,toks:=t' })->codeAny (model X.prog X.w) X.A (.compLoop (.ListComp elt [⟨tg,iter,ifs,0⟩] scope pos) 0 (.ref it) (.ref s2.heap.objs.size) (compEnvC scope (oa scope.names X.env.cells []) G.objs.size X.env))
   (compPost (model X.prog X.w) X.A X.xe use Qf (.ref s2.heap.objs.size) G.objs.size) s3:=by
  rintro s3 ⟨t',rfl⟩
  refine v9 (fun n s'=>∃ i ys σ' H',σ'.length=own.length/\Inv (blk X M scope own G.objs.size s2 H2 fp) [] (σ++σ') H' s'/\tn i s'.heap/\(∀ b∈fp,H' b=none)/\W i n ys H') ?_ m0
   ⟨0,[],_,_,by simp,I3 t',T.keep _ _ _ st2 fun b hb o e=>hk b o e,fun b hb=>by rw [aL (KY (ffs b hb))];exact (f2 b hb).1,w0⟩
  rintro n s4 ⟨i,ys,σ',H4,hl',I4,st4,fr4,w4⟩
  obtain ⟨hDl,alt⟩:=turn i n ys H4 w4;rcases alt with ⟨stop,qn⟩ | ⟨go,step⟩
  ·refine thn (T.done (blk X M scope own G.objs.size s2 H2 fp) rfl rfl rfl hc i [] s4 _ H4 _ I4 (stat fr4) st4 stop) fun r s5 rz2=>?_
   obtain ⟨hr,I5⟩:=rz2;subst hr;obtain ⟨m,hn,_⟩:=I5.loc;have cS:s2.heap.objs.size<=G.objs.size:=by rw [hC];exact Ml _
   refine fin G.objs.size s2.heap.objs.size s5 H4 (fun h' hs'=>I2.unblk (C:=G.objs.size) f2 cS I5 hs') ⟨m,hn⟩ I5.free ?_ (fun x c e=>?_) (fun p hp=>?_) (Lz I2.sz cS) qn
   ·obtain ⟨_,hl0,_⟩:=I2.loc;exact LA (L1 hl0.lt cS)
   ·obtain ⟨_,q⟩:=I2.cell x c e;exact KY (L1 q.lt cS)
   ·exact KY (L1 (KR (I2.pin p hp).1) cS)
  ·refine thn (T.item (blk X M scope own G.objs.size s2 H2 fp) rfl rfl rfl hc i [] s4 _ H4 _ I4 (stat fr4) st4 go) fun r s5 rz2=>?_
   obtain ⟨u,hr,h5⟩:=rz2;subst hr;refine thn h5 fun _ s6 rz2=>?_
   obtain ⟨x,H6,I6,r6,y6,st6,fr6⟩:=rz2;have I6':=I6.pinned (stat fr6) (T.obj _ _ st6);have kp:∀ {σ7:St} {H7:Hp} {s7:Shared},Inv (blk X M scope own G.objs.size s2 H2 fp) ([]++qR fp s6.heap) σ7 H7 s7->tn (i+1) s7.heap/\∀ b∈fp,H7 b=none:=fun {σ7 H7 s7} I7=>by refine ⟨T.keep _ _ _ st6 fun b hb o e=>(I7.pin (b,o) (K7 _ (K7 _ (j4 hb e)))).1,fun b hb=>?_⟩;obtain ⟨o,e,d⟩:=T.obj _ _ st6 b hb;exact (I7.pin (b,o) (K7 _ (K7 _ (j4 hb e)))).2.1
   refine thn (hg _ _ _ _ _ s6 _ H6 x u _ I6' r6 (step x H6 σ' hl' y6)) fun _ s7 rz2=>?_
   obtain ⟨σ7,H7,I7,q7⟩:=rz2;refine thn ((ht _ _ _ _).run I7 q7) fun ok s8 rz2=>?_
   obtain ⟨H8,I8,q8⟩:=rz2;cases ok with
   | false =>
    obtain ⟨⟨σ'',e,l''⟩,m',hm,w8⟩:=(show if false=true then _ else _ from q8)
    subst e;obtain ⟨k1,k2⟩:=kp I8;exact ⟨m',hm,i+1,ys,σ'',H8,l'',I8.unpinned,k1,k2,w8⟩
   | true =>
    have q8:te σ7 H8 _:=q8;refine thn (he _ _ _ _ _ s8 σ7 H8 _ I8 q8) fun y s9 rz2=>?_
    obtain ⟨v,H9,I9,r9,d9,z9,⟨σ'',e,l''⟩,m',hm,w9⟩:=rz2;subst e;refine thn (nU (X:=blk X M scope own G.objs.size s2 H2 fp) _ s9 _ H9 (.ref s2.heap.objs.size) [v] (.ref s2.heap.objs.size) [y] (fun _ H'=>H'=upd H9 s2.heap.objs.size (.lst (ys++[v]))) I9 rfl (.cons r9 .nil) ⟨_,ys,v,rfl,rfl,d9,z9,rfl⟩) fun _ s10 rz2=>?_
    obtain ⟨_,H10,I10,_,e10⟩:=rz2;subst e10;obtain ⟨k1,k2⟩:=kp I10;exact ⟨m',hm,i+1,ys++[v],σ'',_,l'',I10.unpinned,k1,k2,w9⟩
 exact codeAny_compStart_list (loop _ ⟨_,rfl⟩) (T.self _ 0 _ _ _ (T.keep _ _ _ st2 fun b hb o e=>hk b o e) (loop _ ⟨_,rfl⟩))
theorem C6 {X:Cx} {M:List Str} {elt tg iter:Expr} {ifs:List Expr} {scope:Scope} {pos:Pos} {own:List Str} {wi:TI} {g:TG} {tt:TT} {te:TE} (hc:X.calm=true) (hi:PI X tg iter wi)
  (hg:∀ C s2 H2 fp,PG (blk X M scope own C s2 H2 fp) tg g) (ht:∀ C s2 H2 fp,PTs (blk X M scope own C s2 H2 fp) ifs tt) (he:∀ C s2 H2 fp,PE (blk X M scope own C s2 H2 fp) elt te)
  (hB:pV X.N M X.env.scope scope own=true:=by rfl) (hs:∀ x,foldedSetIterable iter X.env x=pure x:=by intro _;rfl):PE X (.ListComp elt [⟨tg,iter,ifs,0⟩] scope pos) (tLC own.length wi g tt te):=by
 intro pins s σ H Q I h;rw [eval_ListComp];refine sV hc hi hg ht he hB hs I h fun C D s5 H4 k rz5 _ _ _ _ _ q=>?_
 obtain ⟨m,hn⟩:=rz5;exact ⟨m,hn,fun h' hs'=>⟨.ref D,H4,k h' hs',rfl,q⟩⟩
theorem q9 {X:Cx} {M:List Str} {elt tg iter:Expr} {ifs:List Expr} {scope:Scope} {pos pos' spos:Pos} {own:List Str} {wi:TI} {g:TG} {tt:TT} {te:TE} {i:Nat} {x:Str} (hc:X.calm=true) (hN:X.N.Nodup) (hxi:X.N[i]?=some x) (hx:Loc X.env.scope x)
  (hsw:swapsWith (.ListComp elt [⟨tg,iter,ifs,0⟩] scope pos) (some (.Name x pos')) spos.line X.env=pure true) (hi:PI X tg iter wi)
  (hg:∀ C s2 H2 fp,PG (blk X M scope own C s2 H2 fp) tg g) (ht:∀ C s2 H2 fp,PTs (blk X M scope own C s2 H2 fp) ifs tt) (he:∀ C s2 H2 fp,PE (blk X M scope own C s2 H2 fp) elt te)
  (hB:pV X.N M X.env.scope scope own=true:=by rfl) (hs:∀ x,foldedSetIterable iter X.env x=pure x:=by intro _;rfl) (hf:X.fn x=true\/X.env.scope.names.lookup x=some .local:=by first | exact .inl rfl | exact .inr rfl | assumption) :
  PS X (.Assign [.Name x pos'] (.ListComp elt [⟨tg,iter,ifs,0⟩] scope pos) spos) (C5 (tLC own.length wi g tt te) (kY i)):=by
 intro pins s σ H D I h;show wpAny _ _ (exec _ X.env) _ _ s;rw [exec_Assign_Name_used _ _ _ _ hsw];refine wpAny_bind (wpAny_standAt (wpAny_bind ?_));rw [arm_evalThenUse_ListComp];refine wpAny_bind (thn (sV (use:=some (assign (.Name x pos') X.env)) (Qf:=fun _ s'=>SP X pins D .next s') hc hi hg ht he hB hs I h fun C Dd s5 H4 k rz5 hC nl nc np ns q=>?_) fun _ s' hq=>wpAny_pure (wpAny_pure hq));obtain ⟨m,hn⟩:=rz5;have I5:=k s5.heap (Heap.SameBut.refl _ _);show wpAny _ _ (assign (.Name x pos') X.env (.ref Dd)) _ _ s5;refine wpAny_assign_Name (uD (v:=.ref Dd) I5 hN hxi hx rfl (fun s3 I3 rz2=>?_) hf);obtain ⟨a,sb,ha⟩:=rz2;have nCa:C≠a:=by
  rcases ha with rfl | ha
  ·exact nl
  ·exact fun z=>nc x a ha z.symm
 refine ⟨m,hn.sameBut sb nCa,fun h' hs'=>⟨_,H4,?_,q⟩⟩;have kk:∀ b o,b≠C->s3.heap.get? b=some o->h'.get? b=some o:=fun b o hb e=>(hs'.2 b hb).trans e
 refine I3.call' (s':={ s3 with heap:=h' }) (ch:=[C]) rfl ?_ ?_ I3.bare fun b hb=>?_
 ·refine ⟨fun b o e _ _ z=>kk b o (fun q=>z (by rw [q];exact KW.mpr rfl)) e,fun b o e _ _ z=>⟨o.slots,kk b o (fun q=>z (by rw [q];exact KW.mpr rfl)) e⟩,fun _ _ _ n _=>n,fun b o e z=>⟨o,kk b o (fun q=>z (by rw [q];exact KW.mpr rfl)) e⟩,fun _ _ q=>q,fun _ _ _ q=>q,fun _ _ q=>q⟩
 ·intro b o e;refine (I3.hok b o e).stay (fun c v hc q=>kk c v ?_ q) (fun _ q=>q) fun _ _ q=>q
  rintro rfl
  rcases hc with z | z
  ·subst z;rw [hC] at e;cases e
  ·rw [hC] at z;cases z
 ·rw [KW.mp hb];exact ⟨.inr ns,fun z=>nl z,nc,np⟩
mutual
def IsD (K:PySem.W.Frag) (H:Hp):PyData->V->Prop
 | .none,v=>v=.non
 | .bool b,v=>v=.bl b
 | .int i,v=>v=.int i
 | .str x,v=>v=.str x
 | .list ds,v=>∃ a xs,v=.ref a/\SqL K H a xs/\en K H ds xs
 | .tuple ds,v=>∃ a xs,v=.ref a/\SqT K H a xs/\en K H ds xs
 | .dict _,_=>False
def en (K:PySem.W.Frag) (H:Hp):List PyData->List V->Prop
 | [],vs=>vs=[]
 | d::ds,vs=>∃ v r,vs=v::r/\IsD K H d v/\en K H ds r
end
theorem aA.tupS {K:PySem.W.Frag} {H H':Hp} {a:Addr} {xs:List V} (e:aA H H') (h:SqT K H a xs):SqT K H' a xs:=by
 rcases h with (h | ⟨o,h⟩) | h
 ·exact .inl (.inl (e _ _ h))
 ·exact .inl (.inr ⟨o,e _ _ h⟩)
 ·exact .inr h
mutual
theorem IsD.same {K:PySem.W.Frag} {H H':Hp} (e:aA H H'):∀ {d:PyData} {v:V},IsD K H d v->IsD K H' d v
 | .none,_,h=>by unfold IsD at h ⊢;exact h
 | .bool _,_,h=>by unfold IsD at h ⊢;exact h
 | .int _,_,h=>by unfold IsD at h ⊢;exact h
 | .str _,_,h=>by unfold IsD at h ⊢;exact h
 | .list ds,_,h=>by unfold IsD at h ⊢;obtain ⟨a,xs,e1,h1,h2⟩:=h;exact ⟨a,xs,e1,e.seq h1,en.same e h2⟩
 | .tuple ds,_,h=>by unfold IsD at h ⊢;obtain ⟨a,xs,e1,h1,h2⟩:=h;exact ⟨a,xs,e1,e.tupS h1,en.same e h2⟩
 | .dict _,_,h=>by unfold IsD at h;exact h.elim
theorem en.same {K:PySem.W.Frag} {H H':Hp} (e:aA H H'):∀ {ds:List PyData} {vs:List V},en K H ds vs->en K H' ds vs
 | [],_,h=>by unfold en at h ⊢;exact h
 | d::ds,_,h=>by unfold en at h ⊢;obtain ⟨v,r,e1,h1,h2⟩:=h;exact ⟨v,r,e1,IsD.same e h1,en.same e h2⟩
end
section
variable {K:PySem.W.Frag} {H:Hp}
theorem wz {i:Int}:IsD K H (.int i) (.int i):=by unfold IsD;rfl
theorem DD {b:Bool}:IsD K H (.bool b) (.bl b):=by unfold IsD;rfl
theorem Dj:IsD K H .none .non:=by unfold IsD;rfl
theorem Gm {x:Str}:IsD K H (.str x) (.str x):=by unfold IsD;rfl
theorem E9 {ds:List PyData} {a:Addr} {xs:List V} (h:SqT K H a xs) (h2:en K H ds xs):IsD K H (.tuple ds) (.ref a):=by unfold IsD;exact ⟨a,xs,rfl,h,h2⟩
theorem wm {ds:List PyData} {a:Addr} {xs:List V} (h:SqL K H a xs) (h2:en K H ds xs):IsD K H (.list ds) (.ref a):=by unfold IsD;exact ⟨a,xs,rfl,h,h2⟩
theorem jC:en K H [] []:=by unfold en;rfl
theorem pC {d:PyData} {ds:List PyData} {v:V} {vs:List V} (h:IsD K H d v) (h2:en K H ds vs):en K H (d::ds) (v::vs):=by unfold en;exact ⟨v,vs,rfl,h,h2⟩
theorem IsD.ofInt {i:Int} {v:V} (h:IsD K H (.int i) v):v=.int i:=by unfold IsD at h;exact h
theorem IsD.ofBool {i:Bool} {v:V} (h:IsD K H (.bool i) v):v=.bl i:=by unfold IsD at h;exact h
theorem IsD.ofNone {v:V} (h:IsD K H .none v):v=.non:=by unfold IsD at h;exact h
theorem IsD.ofStr {x:Str} {v:V} (h:IsD K H (.str x) v):v=.str x:=by unfold IsD at h;exact h
theorem IsD.ofTup {ds:List PyData} {v:V} (h:IsD K H (.tuple ds) v):∃ a xs,v=.ref a/\SqT K H a xs/\en K H ds xs:=by unfold IsD at h;exact h
theorem IsD.ofLst {ds:List PyData} {v:V} (h:IsD K H (.list ds) v):∃ a xs,v=.ref a/\SqL K H a xs/\en K H ds xs:=by unfold IsD at h;exact h
theorem en.nil_of {vs:List V} (h:en K H [] vs):vs=[]:=by unfold en at h;exact h
theorem en.cons_of {d:PyData} {ds:List PyData} {vs:List V} (h:en K H (d::ds) vs):∃ v r,vs=v::r/\IsD K H d v/\en K H ds r:=by unfold en at h;exact h
theorem en.take:∀ {ds:List PyData} {vs:List V} (n:Nat),en K H ds vs->en K H (ds.take n) (vs.take n)
 | [],_,n,h=>by rw [h.nil_of];simpa using jC
 | d::ds,_,0,h=>by simpa using jC
 | d::ds,_,n+1,h=>by obtain ⟨v,r,e,h1,h2⟩:=h.cons_of;subst e;exact pC h1 (en.take n h2)
theorem en.drop:∀ {ds:List PyData} {vs:List V} (n:Nat),en K H ds vs->en K H (ds.drop n) (vs.drop n)
 | [],_,n,h=>by rw [h.nil_of];simpa using jC
 | d::ds,_,0,h=>h
 | d::ds,_,n+1,h=>by obtain ⟨v,r,e,h1,h2⟩:=h.cons_of;subst e;exact en.drop n h2
theorem uh:∀ (ns:List Int),en K H (ns.map PyData.int) (ns.map V.int)
 | []=>jC
 | _::r=>pC wz (uh r)
end
section
variable {X:Cx} {pins:List (Addr×Obj)} {σ:St} {H:Hp} {s:Shared}
mutual
theorem Inv.reads (I:Inv X pins σ H s):∀ {d:PyData} {v:V} {u:Value},IsD X.K H d v->RelV v u->∃ as,Reads s.heap u d as
 | .none,_,_,h,r=>by rw [h.ofNone] at r;cases r;exact ⟨_,.none⟩
 | .bool _,_,_,h,r=>by rw [h.ofBool] at r;cases r;exact ⟨_,.bool _⟩
 | .int _,_,_,h,r=>by rw [h.ofInt] at r;obtain ⟨t,rfl⟩:=r;exact ⟨_,.int _ _⟩
 | .str _,_,_,h,r=>by rw [h.ofStr] at r;obtain ⟨t,rfl⟩:=r;exact ⟨_,.str _ _⟩
 | .list ds,_,_,h,r=>by obtain ⟨a,xs,e,h1,h2⟩:=h.ofLst;subst e;cases r;obtain ⟨its,rv,⟨o,n,g,c,_,d⟩,_⟩:=I.list h1;obtain ⟨as,ra⟩:=Inv.readsAll I h2 rv;exact ⟨_,.list g c d (by simpa using ra)⟩
 | .tuple ds,_,_,h,r=>by obtain ⟨a,xs,e,h1,h2⟩:=h.ofTup;subst e;cases r;obtain ⟨its,rv,⟨o,g,c,n,d⟩,_⟩:=I.tuple h1;obtain ⟨as,ra⟩:=Inv.readsAll I h2 rv;exact ⟨_,.tuple g c d (by simpa using ra)⟩
 | .dict _,_,_,h,_=>by unfold IsD at h;exact h.elim
theorem Inv.readsAll (I:Inv X pins σ H s):∀ {ds:List PyData} {vs:List V} {us:List Value},en X.K H ds vs->Vals vs us->∃ as,ReadsAll s.heap us ds as
 | [],_,_,h,r=>by rw [h.nil_of] at r;cases r;exact ⟨_,.nil⟩
 | d::ds,_,_,h,r=>by
  obtain ⟨v,t,e,h1,h2⟩:=h.cons_of;subst e;cases r with
  | cons r1 r2 =>obtain ⟨as,q1⟩:=Inv.reads I h1 r1;obtain ⟨bs,q2⟩:=Inv.readsAll I h2 r2;exact ⟨_,.cons q1 q2⟩
end
open PySem.SeqAt in
theorem zf (hu:X.A.units+64<cLine):OpR X (compareOp .Eq) (fun x y H Q=>∃ d e,IsD X.K H d x/\IsD X.K H e y/\shaped d=true/\shaped e=true/\Q (.bl (PyData.eqv d e)) H):=by intro pins s σ H x y v u Q I rx ry h;obtain ⟨d,e,hd,he,sd,se,q⟩:=h;obtain ⟨as,ra⟩:=I.reads hd rx;obtain ⟨bs,rb⟩:=I.reads he ry;exact eq_dataH ra rb sd se hu ⟨.bl _,H,I,rfl,q⟩
open PySem.SeqAt in
theorem Hu (hu:X.A.units+64<cLine):OpR X (compareOp .NotEq) (fun x y H Q=>∃ d e,IsD X.K H d x/\IsD X.K H e y/\shaped d=true/\shaped e=true/\Q (.bl (!PyData.eqv d e)) H):=by intro pins s σ H x y v u Q I rx ry h;obtain ⟨d,e,hd,he,sd,se,q⟩:=h;obtain ⟨as,ra⟩:=I.reads hd rx;obtain ⟨bs,rb⟩:=I.reads he ry;exact ne_dataH ra rb sd se hu ⟨.bl _,H,I,rfl,q⟩
def tyD:PyData->String
 | .none=>"NoneType"
 | .bool _=>"bool"
 | .int _=>"int"
 | .str _=>"str"
 | .list _=>"list"
 | .tuple _=>"tuple"
 | .dict _=>"dict"
def wt (d:PyData) (T:String):Bool:=tyD d==T || (T=="int"&&tyD d=="bool")
theorem F0 (K:PySem.W.Frag) {a T:String} (ha:a∈["NoneType", "bool", "int", "str", "list", "tuple"]) (hT:T∈["bool", "int", "list", "tuple"]) :
  PySem.W.kitOne K (.type a) (.type T)=some (a==T || (T=="int"&&a=="bool")):=by
 simp only [K6,L7,or_false] at ha hT;rcases ha with rfl | rfl | rfl | rfl | rfl | rfl <;> rcases hT with rfl | rfl | rfl | rfl <;> rfl
theorem EH {H:Hp} {K:PySem.W.Frag} {d:PyData} {v:V} (h:IsD K H d v):tyD d∈["NoneType", "bool", "int", "str", "list", "tuple"]:=by
 cases d with
 | dict _=>unfold IsD at h;exact h.elim
 | _=>simp [tyD]
theorem yg:kr X (.builtin "isinstance") (fun xs H Q=>∃ d v T,xs=[v,.ty T]/\IsD X.K H d v/\T∈["bool", "int", "list", "tuple"]/\Q (.bl (wt d T)) H):=by
 intro pins s σ H xs us Q I r h;obtain ⟨d,v,T,rfl,hd,hT,q⟩:=h;obtain ⟨u,c,rfl,r1,r2⟩:=vals2 r;cases r2;have e:PySem.W.kitOne X.K (.type (tyD d)) (.type T)=some (wt d T):=F0 X.K (EH hd) hT;have fin:∀ tk,EP X pins σ Q (.bool (wt d T)) { s with toks:=tk }:=fun tk=>⟨.bl _,H,I.tok tk,rfl,q⟩
 cases d with
 | none=>rw [hd.ofNone] at r1;cases r1;exact PySem.W.kia_one PySem.W.kitx_none I.kIn True.intro e (fun z=>nomatch z) fin
 | bool b=>rw [hd.ofBool] at r1;cases r1;exact PySem.W.kia_one PySem.W.kitx_bool I.kIn True.intro e (fun z=>nomatch z) fin
 | int i=>rw [hd.ofInt] at r1;obtain ⟨t,rfl⟩:=r1;exact PySem.W.kia_one PySem.W.kitx_int I.kIn True.intro e (fun z=>nomatch z) fin
 | str x=>rw [hd.ofStr] at r1;obtain ⟨t,rfl⟩:=r1;exact PySem.W.kia_one PySem.W.kitx_str I.kIn True.intro e (fun z=>nomatch z) fin
 | list ds =>obtain ⟨a,xs,e1,h1,h2⟩:=hd.ofLst;subst e1;cases r1;obtain ⟨its,rv,⟨o,n,g,c,_,_⟩,_⟩:=I.list h1;exact PySem.W.kia_one PySem.W.kitx_list I.kIn ⟨o,g,c⟩ e (fun z=>nomatch z) fin
 | tuple ds =>obtain ⟨a,xs,e1,h1,h2⟩:=hd.ofTup;subst e1;cases r1;obtain ⟨its,rv,⟨o,g,c,n,_⟩,_⟩:=I.tuple h1;exact PySem.W.kia_one PySem.W.kitx_tuple I.kIn ⟨o,g,c⟩ e (fun z=>nomatch z) fin
 | dict _=>unfold IsD at hd;exact hd.elim
theorem sq:∀ {bs:List Bool} {us:List Value},Vals (bs.map V.bl) us->LSm.BoolsAre us bs
 | [],_,.nil=>.nil
 | b::r,_,.cons h t=>by cases (show _=Value.bool b from h);exact .cons b (sq t)
theorem CF (hc:X.calm=true):kr X (.builtin "all") (fun xs H Q=>∃ (a:Addr) (bs:List Bool),xs=[.ref a]/\SqL X.K H a (bs.map V.bl)/\Q (.bl (bs.all id)) H):=by
 intro pins s σ H xs us Q I r h;obtain ⟨a,bs,rfl,hS,q⟩:=h;obtain ⟨u,rfl,r1⟩:=vals1 r;cases r1;obtain ⟨its,rv,p,_⟩:=I.list hS;have hl:=p.isList;have hb:=sq rv;have hlt:a<s.heap.objs.size:=by obtain ⟨_,e,_⟩:=hl;exact KR e
 refine call_all_walk (wpAny_pyIter_list hl ?_);refine ⟨s.heap.objs.size,[s.heap.objs.size,a],[s.heap.objs.size],its.toArray.size,_,_,fun i=>(bs[i]?).getD true,rfl,Walks.list (A:=X.A.in1) (I.ok.hd hc) _ a (KY hlt) its.toArray,
  ⟨⟨_,KZ _ rfl,rfl,rfl⟩,hl.push _⟩,fun i v s' Q' E' hP hQ=>?_,fun h' tk hk=>?_⟩
 ·obtain ⟨b,e,rfl⟩:=hb.get i v (by simpa using hP);simp only [e,Option.getD_some] at hQ;exact wpAny_truthy_bool hQ
 ·have e:((List.range its.toArray.size).all fun i=>(bs[i]?).getD true)=bs.all id:=by rw [L0,hb.length];exact LSm.range_all bs
  rw [e];exact ⟨.bl _,H,I.kept (LSm.kept_iter hk),rfl,q⟩
theorem C4 (hc:X.calm=true):kr X (.builtin "sum") (fun xs H Q=>∃ (a:Addr) (ns:List Int),xs=[.ref a]/\SqL X.K H a (ns.map V.int)/\Q (.int ns.sum) H):=by
 intro pins s σ H xs us Q I r h;obtain ⟨a,ns,rfl,hS,q⟩:=h;obtain ⟨u,rfl,r1⟩:=vals1 r;cases r1;obtain ⟨its,rv,p,_⟩:=I.list hS;have hi:IntsAre its ns:=intsAre_of rv;obtain ⟨xs,hx⟩:=hi.allInts.items;have hl':s.heap.IsList a (intItems xs):=hx▸p.isList;refine sum_intListG (I.ok.hd hc) hl' fun h' tk t' hk=>?_
 have e1:ns=xs.toList.map (·.1):=by rw [<-nums_intItems,<-hx];exact (show numsOf its.toArray.toList=ns from hi.numsOf).symm
 have e2:preSum (numAt xs) xs.size=ns.sum:=by rw [preSum_eq,List.take_of_length_le (by simp),e1]
 rw [e2];exact ⟨.int _,H,I.kept hk,⟨_,rfl⟩,q⟩
end
structure KH (P:Program) (w:World) (outer:List Env) (H:Hp) (s:Shared) (H':Hp) (B:Heap) (ea:Addr) (cls a0:Value) (s':Shared):Prop where
 os:s'.os=s.os
 bare:AllBare s'.gens
 hok:HOk P w H' B
 keep:∀ b o,s.heap.get? b=some o->H b=none->b∉frs outer->B.get? b=some o
 there:∀ b o,s.heap.get? b=some o->b∉frs outer->∃ o',B.get? b=some o'
 slot:∀ b o,s.heap.get? b=some o->b∈frs outer->∃ sl,s'.heap.get? b=some { o with slots:=sl }
 free:∀ b o,s.heap.get? b=some o->H b=none->H' b=none
 tups:∀ b xs,H b=some (.tup xs)->H' b=some (.tup xs)
 frzs:∀ b o u,H b=some (.frz o u)->H' b=some (.frz o u)
 tbls:∀ b q,H b=some (.tbl q)->H' b=some (.tbl q)
 fly:Heap.FlyingW B outer ea cls a0 s'.heap
def CXW (P:Program) (w:World):CXT:=fun outer H s E e s'=>∃ ea cls a0 H' B,e=.ref ea/\E cls none H'/\KH P w outer H s H' B ea cls a0 s'
section
variable {P:Program} {w:World} {K:PySem.W.Frag} {mg:Str->Option Value} {base:Heap} {N:List Str} {qual:Str} {scope:Scope} {f:Addr} {cd:Value} {A:Around} {outer:List Env} {s:Shared} {H:Hp} {E:XK}
theorem yi {env:Env} {L:Addr} (hf:env.frame=some L):frs (env::outer)=L::frs outer:=by unfold frs;rw [Mm,hf]
theorem yj {CX:CXT} {pins:List (Addr×Obj)} {σ:St} {H1:Hp} {s1:Shared} {h':Heap} {ea:Addr} {cls:Value} {vs:List Value}
  (I:Inv (eF (CXW P w) P w K mg base N qual scope f cd A outer s H E) pins σ H1 s1) (hx:Heap.MadeExcOf s1.heap h' ea cls vs) (hE:E cls none H1) :
  (eF (CXW P w) P w K mg base N qual scope f cd A outer s H E).xe (.ref ea) { s1 with heap:=h' }:=by
 have hst:=I.stack;have hfs:frs (eF (CXW P w) P w K mg base N qual scope f cd A outer s H E).stack=s.heap.objs.size::frs outer:=yi rfl;have hin:∀ env∈(eF (CXW P w) P w K mg base N qual scope f cd A outer s H E).stack,∀ b,env.frame=some b->b∈frs (eF (CXW P w) P w K mg base N qual scope f cd A outer s H E).stack:=fun env he b hb=>MJ.mpr ⟨env,he,hb⟩
 have out:∀ b o,s.heap.get? b=some o->b∉frs outer->b∉frs (eF (CXW P w) P w K mg base N qual scope f cd A outer s H E).stack:=fun b o e n z=>by
  rw [hfs] at z;rcases K6.mp z with z | z
  ·rw [z] at e;exact absurd (KR e) (LX _)
  ·exact n z
 refine wpAny_leaves_madeW (base:=PySem.W.hideAll s1.heap (frs (eF (CXW P w) P w K mg base N qual scope f cd A outer s H E).stack)) I.ok.frames rfl (fun b o q=>PySem.W.of_hideAll _ q) (PySem.W.funFrames_hide hst hin) hx fun h2 t x1 x2 x3 x4=>?_
 refine ⟨ea,cls,.ref t,H1,_,rfl,hE,⟨I.os,I.bare,?_,?_,?_,?_,?_,I.base.tups,I.base.frzs,I.base.tbls,x1⟩⟩
 ·intro a o e;refine (I.hok a o e).stay (fun b u hb q=>PySem.W.hideAll_get _ q fun z=>?_) (fun _ q=>q) fun _ _ q=>q
  have:=I.stkFree b z;rcases hb with hb | hb
  ·rw [hb,e] at this;cases this
  ·rw [hb] at this;cases this
 ·intro b o e n hb;exact PySem.W.hideAll_get _ (I.base.keep b o e n hb (L7)) (out b o e hb)
 ·intro b o e hb;obtain ⟨o',q⟩:=I.base.there b o e (L7);exact ⟨o',PySem.W.hideAll_get _ q (out b o e hb)⟩
 ·intro b o e hb;obtain ⟨sl,q⟩:=I.base.slot b o e (I.ok.frf b hb) hb (L7);obtain ⟨_,o2,q2,d2⟩:=I.ok.funs.mem hb;have q2:s.heap.get? b=some o2:=q2;rw [e] at q2;cases q2;obtain ⟨sl2,q3⟩:=x4 b _ (hx.keeps b _ q) d2;exact ⟨sl2,q3⟩
 ·intro b o e n;exact I.base.free b o e n (L7)
theorem a9:Passes (CXW P w) (eF (CXW P w) P w K mg base N qual scope f cd A outer s H E) E:=by
 intro pins σ H1 s1 e s2 I hc;obtain ⟨ea,cls,a0,H2,B,rfl,hE,F⟩:=hc;have hfs:frs (eF (CXW P w) P w K mg base N qual scope f cd A outer s H E).stack=s.heap.objs.size::frs outer:=yi rfl;have out:∀ b o,s.heap.get? b=some o->b∉frs outer->b∉frs (eF (CXW P w) P w K mg base N qual scope f cd A outer s H E).stack:=fun b o e n z=>by
  rw [hfs] at z;rcases K6.mp z with z | z
  ·rw [z] at e;exact absurd (KR e) (LX _)
  ·exact n z
 refine wpAny_leaves_onW I.ok.frames rfl F.fly fun h2 x1 x2=>⟨ea,cls,a0,H2,B,rfl,hE,⟨F.os.trans I.os,F.bare,F.hok,?_,?_,?_,?_,?_,?_,?_,x1⟩⟩
 ·intro b o e n hb;exact F.keep b o (I.base.keep b o e n hb (L7)) (I.base.free b o e n (L7)) (out b o e hb)
 ·intro b o e hb;obtain ⟨o',q⟩:=I.base.there b o e (L7);exact F.there b o' q (out b o e hb)
 ·intro b o e hb;obtain ⟨sl,q⟩:=I.base.slot b o e (I.ok.frf b hb) hb (L7);obtain ⟨_,o2,q2,d2⟩:=I.ok.funs.mem hb;have q2:s.heap.get? b=some o2:=q2;rw [e] at q2;cases q2;obtain ⟨sl1,q1⟩:=F.slot b _ q (by rw [hfs];exact K0 _ hb);obtain ⟨sl2,q3⟩:=x2 b _ q1 d2;exact ⟨sl2,q3⟩
 ·intro b o e n;obtain ⟨o',q⟩:=I.base.there b o e (L7);exact F.free b o' q (I.base.free b o e n (L7))
 ·intro b xs e;exact F.tups b xs (I.base.tups b xs e)
 ·intro b o u e;exact F.frzs b o u (I.base.frzs b o u e)
 ·intro b ps e;exact F.tbls b ps (I.base.tbls b ps e)
end
theorem F2 {K:PySem.W.Frag} {h:Heap} {C:Addr} {bmB:List Value} {newId:String} (X:K.In h) (q:PySem.W.excIn K C bmB newId=true) :
  ∃ bm N nm qn bs hdct sn sub ab col dd k0 k1 k2 k3 k5 mN,h.get? C=some (excClassObj nm qn C N bs bm hdct sn sub ab col dd k0 k1 k2 k3 k5 newId)/\h.Ns N mN/\mN "__init__"=none/\OwnTail h bmB bm:=by
 unfold PySem.W.excIn at q;split at q
 ·rename_i d1 c1 l1 g1;split at q
  ·rename_i C2 bm2 j0 j1 j2 j3 n2 j5 hm hs;simp only [K9,beq_iff_eq,Bool.not_eq_true'] at q;obtain ⟨⟨⟨⟨⟨q1,q2⟩,q3⟩,q4⟩,q5⟩,q6⟩:=q;subst q1;subst q2;obtain ⟨z1,z2,z3,z4,z5,z6,z7,z8,z9,z10,z11⟩:=c1;dsimp only at hm q3 q5 q6;subst hm;subst q3;have hl:l1=#[j0,j1,j2,j3,some (.builtin n2),j5]:=by obtain ⟨l⟩:=l1;have hs':l=_:=hs;rw [hs']
   subst hl;exact ⟨bm2,z4,z1,z5,z2,z6,z7,z8,z9,z10,d1,j0,j1,j2,j3,j5,_,X _ _ g1,.of_isNs (PySem.W.isNs_of_in X q5),PySem.W.nsMap_none_of_in X q5 q6,PySem.W.tail_of_in X q4⟩
  ·cases q
 ·cases q
def yG (X:Cx) (E:XK):Prop:=∀ (pins:List (Addr×Obj)) (σ:St) (H:Hp) (s:Shared) (h':Heap) (ea:Addr) (cls:Value) (vs:List Value),Inv X pins σ H s->Heap.MadeExcOf s.heap h' ea cls vs->E cls none H->X.xe (.ref ea) { s with heap:=h' }
def Iz (C:Addr) (E:XK) (t:TA):TS:=fun _ σ H=>t σ H fun vs H1=>vs.length<=sizeLine/\E (.ref C) none H1
theorem Cz {X:Cx} {E:XK} {x:Str} {C:Addr} {B newId initId:String} {bm:List Value} {np cpos pos:Pos} {e:Expr} {es:List Expr} {t:TA} (hc:X.calm=true) (M:yG X E) (FB:ExcBaseFacts B newId initId bm) (hg:Gl X x) (hm:X.mg x=some (.ref C)) (hC:PySem.W.excIn X.K C bm newId=true)
  (ha:PA X (e::es) t) (hdb:(x==("__debug__":Str))=false:=by decide) (he:starEach (e::es) X.env=(false,eval e X.env)::starEach es X.env:=by rfl) (hpl:(backTo cpos (starEach es X.env)).any (·.1)=false:=by rfl) :
  PS X (.Raise (some (.Call (.Name x np) (e::es) [] cpos)) none pos) (Iz C E t):=by
 intro pins s σ H D I h;obtain ⟨tl,N,nm,q,bs,hdct,sn,sub,ab,col,dd,k0,k1,k2,k3,k5,mN,hC0,hN,hni,T⟩:=F2 I.mod.kin hC;refine wpAny_Raise_call_subT (C:=C) (nm:=nm) (q:=q) (N:=N) (bs:=bs) (bm:=tl) (hdct:=hdct) (sn:=sn) (sub:=sub) (ab:=ab) (col:=col) (dd:=dd) (k0:=k0) (k1:=k1) (k2:=k2) (k3:=k3) (k5:=k5)
  FB (mN:=mN) (T.hasType FB.hasBase) (I.ok.hd hc) (by rw [he];show (false || (backTo cpos (starEach es X.env)).any (·.1))=false;rw [hpl];rfl) hni (ql I hg hm ⟨rfl,?_⟩ hdb)
 have q0:=ha cpos pins s σ H _ I h;rw [he] at q0 ⊢;refine Calls.evalArgs_plain (wpAny_mono q0 (fun us s2 h2=>?_) fun _ _ y=>y);obtain ⟨vs,H2,I2,rv,z,hE⟩:=h2;exact ⟨rfl,by rw [<-rv.length];exact z,I2.bk _ _ hC0,hN.keeps I2.bk,T.keeps I2.bk,fun h' ea hx=>M pins σ H2 s2 h' ea _ _ I2 hx hE⟩
theorem iA {H:Hp} {D:Addr} {o:HO} (h:H D=none):aA H (upd H D o):=fun b u e=>by rw [aL (aX e h)];exact e
theorem aA.put {H H':Hp} {D:Addr} {o:HO} (s:aA H H') (h:H D=none):aA H (upd H' D o):=fun b u e=>by rw [aL (aX e h)];exact s b u e
mutual
def fQ:PyData->Bool
 | .list _=>false
 | .tuple ds=>mF ds
 | .dict _=>false
 | _=>true
def mF:List PyData->Bool
 | []=>true
 | d::ds=>fQ d&&mF ds
end
theorem set_own (σ:St) (x:Option V) (v:V) (σ':St) (h:σ'.length=1):(σ++σ').set σ.length (some v)=σ++[some v]:=by obtain ⟨y,rfl⟩:=List.length_eq_one_iff.mp h;simp
structure Rows (H H':Hp) (D:Addr) (qs:List Addr) (rs:List (List Int)):Prop where
 d:H' D=some (.lst (qs.map V.ref))
 len:qs.length=rs.length
 at':∀ (i:Nat) q r,qs[i]?=some q->rs[i]?=some r->H' q=some (.lst (r.map V.int))
 new:∀ q∈qs,H q=none
 nd:qs.Nodup
 nD:D∉qs
section
variable {prog:Program} {w:World} {A:Around} {E:Value->Shared->Prop} {s:Shared}
theorem zh {it t:Addr} {i:Nat} {its:Array Value} {x:Value} {Q:Value->Shared->Prop} (hi:s.heap.IsTupleIter it t i) (ht:s.heap.IsTuple t its) (hx:its[i]?=some x)
  (hQ:∀ h',h'.IsTupleIter it t (i+1)->Heap.SameBut it s.heap h'->Q x { s with heap:=h' }):wpAny (model prog w) A (Builtin.SmallTypes.nextOf (.ref it)) Q E s:=by
 obtain ⟨oi,gi,ci,di⟩:=id hi;obtain ⟨ot,gt,_,nt,dt⟩:=ht;unfold Builtin.SmallTypes.nextOf;refine wpAny_bind (wpAny_callSpecial?_slot (name:=Str.ofString "__next__") hi.typeIs F.slot_tuple_iterator_next (wpAny_call_entry F.slot_tuple_iterator_next hi.typeIs F.entry_tuple_iterator_next ?_ (F.args_tuple_iterator_next_1 _)));refine wpAny_bind (m:=field (.ref it) 0) (wpAny_field gi di (x:=.ref t) rfl ?_);show wpAny (model prog w) _ (if (Value.ref t==Value.none)=true then _ else _) _ _ s;have nn:¬ (Value.ref t==Value.none)=true:=fun q=>L9 q
 rw [if_neg nn];refine wpAny_bind (m:=field (.ref it) 1) (wpAny_field gi di (x:=.int i 0) rfl ?_);refine wpAny_bind (m:=seqItems? (.ref t)) (wpAny_seqItems gt dt ?_);simp only [Ll,hx];refine wpAny_bind (wpAny_setField gi di (by simp) (wpAny_pure ⟨x,rfl,wpAny_pure (hQ _ ⟨_,Heap.get?_update_self _ gi (Obj.isFreed_of_fields (Obj.data_mapFields di _)),(Obj.cls_mapFields ..).trans ci,?_⟩ (Heap.SameBut.update ..))⟩));rw [Obj.data_mapFields di];simp [rawInt]
theorem rO {it t:Addr} {i:Nat} {its:Array Value} {Q:Value->Shared->Prop} (hh:A.handled=none) (hi:s.heap.IsTupleIter it t i) (ht:s.heap.IsTuple t its) (hx:its[i]?=none)
  (hE:∀ h' e,Heap.ExtBut it s.heap h'->(∃ o,h'.get? e=some o/\o.cls=.type "StopIteration")->E (.ref e) { s with heap:=h' }):wpAny (model prog w) A (Builtin.SmallTypes.nextOf (.ref it)) Q E s:=by
 obtain ⟨oi,gi,ci,di⟩:=id hi;obtain ⟨ot,gt,_,nt,dt⟩:=ht;unfold Builtin.SmallTypes.nextOf;refine wpAny_bind (wpAny_callSpecial?_slot (name:=Str.ofString "__next__") hi.typeIs F.slot_tuple_iterator_next (wpAny_call_entry F.slot_tuple_iterator_next hi.typeIs F.entry_tuple_iterator_next ?_ (F.args_tuple_iterator_next_1 _)));refine wpAny_bind (m:=field (.ref it) 0) (wpAny_field gi di (x:=.ref t) rfl ?_);show wpAny (model prog w) _ (if (Value.ref t==Value.none)=true then _ else _) _ _ s;have nn:¬ (Value.ref t==Value.none)=true:=fun q=>L9 q
 rw [if_neg nn];refine wpAny_bind (m:=field (.ref it) 1) (wpAny_field gi di (x:=.int i 0) rfl ?_);refine wpAny_bind (m:=seqItems? (.ref t)) (wpAny_seqItems gt dt ?_);simp only [Ll,hx];refine wpAny_bind (wpAny_rule (wpAny_bind (wpAny_setField gi di (by simp) ?_)));refine wpAny_bind (m:=newExc (.type "StopIteration") []) ?_;unfold newExc newTuple;refine wpAny_bind (wpAny_newObj_type ?_ (by size_fits ));refine wpAny_bind (m:=firstArgMember _ _) (wpAny_of_eq (a:=Value.none) (by first | rfl | (unfold firstArgMember;rfl)) ?_);refine wpAny_newObj_type ?_ (by size_fits );unfold raiseNew;refine wpAny_bind (wpAny_handled ?_)
 first | rw [show A.in1.handled=none from hh] | rw [hh]
 refine wpAny_bind (wpAny_pure (wpAny_throw ?_));refine hE _ _ (fun b o hb e=>?_) ⟨_,KZ _ rfl,rfl⟩;exact K2 _ (K2 _ ((Mu _ _ (Ne.symm hb)).trans e))
theorem nZ (hh:A.handled=none) (it t:Addr) (hne:t≠it) (its:Array Value):Draws prog w A it [it,t] its.size (fun i v=>its[i]?=some v) (fun i h=>h.IsTupleIter it t i/\h.IsTuple t its) where
 live:=fun _ _ st=>by obtain ⟨⟨o,g,_⟩,_⟩:=st;exact ⟨o,g⟩
 frame:=fun _ _ _ st k=>by obtain ⟨⟨o,g,r⟩,⟨o2,g2,r2⟩⟩:=st;exact ⟨⟨o,k it (by simp) o g,r⟩,⟨o2,k t (by simp) o2 g2,r2⟩⟩
 item:=fun i s Q E hi st hQ=>zh st.1 st.2 (x:=its[i]) (by simp [hi]) fun h' i' sb=>by refine hQ _ h' s.toks (by simp [hi]) ⟨i',?_⟩ sb;obtain ⟨o2,g2,r2⟩:=st.2;exact ⟨o2,(sb.2 t hne).trans g2,r2⟩
 done:=fun s Q E st hE=>rO hh st.1 st.2 (by simp) hE
end
structure oz (z TI TO i1 i2:Addr) (f1 f2:List Addr):Prop where
 TIz:TI≠z
 TOz:TO≠z
 z1:i1≠z
 z2:i2≠z
 TIO:TI≠TO
 TI1:TI≠i1
 TI2:TI≠i2
 TO1:TO≠i1
 TO2:TO≠i2
 i12:i1≠i2
 a1:∀ b∈f1,b≠z/\b≠TO/\b≠i2
 a2:∀ b∈f2,b≠z/\b≠TO/\b≠i1
section
variable {prog:Program} {w:World} {A:Around} {E:Value->Shared->Prop} {s:Shared} {z TI TO i1 i2:Addr} {f1 f2:List Addr} {n1 n2 k:Nat} {P1 P2:Nat->Value->Prop} {S1 S2:Nat->Heap->Prop} {a b:Value}
theorem Cn (D1:Draws prog w A i1 f1 n1 P1 S1) (D2:Draws prog w A i2 f2 n2 P2 S2) (Z:oz z TI TO i1 i2 f1 f2) {Q:Value->Shared->Prop} (hz:IsZip s.heap z TI TO .none) (hI:IsPair s.heap TI (.ref i1) (.ref i2)) (hO:IsPair s.heap TO a b)
  (st1:S1 k s.heap) (st2:S2 k s.heap) (k1:k<n1) (k2:k<n2)
  (hQ:∀ h' x y tk,P1 k x->P2 k y->IsZip h' z TI TO (rawInt s.heap.objs.size)->IsPair h' TO x y->S1 (k+1) h'->S2 (k+1) h'->IsPair h' s.heap.objs.size x y ->
   (∀ c o,c≠z->c≠TO->c≠i1->c≠i2->s.heap.get? c=some o->h'.get? c=some o)->Q (.ref s.heap.objs.size) { s with heap:=h',toks:=tk }) :
  wpAny (model prog w) A (Builtin.«zip.__next__» ⟨[.ref z],[]⟩) (fun fin s'=>∃ v,fin=.done (.ret v)/\Q v s') E s:=by
 refine wpAny_bind (m:=field (.ref z) 2) (wpAny_field hz rfl (x:=.bool false) rfl ?_);refine wpAny_bind (m:=field (.ref z) 3) (wpAny_field hz rfl (x:=.ref TI) rfl ?_);refine wpAny_bind (wpAny_seqItems hI rfl ?_);refine wpAny_bind (m:=Builtin.SmallTypes.ownedTupleIsFree (.ref z)) ?_;unfold Builtin.SmallTypes.ownedTupleIsFree;refine wpAny_bind (wpAny_field hz rfl (x:=.none) rfl (wpAny_pure ?_));rw [if_pos (by rfl)];refine wpAny_bind (wpAny_rule (wpAny_bind (wpAny_field hz rfl (x:=.ref TO) rfl (wpAny_bind (wpAny_setField_rec hz (by simp) fun g1 y1 e1=>?_)))));have y1:IsZip g1 z TI TO .ellipsis:=y1;refine wpAny_bind ?_;simp only [List.zipIdx_cons,List.zipIdx_nil,Mo,List.forIn_nil];refine wpAny_bind (wpAny_bind (wpAny_onRaise (wpAny_bind (m:=Builtin.SmallTypes.nextOf (.ref i1)) ?_)));have u1:S1 k g1:=D1.frame _ _ _ st1 fun b hb o e=>(e1.2 b (Z.a1 b hb).1).trans e
 refine D1.item k { s with heap:=g1 } _ _ k1 u1 fun x g2 t2 px v1 e2=>wpAny_pure ?_
 have o2:IsPair g2 TO a b:=(e2.2 TO Z.TO1).trans ((e1.2 TO Z.TOz).trans hO);refine wpAny_bind (wpAny_seqItems (s:={ s with heap:=g2,toks:=t2 }) o2 rfl (wpAny_bind (wpAny_updateSeq_pair o2 fun g3 o3 e3=>?_)));have o3:IsPair g3 TO x b:=o3;refine wpAny_bind (wpAny_letGo (wpAny_pure (wpAny_bind (wpAny_bind (wpAny_onRaise (wpAny_bind (m:=Builtin.SmallTypes.nextOf (.ref i2)) ?_))))));have u2:S2 k g3:=D2.frame _ _ _ st2 fun b hb o e=>(e3.2 b (Z.a2 b hb).2.1).trans ((e2.2 b (Z.a2 b hb).2.2).trans ((e1.2 b (Z.a2 b hb).1).trans e))
 refine D2.item k { s with heap:=g3,toks:=t2 } _ _ k2 u2 fun y g4 t4 py v2 e4=>wpAny_pure ?_
 have o4:IsPair g4 TO x b:=(e4.2 TO Z.TO2).trans o3;refine wpAny_bind (wpAny_seqItems (s:={ s with heap:=g4,toks:=t4 }) o4 rfl (wpAny_bind (wpAny_updateSeq_pair o4 fun g5 o5 e5=>?_)));have o5:IsPair g5 TO x y:=o5;refine wpAny_bind (wpAny_letGo (wpAny_pure (wpAny_pure (wpAny_bind (wpAny_seqItems (s:={ s with heap:=g5,toks:=t4 }) o5 rfl (wpAny_bind (wpAny_newTuple ?_)))))));have sz:g5.objs.size=s.heap.objs.size:=by rw [e5.1,e4.1,e3.1,e2.1,e1.1]
 have y5:IsZip g5 z TI TO .ellipsis:=(e5.2 z Z.TOz.symm).trans ((e4.2 z Z.z2.symm).trans ((e3.2 z Z.TOz.symm).trans ((e2.2 z Z.z1.symm).trans y1)));have kp5:∀ c o,c≠z->c≠TO->c≠i1->c≠i2->s.heap.get? c=some o->g5.get? c=some o:=fun c o c1 c2 c3 c4 e =>
  (e5.2 c c2).trans ((e4.2 c c4).trans ((e3.2 c c2).trans ((e2.2 c c3).trans ((e1.2 c c1).trans e))))
 have w1:S1 (k+1) g5:=D1.frame _ _ _ v1 fun b hb o e=>(e5.2 b (Z.a1 b hb).2.1).trans ((e4.2 b (Z.a1 b hb).2.2).trans ((e3.2 b (Z.a1 b hb).2.1).trans e))
 have w2:S2 (k+1) g5:=D2.frame _ _ _ v2 fun b hb o e=>(e5.2 b (Z.a2 b hb).2.1).trans e
 have zl:z<g5.objs.size:=KR y5;refine wpAny_bind (m:=Builtin.SmallTypes.ownedTupleHandOut (.ref z) (.ref g5.objs.size)) ?_;unfold Builtin.SmallTypes.ownedTupleHandOut;have y6:IsZip (g5.push { cls:=.type "tuple",data:=.seq #[x,y] }) z TI TO .ellipsis:=K2 _ y5;refine wpAny_bind (wpAny_setField_rec y6 (by simp) fun g7 y7 e7=>?_);have y7:IsZip g7 z TI TO (rawInt g5.objs.size):=y7;refine wpAny_setField_rec y7 (by simp) fun g8 y8 e8=>?_
 have y8:IsZip g8 z TI TO (rawInt g5.objs.size):=y8;have up:∀ c o,c≠z->g5.get? c=some o->g8.get? c=some o:=fun c o c1 e=>(e8.2 c c1).trans ((e7.2 c c1).trans (K2 _ e))
 have pr:IsPair g8 g5.objs.size x y:=(e8.2 _ (LA zl)).trans ((e7.2 _ (LA zl)).trans (KZ _ rfl));refine wpAny_pure ⟨_,rfl,?_⟩;rw [sz] at y8 pr;show Q (.ref g5.objs.size) _;rw [sz];exact hQ g8 x y t4 px py y8 (up _ _ Z.TOz o5) (D1.frame _ _ _ w1 fun b hb o e=>up b o (Z.a1 b hb).1 e) (D2.frame _ _ _ w2 fun b hb o e=>up b o (Z.a2 b hb).1 e) pr fun c o c1 c2 c3 c4 e=>up c o c1 (kp5 c o c1 c2 c3 c4 e)
theorem Ep (D1:Draws prog w A i1 f1 n1 P1 S1) (Z:oz z TI TO i1 i2 f1 f2) {Q:Fin->Shared->Prop} (hz:IsZip s.heap z TI TO .none) (hI:IsPair s.heap TI (.ref i1) (.ref i2)) (hO:IsPair s.heap TO a b) (st1:S1 n1 s.heap)
  (hE:∀ h' e,(∀ c o,c≠z->c≠TO->c≠i1->c≠i2->s.heap.get? c=some o->h'.get? c=some o)->(∃ o,h'.get? e=some o/\o.cls=.type "StopIteration")->E (.ref e) { s with heap:=h' }) :
  wpAny (model prog w) A (Builtin.«zip.__next__» ⟨[.ref z],[]⟩) Q E s:=by
 refine wpAny_bind (m:=field (.ref z) 2) (wpAny_field hz rfl (x:=.bool false) rfl ?_);refine wpAny_bind (m:=field (.ref z) 3) (wpAny_field hz rfl (x:=.ref TI) rfl ?_);refine wpAny_bind (wpAny_seqItems hI rfl ?_);refine wpAny_bind (m:=Builtin.SmallTypes.ownedTupleIsFree (.ref z)) ?_;unfold Builtin.SmallTypes.ownedTupleIsFree;refine wpAny_bind (wpAny_field hz rfl (x:=.none) rfl (wpAny_pure ?_));rw [if_pos (by rfl)];refine wpAny_bind (wpAny_rule (wpAny_bind (wpAny_field hz rfl (x:=.ref TO) rfl (wpAny_bind (wpAny_setField_rec hz (by simp) fun g1 y1 e1=>?_)))));have y1:IsZip g1 z TI TO .ellipsis:=y1;refine wpAny_bind ?_;simp only [List.zipIdx_cons,List.zipIdx_nil,Mo,List.forIn_nil];refine wpAny_bind (wpAny_bind (wpAny_onRaise (wpAny_bind (m:=Builtin.SmallTypes.nextOf (.ref i1)) ?_)));have u1:S1 n1 g1:=D1.frame _ _ _ st1 fun b hb o e=>(e1.2 b (Z.a1 b hb).1).trans e
 refine D1.done { s with heap:=g1 } _ _ u1 fun g2 e x2 he=>?_
 obtain ⟨oe,ge,ce⟩:=he;have y2:IsZip g2 z TI TO .ellipsis:=x2 _ _ Z.z1.symm y1;have hez:e≠z:=fun q=>by subst q;rw [y2] at ge;cases ge;simp at ce
 refine wpAny_setField_rec y2 (by simp) fun g3 _ e3=>hE g3 e (fun c o c1 _ c3 _ q=>(e3.2 c c1).trans (x2 _ _ c3 ((e1.2 c c1).trans q))) ⟨oe,(e3.2 e hez).trans ge,ce⟩
theorem zU (D1:Draws prog w A.in1 i1 f1 n1 P1 S1) (D2:Draws prog w A.in1 i2 f2 n2 P2 S2) (Z:oz z TI TO i1 i2 f1 f2) {Q:Option Value->Shared->Prop} (hz:IsZip s.heap z TI TO .none) (hI:IsPair s.heap TI (.ref i1) (.ref i2)) (hO:IsPair s.heap TO a b)
  (st1:S1 k s.heap) (st2:S2 k s.heap) (k1:k<n1) (k2:k<n2)
  (hQ:∀ h' x y tk,P1 k x->P2 k y->IsZip h' z TI TO (rawInt s.heap.objs.size)->IsPair h' TO x y->S1 (k+1) h'->S2 (k+1) h'->IsPair h' s.heap.objs.size x y ->
   (∀ c o,c≠z->c≠TO->c≠i1->c≠i2->s.heap.get? c=some o->h'.get? c=some o)->Q (some (.ref s.heap.objs.size)) { s with heap:=h',toks:=tk }):wpAny (model prog w) A (pyNext (.ref z)) Q E s:=by
 have hT:s.TypeIs (.ref z) "zip":=⟨_,hz,rfl⟩
 unfold pyNext;refine wpAny_bind (wpAny_attempt (wpAny_callSpecial?_slot (name:=Str.ofString "__next__") hT F.slot_zip_next (wpAny_call_entry F.slot_zip_next hT F.entry_zip_next (Cn D1 D2 Z hz hI hO st1 st2 k1 k2 fun h' x y tk p1 p2 c1 c2 c3 c4 c5 c6=>?_) (F.args_zip_next_1 _))));exact wpAny_pure (hQ h' x y tk p1 p2 c1 c2 c3 c4 c5 c6)
theorem tm (D1:Draws prog w A.in1 i1 f1 n1 P1 S1) (Z:oz z TI TO i1 i2 f1 f2) {Q:Option Value->Shared->Prop} (hz:IsZip s.heap z TI TO .none) (hI:IsPair s.heap TI (.ref i1) (.ref i2)) (hO:IsPair s.heap TO a b) (st1:S1 n1 s.heap)
  (hQ:∀ h',(∀ c o,c≠z->c≠TO->c≠i1->c≠i2->s.heap.get? c=some o->h'.get? c=some o)->Q none { s with heap:=h' }):wpAny (model prog w) A (pyNext (.ref z)) Q E s:=by
 have hT:s.TypeIs (.ref z) "zip":=⟨_,hz,rfl⟩
 unfold pyNext;refine wpAny_bind (wpAny_attempt (wpAny_callSpecial?_slot (name:=Str.ofString "__next__") hT F.slot_zip_next (wpAny_call_entry F.slot_zip_next hT F.entry_zip_next (Ep D1 Z hz hI hO st1 fun h' e k0 he=>?_) (F.args_zip_next_1 _))));obtain ⟨o,ho,hc⟩:=he;exact wpAny_bind (wpAny_isInstance (T:="StopIteration") (b:=true) ⟨o,ho,hc⟩ isSubtype_stop (wpAny_pure (hQ _ k0)))
abbrev zH1 (h:Heap) (t:Addr):Heap:=h.push { cls:=.type "tuple_iterator",data:=.fields #[.ref t,.int 0 0] }
abbrev zH2 (h:Heap) (t l:Addr):Heap:=(zH1 h t).push { cls:=.type "list_iterator",data:=.fields #[.ref l,.int 0 0] }
abbrev zH3 (h:Heap) (t l:Addr):Heap:=(zH2 h t l).push { cls:=.type "tuple",data:=.seq #[.ref h.objs.size,.ref (zH1 h t).objs.size] }
abbrev zH4 (h:Heap) (t l:Addr):Heap:=(zH3 h t l).push { cls:=.type "tuple",data:=.seq #[.none,.none] }
abbrev zH5 (h:Heap) (t l:Addr):Heap:=(zH4 h t l).push { cls:=.type "zip",data:=.fields #[.none,.bool false,.bool false,.ref (zH2 h t l).objs.size,.ref (zH3 h t l).objs.size] }
theorem w5 (t l:Addr) (xs ys:Array Value):Meets (Builtin.«zip.__new__» ⟨[.type "zip",.ref t,.ref l],[]⟩) (fun _ R s=>s.heap.IsTuple t xs/\s.heap.IsList l ys/\R (.ok (.ret (.ref (zH4 s.heap t l).objs.size))) { s with heap:=zH5 s.heap t l }) :=
 .of_wp fun prog w A R s h=>by
  obtain ⟨hp,g,d,tk,os⟩:=s;obtain ⟨ht,hl,h⟩:=h;have sb:isSubtype (.type "zip") (.type "zip")=pure true:=by rw [isSubtype_type];kernel_rfl
  have hT1:Heap.IsTuple (Shared.heap ⟨hp,g,d,tk,os⟩) t xs:=ht;have hL2:Heap.IsList (Shared.heap ⟨hp.push { cls:=.type "tuple_iterator",data:=.fields #[.ref t,.int 0 0] },g,d,tk,os⟩) l ys:=Heap.IsList.push hl _
  wp_walk using wpAny_pyIter_tuple hT1,wpAny_pyIter_list hL2
  exact ⟨_,rfl,h⟩
theorem yX {t l:Addr} {xs ys:Array Value} {Q:Value->Shared->Prop} (ht:s.heap.IsTuple t xs) (hl:s.heap.IsList l ys) (h:Q (.ref (zH4 s.heap t l).objs.size) { s with heap:=zH5 s.heap t l }) :
  wpAny (model prog w) A (call (.type "zip") [.ref t,.ref l]) Q E s:=by
 refine callType_new F.called_zip (by decide) (F.typeCall_zip_2 _ _) (F.newCall_zip_2 _ _) (fun obj=>F.args_object_init_3 obj _ _) F.entry_zip_new (w5 t l xs ys) ⟨ht,hl,?_⟩;exact ⟨⟨_,KZ _ rfl,rfl⟩,h⟩
end
section
variable {X:Cx} {pins:List (Addr×Obj)} {σ:L2.St} {H:Hp} {s:Shared}
theorem Inv.turnLay {ch:List Addr} {h':Heap} {t':Nat} {T:Addr} {o:HO} (I:Inv X pins σ H s) (hf:∀ b∈ch,qJ X pins H b) (hT:s.heap.objs.size<=T) (k:∀ b u,b∉ch->s.heap.get? b=some u->h'.get? b=some u)
  (new:dX X.prog X.w (upd H T o) h' T o):Inv X pins σ (upd H T o) { s with heap:=h',toks:=t' }:=by
 have hn:H T=none:=I.hok.fresh hT;have nch:∀ b u,H b=some u->b∉ch:=fun b u e z=>by rw [(hf b z).1] at e;cases e
 have neT:∀ b u,s.heap.get? b=some u->b≠T:=fun b u e=>KY (L1 (KR e) hT)
 refine I.step (g':=s.gens) (d':=s.drawn) (ch:=ch) (fun b hb=>?_) (fun b u _ _ hc e _=>k b u hc e) (fun b u _ _ hc e _=>⟨u.slots,k b u hc e⟩) (fun b u _ e n=>by rw [aL (neT b u e)];exact n)
  (fun b u hc e=>⟨u,k b u hc e⟩) (fun b xs e=>by rw [aL (aX e hn)];exact e) (fun b u v e=>by rw [aL (aX e hn)];exact e) (fun b ps e=>by rw [aL (aX e hn)];exact e) (fun m hm=>?_) (fun b u e=>?_) I.bare
 ·obtain ⟨f0,f1,f2,f3,f4,f5⟩:=hf b hb;exact ⟨f3,f1,f4,f5⟩
 ·obtain ⟨o2,es,ep,ho,r⟩:=hm;exact ⟨o2,es,ep,k _ o2 (fun z=>(hf _ z).2.1 rfl) ho,r⟩
 ·by_cases hb:b=T
  ·subst hb;rw [aV] at e;cases e;exact new
  ·rw [aL hb] at e;refine (I.hok b u e).stay (fun c v hc q=>k c v ?_ q) (fun c q=>by rw [aL (aX q hn)];exact q) (fun c xs q=>by rw [aL (aX q hn)];exact q) fun c o' w' q=>by rw [aL (aX q hn)];exact q
   rcases hc with z | z
   ·rw [z];exact nch b u e
   ·exact nch c _ z
theorem Inv.turneds {ch:List Addr} {h':Heap} {t':Nat} (I:Inv X pins σ H s) (hf:∀ b∈ch,qJ X pins H b) (k:∀ b u,b∉ch->s.heap.get? b=some u->h'.get? b=some u):Inv X pins σ H { s with heap:=h',toks:=t' }:=by
 have nch:∀ b u,H b=some u->b∉ch:=fun b u e z=>by rw [(hf b z).1] at e;cases e
 refine I.step (g':=s.gens) (d':=s.drawn) (ch:=ch) (fun b hb=>?_) (fun b u _ _ hc e _=>k b u hc e) (fun b u _ _ hc e _=>⟨u.slots,k b u hc e⟩) (fun b u _ e n=>n)
  (fun b u hc e=>⟨u,k b u hc e⟩) (fun b xs e=>e) (fun b u v e=>e) (fun b ps e=>e) (fun m hm=>?_) (fun b u e=>?_) I.bare
 ·obtain ⟨f0,f1,f2,f3,f4,f5⟩:=hf b hb;exact ⟨f3,f1,f4,f5⟩
 ·obtain ⟨o2,es,ep,ho,r⟩:=hm;exact ⟨o2,es,ep,k _ o2 (fun z=>(hf _ z).2.1 rfl) ho,r⟩
 ·refine (I.hok b u e).stay (fun c v hc q=>k c v ?_ q) (fun _ q=>q) fun _ _ q=>q
  rcases hc with z | z
  ·rw [z];exact nch b u e
  ·exact nch c _ z
end
def Itz (K:PySem.W.Frag) (a b:Addr) (n:Nat):It :=
 ⟨fun i H=>i<n/\∃ xs ys,SqT K H a xs/\SqL K H b ys/\xs.length=n/\ys.length=n,
  fun i H v H'=>∃ t x y,v=.ref t/\H t=none/\H'=upd H t (.tup [x,y])/\(∀ xs,SqT K H a xs->xs[i]?=some x)/\∀ ys,SqL K H b ys->ys[i]?=some y,
  fun i H=>i=n/\∃ xs ys,SqT K H a xs/\SqL K H b ys/\xs.length=n/\ys.length=n⟩
theorem CB {P:Program} {w:World} {K:PySem.W.Frag} {elts:List Expr} {x1:Nat} {tp:Pos} {a b z TI TO i1 i2:Addr} {n:Nat} (Z:oz z TI TO i1 i2 [i1,a] [i2,b]) :
  Turn P w K (.Tuple elts x1 tp) (Itz K a b n) [z,TI,TO,i1,i2] z (fun i h=>IsZip h z TI TO .none/\IsPair h TI (.ref i1) (.ref i2)/\(∃ u v,IsPair h TO u v)/\h.IsTupleIter i1 a i/\h.IsListIter i2 b i) where
 mem:=by simp
 obj:=fun i h st c hc=>by
  obtain ⟨h1,h2,⟨u,v,h3⟩,⟨o4,g4,_,d4⟩,⟨o5,g5,_,d5⟩⟩:=st;simp only [K6,L7,or_false] at hc;rcases hc with rfl | rfl | rfl | rfl | rfl
  ·exact ⟨_,h1,fun v q=>by cases q⟩
  ·exact ⟨_,h2,fun v q=>by cases q⟩
  ·exact ⟨_,h3,fun v q=>by cases q⟩
  ·exact ⟨_,g4,fun v q=>by rw [d4] at q;cases q⟩
  ·exact ⟨_,g5,fun v q=>by rw [d5] at q;cases q⟩
 keep:=fun i h h' st k=>by obtain ⟨h1,h2,⟨u,v,h3⟩,⟨o4,g4,r4⟩,⟨o5,g5,r5⟩⟩:=st;exact ⟨k z (by simp) _ h1,k TI (by simp) _ h2,⟨u,v,k TO (by simp) _ h3⟩,⟨o4,k i1 (by simp) _ g4,r4⟩,⟨o5,k i2 (by simp) _ g5,r5⟩⟩
 item:=by
  intro X hP hw hK hc i pins s σ H E I hf st hg;subst hP hw hK;obtain ⟨hi,xs,ys,hx,hy,lx,ly⟩:=hg;obtain ⟨h1,h2,⟨u,v,h3⟩,h4,h5⟩:=st;obtain ⟨its,rv,p,_⟩:=I.tuple hx;obtain ⟨jts,rw',p',_⟩:=I.list hy;have la:=rv.length;have lb:=rw'.length;have hh:X.A.in1.handled=none:=I.ok.hd hc;have na:a≠i1:=fun q=>by obtain ⟨o,g,c,_⟩:=p;obtain ⟨o4,g4,c4,_⟩:=h4;rw [q,g4] at g;cases g;rw [c4] at c;exact absurd (Value.type.inj c) (by decide)
  have nb:b≠i2:=fun q=>by obtain ⟨o,n,g,c,_⟩:=p';obtain ⟨o5,g5,c5,_⟩:=h5;rw [q,g5] at g;cases g;rw [c5] at c;exact absurd (Value.type.inj c) (by decide)
  have pt:s.heap.IsTuple a its.toArray:=p;refine zU (nZ hh i1 a na its.toArray) (Draws.list hh i2 b nb jts.toArray) Z h1 h2 h3 ⟨h4,pt⟩ ⟨h5,p'.isList⟩ (by simp;omega) (by simp;omega) fun h' x y tk px py c1 c2 c3 c4 c5 c6=>⟨_,rfl,?_⟩
  refine wpAny_letOwnedTupleGo_zip (s:={ s with heap:=h',toks:=tk }) c1 fun h2' d1 d2=>?_
  have zl:z<s.heap.objs.size:=KR h1;have up:∀ c o,c≠z->h'.get? c=some o->h2'.get? c=some o:=fun c o hc e=>(d2.2 c hc).trans e
  have nT:s.heap.objs.size≠z:=LA zl;obtain ⟨x0,ex,rx⟩:∃ x0,xs[i]?=some x0/\RelV x0 x:=by
   have hil:i<xs.length:=by omega
   obtain ⟨u',e1,e2⟩:=rv.get (K3 hil);refine ⟨xs[i],K3 hil,?_⟩;have px':its[i]?=some x:=by simpa using px
   rw [e1] at px';cases px';exact e2
  obtain ⟨y0,ey,ry⟩:∃ y0,ys[i]?=some y0/\RelV y0 y:=by
   have hil:i<ys.length:=by omega
   obtain ⟨u',e1,e2⟩:=rw'.get (K3 hil);refine ⟨ys[i],K3 hil,?_⟩;have py':jts[i]?=some y:=by simpa using py
   rw [e1] at py';cases py';exact e2
  have fr:H s.heap.objs.size=none:=I.hok.fresh (K8 _);refine ⟨.ref s.heap.objs.size,upd H s.heap.objs.size (.tup [x0,y0]),?_,rfl,⟨_,x0,y0,rfl,fr,rfl,fun xs' h=>by rw [I.tuple_inj h hx];exact ex,fun ys' h=>by rw [I.list_inj h hy];exact ey⟩,?_,fun c hc'=>?_⟩
  ·refine I.turnLay (t':=tk) (ch:=[z,TI,TO,i1,i2]) hf (K8 _) (fun c o hn e=>?_) ⟨by show 2<=sizeLine;decide,[x,y],.cons rx (.cons ry .nil),⟨_,up _ _ nT c5,rfl,rfl,_,rfl⟩⟩;simp only [K6,L7,or_false,not_or] at hn;exact up c o hn.1 (c6 c o hn.1 hn.2.2.1 hn.2.2.2.1 hn.2.2.2.2 e)
  ·obtain ⟨⟨o4,g4,r4⟩,_⟩:=c3;obtain ⟨⟨o5,g5,r5⟩,_⟩:=c4;exact ⟨d1,up _ _ Z.TIz (c6 _ _ Z.TIz Z.TIO Z.TI1 Z.TI2 h2),⟨x,y,up _ _ Z.TOz c2⟩,⟨o4,up _ _ Z.z1 g4,r4⟩,⟨o5,up _ _ Z.z2 g5,r5⟩⟩
  ·have h0:=(hf c hc').1;obtain ⟨oc,gc⟩:∃ oc,s.heap.get? c=some oc:=by
    simp only [K6,L7,or_false] at hc';rcases hc' with rfl | rfl | rfl | rfl | rfl
    ·exact ⟨_,h1⟩
    ·exact ⟨_,h2⟩
    ·exact ⟨_,h3⟩
    ·obtain ⟨o4,g4,_⟩:=h4;exact ⟨_,g4⟩
    ·obtain ⟨o5,g5,_⟩:=h5;exact ⟨_,g5⟩
   rw [aL (KY (KR gc))];exact h0
 done:=by
  intro X hP hw hK hc i pins s σ H E I hf st hg;subst hP hw hK;obtain ⟨hi,xs,ys,hx,hy,lx,ly⟩:=hg;obtain ⟨h1,h2,⟨u,v,h3⟩,h4,h5⟩:=st;obtain ⟨its,rv,p,_⟩:=I.tuple hx;have la:=rv.length;have hh:X.A.in1.handled=none:=I.ok.hd hc;have na:a≠i1:=fun q=>by obtain ⟨o,g,c,_⟩:=p;obtain ⟨o4,g4,c4,_⟩:=h4;rw [q,g4] at g;cases g;rw [c4] at c;exact absurd (Value.type.inj c) (by decide)
  have pt:s.heap.IsTuple a its.toArray:=p;have e:its.toArray.size=i:=by simp;omega
  refine tm (nZ hh i1 a na its.toArray) Z h1 h2 h3 ⟨by rw [e];exact h4,pt⟩ fun h' k=>⟨rfl,?_⟩
  refine I.turneds (t':=s.toks) (ch:=[z,TI,TO,i1,i2]) hf fun c o hn q=>?_
  simp only [K6,L7,or_false,not_or] at hn;exact k c o hn.1 hn.2.2.1 hn.2.2.2.1 hn.2.2.2.2 q
 self:=fun _ _ _ _ _ st h=>wpAny_pyIter_zip st.1 h
theorem boot_zip:bootBuiltins "zip"=some (.type "zip"):=by decide +kernel
def Ku (K:PySem.W.Frag) (ta:TA):TI:=fun σ H R=>ta σ H fun vs H1=>∃ a b xs ys,vs=[.ref a,.ref b]/\SqT K H1 a xs/\SqL K H1 b ys/\ys.length=xs.length/\R (Itz K a b xs.length) H1
theorem HI {X:Cx} {elts:List Expr} {x1:Nat} {tp:Pos} {a b:Expr} {ta:TA} {p pos:Pos} (hg:Gl X "zip") (hm:X.mg "zip"=none) (ha:PA X [a,b] ta) (hs:starEach [a,b] X.env=[(false,eval a X.env),(false,eval b X.env)]:=by rfl) (hs2:starEach [b] X.env=[(false,eval b X.env)]:=by rfl) :
  PI X (.Tuple elts x1 tp) (.Call (.Name "zip" p) [a,b] [] pos) (Ku X.K ta):=by
 intro pins s σ H R I h;refine Call_ (fX I hg hm boot_zip (PyProof.Rows.callWith_type1 (thn (ha pos pins s σ H _ I h) fun us s1 rz2=>?_) (by rw [hs,hs2]) (by rw [hs2];rfl)));obtain ⟨vs,H1,I1,r1,q1⟩:=rz2;obtain ⟨aa,bb,xs,ys,e,hx,hy,hl,q⟩:=q1;subst e;obtain ⟨u1,u2,e1,r2,r3⟩:=vals2 r1;subst e1;cases r2;cases r3;obtain ⟨its,rv,pt,_⟩:=I1.tuple hx;obtain ⟨jts,rw',pl,_⟩:=I1.list hy;have pt':s1.heap.IsTuple aa its.toArray:=pt;have al:aa<s1.heap.objs.size:=by obtain ⟨_,g,_⟩:=pt';exact KR g
 have bl:bb<s1.heap.objs.size:=by obtain ⟨_,_,g,_⟩:=pl;exact KR g
 refine yX pt' pl.isList ?_;have z1:(zH1 s1.heap aa).objs.size=s1.heap.objs.size+1:=Heap.size_push ..;have z2:(zH2 s1.heap aa bb).objs.size=s1.heap.objs.size+2:=by rw [Heap.size_push,z1]
 have z3:(zH3 s1.heap aa bb).objs.size=s1.heap.objs.size+3:=by rw [Heap.size_push,z2]
 have z4:(zH4 s1.heap aa bb).objs.size=s1.heap.objs.size+4:=by rw [Heap.size_push,z3]
 have g5:IsZip (zH5 s1.heap aa bb) (zH4 s1.heap aa bb).objs.size (zH2 s1.heap aa bb).objs.size (zH3 s1.heap aa bb).objs.size .none:=KZ _ rfl;have g4:IsPair (zH5 s1.heap aa bb) (zH3 s1.heap aa bb).objs.size .none .none:=K2 _ (KZ _ rfl);have g3:IsPair (zH5 s1.heap aa bb) (zH2 s1.heap aa bb).objs.size (.ref s1.heap.objs.size) (.ref (zH1 s1.heap aa).objs.size):=K2 _ (K2 _ (KZ _ rfl));have g2:(zH5 s1.heap aa bb).IsListIter (zH1 s1.heap aa).objs.size bb 0:=⟨_,K2 _ (K2 _ (K2 _ (KZ _ rfl))),rfl,rfl⟩
 have g1:(zH5 s1.heap aa bb).IsTupleIter s1.heap.objs.size aa 0:=⟨_,K2 _ (K2 _ (K2 _ (K2 _ (KZ _ rfl)))),rfl,rfl⟩
 have kk:∀ c o,s1.heap.get? c=some o->(zH5 s1.heap aa bb).get? c=some o:=fun c o e=>K2 _ (K2 _ (K2 _ (K2 _ (K2 _ e))))
 have I2:Inv X pins σ H1 { s1 with heap:=zH5 s1.heap aa bb }:=I1.kept (t':=s1.toks) kk;have Z:oz (zH4 s1.heap aa bb).objs.size (zH2 s1.heap aa bb).objs.size (zH3 s1.heap aa bb).objs.size s1.heap.objs.size (zH1 s1.heap aa).objs.size [s1.heap.objs.size,aa] [(zH1 s1.heap aa).objs.size,bb]:=by
  rw [z1,z2,z3,z4];have nq:∀ i j:Nat,i≠j->s1.heap.objs.size+i≠s1.heap.objs.size+j:=fun i j h q=>h (Nat.add_left_cancel q)
  refine ⟨nq 2 4 (by decide),nq 3 4 (by decide),nq 0 4 (by decide),nq 1 4 (by decide),nq 2 3 (by decide),nq 2 0 (by decide),nq 2 1 (by decide),nq 3 0 (by decide),nq 3 1 (by decide),nq 0 1 (by decide),fun c hc=>?_,fun c hc=>?_⟩
  ·simp only [K6,L7,or_false] at hc;rcases hc with rfl | rfl
   ·exact ⟨nq 0 4 (by decide),nq 0 3 (by decide),nq 0 1 (by decide)⟩
   ·exact ⟨KY (L1 al (LB _ _)),KY (L1 al (LB _ _)),KY (L1 al (LB _ _))⟩
  ·simp only [K6,L7,or_false] at hc;rcases hc with rfl | rfl
   ·exact ⟨nq 1 4 (by decide),nq 1 3 (by decide),nq 1 0 (by decide)⟩
   ·exact ⟨KY (L1 bl (LB _ _)),KY (L1 bl (LB _ _)),KY bl⟩
 have big:∀ c∈[(zH4 s1.heap aa bb).objs.size,(zH2 s1.heap aa bb).objs.size,(zH3 s1.heap aa bb).objs.size,s1.heap.objs.size,(zH1 s1.heap aa).objs.size],s1.heap.objs.size<=c:=fun c hc=>by
  simp only [K6,L7,or_false] at hc;rcases hc with rfl | rfl | rfl | rfl | rfl
  ·rw [z4];exact LB _ _
  ·rw [z2];exact LB _ _
  ·rw [z3];exact LB _ _
  ·exact K8 _
  ·rw [z1];exact LB _ _
 refine wpAny_pyIter_zip g5 ⟨_,_,_,_,H1,rfl,I2,CB Z,⟨g5,g3,⟨_,_,g4⟩,g1,g2⟩,fun c hc=>?_,q⟩;exact I1.fpOk (big c hc) (I1.hok.fresh (big c hc))
inductive Rs (α:Type) where
 | ok (a:α)
 | rz (C:Addr)
 | no
namespace Rs
def bind {α β:Type}:Rs α->(α->Rs β)->Rs β
 | ok a,f=>f a
 | rz C,_=>rz C
 | no,_=>no
def eP {α:Type}:Option α->Rs α
 | some a=>ok a
 | none=>no
def calm {α:Type}:Rs α->Rs α
 | ok a=>ok a
 | _=>no
@[simp] theorem aj {α β:Type} (a:α) (f:α->Rs β):(ok a).bind f=f a:=rfl
@[simp] theorem fo {α β:Type} (C:Addr) (f:α->Rs β):(rz C).bind f=rz C:=rfl
@[simp] theorem bX {α β:Type} (f:α->Rs β):(no:Rs α).bind f=no:=rfl
@[simp] theorem ar {α:Type} (a:α):eP (some a)=ok a:=rfl
@[simp] theorem IE {α:Type}:eP (none:Option α)=no:=rfl
@[simp] theorem dZ {α:Type} (a:α):(ok a).calm=ok a:=rfl
end Rs
def del (H:Hp) (A:List Addr):Hp:=fun b=>if b∈A then none else H b
theorem A3 {H:Hp}:del H []=H:=by funext b;simp [del]
theorem iI {H:Hp} {A:List Addr} {b:Addr} (h:b∈A):del H A b=none:=by simp [del,h]
theorem ba {H:Hp} {A:List Addr} {b:Addr} (h:b∉A):del H A b=H b:=by simp [del,h]
theorem bL {H:Hp} {A:List Addr} {b:Addr} {o:HO} (h:del H A b=some o):b∉A/\H b=some o:=by
 by_cases z:b∈A
 ·rw [iI z] at h;cases h
 ·rw [ba z] at h;exact ⟨z,h⟩
theorem aI {H:Hp} {A:List Addr}:aA (del H A) H:=fun _ _ e=>(bL e).2
theorem aA.del {H H':Hp} {A:List Addr} (s:aA H H'):aA (del H A) (L2.del H' A):=fun b o e=>by obtain ⟨z,e⟩:=bL e;rw [ba z];exact s b o e
def Iw:HO->Bool
 | .lst _=>true
 | .dK _=>true
 | _=>false
def Ls (H:Hp) (A:List Addr):Prop:=∀ a∈A,∃ o,H a=some o/\Iw o=true
theorem Ls.same {H H':Hp} {A:List Addr} (h:Ls H A) (s:aA H H'):Ls H' A:=fun a ha=>by obtain ⟨o,e,q⟩:=h a ha;exact ⟨o,s _ _ e,q⟩
theorem Ls.nil {H:Hp}:Ls H []:=fun _ h=>by cases h
theorem Ls.new {H:Hp} {A:List Addr} {p:Addr} (h:Ls H A) (hp:H p=none):p∉A:=fun z=>by obtain ⟨xs,e,_⟩:=h p z;rw [hp] at e;cases e
def au (ns:List Int):PyData:=.dict [(.none,.list (ns.map .int))]
mutual
def Is (K:PySem.W.Frag) (H:Hp):PyData->V->Prop
 | .none,v=>v=.non
 | .bool b,v=>v=.bl b
 | .int i,v=>v=.int i
 | .str x,v=>v=.str x
 | .list ds,v=>∃ a xs,v=.ref a/\H a=some (.lst xs)/\Iss K H ds xs
 | .tuple ds,v=>∃ a xs,v=.ref a/\H a=some (.tup xs)/\Iss K H ds xs
 | .dict kvs,v=>((∃ a ns,v=.ref a/\kvs=[(PyData.none,PyData.list (List.map PyData.int ns))]/\SqL K H a (List.map V.int ns)) \/
  ∃ (a:Addr) (l:List (Int×Int)),v=.ref a/\kvs=l.map (fun p=>(PyData.int p.1,PyData.int p.2))/\H a=some (.dK (l.map fun p=>(.inl p.1,V.int p.2)))) \/
  ∃ (a C dx:Addr) (fs:List (Str×V)),v=.ref a/\H a=some (.ins C dx fs)/\fs.lookup ("@":Str)=none/\(Isk K H kvs (("",.int (C:Int))::fs)\/Isk K H kvs (("",.int (C:Int))::("@",.int (a:Int))::fs))
def Iss (K:PySem.W.Frag) (H:Hp):List PyData->List V->Prop
 | [],vs=>vs=[]
 | d::ds,vs=>∃ v r,vs=v::r/\Is K H d v/\Iss K H ds r
def Isk (K:PySem.W.Frag) (H:Hp):List (PyData×PyData)->List (Str×V)->Prop
 | [],fs=>fs=[]
 | (k,d)::r,fs=>∃ f v fs',fs=(f,v)::fs'/\k=.str f/\Is K H d v/\Isk K H r fs'
end
def cY (C a:Addr) (fds:List (Str×PyData)):PyData:=.dict ((.str "",.int (C:Int))::(.str "@",.int (a:Int))::fds.map fun p=>(.str p.1,p.2))
section
variable {K:PySem.W.Frag} {H H':Hp}
theorem ck {i:Int}:Is K H (.int i) (.int i):=by unfold Is;rfl
theorem is_bool {b:Bool}:Is K H (.bool b) (.bl b):=by unfold Is;rfl
theorem is_none:Is K H .none .non:=by unfold Is;rfl
theorem CT {x:Str}:Is K H (.str x) (.str x):=by unfold Is;rfl
theorem jL {ds:List PyData} {a:Addr} {xs:List V} (h:H a=some (.tup xs)) (h2:Iss K H ds xs):Is K H (.tuple ds) (.ref a):=by unfold Is;exact ⟨a,xs,rfl,h,h2⟩
theorem kI {ds:List PyData} {a:Addr} {xs:List V} (h:H a=some (.lst xs)) (h2:Iss K H ds xs):Is K H (.list ds) (.ref a):=by unfold Is;exact ⟨a,xs,rfl,h,h2⟩
theorem BO {a:Addr} {ns:List Int} (h:SqL K H a (ns.map V.int)):Is K H (au ns) (.ref a):=by unfold au Is;exact .inl (.inl ⟨a,ns,rfl,rfl,h⟩)
theorem dH:Iss K H [] []:=by unfold Iss;rfl
theorem dk {d:PyData} {ds:List PyData} {v:V} {vs:List V} (h:Is K H d v) (h2:Iss K H ds vs):Iss K H (d::ds) (v::vs):=by unfold Iss;exact ⟨v,vs,rfl,h,h2⟩
theorem j8 {d:PyData} {v:V} (h:Is K H d v):Iss K H [d] [v]:=dk h dH
theorem Is.ofInt {i:Int} {v:V} (h:Is K H (.int i) v):v=.int i:=by unfold Is at h;exact h
theorem Is.ofBool {i:Bool} {v:V} (h:Is K H (.bool i) v):v=.bl i:=by unfold Is at h;exact h
theorem Is.ofNone {v:V} (h:Is K H .none v):v=.non:=by unfold Is at h;exact h
theorem Is.ofStr {x:Str} {v:V} (h:Is K H (.str x) v):v=.str x:=by unfold Is at h;exact h
theorem Is.ofTup {ds:List PyData} {v:V} (h:Is K H (.tuple ds) v):∃ a xs,v=.ref a/\H a=some (.tup xs)/\Iss K H ds xs:=by unfold Is at h;exact h
theorem Is.ofLst {ds:List PyData} {v:V} (h:Is K H (.list ds) v):∃ a xs,v=.ref a/\H a=some (.lst xs)/\Iss K H ds xs:=by unfold Is at h;exact h
theorem Is.ofScript {ns:List Int} {v:V} (h:Is K H (au ns) v):∃ a,v=.ref a/\SqL K H a (ns.map V.int):=by
 unfold au Is at h;rcases h with (h | ⟨a,l,_,e,_⟩) | ⟨a,C,dx,fs,_,_,_,h | h⟩
 case inl.inr=>cases l <;> cases e
 case inr.inl=>unfold Isk at h;obtain ⟨f,_,_,_,h,_⟩:=h;cases h
 case inr.inr=>unfold Isk at h;obtain ⟨f,_,_,_,h,_⟩:=h;cases h
 obtain ⟨a,ms,e,e2,h⟩:=h;have e3:ns.map PyData.int=ms.map PyData.int:=by injection e2 with e2 _;injection e2 with _ e2;injection e2
 have e4:ns=ms:=by
  have inj:∀ (a b:List Int),a.map PyData.int=b.map PyData.int->a=b:=by
   intro a
   induction a with
   | nil=>intro b hb;cases b with | nil=>rfl | cons _ _=>simp at hb
   | cons x r ih =>
    intro b hb;cases b with
    | nil=>simp at hb
    | cons y s =>simp only [K1,List.cons.injEq,PyData.int.injEq] at hb;rw [hb.1,ih s hb.2]
  exact inj _ _ e3
 subst e4;exact ⟨a,e,h⟩
theorem Iss.nil_of {vs:List V} (h:Iss K H [] vs):vs=[]:=by unfold Iss at h;exact h
theorem Iss.cons_of {d:PyData} {ds:List PyData} {vs:List V} (h:Iss K H (d::ds) vs):∃ v r,vs=v::r/\Is K H d v/\Iss K H ds r:=by unfold Iss at h;exact h
theorem Iss.length:∀ {ds:List PyData} {vs:List V},Iss K H ds vs->vs.length=ds.length
 | [],_,h=>by rw [h.nil_of];rfl
 | _::_,_,h=>by obtain ⟨v,r,e,_,h2⟩:=h.cons_of;rw [e,L6,L6,Iss.length h2]
mutual
theorem Is.same (e:aA H H'):∀ {d:PyData} {v:V},Is K H d v->Is K H' d v
 | .none,_,h=>by unfold Is at h ⊢;exact h
 | .bool _,_,h=>by unfold Is at h ⊢;exact h
 | .int _,_,h=>by unfold Is at h ⊢;exact h
 | .str _,_,h=>by unfold Is at h ⊢;exact h
 | .list ds,_,h=>by unfold Is at h ⊢;obtain ⟨a,xs,e1,h1,h2⟩:=h;exact ⟨a,xs,e1,e _ _ h1,Iss.same e h2⟩
 | .tuple ds,_,h=>by unfold Is at h ⊢;obtain ⟨a,xs,e1,h1,h2⟩:=h;exact ⟨a,xs,e1,e _ _ h1,Iss.same e h2⟩
 | .dict _,_,h=>by
  unfold Is at h ⊢;rcases h with (⟨a,ns,e1,e2,h2⟩ | ⟨a,l,e1,e2,h2⟩) | ⟨a,C,dx,fs,e1,h1,hn,h2 | h2⟩
  ·exact .inl (.inl ⟨a,ns,e1,e2,e.seq h2⟩)
  ·exact .inl (.inr ⟨a,l,e1,e2,e _ _ h2⟩)
  ·exact .inr ⟨a,C,dx,fs,e1,e _ _ h1,hn,.inl (Isk.same e h2)⟩
  ·exact .inr ⟨a,C,dx,fs,e1,e _ _ h1,hn,.inr (Isk.same e h2)⟩
theorem Iss.same (e:aA H H'):∀ {ds:List PyData} {vs:List V},Iss K H ds vs->Iss K H' ds vs
 | [],_,h=>by unfold Iss at h ⊢;exact h
 | d::ds,_,h=>by unfold Iss at h ⊢;obtain ⟨v,r,e1,h1,h2⟩:=h;exact ⟨v,r,e1,Is.same e h1,Iss.same e h2⟩
theorem Isk.same (e:aA H H'):∀ {ds:List (PyData×PyData)} {fs:List (Str×V)},Isk K H ds fs->Isk K H' ds fs
 | [],_,h=>by unfold Isk at h ⊢;exact h
 | (k,d)::ds,_,h=>by unfold Isk at h ⊢;obtain ⟨f,v,r,e1,e2,h1,h2⟩:=h;exact ⟨f,v,r,e1,e2,Is.same e h1,Isk.same e h2⟩
end
theorem qE:Isk K H [] []:=by unfold Isk;rfl
theorem ff {f:Str} {d:PyData} {r:List (PyData×PyData)} {v:V} {fs:List (Str×V)} (h:Is K H d v) (h2:Isk K H r fs):Isk K H ((.str f,d)::r) ((f,v)::fs):=by unfold Isk;exact ⟨f,v,fs,rfl,rfl,h,h2⟩
theorem Eu {C a dx:Addr} {fds:List (Str×PyData)} {fs:List (Str×V)} (h:H a=some (.ins C dx fs)) (hn:fs.lookup ("@":Str)=none) (h2:Isk K H (fds.map fun p=>(.str p.1,p.2)) fs):Is K H (cY C a fds) (.ref a):=by unfold cY Is;exact .inr ⟨a,C,dx,fs,rfl,h,hn,.inr (ff ck (ff ck h2))⟩
theorem HD {A:List Addr} (hA:Ls H A) {a:Addr} {xs:List V} (h:H a=some (.tup xs)):del H A a=some (.tup xs):=by rw [ba (fun q=>by obtain ⟨ys,e2,q2⟩:=hA a q;rw [h] at e2;cases e2;cases q2)];exact h
mutual
theorem Is.dl {A:List Addr} (hA:Ls H A):∀ {d:PyData} {v:V},fQ d=true->Is K H d v->Is K (del H A) d v
 | .none,_,_,h=>by unfold Is at h ⊢;exact h
 | .bool _,_,_,h=>by unfold Is at h ⊢;exact h
 | .int _,_,_,h=>by unfold Is at h ⊢;exact h
 | .str _,_,_,h=>by unfold Is at h ⊢;exact h
 | .list _,_,n,_=>by unfold fQ at n;cases n
 | .dict _,_,n,_=>by unfold fQ at n;cases n
 | .tuple ds,_,n,h=>by unfold fQ at n;obtain ⟨a,xs,e,h1,h2⟩:=h.ofTup;subst e;exact jL (HD hA h1) (Iss.dl hA n h2)
theorem Iss.dl {A:List Addr} (hA:Ls H A):∀ {ds:List PyData} {vs:List V},mF ds=true->Iss K H ds vs->Iss K (del H A) ds vs
 | [],_,_,h=>by rw [h.nil_of];exact dH
 | d::ds,_,n,h=>by unfold mF at n;obtain ⟨n1,n2⟩:=Lx.mp n;obtain ⟨v,r,e,h1,h2⟩:=h.cons_of;subst e;exact dk (Is.dl hA n1 h1) (Iss.dl hA n2 h2)
end
mutual
def aP:PyData->Bool
 | .list ds=>d8 ds
 | .tuple ds=>d8 ds
 | .dict _=>false
 | _=>true
def d8:List PyData->Bool
 | []=>true
 | d::ds=>aP d&&d8 ds
end
mutual
theorem Is.isd:∀ {d:PyData} {v:V},aP d=true->Is K H d v->IsD K H d v
 | .none,_,_,h=>by rw [h.ofNone];exact Dj
 | .bool _,_,_,h=>by rw [h.ofBool];exact DD
 | .int _,_,_,h=>by rw [h.ofInt];exact wz
 | .str _,_,_,h=>by rw [h.ofStr];exact Gm
 | .list ds,_,n,h=>by unfold aP at n;obtain ⟨a,xs,e,h1,h2⟩:=h.ofLst;subst e;exact wm (SqL.of h1) (Iss.isd n h2)
 | .tuple ds,_,n,h=>by unfold aP at n;obtain ⟨a,xs,e,h1,h2⟩:=h.ofTup;subst e;exact E9 (SqT.of h1) (Iss.isd n h2)
 | .dict _,_,n,_=>by unfold aP at n;cases n
theorem Iss.isd:∀ {ds:List PyData} {vs:List V},d8 ds=true->Iss K H ds vs->en K H ds vs
 | [],_,_,h=>by rw [h.nil_of];exact jC
 | d::ds,_,n,h=>by unfold d8 at n;obtain ⟨n1,n2⟩:=Lx.mp n;obtain ⟨v,r,e,h1,h2⟩:=h.cons_of;subst e;exact pC (Is.isd n1 h1) (Iss.isd n2 h2)
end
def hV:PyData->Bool
 | .none=>true
 | .bool _=>true
 | .int _=>true
 | .str _=>true
 | _=>false
theorem IsD.is {d:PyData} {v:V} (n:hV d=true) (h:IsD K H d v):Is K H d v:=by
 cases d with
 | none=>rw [h.ofNone];exact is_none
 | bool _=>rw [h.ofBool];exact is_bool
 | int _=>rw [h.ofInt];exact ck
 | str _=>rw [h.ofStr];exact CT
 | _=>cases n
theorem zP {d:PyData} (n:hV d=true):fQ d=true:=by
 cases d with
 | list _=>cases n
 | tuple _=>cases n
 | dict _=>cases n
 | _=>unfold fQ;rfl
theorem Iss.get:∀ {ds:List PyData} {vs:List V} {i:Nat} {v:V},Iss K H ds vs->vs[i]?=some v->∃ d,ds[i]?=some d/\Is K H d v
 | [],_,i,v,h,e=>by rw [h.nil_of] at e;simp at e
 | d::ds,_,i,v,h,e=>by
  obtain ⟨w,r,e1,h1,h2⟩:=h.cons_of;subst e1;cases i with
  | zero=>simp at e;subst e;exact ⟨d,rfl,h1⟩
  | succ i=>simpa using Iss.get (i:=i) h2 (by simpa using e)
theorem Iss.getD:∀ {ds:List PyData} {vs:List V} {i:Nat} {d:PyData},Iss K H ds vs->ds[i]?=some d->∃ v,vs[i]?=some v/\Is K H d v
 | [],_,i,v,h,e=>by simp at e
 | d::ds,_,i,v,h,e=>by
  obtain ⟨w,r,e1,h1,h2⟩:=h.cons_of;subst e1;cases i with
  | zero=>simp at e;subst e;exact ⟨w,rfl,h1⟩
  | succ i=>simpa using Iss.getD (i:=i) h2 (by simpa using e)
theorem Iss.append:∀ {ds es:List PyData} {vs us:List V},Iss K H ds vs->Iss K H es us->Iss K H (ds++es) (vs++us)
 | [],_,_,_,h,h'=>by rw [h.nil_of];exact h'
 | d::ds,es,_,us,h,h'=>by obtain ⟨v,r,e,h1,h2⟩:=h.cons_of;subst e;exact dk h1 (Iss.append h2 h')
theorem Iss.take:∀ {ds:List PyData} {vs:List V} (n:Nat),Iss K H ds vs->Iss K H (ds.take n) (vs.take n)
 | [],_,n,h=>by rw [h.nil_of];simpa using dH
 | d::ds,_,0,h=>by simpa using dH
 | d::ds,_,n+1,h=>by obtain ⟨v,r,e,h1,h2⟩:=h.cons_of;subst e;exact dk h1 (Iss.take n h2)
theorem Iss.drop:∀ {ds:List PyData} {vs:List V} (n:Nat),Iss K H ds vs->Iss K H (ds.drop n) (vs.drop n)
 | [],_,n,h=>by rw [h.nil_of];simpa using dH
 | d::ds,_,0,h=>h
 | d::ds,_,n+1,h=>by obtain ⟨v,r,e,h1,h2⟩:=h.cons_of;subst e;exact Iss.drop n h2
theorem Iss.set {d:PyData} {v:V} (hv:Is K H d v):∀ {ds:List PyData} {vs:List V} (i:Nat),Iss K H ds vs->Iss K H (ds.set i d) (vs.set i v)
 | [],_,n,h=>by rw [h.nil_of];simpa using dH
 | e::ds,_,0,h=>by obtain ⟨u,r,z,h1,h2⟩:=h.cons_of;subst z;exact dk hv h2
 | e::ds,_,n+1,h=>by obtain ⟨u,r,z,h1,h2⟩:=h.cons_of;subst z;exact dk h1 (Iss.set hv n h2)
theorem Iss.eraseIdx:∀ {ds:List PyData} {vs:List V} (i:Nat),Iss K H ds vs->Iss K H (ds.eraseIdx i) (vs.eraseIdx i)
 | [],_,n,h=>by rw [h.nil_of];simpa using dH
 | e::ds,_,0,h=>by obtain ⟨u,r,z,h1,h2⟩:=h.cons_of;subst z;exact h2
 | e::ds,_,n+1,h=>by obtain ⟨u,r,z,h1,h2⟩:=h.cons_of;subst z;exact dk h1 (Iss.eraseIdx n h2)
theorem Iss.rep {ds:List PyData} {vs:List V} (h:Iss K H ds vs):∀ k:Nat,Iss K H (List.replicate k ds).flatten (List.replicate k vs).flatten
 | 0=>dH
 | k+1=>by rw [LI,LI,LZ,LZ];exact h.append (Iss.rep h k)
theorem xu:∀ (ns:List Int),Iss K H (ns.map PyData.int) (ns.map V.int)
 | []=>dH
 | _::r=>dk ck (xu r)
theorem Iss.ofInts:∀ {ns:List Int} {vs:List V},Iss K H (ns.map PyData.int) vs->vs=ns.map V.int
 | [],_,h=>h.nil_of
 | n::r,_,h=>by obtain ⟨v,t,e,h1,h2⟩:=h.cons_of;rw [e,h1.ofInt,Iss.ofInts h2];rfl
theorem Iss.ofBools:∀ {ns:List Bool} {vs:List V},Iss K H (ns.map PyData.bool) vs->vs=ns.map V.bl
 | [],_,h=>h.nil_of
 | n::r,_,h=>by obtain ⟨v,t,e,h1,h2⟩:=h.cons_of;rw [e,h1.ofBool,Iss.ofBools h2];rfl
theorem Is.isNone {d:PyData} {v:V} (h:Is K H d v):(v=.non)↔d=.none:=by
 cases d with
 | none=>simp [h.ofNone]
 | bool b=>simp [h.ofBool]
 | int i=>simp [h.ofInt]
 | str x=>simp [h.ofStr]
 | list ds=>obtain ⟨a,xs,e,_⟩:=h.ofLst;simp [e]
 | tuple ds=>obtain ⟨a,xs,e,_⟩:=h.ofTup;simp [e]
 | dict _=>unfold Is at h;rcases h with (⟨a,ns,e,_⟩ | ⟨a,l,e,_⟩) | ⟨a,C,dx,fs,e,_⟩ <;> simp [e]
theorem cm {p:Addr} {o:HO} (h:H p=none):aA H (upd H p o):=iA h
theorem lE {A:List Addr} {p:Addr} {o:HO} (h:p∈A):del (upd H p o) A=del H A:=by
 funext b;by_cases z:b∈A
 ·rw [iI z,iI z]
 ·rw [ba z,ba z,aL (by rintro rfl;exact z h)]
theorem qj {A:List Addr} {ds:List PyData} {xs:List V} {p:Addr} (hA:Ls H A) (hp:H p=none) (h:Iss K (del H A) ds xs):Is K (del (upd H p (.tup xs)) A) (.tuple ds) (.ref p) :=
 jL (by rw [ba (hA.new hp)];exact aV) (h.same (aA.del (cm hp)))
theorem nJ {A:List Addr} {ds:List PyData} {xs:List V} {p:Addr} (hA:Ls H A) (hp:H p=none) (h:Iss K (del H A) ds xs):Is K (del (upd H p (.lst xs)) A) (.list ds) (.ref p) :=
 kI (by rw [ba (hA.new hp)];exact aV) (h.same (aA.del (cm hp)))
end
abbrev Ds:=List (Option PyData)
structure eK (K:PySem.W.Frag) (H:Hp) (A:List Addr) (δ:Ds) (σ:St):Prop where
 ls:Ls H A
 len:δ.length=σ.length
 get:∀ (i:Nat) (d:PyData),δ[i]?=some (some d)->∃ v,σ[i]?=some (some v)/\Is K (del H A) d v
theorem eK.same {K:PySem.W.Frag} {H H':Hp} {A:List Addr} {δ:Ds} {σ:St} (R:eK K H A δ σ) (s:aA H H'):eK K H' A δ σ :=
 ⟨R.ls.same s,R.len,fun i d e=>by obtain ⟨v,e1,h⟩:=R.get i d e;exact ⟨v,e1,h.same s.del⟩⟩
def iK (K:PySem.W.Frag) (E:XK) (A:List Addr) (H:Hp) (r:Rs PyData) (Q:VK):Prop:=match r with
 | .ok d=>∀ v H',aA H H'->Is K (del H' A) d v->Q v H'
 | .rz C=>∀ H',aA H H'->E (.ref C) none H'
 | .no=>False
def KI (K:PySem.W.Frag) (E:XK) (A:List Addr) (H:Hp) (r:Rs (List PyData)) (Q:List V->Hp->Prop):Prop:=match r with
 | .ok d=>∀ v H',aA H H'->Iss K (del H' A) d v->Q v H'
 | .rz C=>∀ H',aA H H'->E (.ref C) none H'
 | .no=>False
def yr (E:XK) (H:Hp) (r:Rs Bool) (Q:Bool->Hp->Prop):Prop:=match r with
 | .ok d=>∀ H',aA H H'->Q d H'
 | .rz C=>∀ H',aA H H'->E (.ref C) none H'
 | .no=>False
def eD (K:PySem.W.Frag) (E:XK) (g:Ds->Rs PyData):TE:=fun σ H Q=>∃ A δ,eK K H A δ σ/\iK K E A H (g δ) Q
def aD (K:PySem.W.Frag) (E:XK) (g:Ds->Rs (List PyData)):TA:=fun σ H Q=>∃ A δ,eK K H A δ σ/\KI K E A H (g δ) Q
def cD (K:PySem.W.Frag) (E:XK) (g:Ds->Rs Bool):TT:=fun σ H Q=>∃ A δ,eK K H A δ σ/\yr E H (g δ) Q
def PD (X:Cx) (E:XK) (e:Expr) (g:Ds->Rs PyData):Prop:=PE X e (eD X.K E g)
def PAD (X:Cx) (E:XK) (es:List Expr) (g:Ds->Rs (List PyData)):Prop:=PA X es (aD X.K E g)/\∀ δ ds,g δ=.ok ds->ds.length=es.length
def PCD (X:Cx) (E:XK) (e:Expr) (g:Ds->Rs Bool):Prop:=PT X e (cD X.K E g)
def PWD (X:Cx) (E:XK) (e:Expr) (g:Ds->Rs Bool):Prop:=PW X e (cD X.K E g)
theorem PE.imp {X:Cx} {e:Expr} {t t':TE} (h:PE X e t) (k:∀ σ H Q,t' σ H Q->t σ H Q):PE X e t':=fun pins s σ H Q I q=>h pins s σ H Q I (k σ H Q q)
theorem PT.imp {X:Cx} {e:Expr} {t t':TT} (h:PT X e t) (k:∀ σ H Q,t' σ H Q->t σ H Q):PT X e t':=fun pins s σ H Q I q=>h pins s σ H Q I (k σ H Q q)
theorem PW.imp {X:Cx} {e:Expr} {t t':TT} (h:PW X e t) (k:∀ σ H Q,t' σ H Q->t σ H Q):PW X e t':=fun w pins s σ H Q I q=>h w pins s σ H Q I (k σ H Q q)
theorem PA.imp {X:Cx} {e:List Expr} {t t':TA} (h:PA X e t) (k:∀ σ H Q,t' σ H Q->t σ H Q):PA X e t':=fun p pins s σ H Q I q=>h p pins s σ H Q I (k σ H Q q)
theorem PS.imp {X:Cx} {e:Stmt} {t t':TS} (h:PS X e t) (k:∀ D σ H,t' D σ H->t D σ H):PS X e t':=fun pins s σ H D I q=>h pins s σ H D I (k D σ H q)
theorem PSs.imp {X:Cx} {e:List Stmt} {t t':TS} (h:PSs X e t) (k:∀ D σ H,t' D σ H->t D σ H):PSs X e t':=fun pins s σ H D I q=>h pins s σ H D I (k D σ H q)
theorem iK.mono {K:PySem.W.Frag} {E:XK} {A:List Addr} {H H1:Hp} {r:Rs PyData} {Q:VK} (h:iK K E A H r Q) (s:aA H H1):iK K E A H1 r Q:=by
 cases r with
 | ok d=>exact fun v H' s' q=>h v H' (s.trans s') q
 | rz C=>exact fun H' s'=>h H' (s.trans s')
 | no=>exact h
theorem yr.mono {E:XK} {H H1:Hp} {r:Rs Bool} {Q:Bool->Hp->Prop} (h:yr E H r Q) (s:aA H H1):yr E H1 r Q:=by
 cases r with
 | ok d=>exact fun H' s'=>h H' (s.trans s')
 | rz C=>exact fun H' s'=>h H' (s.trans s')
 | no=>exact h
theorem eD.run {K:PySem.W.Frag} {E:XK} {g:Ds->Rs PyData} {σ:St} {H:Hp} {A:List Addr} {δ:Ds} {Q:VK} (R:eK K H A δ σ)
  (ok:∀ d,g δ=.ok d->∀ v H',aA H H'->eK K H' A δ σ->Is K (del H' A) d v->Q v H') (rz:∀ C,g δ=.rz C->∀ H',aA H H'->E (.ref C) none H') (no:g δ=.no->False):eD K E g σ H Q:=by
 refine ⟨A,δ,R,?_⟩;cases e:g δ with
 | ok d=>exact fun v H' s q=>ok d e v H' s (R.same s) q
 | rz C=>exact fun H' s=>rz C e H' s
 | no=>exact no e
theorem aD.run {K:PySem.W.Frag} {E:XK} {g:Ds->Rs (List PyData)} {σ:St} {H:Hp} {A:List Addr} {δ:Ds} {Q:List V->Hp->Prop} (R:eK K H A δ σ)
  (ok:∀ d,g δ=.ok d->∀ v H',aA H H'->eK K H' A δ σ->Iss K (del H' A) d v->Q v H') (rz:∀ C,g δ=.rz C->∀ H',aA H H'->E (.ref C) none H') (no:g δ=.no->False):aD K E g σ H Q:=by
 refine ⟨A,δ,R,?_⟩;cases e:g δ with
 | ok d=>exact fun v H' s q=>ok d e v H' s (R.same s) q
 | rz C=>exact fun H' s=>rz C e H' s
 | no=>exact no e
theorem cD.run {K:PySem.W.Frag} {E:XK} {g:Ds->Rs Bool} {σ:St} {H:Hp} {A:List Addr} {δ:Ds} {Q:Bool->Hp->Prop} (R:eK K H A δ σ)
  (ok:∀ d,g δ=.ok d->∀ H',aA H H'->eK K H' A δ σ->Q d H') (rz:∀ C,g δ=.rz C->∀ H',aA H H'->E (.ref C) none H') (no:g δ=.no->False):cD K E g σ H Q:=by
 refine ⟨A,δ,R,?_⟩;cases e:g δ with
 | ok d=>exact fun H' s=>ok d e H' s (R.same s)
 | rz C=>exact fun H' s=>rz C e H' s
 | no=>exact no e
structure Fb (X:Cx) (c P:Addr):Prop where
 tab:TabOf X.K P (X.env.qual++"<lambda>")
 code:X.env.code=.ref c
 hd:PySem.W.CodeHd X.base c P
 bl:∃ bm o,X.mg "__builtins__"=some (.ref bm)/\bm≠builtinsNs/\bm≠mainGlobals/\X.base.get? bm=some o/\o.cls=.type "module"/\o.dict=some builtinsNs/\o.data=.plain
theorem nB {a b:Int} {t u:Nat} {c:Value}:∀ {l:List Value},TriplesOk l->TriplesOk (l++[.int a t,.int b u,c])
 | [],_=>by simp [TriplesOk]
 | [_],h=>by simp [TriplesOk] at h
 | [x,y],h=>by cases x <;> cases y <;> (unfold TriplesOk at h;exact h.elim)
 | x::y::z::r,h=>by
  cases x <;> first | (unfold TriplesOk at h;exact h.elim) | skip
  cases y <;> first | (unfold TriplesOk at h;exact h.elim) | skip
  unfold TriplesOk at h;show TriplesOk (_::_::_::(r++_));unfold TriplesOk;exact nB h
theorem qH {pos:Pos} {a b:Int} {t u:Nat} {c cv:Value}:∀ {l:List Value},TriplesOk l->codeAmong pos (l++[.int a t,.int b u,c])=some cv->codeAmong pos l=some cv\/cv=c
 | [],_,e=>by
  simp only [Ln,codeAmong] at e;split at e
  ·cases e;exact .inr rfl
  ·cases e
 | [_],h,_=>by simp [TriplesOk] at h
 | [x,y],h,_=>by cases x <;> cases y <;> (unfold TriplesOk at h;exact h.elim)
 | x::y::z::r,h,e=>by
  cases x <;> first | (unfold TriplesOk at h;exact h.elim) | skip
  cases y <;> first | (unfold TriplesOk at h;exact h.elim) | skip
  unfold TriplesOk at h;simp only [Lk,codeAmong] at e ⊢;split at e
  ·rename_i q;rw [if_pos q];exact .inl e
  ·rename_i q;rw [if_neg q];exact qH h e
def Kg (qual:Str) (mk:Addr->Value->Obj):TE:=fun _ H Q=>∀ f c' ctv H',H f=none->H' f=some (.frz (mk c' ctv) (.own f))->aA H H' ->
 (∃ o vs t,H' c'=some (.frz o (.own c'))/\o.data=.fields vs/\vs[1]?=some (.str qual t))->Q (.ref f) H'
theorem IH {X:Cx} {c P:Addr} {params:Arguments} {body:Expr} {scope:Scope} {clos:List (Str×Addr)} {pos:Pos} (T:Fb X c P) (hcl:closureFor scope X.env=pure clos) (hdef:defaultsOf params X.env=([],[]):=by rfl) :
  PE X (.Lambda params body scope pos) (Kg (X.env.qual++"<lambda>") fun c' ctv=>PySem.W.kla_obj "<lambda>" (X.env.qual++"<lambda>") params body scope clos ((X.mg "__name__").getD .none) c' ctv):=by
 intro pins s σ H Q I h;have hP:=I.tab P _ T.tab;obtain ⟨ps,hPs,ht,hc⟩:=I.hok P _ hP;obtain ⟨bm,ob,b1,b2,b3,b4,b5,b6,b7⟩:=T.bl;have nb:∀ b o,X.base.get? b=some o->b≠P:=fun b o e z=>by have:=(I.bs b o e).2;rw [z,hP] at this;cases this
 have hbA:s.heap.BuiltinsAt X.mg P:=⟨bm,ob,b1,b2,b3,nb _ _ b4,I.bk _ _ b4,b5,b6,b7⟩
 have hg:s.heap.Ns mainGlobals X.mg:=I.mod.glob.keeps I.bk;have hgP:mainGlobals≠P:=by obtain ⟨o,es,ep,e,_⟩:=I.mod.glob;exact nb _ _ e
 have hC:=T.hd.keeps I.bk;have fin:∀ {H1:Hp} {h1:Heap} {tk:Nat} {o:Obj},Inv X pins σ H1 { s with heap:=h1,toks:=tk }->o.isFreed=false->Inv X pins σ (upd H1 h1.objs.size (.frz o (.own h1.objs.size))) { s with heap:=h1.push o,toks:=tk }:=fun {H1 h1 tk o} J hcls =>
  J.laid (h':=h1.push o) (t':=tk) (fun b u q=>K2 _ q) (K8 _) ⟨KZ _ hcls,o,KZ _ hcls⟩
 refine PySem.W.kla_eval hdef ?_;cases hf:codeAmong pos ps.toList with
 | some cv =>
  obtain ⟨c',o,vs,t,rfl,hc',d1,d2⟩:=hc pos cv hf;refine PySem.W.kla_makeFunctionHit (mg:=X.mg) hcl I.ok.glob hg T.code hC hPs ht hf hbA fun ctv h' tk hk hsz=>?_
  have n:H h'.objs.size=none:=I.hok.fresh hsz;exact ⟨.ref _,_,fin (I.kept (h':=h') (t':=tk) hk) rfl,rfl,h _ c' ctv _ n aV (iA n) ⟨o,vs,t,by rw [aL (aX hc' n)];exact hc',d1,d2⟩⟩
 | none =>
  refine PySem.W.kla_makeFunction (mg:=X.mg) hcl I.ok.glob hg T.code hC hPs ht hf hgP hbA fun c' ctv h' tk hx hge hlt hrec htb=>?_
  obtain ⟨c₂,oc,vs,t,e2,hoc,hd,hv⟩:=hrec;cases e2;have hn:H c'=none:=I.hok.fresh hge;have cP:c'≠P:=fun z=>by rw [z,hP] at hn;cases hn
  have hne:∀ b u,H b=some u->b≠c':=fun b u e z=>by rw [z,hn] at e;cases e
  have J:Inv X pins σ (upd H c' (.frz oc (.own c'))) { s with heap:=h',toks:=tk }:=by
   refine I.step (g':=s.gens) (d':=s.drawn) (ch:=[]) (fun _ z=>nomatch z) (fun b o _ _ _ e n=>?_) (fun b o _ _ _ e n=>⟨o.slots,?_⟩) (fun b o _ e n=>?_) (fun b o _ e=>?_) (fun b xs e=>?_) (fun b o u e=>?_) (fun b qs e=>?_) (fun m hm=>?_) (fun b u e=>?_) I.bare
   ·exact hx b o (fun z=>by rw [z,hP] at n;cases n) e
   ·exact hx b o (fun z=>by rw [z,hP] at n;cases n) e
   ·rw [aL (KY (L1 (KR e) hge))];exact n
   ·by_cases z:b=P
    ·subst z;exact ⟨_,htb⟩
    ·exact ⟨o,hx b o z e⟩
   ·rw [aL (hne b _ e)];exact e
   ·rw [aL (hne b _ e)];exact e
   ·rw [aL (hne b _ e)];exact e
   ·obtain ⟨o,es,ep,ho,r⟩:=hm;refine ⟨o,es,ep,hx _ o (fun z=>?_) ho,r⟩;have:=I.free;rw [z,hP] at this;cases this
   ·by_cases z:b=c'
    ·subst z;rw [aV] at e;cases e;exact ⟨hoc,oc,hoc⟩
    ·rw [aL z] at e;by_cases y:b=P
     ·subst y;rw [hP] at e;cases e;refine ⟨ps++#[rawInt pos.line,rawInt pos.col,.ref c'],htb,?_,fun pos' cv e=>?_⟩
      ·rw [Array.toList_append];exact nB ht
      ·rw [Array.toList_append] at e;rcases qH ht e with e | rfl
       ·obtain ⟨c2,o,vs,t,rfl,q,d⟩:=hc pos' cv e;exact ⟨c2,o,vs,t,rfl,by rw [aL (hne _ _ q)];exact q,d⟩
       ·exact ⟨c',oc,vs,t,rfl,aV,hd,hv⟩
     ·refine (I.hok b u e).stay (fun b' v hb q=>hx b' v (fun y'=>?_) q) (fun b' q=>?_) (fun b' xs q=>?_) fun b' o' u' q=>?_
      ·subst y';rcases hb with hb | hb
       ·exact y hb.symm
       ·rw [hP] at hb;cases hb
      ·rw [aL (hne b' _ q)];exact q
      ·rw [aL (hne b' _ q)];exact q
      ·rw [aL (hne b' _ q)];exact q
  have n:upd H c' (.frz oc (.own c')) h'.objs.size=none:=J.hok.fresh (K8 _);have n0:H h'.objs.size=none:=I.hok.fresh (Lz hge (MO hlt));exact ⟨.ref _,_,fin J rfl,rfl,h _ c' ctv _ n0 aV ((iA hn).trans (iA n)) ⟨oc,vs,t,by rw [aL (aX aV n)];exact aV,hd,hv⟩⟩
abbrev Cx.in1 (X:Cx):Cx:={ X with A:=X.A.in1 }
section
variable {X:Cx} {pins:List (Addr×Obj)} {σ:St} {H:Hp} {s:Shared}
theorem Inv.in1 (I:Inv X pins σ H s):Inv X.in1 pins σ H s :=
 ⟨⟨I.ok.mod,I.ok.kind,I.ok.glob,I.ok.blt,I.ok.above,I.ok.inj,I.ok.has,I.ok.cab,I.ok.hd,I.ok.frames,I.ok.stk,I.ok.exf,I.ok.bs,I.ok.bsz,I.ok.noex,I.ok.exfs,I.ok.funs,I.ok.frf⟩,I.os,I.bare,I.base,I.loc,I.cell,I.free,I.freeC,I.pin,I.hok,I.len,I.tab⟩
theorem Inv.of1 (I:Inv X.in1 pins σ H s):Inv X pins σ H s :=
 ⟨⟨I.ok.mod,I.ok.kind,I.ok.glob,I.ok.blt,I.ok.above,I.ok.inj,I.ok.has,I.ok.cab,I.ok.hd,I.ok.frames,I.ok.stk,I.ok.exf,I.ok.bs,I.ok.bsz,I.ok.noex,I.ok.exfs,I.ok.funs,I.ok.frf⟩,I.os,I.bare,I.base,I.loc,I.cell,I.free,I.freeC,I.pin,I.hok,I.len,I.tab⟩
end
def bst (lt:Nat->Nat->Bool):Nat->Nat
 | 0=>0
 | j+1=>if lt (j+1) (bst lt j) then j+1 else bst lt j
theorem yD (lt:Nat->Nat->Bool):∀ j,bst lt j<=j
 | 0=>K8 _
 | j+1=>by
  unfold bst;split
  ·exact K8 _
  ·exact Nat.le_succ_of_le (yD lt j)
structure mI (X:Cx) (σ:St) (pins:List (Addr×Obj)) (q l:Addr) (xs:List V) (Φ:Hp->Prop) (κ:Nat->V->Hp->Prop) (lt:Nat->Nat->Bool):Prop where
 lst:∀ H,Φ H->H l=some (.lst xs)
 turn:∀ (i:Nat) (x:V),xs[i]?=some x->∀ (pins':List (Addr×Obj)) (H:Hp) (s:Shared) (u:Value),(∀ p∈pins,p∈pins')->Inv X.in1 pins' σ H s->Φ H->RelV x u ->
  wpAny (model X.prog X.w) X.A.in1 (call (.ref q) [u]) (EP X.in1 pins' σ fun v H'=>Φ H'/\κ i v H'/\∀ j v',κ j v' H->κ j v' H') (fun _ _=>False) s
 cmp:∀ (i j:Nat) (x y:V) (pins':List (Addr×Obj)) (H:Hp) (s:Shared) (u v:Value),Inv X.in1 pins' σ H s->Φ H->κ i x H->κ j y H->RelV x u->RelV y v ->
  wpAny (model X.prog X.w) X.A.in1 (richCompare .Lt u v) (fun r s'=>r=.bool (lt i j)/\Inv X.in1 pins' σ H s') (fun _ _=>False) s
section
variable {X:Cx} {pins:List (Addr×Obj)} {σ:St} {q l:Addr} {xs:List V} {Φ:Hp->Prop} {κ:Nat->V->Hp->Prop} {lt:Nat->Nat->Bool} {R:Result->Shared->Prop}
theorem Inv.turnPin {H:Hp} {s:Shared} {ps:List (Addr×Obj)} {it:Addr} {o o':Obj} {h':Heap} {t':Nat} (I:Inv X ((it,o)::ps) σ H s) (k:∀ b u,b≠it->s.heap.get? b=some u->h'.get? b=some u) (ho:h'.get? it=some o')
  (h1:X.s₀.heap.objs.size<=it) (h3:∀ p∈X.pn++ps,p.1≠it) (hc:∀ v,o'.data≠.cell v):Inv X ((it,o')::ps) σ H { s with heap:=h',toks:=t' }:=by
 obtain ⟨e,n,ne,nf,d⟩:=I.pin (it,o) (K7 _ (.head _));have I0:Inv X ps σ H s:=I.pins_of fun p hp=>I.pin p (K7 _ (.tail _ hp))
 have J:Inv X ps σ H { s with heap:=h',toks:=t' }:=I0.turned k n ne (.inr h1) (fun x c hl z=>by obtain ⟨v,o2,e2,d2⟩:=I.cell x c hl;subst z;rw [e] at e2;cases e2;exact d v d2) h3
 refine J.pins_of fun p hp=>?_
 rcases K6.mp hp with rfl | hp
 ·exact ⟨ho,n,ne,nf,hc⟩
 ·exact J.pin p (K7 _ hp)
theorem Inv.swap {H:Hp} {s:Shared} {ps:List (Addr×Obj)} {a b:Addr×Obj} (I:Inv X (a::b::ps) σ H s):Inv X (b::a::ps) σ H s:=I.pins_of fun p hp=>I.pin p (K7 _ (by
 rcases K6.mp hp with rfl | hp
 ·exact .tail _ (.head _)
 ·rcases K6.mp hp with rfl | hp
  ·exact .head _
  ·exact .tail _ (.tail _ hp)))
theorem EO (KK:mI X σ pins q l xs Φ κ lt) (hh:X.A.handled=none)
  (hR:∀ H' s' x u,xs[bst lt (xs.length-1)]?=some x->RelV x u->Inv X pins σ H' s'->Φ H'->R (.ok (.ret u)) s') :
  ∀ (r j:Nat) (H:Hp) (s:Shared) (ub uk:Value) (xb kb:V) (c:Nat) (It S:Addr) (oI:Obj),xs.length-(j+1)=r->j+1<=xs.length->X.s₀.heap.objs.size<=It->X.s₀.heap.objs.size<=S->S≠It ->
   (∀ p∈X.pn++pins,p.1≠It)->(∀ p∈X.pn++pins,p.1≠S) ->
   Inv X.in1 ((S,seqObj "list" #[ub,uk] c)::(It,oI)::pins) σ H s->oI.cls=.type "list_iterator"->oI.data=.fields #[.ref l,.int ((j+1:Nat):Int) 0]->Φ H->xs[bst lt j]?=some xb->RelV xb ub->κ (bst lt j) kb H->RelV kb uk ->
   codeAny (model X.prog X.w) X.A (.builtin "min.loop" ⟨[.ref It,.ref q,.ref S],[]⟩) R s:=by
 have hname:(toString "min"++toString ".loop":String)="min.loop":=by decide
 intro r
 induction r with
 | zero =>
  intro j H s ub uk xb kb c It S oI hr hj zI zS hSI nI nS I hc1 hd1 hΦ hb rb hκ rk;have hin:j+1=xs.length:=by omega
  have pS:=I.pin (S,seqObj "list" #[ub,uk] c) (K7 _ (.head _));have pI:=I.pin (It,oI) (K7 _ (.tail _ (.head _)));have hl:=KK.lst H hΦ;obtain ⟨its,n,rv,eL,_⟩:=I.lst hl;have hlI:l≠It:=aX hl pI.2.1;have hsz:its.toArray.size=xs.length:=by rw [L0,<-rv.length]
  have W:=Walks.list (prog:=X.prog) (w:=X.w) (A:=X.A.in1) hh It l hlI its.toArray;refine codeAny_builtin PySem.F.entry_min_loop ?_;rw [Around.under_plainId PySem.F.plain_min_loop _];show wpAny _ X.A.in1 (seqItems? (.ref S) >>= _) _ _ _;refine wpAny_bind (wpAny_seqItems pS.1 rfl ?_);show wpAny _ X.A.in1 (tryCatch (pyNext (.ref It)) _ >>= _) _ _ _;refine wpAny_bind (wpAny_tryCatch (W.done _ _ _ ⟨by rw [hsz,<-hin];exact ⟨oI,pI.1,hc1,hd1⟩,⟨_,eL,rfl,n,rfl⟩⟩ fun h' tk' hk'=>?_));have I1:Inv X.in1 ((S,seqObj "list" #[ub,uk] c)::pins) σ H { s with heap:=h',toks:=tk' }:=by
   have I0:Inv X.in1 ((S,seqObj "list" #[ub,uk] c)::pins) σ H s:=I.pins_of fun p hp=>I.pin p (K7 _ (by
    rcases K6.mp hp with rfl | hp
    ·exact .head _
    ·exact .tail _ (.tail _ hp)))
   refine I0.turned (fun b o nb e=>hk' b o (by simpa using nb) e) pI.2.1 pI.2.2.1 (.inr zI) (fun x cc hcl z=>?_) fun p hp=>?_
   ·obtain ⟨v,o2,e2,d2⟩:=I.cell x cc hcl;subst z;rw [pI.1] at e2;cases e2;exact pI.2.2.2.2 v d2
   ·rcases Lg.mp hp with hp | hp
    ·exact nI p (Lm _ hp)
    ·rcases K6.mp hp with rfl | hp
     ·exact hSI
     ·exact nI p (K7 _ hp)
  have pS1:=I1.pin (S,seqObj "list" #[ub,uk] c) (K7 _ (.head _));have s1:=Heap.SameBut.update h' S (Obj.mapSeq fun _=>(#[]:Array Value));show wpAny _ X.A.in1 (updateSeq S (fun _=>#[]) >>= _) _ _ _;refine wpAny_bind ?_;refine wpAny_updateSeq pS1.1 rfl (wpAny_bind (wpAny_letGo (wpAny_pure ?_)));have I2:Inv X.in1 pins σ H { s with heap:=h'.update S (Obj.mapSeq fun _=>(#[]:Array Value)),toks:=tk' }:=by
   have I0:Inv X.in1 pins σ H { s with heap:=h',toks:=tk' }:=I1.pins_of fun p hp=>I1.pin p (K7 _ (.tail _ hp))
   refine I0.turned (h':=h'.update S (Obj.mapSeq fun _=>(#[]:Array Value))) (t':=tk') (fun b o nb e=>(s1.2 b nb).trans e) pS1.2.1 pS1.2.2.1 (.inr zS) (fun x cc hcl z=>?_) nS;obtain ⟨v,o2,e2,d2⟩:=I1.cell x cc hcl;subst z;rw [pS1.1] at e2;cases e2;exact pS1.2.2.2.2 v d2
  exact hR H _ xb ub (by rw [<-hin];exact hb) rb I2.of1 hΦ
 | succ r ih =>
  intro j H s ub uk xb kb c It S oI hr hj zI zS hSI nI nS I hc1 hd1 hΦ hb rb hκ rk;have hlt:j+1<xs.length:=by omega
  have pS:=I.pin (S,seqObj "list" #[ub,uk] c) (K7 _ (.head _));have pI:=I.pin (It,oI) (K7 _ (.tail _ (.head _)));have hl:=KK.lst H hΦ;obtain ⟨its,n,rv,eL,_⟩:=I.lst hl;have hlI:l≠It:=aX hl pI.2.1;have hsz:its.toArray.size=xs.length:=by rw [L0,<-rv.length]
  have W:=Walks.list (prog:=X.prog) (w:=X.w) (A:=X.A.in1) hh It l hlI its.toArray;refine codeAny_builtin PySem.F.entry_min_loop ?_;rw [Around.under_plainId PySem.F.plain_min_loop _];show wpAny _ X.A.in1 (seqItems? (.ref S) >>= _) _ _ _;refine wpAny_bind (wpAny_seqItems pS.1 rfl ?_);show wpAny _ X.A.in1 (tryCatch (pyNext (.ref It)) _ >>= _) _ _ _;refine wpAny_bind (wpAny_tryCatch (W.item (j+1) _ _ _ (by rw [hsz];exact hlt) ⟨⟨oI,pI.1,hc1,hd1⟩,⟨_,eL,rfl,n,rfl⟩⟩ fun v h' tk' hP hst' hk'=>?_));have hv:its[j+1]?=some v:=by simpa using hP
  obtain ⟨x,hx⟩:∃ x,xs[j+1]?=some x:=⟨_,K3 hlt⟩
  obtain ⟨v',hv',rx⟩:=rv.get hx;rw [hv] at hv';cases hv';obtain ⟨oI',hoI',hoc,hod⟩:=id hst'.1;have J:Inv X.in1 ((It,oI')::(S,seqObj "list" #[ub,uk] c)::pins) σ H { s with heap:=h',toks:=tk' } :=
   I.swap.turnPin (fun b o nb e=>hk' b o (by simpa using nb) e) hoI' zI (fun p hp=>by
    rcases Lg.mp hp with hp | hp
    ·exact nI p (Lm _ hp)
    ·rcases K6.mp hp with rfl | hp
     ·exact hSI
     ·exact nI p (K7 _ hp)) fun vv z=>by rw [hod] at z;cases z
  show wpAny _ X.A.in1 (tryCatch (holding [v] (call (.ref q) [v])) _ >>= _) _ _ _;refine wpAny_bind (wpAny_tryCatch (wpAny_holding (wpAny_mono (KK.turn (j+1) x hx _ H _ v (fun p hp=>.tail _ (.tail _ hp)) J hΦ rx) (fun uk2 s2 he=>?_) fun _ _ hF=>hF.elim)));obtain ⟨kv,H2,J2,rk2,hΦ2,hκ2,hst⟩:=he;show wpAny _ X.A.in1 (tryCatch (holding [v,uk2] (richCompare .Lt uk2 uk >>= _)) _ >>= _) _ _ _;refine wpAny_bind (wpAny_tryCatch (wpAny_holding (wpAny_bind (wpAny_mono (KK.cmp (j+1) (bst lt j) kv kb _ H2 s2 uk2 uk J2 hΦ2 hκ2 (hst _ _ hκ) rk2 rk) (fun rr s3 hc3=>?_) fun _ _ hF=>hF.elim))));obtain ⟨rfl,J3⟩:=hc3;refine wpAny_bind (wpAny_holding (wpAny_truthy_bool ?_));refine wpAny_bind (wpAny_letGo (wpAny_pure ?_));have pS3:=J3.pin (S,seqObj "list" #[ub,uk] c) (K7 _ (.tail _ (.head _)));cases hb':lt (j+1) (bst lt j) with
  | true =>
   have s1:=Heap.SameBut.update s3.heap S (Obj.mapSeq fun _=>#[v,uk2]);obtain ⟨c2,hc2⟩:∃ c2,(s3.heap.update S (Obj.mapSeq fun _=>#[v,uk2])).get? S=some (seqObj "list" #[v,uk2] c2):=⟨_,get?_update_seq pS3.1 fun _=>#[v,uk2]⟩
   simp only [if_true];refine wpAny_bind ?_;refine wpAny_updateSeq pS3.1 rfl (wpAny_bind (wpAny_letGo ?_));rw [hname];have J4:Inv X.in1 ((S,seqObj "list" #[v,uk2] c2)::(It,oI')::pins) σ H2 { s3 with heap:=s3.heap.update S (Obj.mapSeq fun _=>#[v,uk2]),toks:=s3.toks } :=
    J3.swap.turnPin (fun b o nb e=>(s1.2 b nb).trans e) hc2 zS (fun p hp=>by
     rcases Lg.mp hp with hp | hp
     ·exact nS p (Lm _ hp)
     ·rcases K6.mp hp with rfl | hp
      ·exact hSI.symm
      ·exact nS p (K7 _ hp)) fun vv z=>by cases z
   have eb:bst lt (j+1)=j+1:=by unfold bst;rw [if_pos hb']
   exact wpAny_pure ⟨plainId_quiet PySem.F.plain_min_loop _,ih (j+1) H2 _ v uk2 x kv c2 It S oI' (by omega) hlt zI zS hSI nI nS J4 hoc hod hΦ2 (by rw [eb];exact hx) rx (by rw [eb];exact hκ2) rk2⟩
  | false =>
   simp only [L5,if_false];refine wpAny_bind (wpAny_letGo ?_);rw [hname];have eb:bst lt (j+1)=bst lt j:=by rw [bst,if_neg (by rw [hb'];decide)]
   exact wpAny_pure ⟨plainId_quiet PySem.F.plain_min_loop _,ih (j+1) H2 _ ub uk xb kb c It S oI' (by omega) hlt zI zS hSI nI nS J3.swap hoc hod hΦ2 (by rw [eb];exact hb) rb (by rw [eb];exact hst _ _ hκ) rk⟩
theorem Ih {H:Hp} {s:Shared} {Q:Value->Shared->Prop} {E:Value->Shared->Prop} (KK:mI X σ pins q l xs Φ κ lt) (hh:X.A.handled=none) (I:Inv X pins σ H s) (hΦ:Φ H) (hne:0<xs.length)
  (hQ:∀ H' s' x u,xs[bst lt (xs.length-1)]?=some x->RelV x u->Inv X pins σ H' s'->Φ H'->Q u s') :
  wpAny (model X.prog X.w) X.A (call (.builtin "min") [.ref l] [(Str.ofString "key",.ref q)]) Q E s:=by
 have hname:(toString "min"++toString ".loop":String)="min.loop":=by decide
 have hl:=KK.lst H hΦ;obtain ⟨its,n,rv,eL,_⟩:=I.lst hl;have hls:s.heap.IsList l its.toArray:=⟨_,eL,rfl,n,rfl⟩
 refine kmk_tree PySem.F.kind_min PySem.F.plain_min PySem.F.entry_min (kmk_min_key _ _) ?_;show wpAny _ X.A.in1 (Builtin.Builtins.bindParams "min" ["key", "default"] 0 ⟨[],[(Str.ofString "key",.ref q)]⟩ >>= _) _ _ s;refine wpAny_bind (wpAny_of_eq (show Builtin.Builtins.bindParams "min" ["key", "default"] 0 ⟨[],[(Str.ofString "key",.ref q)]⟩=pure [some (.ref q),none] from rfl) ?_);refine wpAny_bind (wpAny_pure ?_);refine wpAny_bind (wpAny_pyIter_list hls ?_);refine wpAny_bind (wpAny_newList ?_ (Lw _));rw [hname];have hS:(s.heap.push { cls:=.type "list_iterator",data:=.fields #[.ref l,.int 0 0] }).objs.size=s.heap.objs.size+1:=size_push' ..;have hll:l<s.heap.objs.size:=KR eL;have hlI:l≠s.heap.objs.size:=KY hll;have hSI:(s.heap.push { cls:=.type "list_iterator",data:=.fields #[.ref l,.int 0 0] }).objs.size≠s.heap.objs.size:=by rw [hS];exact LA (LR _)
 have nI:∀ p∈X.pn++pins,p.1≠s.heap.objs.size:=fun p hp=>KY (KR (I.pin p hp).1)
 have nS:∀ p∈X.pn++pins,p.1≠(s.heap.push { cls:=.type "list_iterator",data:=.fields #[.ref l,.int 0 0] }).objs.size:=fun p hp=>by rw [hS];exact KY (LF (KR (I.pin p hp).1))
 refine wpAny_pure ⟨plainId_quiet PySem.F.plain_min_loop _,?_⟩;have gI:((s.heap.push { cls:=.type "list_iterator",data:=.fields #[.ref l,.int 0 0] }).push (seqObj "list" #[] 0)).get? s.heap.objs.size=some { cls:=.type "list_iterator",data:=.fields #[.ref l,.int 0 0] } :=
  K2 _ (KZ _ rfl)
 have gS:((s.heap.push { cls:=.type "list_iterator",data:=.fields #[.ref l,.int 0 0] }).push (seqObj "list" #[] 0)).get? (s.heap.push { cls:=.type "list_iterator",data:=.fields #[.ref l,.int 0 0] }).objs.size=some (seqObj "list" #[] 0):=KZ _ rfl;have zI:X.s₀.heap.objs.size<=s.heap.objs.size:=I.sz;have zS:X.s₀.heap.objs.size<=(s.heap.push { cls:=.type "list_iterator",data:=.fields #[.ref l,.int 0 0] }).objs.size:=by rw [hS];exact Nat.le_succ_of_le zI
 generalize eSa:(s.heap.push { cls:=.type "list_iterator",data:=.fields #[.ref l,.int 0 0] }).objs.size=S at *;generalize eIa:s.heap.objs.size=It at *;have I0:Inv X.in1 pins σ H { s with heap:=(s.heap.push { cls:=.type "list_iterator",data:=.fields #[.ref l,.int 0 0] }).push (seqObj "list" #[] 0),toks:=s.toks }:=I.in1.kept fun b u e=>K2 _ (K2 _ e)
 have hfI:s.heap.objs.size<=It:=Nat.le_of_eq eIa;have hfS:s.heap.objs.size<=S:=by omega
 have I1:Inv X.in1 ((S,seqObj "list" #[] 0)::(It,{ cls:=.type "list_iterator",data:=.fields #[.ref l,.int 0 0] })::pins) σ H { s with heap:=(s.heap.push { cls:=.type "list_iterator",data:=.fields #[.ref l,.int 0 0] }).push (seqObj "list" #[] 0),toks:=s.toks }:=by
  refine I0.pins_of fun p hp=>?_
  rcases K6.mp hp with rfl | hp
  ·exact ⟨gS,I.hok.fresh hfS,LA (L1 I.lt hfS),I.nofs hfS,fun v z=>by cases z⟩
  ·rcases K6.mp hp with rfl | hp
   ·exact ⟨gI,I.hok.fresh hfI,LA (L1 I.lt hfI),I.nofs hfI,fun v z=>by cases z⟩
   ·exact I0.pin p (K7 _ hp)
 have hsz:its.toArray.size=xs.length:=by rw [L0,<-rv.length]
 have W:=Walks.list (prog:=X.prog) (w:=X.w) (A:=X.A.in1) hh It l hlI its.toArray;refine codeAny_builtin PySem.F.entry_min_loop ?_;rw [Around.under_plainId PySem.F.plain_min_loop _];show wpAny _ X.A.in1 (seqItems? (.ref _) >>= _) _ _ _;refine wpAny_bind (wpAny_seqItems gS rfl ?_);show wpAny _ X.A.in1 (tryCatch (pyNext (.ref It)) _ >>= _) _ _ _;refine wpAny_bind (wpAny_tryCatch (W.item 0 _ _ _ (by rw [hsz];exact hne) ⟨⟨_,gI,rfl,rfl⟩,⟨_,K2 _ (K2 _ eL),rfl,n,rfl⟩⟩ fun v h' tk' hP hst' hk'=>?_));have hv:its[0]?=some v:=by simpa using hP
 obtain ⟨x,hx⟩:∃ x,xs[0]?=some x:=⟨_,K3 hne⟩
 obtain ⟨v',hv',rx⟩:=rv.get hx;rw [hv] at hv';cases hv';obtain ⟨oI',hoI',hoc,hod⟩:=id hst'.1;have J:Inv X.in1 ((It,oI')::(S,seqObj "list" #[] 0)::pins) σ H { s with heap:=h',toks:=tk' } :=
  I1.swap.turnPin (fun b o nb e=>hk' b o (by simpa using nb) e) hoI' zI (fun p hp=>by
   rcases Lg.mp hp with hp | hp
   ·exact nI p (Lm _ hp)
   ·rcases K6.mp hp with rfl | hp
    ·exact hSI
    ·exact nI p (K7 _ hp)) fun vv z=>by rw [hod] at z;cases z
 show wpAny _ X.A.in1 (tryCatch (holding [v] (call (.ref q) [v])) _ >>= _) _ _ _;refine wpAny_bind (wpAny_tryCatch (wpAny_holding (wpAny_mono (KK.turn 0 x hx _ H _ v (fun p hp=>.tail _ (.tail _ hp)) J hΦ rx) (fun uk2 s2 he=>?_) fun _ _ hF=>hF.elim)));obtain ⟨kv,H2,J2,rk2,hΦ2,hκ2,_⟩:=he;have pS2:=J2.pin (S,seqObj "list" #[] 0) (K7 _ (.tail _ (.head _)));have s1:=Heap.SameBut.update s2.heap S (Obj.mapSeq fun _=>#[v,uk2]);obtain ⟨c2,hc2⟩:∃ c2,(s2.heap.update S (Obj.mapSeq fun _=>#[v,uk2])).get? S=some (seqObj "list" #[v,uk2] c2):=⟨_,get?_update_seq pS2.1 fun _=>#[v,uk2]⟩
 show wpAny _ X.A.in1 (updateSeq S (fun _=>#[v,uk2]) >>= _) _ _ _;refine wpAny_bind ?_;refine wpAny_updateSeq pS2.1 rfl ?_;rw [hname];have J4:Inv X.in1 ((S,seqObj "list" #[v,uk2] c2)::(It,oI')::pins) σ H2 { s2 with heap:=s2.heap.update S (Obj.mapSeq fun _=>#[v,uk2]),toks:=s2.toks } :=
  J2.swap.turnPin (fun b o nb e=>(s1.2 b nb).trans e) hc2 zS (fun p hp=>by
   rcases Lg.mp hp with hp | hp
   ·exact nS p (Lm _ hp)
   ·rcases K6.mp hp with rfl | hp
    ·exact hSI.symm
    ·exact nS p (K7 _ hp)) fun vv z=>by cases z
 exact wpAny_pure ⟨plainId_quiet PySem.F.plain_min_loop _,EO KK hh (fun H' s' x u hx ru J hp=>hQ H' s' x u hx ru J hp) _ 0 H2 _ v uk2 x kv c2 It S oI' rfl hne zI zS hSI nI nS J4 hoc hod hΦ2 hx rx hκ2 rk2⟩
end
def af (i:Nat):Ds->Rs PyData:=fun δ=>match δ[i]? with
 | some (some d)=>.ok d
 | _=>.no
def gC (d:PyData):Ds->Rs PyData:=fun _=>.ok d
def g1 (f:PyData->Option PyData) (a:Ds->Rs PyData):Ds->Rs PyData:=fun δ=>(a δ).bind fun x=>Rs.eP (f x)
def g2 (f:PyData->PyData->Option PyData) (a b:Ds->Rs PyData):Ds->Rs PyData:=fun δ=>(a δ).bind fun x=>(b δ).bind fun y=>Rs.eP (f x y)
def gF (f:List PyData->Option PyData) (as:Ds->Rs (List PyData)):Ds->Rs PyData:=fun δ=>(as δ).bind fun ds=>Rs.eP (f ds)
def ao:Ds->Rs (List PyData):=fun _=>.ok []
def ae (a:Ds->Rs PyData) (r:Ds->Rs (List PyData)):Ds->Rs (List PyData):=fun δ=>(a δ).bind fun x=>(r δ).bind fun xs=>.ok (x::xs)
def jU (as:Ds->Rs (List PyData)):Ds->Rs PyData:=fun δ=>(as δ).bind fun ds=>.ok (.tuple ds)
def gQ (as:Ds->Rs (List PyData)):Ds->Rs PyData:=fun δ=>(as δ).bind fun ds=>.ok (.list ds)
def ay (gf:List PyData->Rs PyData) (as:Ds->Rs (List PyData)):Ds->Rs PyData:=fun δ=>(as δ).bind gf
def truth:PyData->Rs Bool
 | .bool b=>.ok b
 | _=>.no
def gT (a:Ds->Rs PyData):Ds->Rs Bool:=fun δ=>(a δ).bind truth
def iO (a:Ds->Rs Bool):Ds->Rs Bool:=fun δ=>(a δ).bind fun b=>.ok (!b)
def Bd (a b:Ds->Rs Bool):Ds->Rs Bool:=fun δ=>(a δ).bind fun x=>if x=true then b δ else .ok false
def cOr (a b:Ds->Rs Bool):Ds->Rs Bool:=fun δ=>(a δ).bind fun x=>if x=true then .ok true else b δ
def wd (a b:Ds->Rs PyData):Ds->Rs PyData:=fun δ=>(a δ).bind fun x=>(truth x).bind fun t=>if t=true then b δ else .ok (.bool false)
def gOr (a b:Ds->Rs PyData):Ds->Rs PyData:=fun δ=>(a δ).bind fun x=>(truth x).bind fun t=>if t=true then .ok (.bool true) else b δ
def Kj (a:Ds->Rs PyData):Ds->Rs PyData:=fun δ=>(a δ).bind fun x=>(truth x).bind fun t=>.ok (.bool (!t))
def gIf (c:Ds->Rs Bool) (a b:Ds->Rs PyData):Ds->Rs PyData:=fun δ=>(c δ).bind fun x=>if x=true then a δ else b δ
section
variable {X:Cx} {E:XK} {a b c e:Expr} {ga gb gc:Ds->Rs PyData} {pos:Pos}
theorem ah (i:Nat) {x:Str} {pos:Pos} (hN:X.N[i]?=some x:=by rfl) (hv:Vis X.env.scope x:=by first | exact Or.inl rfl | exact Or.inr (Or.inl rfl) | exact Or.inr (Or.inr rfl)) (hd:(x==("__debug__":Str))=false:=by decide)
  (hcd:(x==("__classdict__":Str))=false:=by decide):PD X E (.Name x pos) (af i) :=
 (mh hN hv hd hcd).imp fun σ H Q pz3=>by
  obtain ⟨A,δ,R,o⟩:=pz3;unfold af at o;split at o
  ·rename_i d e;obtain ⟨v,e1,h⟩:=R.get i d e;exact ⟨v,e1,o v H (aA.refl H) h⟩
  ·exact o.elim
theorem C0 {v:V} {d:PyData} (h:PE X e (tC v)) (hi:∀ K H,Is K H d v):PD X E e (gC d):=h.imp fun σ H Q qz3=>(by obtain ⟨A,δ,R,o⟩:=qz3;exact o v H (aA.refl H) (hi _ _))
theorem av {i j pos}:PD X E (.Constant (.int i) j pos) (gC (.int i)):=C0 gZ fun _ _=>ck
theorem kf {i j pos}:PD X E (.Constant (.bool i) j pos) (gC (.bool i)):=C0 Jn fun _ _=>is_bool
theorem fW {j pos}:PD X E (.Constant .none j pos) (gC .none):=C0 Io fun _ _=>is_none
theorem iZ {i j pos}:PD X E (.Constant (.str i) j pos) (gC (.str i)):=C0 IF fun _ _=>CT
theorem fK {i:Int} {x:Str} {pos:Pos} (hm:∃ t,X.mg x=some (.int i t)) (hg:Gl X x:=by rfl) (hd:(x==("__debug__":Str))=false:=by decide):PD X E (.Name x pos) (gC (.int i)):=by obtain ⟨t,hm⟩:=hm;exact C0 (Gq (v:=.int i) hg hm ⟨_,rfl⟩ hd) fun _ _=>ck
def OpD (K:PySem.W.Frag) (f:PyData->PyData->Option PyData) (r:R2):Prop :=
 ∀ (d1 d2 d:PyData) (x y:V) (H:Hp) (A:List Addr) (Q:VK),f d1 d2=some d->Ls H A->Is K (del H A) d1 x->Is K (del H A) d2 y->(∀ v H',aA H H'->Is K (del H' A) d v->Q v H')->r x y H Q
theorem g2.read {r:R2} {f:PyData->PyData->Option PyData} {σ:St} {H:Hp} {A:List Addr} {δ:Ds} {Q:VK} {K:PySem.W.Frag} (hr:OpD K f r) (R:eK K H A δ σ) (o:iK K E A H (g2 f ga gb δ) Q) :
  tOp r (eD K E ga) (eD K E gb) σ H Q:=by
 unfold g2 at o;refine eD.run R (fun d1 e1 v H1 s1 R1 h1=>?_) (fun C e1 H' s'=>?_) (fun e1=>?_)
 ·rw [e1] at o;refine eD.run R1 (fun d2 e2 u H2 s2 R2 h2=>?_) (fun C e2 H' s'=>?_) (fun e2=>?_)
  ·simp only [Rs.aj,e2] at o;cases e3:f d1 d2 with
   | none=>rw [e3] at o;exact o.elim
   | some d =>rw [e3] at o;exact hr d1 d2 d v u H2 A Q e3 R2.ls (h1.same s2.del) h2 fun w H' s q=>o w H' (s1.trans (s2.trans s)) q
  ·simp only [Rs.aj,e2,Rs.fo] at o;exact o H' (s1.trans s')
  ·simp only [Rs.aj,e2,Rs.bX] at o;exact o
 ·rw [e1] at o;exact o H' s'
 ·rw [e1] at o;exact o
theorem g0 {r:R2} {f:PyData->PyData->Option PyData} (hr:OpD X.K f r) (ha:PD X E a ga) (hb:PD X E b gb) (mk:∀ {ta tb:TE},PE X a ta->PE X b tb->PE X e (tOp r ta tb)):PD X E e (g2 f ga gb) :=
 (mk ha hb).imp fun σ H Q qz3=>(by obtain ⟨A,δ,R,o⟩:=qz3;exact g2.read hr R o)
theorem mW {r:R2} {f:PyData->PyData->Option PyData} (hr:OpD X.K f r) (ha:PD X E a ga) (hb:PD X E b gb) (mk:∀ {ta tb:TE},PE X a ta->PE X b tb->PT X e (GK (tOp r ta tb))):PCD X E e (gT (g2 f ga gb)) :=
 (mk ha hb).imp fun σ H Q pz3=>by
  obtain ⟨A,δ,R,o⟩:=pz3;refine g2.read (Q:=fun x H'=>∃ k,x=.bl k/\Q k H') hr R ?_;unfold gT at o;cases q:g2 f ga gb δ with
  | no=>rw [q] at o;exact o
  | rz C=>rw [q] at o;exact o
  | ok d =>
   rw [q] at o;cases d with
   | bool k=>exact fun v H' s h=>⟨k,h.ofBool,o H' s⟩
   | _=>exact o.elim
def dI (f:Int->Int->Option PyData):PyData->PyData->Option PyData
 | .int i,.int j=>f i j
 | _,_=>none
theorem Ba {f:Int->Int->Option PyData} {d1 d2 d:PyData} (h:dI f d1 d2=some d):∃ i j,d1=.int i/\d2=.int j/\f i j=some d:=by
 unfold dI at h;split at h
 ·exact ⟨_,_,rfl,rfl,h⟩
 ·cases h
def iP:=dI fun i j=>some (.int (i-j))
def fi:=dI fun i j=>if 0<j then some (.int (i % j)) else none
def gB:=dI fun i j=>if 0<j/\j<1073741824 then some (.int (i / j)) else none
def Ci:=dI fun i j=>if 0<=j/\j<=1000000/\i.natAbs<2 ^ 64 then some (.int (i ^ j.toNat)) else none
def dLt:=dI fun i j=>some (.bool (decide (i<j)))
def dLe:=dI fun i j=>some (.bool (decide (i<=j)))
def dGt:=dI fun i j=>some (.bool (decide (j<i)))
def dGe:=dI fun i j=>some (.bool (decide (j<=i)))
theorem jI {K:PySem.W.Frag} {f:Int->Int->PyData} {v:Int->Int->V} (hv:∀ i j K H,Is K H (f i j) (v i j)):OpD K (dI fun i j=>some (f i j)) (rI0 v):=fun d1 d2 d x y H A Q e hA h1 h2 k=>by obtain ⟨i,j,rfl,rfl,e⟩:=Ba e;cases e;exact ⟨i,j,h1.ofInt,h2.ofInt,k _ H (aA.refl H) (hv _ _ _ _)⟩
theorem Ef {K:PySem.W.Frag} {C C':Int->Int->Prop} [∀ i j,Decidable (C' i j)] {f:Int->Int->PyData} {v:Int->Int->V} (hc:∀ i j,C' i j->C i j) (hv:∀ i j K H,Is K H (f i j) (v i j)):OpD K (dI fun i j=>if C' i j then some (f i j) else none) (rI C v):=fun d1 d2 d x y H A Q e hA h1 h2 k=>by
 obtain ⟨i,j,rfl,rfl,e2⟩:=Ba e;by_cases z:C' i j
 ·simp only [if_pos z] at e2;cases e2;exact ⟨i,j,h1.ofInt,h2.ofInt,hc i j z,k _ H (aA.refl H) (hv _ _ _ _)⟩
 ·simp only [if_neg z] at e2;cases e2
theorem iM (ha:PD X E a ga) (hb:PD X E b gb):PD X E (.BinOp a .Sub b pos) (g2 iP ga gb):=g0 (jI fun _ _ _ _=>ck) ha hb (fB Ii)
theorem lZ (ha:PD X E a ga) (hb:PD X E b gb):PD X E (.BinOp a .Mod b pos) (g2 fi ga gb):=g0 (Ef (fun _ _ h=>h) fun _ _ _ _=>ck) ha hb (fB sx)
theorem nV (ha:PD X E a ga) (hb:PD X E b gb):PD X E (.BinOp a .FloorDiv b pos) (g2 gB ga gb):=g0 (Ef (C:=J0) (fun _ _ h=>h) fun _ _ _ _=>ck) ha hb (fB FA)
theorem Ha (ha:PD X E a ga) (hb:PD X E b gb):PD X E (.BinOp a .Pow b pos) (g2 Ci ga gb):=g0 (Ef (C:=Jd) (fun _ _ h=>h) fun _ _ _ _=>ck) ha hb (fB Hd)
theorem JG (ha:PD X E a ga) (hb:PD X E b gb):PD X E (.Compare a [.Lt] [b] pos) (g2 dLt ga gb):=g0 (jI fun _ _ _ _=>is_bool) ha hb fun h1 h2=>mV DV h1 h2 (jh _)
theorem IY (ha:PD X E a ga) (hb:PD X E b gb):PD X E (.Compare a [.LtE] [b] pos) (g2 dLe ga gb):=g0 (jI fun _ _ _ _=>is_bool) ha hb fun h1 h2=>mV Az h1 h2 (jh _)
theorem Jl (ha:PD X E a ga) (hb:PD X E b gb):PD X E (.Compare a [.Gt] [b] pos) (g2 dGt ga gb):=g0 (jI fun _ _ _ _=>is_bool) ha hb fun h1 h2=>mV Gz h1 h2 (jh _)
theorem zw (ha:PD X E a ga) (hb:PD X E b gb):PCD X E (.Compare a [.Lt] [b] pos) (gT (g2 dLt ga gb)):=mW (jI fun _ _ _ _=>is_bool) ha hb fun h1 h2=>lz DV h1 h2 (jh _)
theorem yP (ha:PD X E a ga) (hb:PD X E b gb):PCD X E (.Compare a [.LtE] [b] pos) (gT (g2 dLe ga gb)):=mW (jI fun _ _ _ _=>is_bool) ha hb fun h1 h2=>lz Az h1 h2 (jh _)
theorem sk (ha:PD X E a ga) (hb:PD X E b gb):PCD X E (.Compare a [.Gt] [b] pos) (gT (g2 dGt ga gb)):=mW (jI fun _ _ _ _=>is_bool) ha hb fun h1 h2=>lz Gz h1 h2 (jh _)
open PySem.SeqAt in
def dEq (x y:PyData):Option PyData:=if aP x&&aP y&&shaped x&&shaped y then some (.bool (PyData.eqv x y)) else none
open PySem.SeqAt in
def dNe (x y:PyData):Option PyData:=if aP x&&aP y&&shaped x&&shaped y then some (.bool (!PyData.eqv x y)) else none
open PySem.SeqAt in
theorem DC {K:PySem.W.Frag}:OpD K dEq (fun x y H Q=>∃ d e,IsD K H d x/\IsD K H e y/\shaped d=true/\shaped e=true/\Q (.bl (PyData.eqv d e)) H):=fun d1 d2 d x y H A Q e hA h1 h2 k=>by
 unfold dEq at e;split at e
 ·rename_i z;simp only [K9] at z;cases e;exact ⟨d1,d2,(h1.same aI).isd z.1.1.1,(h2.same aI).isd z.1.1.2,z.1.2,z.2,k _ H (aA.refl H) is_bool⟩
 ·cases e
open PySem.SeqAt in
theorem GX {K:PySem.W.Frag}:OpD K dNe (fun x y H Q=>∃ d e,IsD K H d x/\IsD K H e y/\shaped d=true/\shaped e=true/\Q (.bl (!PyData.eqv d e)) H):=fun d1 d2 d x y H A Q e hA h1 h2 k=>by
 unfold dNe at e;split at e
 ·rename_i z;simp only [K9] at z;cases e;exact ⟨d1,d2,(h1.same aI).isd z.1.1.1,(h2.same aI).isd z.1.1.2,z.1.2,z.2,k _ H (aA.refl H) is_bool⟩
 ·cases e
theorem Ei {k:Nat} (hr:cR k X.A) (ha:PD X E a ga) (hb:PD X E b gb):PD X E (.Compare a [.Eq] [b] pos) (g2 dEq ga gb):=g0 DC ha hb fun h1 h2=>mV (zf hr.units) h1 h2 (jh _)
theorem jQ {k:Nat} (hr:cR k X.A) (ha:PD X E a ga) (hb:PD X E b gb):PCD X E (.Compare a [.Eq] [b] pos) (gT (g2 dEq ga gb)):=mW DC ha hb fun h1 h2=>lz (zf hr.units) h1 h2 (jh _)
theorem zr {k:Nat} (hr:cR k X.A) (ha:PD X E a ga) (hb:PD X E b gb):PCD X E (.Compare a [.NotEq] [b] pos) (gT (g2 dNe ga gb)):=mW GX ha hb fun h1 h2=>lz (Hu hr.units) h1 h2 (jh _)
def bZ:PyData->Bool
 | .none=>true
 | _=>false
def gR (x:PyData):Option PyData:=some (.bool (bZ x))
def tE (x:PyData):Option PyData:=some (.bool (!bZ x))
theorem g1.read {tt:(VK)->VK} {f:PyData->Option PyData} {σ:St} {H:Hp} {A:List Addr} {δ:Ds} {Q:VK} {K:PySem.W.Frag} (R:eK K H A δ σ) (o:iK K E A H (g1 f ga δ) Q)
  (hr:∀ d1 d x H',f d1=some d->Ls H' A->aA H H'->Is K (del H' A) d1 x->(∀ v H2,aA H' H2->Is K (del H2 A) d v->Q v H2)->tt Q x H'):eD K E ga σ H (tt Q):=by
 unfold g1 at o;refine eD.run R (fun d1 e1 v H1 s1 R1 h1=>?_) (fun C e1 H' s'=>?_) (fun e1=>?_)
 ·simp only [e1,Rs.aj] at o;cases e3:f d1 with
  | none=>rw [e3] at o;exact o.elim
  | some d=>rw [e3] at o;exact hr d1 d v H1 e3 R1.ls s1 h1 fun w H' s q=>o w H' (s1.trans s) q
 ·rw [e1] at o;exact o H' s'
 ·rw [e1] at o;exact o
theorem yL {K:PySem.W.Frag} {H:Hp} {d:PyData} {v:V} (h:Is K H d v):decide (v=.non)=bZ d:=by
 by_cases z:v=.non
 ·rw [decide_eq_true z,h.isNone.mp z];rfl
 ·rw [decide_eq_false z];have:d≠.none:=fun q=>z (h.isNone.mpr q)
  cases d <;> first | (exact absurd rfl this) | rfl
theorem rY {j pos'} (ha:PD X E a ga):PD X E (.Compare a [.Is] [.Constant .none j pos'] pos) (g1 gR ga) :=
 (Ip (C1 ha)).imp fun σ H Q ⟨A,δ,R,o⟩=>g1.read (tt:=fun Q x H1=>Q (.bl (decide (x=.non))) H1) R o fun d1 d x H' e _ _ h k=>by cases e;rw [yL h];exact k _ H' (aA.refl _) is_bool
theorem zD {t:TE} (h:PT X e (tB t)) (k:∀ σ H Q,eD X.K E ga σ H Q->t σ H Q):PCD X E e (gT ga):=h.imp fun σ H Q ⟨A,δ,R,o⟩=>k σ H _ ⟨A,δ,R,by
 unfold gT at o;cases q:ga δ with
 | no=>rw [q] at o;exact o
 | rz C=>rw [q] at o;exact o
 | ok d =>
  rw [q] at o;cases d with
  | bool c=>exact fun v H' s h=>⟨c,h.ofBool,o H' s⟩
  | _=>exact o.elim⟩
theorem cN (h:PD X E e ga) (he:∀ whole,isTrue e X.env whole=(do let v <-whole;standAt e.pos;holding [v] (truthy v)):=by intro _;rfl):PCD X E e (gT ga):=zD (G2 h he) fun _ _ _ h=>h
theorem qD {j pos'} (ha:PD X E a ga):PCD X E (.Compare a [.Is] [.Constant .none j pos'] pos) (gT (g1 gR ga)) :=
 zD (zN (C1 ha)) fun σ H Q ⟨A,δ,R,o⟩=>g1.read (tt:=fun Q x H1=>Q (.bl (decide (x=.non))) H1) R o fun d1 d x H' e _ _ h k=>by cases e;rw [yL h];exact k _ H' (aA.refl _) is_bool
theorem wF {j pos'} (ha:PD X E a ga):PCD X E (.Compare a [.IsNot] [.Constant .none j pos'] pos) (gT (g1 tE ga)) :=
 zD (zN (Gw ha)) fun σ H Q ⟨A,δ,R,o⟩=>g1.read (tt:=fun Q x H1=>Q (.bl (!decide (x=.non))) H1) R o fun d1 d x H' e _ _ h k=>by cases e;rw [yL h];exact k _ H' (aA.refl _) is_bool
theorem Dc {ca:Ds->Rs Bool} {f:Bool->Rs Bool} {σ:St} {H:Hp} {A:List Addr} {δ:Ds} {Q:Bool->Hp->Prop} {K:PySem.W.Frag} {t:Bool->Hp->Prop} (R:eK K H A δ σ) (o:yr E H ((ca δ).bind f) Q)
  (k:∀ b H1,aA H H1->eK K H1 A δ σ->yr E H1 (f b) Q->t b H1):cD K E ca σ H t:=by
 refine cD.run R (fun b e H1 s1 R1=>?_) (fun C e H' s'=>?_) (fun e=>?_)
 ·rw [e] at o;exact k b H1 s1 R1 (yr.mono (show yr E H (f b) Q from o) s1)
 ·rw [e] at o;exact o H' s'
 ·rw [e] at o;exact o
variable {ca cb:Ds->Rs Bool} {rest:List Expr}
theorem dJ (ha:PCD X E a ca):PCD X E (.UnaryOp .Not a pos) (iO ca):=(HC ha).imp fun σ H Q qz3=>(by obtain ⟨A,δ,R,o⟩:=qz3;exact Dc R o fun b H1 s1 R1 o=>o H1 (aA.refl _))
theorem w6 (ha:PCD X E a ca):PWD X E (.BoolOp .And [a] pos) ca:=Gb ha
theorem iW (ha:PCD X E a ca):PWD X E (.BoolOp .Or [a] pos) ca:=HB ha
theorem AN (ha:PCD X E a ca) (hb:PWD X E (.BoolOp .And (b::rest) pos) cb):PWD X E (.BoolOp .And (a::b::rest) pos) (Bd ca cb):=PW.imp (Hh ha hb) fun σ H Q ⟨A,δ,R,o⟩=>Dc R o fun b H1 s1 R1 o=>by
 cases b with
 | true=>exact ⟨A,δ,R1,o⟩
 | false=>exact o H1 (aA.refl _)
theorem lp (ha:PCD X E a ca) (hb:PWD X E (.BoolOp .Or (b::rest) pos) cb):PWD X E (.BoolOp .Or (a::b::rest) pos) (cOr ca cb):=PW.imp (Jw ha hb) fun σ H Q ⟨A,δ,R,o⟩=>Dc R o fun b H1 s1 R1 o=>by
 cases b with
 | false=>exact ⟨A,δ,R1,o⟩
 | true=>exact o H1 (aA.refl _)
theorem lN (h:PWD X E e ca):PCD X E e ca:=PW.pt h
theorem GI {f:PyData->Rs PyData} {σ:St} {H:Hp} {A:List Addr} {δ:Ds} {Q:VK} {K:PySem.W.Frag} {t:VK} (R:eK K H A δ σ) (o:iK K E A H ((ga δ).bind f) Q)
  (k:∀ d v H1,aA H H1->eK K H1 A δ σ->Is K (del H1 A) d v->iK K E A H1 (f d) Q->t v H1):eD K E ga σ H t:=by
 refine eD.run R (fun d e v H1 s1 R1 h1=>?_) (fun C e H' s'=>?_) (fun e=>?_)
 ·rw [e] at o;exact k d v H1 s1 R1 h1 (iK.mono (show iK K E A H (f d) Q from o) s1)
 ·rw [e] at o;exact o H' s'
 ·rw [e] at o;exact o
theorem sg {K:PySem.W.Frag} {E:XK} {A:List Addr} {H:Hp} {d:PyData} {f:Bool->Rs PyData} {Q:VK} (o:iK K E A H ((truth d).bind f) Q):∃ t,d=.bool t/\iK K E A H (f t) Q:=by
 cases d with
 | bool t=>exact ⟨t,rfl,o⟩
 | _=>exact o.elim
theorem mD {op} (ha:PD X E a ga):PD X E (.BoolOp op [a] pos) ga:=HV ha
theorem rJ (ha:PD X E a ga) (hb:PD X E (.BoolOp .And (b::rest) pos) gb):PD X E (.BoolOp .And (a::b::rest) pos) (wd ga gb):=(HU ha hb).imp fun σ H Q ⟨A,δ,R,o⟩=>GI R o fun d v H1 s1 R1 h1 o=>by
 obtain ⟨t,rfl,o⟩:=sg o;refine ⟨t,h1.ofBool,?_⟩;cases t with
 | true=>exact ⟨A,δ,R1,o⟩
 | false=>exact o _ H1 (aA.refl _) is_bool
theorem GO (ha:PD X E a ga) (hb:PD X E (.BoolOp .Or (b::rest) pos) gb):PD X E (.BoolOp .Or (a::b::rest) pos) (gOr ga gb):=(IT ha hb).imp fun σ H Q ⟨A,δ,R,o⟩=>GI R o fun d v H1 s1 R1 h1 o=>by
 obtain ⟨t,rfl,o⟩:=sg o;refine ⟨t,h1.ofBool,?_⟩;cases t with
 | false=>exact ⟨A,δ,R1,o⟩
 | true=>exact o _ H1 (aA.refl _) is_bool
theorem EB (hc:PCD X E c ca) (ha:PD X E a ga) (hb:PD X E b gb):PD X E (.IfExp c a b pos) (gIf ca ga gb):=(CY hc ha hb).imp fun σ H Q pz3=>by
 obtain ⟨A,δ,R,o⟩:=pz3;unfold gIf at o;refine cD.run R (fun t e H1 s1 R1=>?_) (fun C e H' s'=>?_) (fun e=>?_)
 ·rw [e] at o;have o:=iK.mono (show iK X.K E A H (if t=true then ga δ else gb δ) Q from o) s1;cases t with
  | true=>exact ⟨A,δ,R1,o⟩
  | false=>exact ⟨A,δ,R1,o⟩
 ·rw [e] at o;exact o H' s'
 ·rw [e] at o;exact o
def qi:PyData->Option PyData
 | .int i=>some (.int (-i))
 | _=>none
theorem vT (ha:PD X E a ga):PD X E (.UnaryOp .USub a pos) (g1 qi ga):=(JX HR ha).imp fun σ H Q ⟨A,δ,R,o⟩=>g1.read (tt:=fun Q x H1=>∃ i,x=.int i/\Q (.int (-i)) H1) R o fun d1 d x H' e _ _ h k=>by
 cases d1 with
 | int i=>cases e;exact ⟨i,h.ofInt,k _ H' (aA.refl _) ck⟩
 | _=>cases e
variable {es:List Expr} {gs:Ds->Rs (List PyData)}
theorem aq:PAD X E [] ao:=⟨gM.imp fun σ H Q qz3=>(by obtain ⟨A,δ,R,o⟩:=qz3;exact o [] H (aA.refl _) dH),fun δ ds e=>by cases e;rfl⟩
theorem ag (ha:PD X E a ga) (hr:PAD X E es gs) (hs:starEach (a::es) X.env=(false,eval a X.env)::starEach es X.env:=by rfl):PAD X E (a::es) (ae ga gs):=by
 refine ⟨(eX ha hr.1 hs).imp fun σ H Q ⟨A,δ,R,o⟩=>?_,fun δ ds e=>?_⟩
 ·unfold ae at o;refine eD.run R (fun d e v H1 s1 R1 h1=>?_) (fun C e H' s'=>?_) (fun e=>?_)
  ·simp only [e,Rs.aj] at o;refine aD.run R1 (fun ds e2 vs H2 s2 R2 h2=>?_) (fun C e2 H' s'=>?_) (fun e2=>?_)
   ·simp only [e2,Rs.aj] at o;exact o _ H2 (s1.trans s2) (dk (h1.same s2.del) h2)
   ·simp only [e2,Rs.fo] at o;exact o H' (s1.trans s')
   ·simp only [e2,Rs.bX] at o;exact o
  ·simp only [e,Rs.fo] at o;exact o H' s'
  ·simp only [e,Rs.bX] at o;exact o
 ·unfold ae at e;cases q:ga δ with
  | ok d =>
   cases q2:gs δ with
   | ok l =>simp only [q,q2,Rs.aj] at e;cases e;simp [hr.2 δ l q2]
   | rz C=>simp only [q,q2,Rs.aj,Rs.fo] at e;cases e
   | no=>simp only [q,q2,Rs.aj,Rs.bX] at e;cases e
  | rz C=>simp only [q,Rs.fo] at e;cases e
  | no=>simp only [q,Rs.bX] at e;cases e
theorem ym {f:List PyData->Rs PyData} {σ:St} {H:Hp} {A:List Addr} {δ:Ds} {Q:VK} {K:PySem.W.Frag} {t:List V->Hp->Prop} (R:eK K H A δ σ) (o:iK K E A H ((gs δ).bind f) Q)
  (k:∀ ds vs H1,gs δ=.ok ds->aA H H1->eK K H1 A δ σ->Iss K (del H1 A) ds vs->iK K E A H1 (f ds) Q->t vs H1):aD K E gs σ H t:=by
 refine aD.run R (fun d e v H1 s1 R1 h1=>?_) (fun C e H' s'=>?_) (fun e=>?_)
 ·rw [e] at o;exact k d v H1 e s1 R1 h1 (iK.mono (show iK K E A H (f d) Q from o) s1)
 ·rw [e] at o;exact o H' s'
 ·rw [e] at o;exact o
theorem lX {x1} (h:PAD X E es gs) (hl:es.length<=1000:=by decide):PD X E (.Tuple es x1 pos) (jU gs):=(Hs h.1).imp fun σ H Q ⟨A,δ,R,o⟩=>ym R o fun ds vs H1 e s1 R1 h1 o=>by have n:=h.2 δ ds e;have m:=h1.length;exact ⟨by rw [sizeLine_eq];omega,fun p hp=>o _ _ (cm hp) (qj R1.ls hp h1)⟩
theorem kT (h:PAD X E es gs) (hl:es.length<=1000:=by decide):PD X E (.List es pos) (gQ gs):=(zE h.1).imp fun σ H Q ⟨A,δ,R,o⟩=>ym R o fun ds vs H1 e s1 R1 h1 o=>by have n:=h.2 δ ds e;have m:=h1.length;exact ⟨by rw [sizeLine_eq];omega,fun p hp=>o _ _ (cm hp) (nJ R1.ls hp h1)⟩
def spD (K:PySem.W.Frag) (n:Nat) (gf:List PyData->Rs PyData):Sp:=fun vs H Q E=>∃ A ds,Ls H A/\Iss K (del H A) ds vs/\ds.length=n/\iK K E A H (gf ds) Q
structure bg (P:Program) (w:World) (K:PySem.W.Frag) (mg:Str->Option Value) (base:Heap) (k:Nat) (x:Str) (n:Nat) (gf:List PyData->Rs PyData):Prop where
 ex:∃ f fd ps,iC P w K mg base (CXW P w) k f fd ps (spD K n gf)/\mg x=some (.ref f)/\PySem.W.keepIn K (.ref f)=true/\Binds K fd ps []
theorem cM {X:Cx}:Passes (CXW X.prog X.w) X E0:=fun _ _ _ _ _ _ _ qz7=>(by obtain ⟨_,_,_,_,_,_,h,_⟩:=qz7;exact h.elim)
theorem aN {k j:Nat} {x:Str} {p:Pos} {gf:List PyData->Rs PyData} (D:bg X.prog X.w X.K X.mg X.base k x (e::es).length gf) (hr:cR j X.A) (hx:Passes (CXW X.prog X.w) X E) (ha:PAD X E (e::es) gs) (hk:k<=j:=by decide) (hg:Gl X x:=by rfl)
  (hdb:(x==("__debug__":Str))=false:=by decide) (he:starEach (e::es) X.env=(false,eval e X.env)::starEach es X.env:=by rfl) (hpl:(backTo pos (starEach es X.env)).any (·.1)=false:=by rfl) :
  PD X E (.Call (.Name x p) (e::es) [] pos) (ay gf gs):=by
 obtain ⟨f,fd,ps,F,hm,hkp,hb⟩:=D.ex;refine (AA F (hr.mono hk) hg hm hkp hb .nil hx ha.1 hdb he hpl).imp fun σ H Q rz3=>?_
 obtain ⟨A,δ,R,o⟩:=rz3;refine ym R o fun ds vs H1 e s1 R1 h1 o=>?_
 refine ⟨A,ds,R1.ls,by simpa using h1,ha.2 δ ds e,o⟩
def FnD (K:PySem.W.Frag) (f:List PyData->Option PyData) (r:List V->Hp->VK->Prop):Prop :=
 ∀ (ds:List PyData) (d:PyData) (vs:List V) (H:Hp) (A:List Addr) (Q:VK),f ds=some d->Ls H A->Iss K (del H A) ds vs->(∀ v H',aA H H'->Is K (del H' A) d v->Q v H')->r vs H Q
theorem gz {r:List V->Hp->VK->Prop} {f:List PyData->Option PyData} (hf:FnD X.K f r) (ha:PAD X E es gs) (mk:∀ {t:TA},PA X es t->PE X e (tCB r t)):PD X E e (gF f gs) :=
 (mk ha.1).imp fun σ H Q ⟨A,δ,R,o⟩=>ym R o fun ds vs H1 e s1 R1 h1 o=>by
  cases q:f ds with
  | none=>rw [q] at o;exact o.elim
  | some d=>rw [q] at o;exact hf ds d vs H1 A Q q R1.ls h1 o
end
section
variable {X:Cx} {E:XK} {a b c e:Expr} {ga gb gc:Ds->Rs PyData} {pos:Pos} {es:List Expr} {gs:Ds->Rs (List PyData)}
def GB (K:PySem.W.Frag):R2:=fun x y H Q=>∃ a b xs ys,x=.ref a/\y=.ref b/\SqT K H a xs/\SqT K H b ys/\xs.length+ys.length<=sizeLine /\
 (xs=[]->Q (.ref b) H)/\(xs≠[]->ys=[]->Q (.ref a) H)/\(xs≠[]->ys≠[]->∀ p,H p=none->Q (.ref p) (upd H p (.tup (xs++ys))))
theorem FU:OpR X (binaryOp .Add) (GB X.K):=by
 intro pins s σ H x y v u Q I rx ry h;obtain ⟨a,b,xs,ys,rfl,rfl,ha,hb,hz,q0,q1,q2⟩:=h;by_cases hx:xs=[]
 ·cases rx;cases ry;obtain ⟨vs,r1,p1,_⟩:=I.tuple ha;obtain ⟨ws,r2,p2,_⟩:=I.tuple hb;obtain ⟨⟨cls,dd,data,sl⟩,ho,hc,n,hd⟩:=id p1;obtain ⟨⟨cls2,dd2,data2,sl2⟩,ho2,hc2,n2,hd2⟩:=id p2;simp only at hc hd hc2 hd2;subst hc hd hc2 hd2;have hv:vs=[]:=r1.nil_iff.mpr hx;exact concat_meets ⟨_,ho,rfl⟩ ⟨_,ho2,rfl⟩ noFill_tuple_add seq_tuple_add PySem.F.slot_tuple_add PySem.F.entry_tuple_add (PySem.F.args_tuple_add_2 _ _)
   (tuple_addW0 a b vs.toArray ws.toArray n n2 dd dd2 sl sl2 (by simp [hv])) ⟨ho,ho2,⟨.ref b,H,I,rfl,q0 hx⟩⟩
 ·exact E3 pins s σ H _ _ v u Q I rx ry ⟨a,b,xs,ys,rfl,rfl,ha,hb,hx,hz,q1 hx,q2 hx⟩
def bo:PyData->PyData->Option PyData
 | .int i,.int j=>some (.int (i+j))
 | .list x,.list y=>if x.length+y.length<=1000000 then some (.list (x++y)) else none
 | .tuple x,.tuple y=>if x.length+y.length<=1000000 then some (.tuple (x++y)) else none
 | _,_=>none
theorem F4 {K:PySem.W.Frag}:OpD K bo (fun x y H Q=>rI0 (fun i j=>.int (i+j)) x y H Q\/Ju x y H Q\/GB K x y H Q):=fun d1 d2 d x y H A Q e hA h1 h2 k=>by
 unfold bo at e;split at e
 ·cases e;exact .inl ⟨_,_,h1.ofInt,h2.ofInt,k _ H (aA.refl _) ck⟩
 ·rename_i l1 l2;split at e
  ·rename_i hz;cases e;obtain ⟨p,xs,rfl,hp,hx⟩:=h1.ofLst;obtain ⟨q,ys,rfl,hq,hy⟩:=h2.ofLst;refine .inr (.inl ⟨p,q,xs,ys,rfl,rfl,aI _ _ hp,aI _ _ hq,by rw [hx.length,hy.length,sizeLine_eq];omega,fun r hr=>k _ _ (cm hr) (nJ hA hr (hx.append hy))⟩)
  ·cases e
 ·rename_i l1 l2;split at e
  ·rename_i hz;cases e;obtain ⟨p,xs,rfl,hp,hx⟩:=h1.ofTup;obtain ⟨q,ys,rfl,hq,hy⟩:=h2.ofTup;refine .inr (.inr ⟨p,q,xs,ys,rfl,rfl,SqT.of (aI _ _ hp),SqT.of (aI _ _ hq),by rw [hx.length,hy.length,sizeLine_eq];omega,fun z=>?_,fun _ z=>?_,fun _ _ r hr=>k _ _ (cm hr) (qj hA hr (hx.append hy))⟩)
   ·subst z;have:l1=[]:=M4.mp (by rw [<-hx.length];rfl);subst this;exact k _ H (aA.refl _) (jL hq hy)
   ·subst z;have:l2=[]:=M4.mp (by rw [<-hy.length];rfl);subst this;rw [LL] at k;exact k _ H (aA.refl _) (jL hp hx)
  ·cases e
 ·cases e
theorem bT (ha:PD X E a ga) (hb:PD X E b gb):PD X E (.BinOp a .Add b pos) (g2 bo ga gb):=g0 F4 ha hb (fB (pj.or (II.or FU)))
def dIx:PyData->PyData->Option PyData
 | .list x,.int i=>atI x i
 | .tuple x,.int i=>atI x i
 | _,_=>none
theorem AI {K:PySem.W.Frag} {H:Hp} {ds:List PyData} {vs:List V} {i:Int} {d:PyData} (h:Iss K H ds vs) (e:atI ds i=some d):∃ v,atI vs i=some v/\Is K H d v:=by
 unfold atI at e ⊢;rw [h.length];cases q:ixN ds.length i with
 | none=>rw [q] at e;cases e
 | some j=>rw [q] at e;exact h.getD e
theorem HF {K:PySem.W.Frag}:OpD K dIx (fun x y H Q=>JF K x y H Q\/JY K x y H Q):=fun d1 d2 d x y H A Q e hA h1 h2 k=>by
 unfold dIx at e;split at e
 ·obtain ⟨p,xs,rfl,hp,hx⟩:=h1.ofLst;obtain ⟨v,ev,hv⟩:=AI hx e;exact .inl ⟨p,xs,_,v,rfl,h2.ofInt,SqL.of (aI _ _ hp),ev,k _ H (aA.refl _) hv⟩
 ·obtain ⟨p,xs,rfl,hp,hx⟩:=h1.ofTup;obtain ⟨v,ev,hv⟩:=AI hx e;exact .inr ⟨p,xs,_,v,rfl,h2.ofInt,SqT.of (aI _ _ hp),ev,k _ H (aA.refl _) hv⟩
 ·cases e
theorem cj (ha:PD X E a ga) (hb:PD X E b gb) (hs:Ai b:=by intro _ _;rfl):PD X E (.Subscript a b pos) (g2 dIx ga gb):=g0 HF ha hb fun h1 h2=>CO (vl.or IC) h1 h2 hs
def cZ:List PyData->Option PyData
 | [.list x]=>some (.int x.length)
 | [.tuple x]=>some (.int x.length)
 | _=>none
theorem lK {K:PySem.W.Frag} {H:Hp} {d:PyData} {vs:List V} (h:Iss K H [d] vs):∃ v,vs=[v]/\Is K H d v:=by obtain ⟨v,r,rfl,h1,h2⟩:=h.cons_of;rw [h2.nil_of];exact ⟨v,rfl,h1⟩
theorem BB {K:PySem.W.Frag} {H:Hp} {d e:PyData} {vs:List V} (h:Iss K H [d,e] vs):∃ v u,vs=[v,u]/\Is K H d v/\Is K H e u:=by obtain ⟨v,r,rfl,h1,h2⟩:=h.cons_of;obtain ⟨u,rfl,h3⟩:=lK h2;exact ⟨v,u,rfl,h1,h3⟩
theorem EF {K:PySem.W.Frag}:FnD K cZ (fun xs H Q=>∃ p ys,xs=[.ref p]/\(SqL K H p ys\/SqT K H p ys)/\Q (.int ys.length) H):=fun ds d vs H A Q e hA h k=>by
 unfold cZ at e;split at e
 ·cases e;obtain ⟨v,rfl,hh⟩:=lK h;obtain ⟨p,xs,rfl,hp,hx⟩:=hh.ofLst;exact ⟨p,xs,rfl,.inl (SqL.of (aI _ _ hp)),k _ H (aA.refl _) (by rw [hx.length];exact ck)⟩
 ·cases e;obtain ⟨v,rfl,hh⟩:=lK h;obtain ⟨p,xs,rfl,hp,hx⟩:=hh.ofTup;exact ⟨p,xs,rfl,.inr (SqT.of (aI _ _ hp)),k _ H (aA.refl _) (by rw [hx.length];exact ck)⟩
 ·cases e
theorem eS {p:Pos} (hm:X.mg "len"=none) (ha:PAD X E (a::es) gs) (hg:Gl X "len":=by rfl) (he:starEach (a::es) X.env=(false,eval a X.env)::starEach es X.env:=by rfl) (hpl:(backTo pos (starEach es X.env)).any (·.1)=false:=by rfl) :
 PD X E (.Call (.Name "len" p) (a::es) [] pos) (gF cZ gs):=gz EF ha fun h=>gH j7 hg hm PySem.boot_len h (by decide) (by decide) he hpl
theorem D5:bootBuiltins "int"=some (.type "int"):=by decide +kernel
theorem EZ:bootBuiltins "bool"=some (.type "bool"):=by decide +kernel
theorem xc:bootBuiltins "tuple"=some (.type "tuple"):=by decide +kernel
theorem qm:bootBuiltins "list"=some (.type "list"):=by decide +kernel
theorem Bg:bootBuiltins "isinstance"=some (.builtin "isinstance"):=by decide +kernel
theorem Hb:bootBuiltins "all"=some (.builtin "all"):=by decide +kernel
theorem G8:bootBuiltins "sum"=some (.builtin "sum"):=by decide +kernel
theorem Ia:bootBuiltins "min"=some (.builtin "min"):=by decide +kernel
theorem Hj:bootBuiltins "max"=some (.builtin "max"):=by decide +kernel
def gA:List PyData->Option (List Int)
 | []=>some []
 | .int i::r=>(gA r).map (i::·)
 | _::_=>none
theorem fq:∀ {ds:List PyData} {ns:List Int},gA ds=some ns->ds=ns.map PyData.int
 | [],_,h=>by cases h;rfl
 | .int i::r,ns,h=>by
  unfold gA at h;cases q:gA r with
  | none=>rw [q] at h;cases h
  | some l=>rw [q] at h;cases h;rw [fq q];rfl
 | .none::_,_,h=>by cases h
 | .bool _::_,_,h=>by cases h
 | .str _::_,_,h=>by cases h
 | .list _::_,_,h=>by cases h
 | .tuple _::_,_,h=>by cases h
 | .dict _::_,_,h=>by cases h
theorem gp:∀ (ns:List Int),gA (ns.map PyData.int)=some ns
 | []=>rfl
 | n::r=>by rw [K1];unfold gA;rw [gp r];rfl
def i6:List PyData->Option (List Bool)
 | []=>some []
 | .bool i::r=>(i6 r).map (i::·)
 | _::_=>none
theorem pL:∀ {ds:List PyData} {ns:List Bool},i6 ds=some ns->ds=ns.map PyData.bool
 | [],_,h=>by cases h;rfl
 | .bool i::r,ns,h=>by
  unfold i6 at h;cases q:i6 r with
  | none=>rw [q] at h;cases h
  | some l=>rw [q] at h;cases h;rw [pL q];rfl
 | .none::_,_,h=>by cases h
 | .int _::_,_,h=>by cases h
 | .str _::_,_,h=>by cases h
 | .list _::_,_,h=>by cases h
 | .tuple _::_,_,h=>by cases h
 | .dict _::_,_,h=>by cases h
theorem rL:∀ (ns:List Bool),i6 (ns.map PyData.bool)=some ns
 | []=>rfl
 | n::r=>by rw [K1];unfold i6;rw [rL r];rfl
def tH:List PyData->Option PyData
 | [.list x]=>(gA x).map fun ns=>.int ns.sum
 | _=>none
def qe:List PyData->Option PyData
 | [.list x]=>(i6 x).map fun ns=>.bool (ns.all id)
 | _=>none
theorem Gx {K:PySem.W.Frag}:FnD K tH (fun xs H Q=>∃ (a:Addr) (ns:List Int),xs=[.ref a]/\SqL K H a (ns.map V.int)/\Q (.int ns.sum) H):=fun ds d vs H A Q e hA h k=>by
 unfold tH at e;split at e
 ·rename_i x;cases q:gA x with
  | none=>rw [q] at e;cases e
  | some ns =>rw [q] at e;cases e;obtain ⟨v,rfl,hh⟩:=lK h;obtain ⟨p,xs,rfl,hp,hx⟩:=hh.ofLst;rw [fq q] at hx;rw [hx.ofInts] at hp;exact ⟨p,ns,rfl,SqL.of (aI _ _ hp),k _ H (aA.refl _) ck⟩
 ·cases e
theorem Gr {K:PySem.W.Frag}:FnD K qe (fun xs H Q=>∃ (a:Addr) (ns:List Bool),xs=[.ref a]/\SqL K H a (ns.map V.bl)/\Q (.bl (ns.all id)) H):=fun ds d vs H A Q e hA h k=>by
 unfold qe at e;split at e
 ·rename_i x;cases q:i6 x with
  | none=>rw [q] at e;cases e
  | some ns =>rw [q] at e;cases e;obtain ⟨v,rfl,hh⟩:=lK h;obtain ⟨p,xs,rfl,hp,hx⟩:=hh.ofLst;rw [pL q] at hx;rw [hx.ofBools] at hp;exact ⟨p,ns,rfl,SqL.of (aI _ _ hp),k _ H (aA.refl _) is_bool⟩
 ·cases e
theorem yF {p:Pos} (hc:X.calm=true) (hm:X.mg "sum"=none) (ha:PAD X E (a::es) gs) (hg:Gl X "sum":=by rfl) (he:starEach (a::es) X.env=(false,eval a X.env)::starEach es X.env:=by rfl) (hpl:(backTo pos (starEach es X.env)).any (·.1)=false:=by rfl) :
 PD X E (.Call (.Name "sum" p) (a::es) [] pos) (gF tH gs):=gz Gx ha fun h=>gH (C4 hc) hg hm G8 h (by decide) (by decide) he hpl
theorem pq {p:Pos} (hc:X.calm=true) (hm:X.mg "all"=none) (ha:PAD X E (a::es) gs) (hg:Gl X "all":=by rfl) (he:starEach (a::es) X.env=(false,eval a X.env)::starEach es X.env:=by rfl) (hpl:(backTo pos (starEach es X.env)).any (·.1)=false:=by rfl) :
 PD X E (.Call (.Name "all" p) (a::es) [] pos) (gF qe gs):=gz Gr ha fun h=>gH (CF hc) hg hm Hb h (by decide) (by decide) he hpl
def lQ:List PyData->Option PyData
 | [.int i,.int j]=>some (.int (if j<i then j else i))
 | _=>none
def jv:List PyData->Option PyData
 | [.int i,.int j]=>some (.int (if j>i then j else i))
 | _=>none
theorem Dv {K:PySem.W.Frag}:FnD K lQ (fun xs H Q=>∃ i j,xs=[.int i,.int j]/\Q (.int (if j<i then j else i)) H):=fun ds d vs H A Q e hA h k=>by
 unfold lQ at e;split at e
 ·cases e;obtain ⟨v,u,rfl,h1,h2⟩:=BB h;rw [h1.ofInt,h2.ofInt];exact ⟨_,_,rfl,k _ H (aA.refl _) ck⟩
 ·cases e
theorem CU {K:PySem.W.Frag}:FnD K jv (fun xs H Q=>∃ i j,xs=[.int i,.int j]/\Q (.int (if j>i then j else i)) H):=fun ds d vs H A Q e hA h k=>by
 unfold jv at e;split at e
 ·cases e;obtain ⟨v,u,rfl,h1,h2⟩:=BB h;rw [h1.ofInt,h2.ofInt];exact ⟨_,_,rfl,k _ H (aA.refl _) ck⟩
 ·cases e
theorem qu {p:Pos} (hc:X.calm=true) (hm:X.mg "min"=none) (ha:PAD X E (a::es) gs) (hg:Gl X "min":=by rfl) (he:starEach (a::es) X.env=(false,eval a X.env)::starEach es X.env:=by rfl) (hpl:(backTo pos (starEach es X.env)).any (·.1)=false:=by rfl) :
 PD X E (.Call (.Name "min" p) (a::es) [] pos) (gF lQ gs):=gz Dv ha fun h=>gH (By hc) hg hm Ia h (by decide) (by decide) he hpl
theorem vJ {p:Pos} (hc:X.calm=true) (hm:X.mg "max"=none) (ha:PAD X E (a::es) gs) (hg:Gl X "max":=by rfl) (he:starEach (a::es) X.env=(false,eval a X.env)::starEach es X.env:=by rfl) (hpl:(backTo pos (starEach es X.env)).any (·.1)=false:=by rfl) :
 PD X E (.Call (.Name "max" p) (a::es) [] pos) (gF jv gs):=gz CU ha fun h=>gH (BX hc) hg hm Hj h (by decide) (by decide) he hpl
def vp:List PyData->Option PyData
 | [.int i]=>some (.int i)
 | [.bool k]=>some (.int (if k then 1 else 0))
 | _=>none
theorem FW {K:PySem.W.Frag}:FnD K vp (fun xs H Q=>(∃ i,xs=[.int i]/\Q (.int i) H)\/∃ k,xs=[.bl k]/\Q (.int (if k then 1 else 0)) H):=fun ds d vs H A Q e hA h k=>by
 unfold vp at e;split at e
 ·cases e;obtain ⟨v,rfl,h1⟩:=lK h;rw [h1.ofInt];exact .inl ⟨_,rfl,k _ H (aA.refl _) ck⟩
 ·cases e;obtain ⟨v,rfl,h1⟩:=lK h;rw [h1.ofBool];exact .inr ⟨_,rfl,k _ H (aA.refl _) ck⟩
 ·cases e
theorem yb {p:Pos} (hm:X.mg "int"=none) (ha:PAD X E (a::es) gs) (hg:Gl X "int":=by rfl) (he:starEach (a::es) X.env=(false,eval a X.env)::starEach es X.env:=by rfl) (hpl:(backTo pos (starEach es X.env)).any (·.1)=false:=by rfl) :
 PD X E (.Call (.Name "int" p) (a::es) [] pos) (gF vp gs):=gz FW ha fun h=>oq Ca hg hm D5 h (by decide) (by decide) he hpl
def kP:List PyData->Option PyData
 | [.list x]=>some (.tuple x)
 | [.tuple x]=>some (.tuple x)
 | _=>none
def ya:List PyData->Option PyData
 | [.list x]=>some (.list x)
 | [.tuple x]=>some (.list x)
 | _=>none
theorem Bh {K:PySem.W.Frag}:FnD K kP (fun xs H Q=>∃ p ys,xs=[.ref p]/\((SqL K H p ys/\∀ l,H l=none->Q (.ref l) (upd H l (.tup ys)))\/(SqT K H p ys/\Q (.ref p) H))):=fun ds d vs H A Q e hA h k=>by
 unfold kP at e;split at e
 ·cases e;obtain ⟨v,rfl,hh⟩:=lK h;obtain ⟨p,xs,rfl,hp,hx⟩:=hh.ofLst;exact ⟨p,xs,rfl,.inl ⟨SqL.of (aI _ _ hp),fun l hl=>k _ _ (cm hl) (qj hA hl hx)⟩⟩
 ·cases e;obtain ⟨v,rfl,hh⟩:=lK h;obtain ⟨p,xs,rfl,hp,hx⟩:=hh.ofTup;exact ⟨p,xs,rfl,.inr ⟨SqT.of (aI _ _ hp),k _ H (aA.refl _) (jL hp hx)⟩⟩
 ·cases e
theorem Dt {K:PySem.W.Frag}:FnD K ya (fun xs H Q=>∃ p ys,xs=[.ref p]/\(SqL K H p ys\/SqT K H p ys)/\∀ l,H l=none->Q (.ref l) (upd H l (.lst ys))):=fun ds d vs H A Q e hA h k=>by
 unfold ya at e;split at e
 ·cases e;obtain ⟨v,rfl,hh⟩:=lK h;obtain ⟨p,xs,rfl,hp,hx⟩:=hh.ofLst;exact ⟨p,xs,rfl,.inl (SqL.of (aI _ _ hp)),fun l hl=>k _ _ (cm hl) (nJ hA hl hx)⟩
 ·cases e;obtain ⟨v,rfl,hh⟩:=lK h;obtain ⟨p,xs,rfl,hp,hx⟩:=hh.ofTup;exact ⟨p,xs,rfl,.inr (SqT.of (aI _ _ hp)),fun l hl=>k _ _ (cm hl) (nJ hA hl hx)⟩
 ·cases e
theorem lV {p:Pos} (hm:X.mg "tuple"=none) (ha:PAD X E (a::es) gs) (hg:Gl X "tuple":=by rfl) (he:starEach (a::es) X.env=(false,eval a X.env)::starEach es X.env:=by rfl) (hpl:(backTo pos (starEach es X.env)).any (·.1)=false:=by rfl) :
 PD X E (.Call (.Name "tuple" p) (a::es) [] pos) (gF kP gs):=gz Bh ha fun h=>oq tJ hg hm xc h (by decide) (by decide) he hpl
theorem B8 {p:Pos} (hm:X.mg "list"=none) (ha:PAD X E (a::es) gs) (hg:Gl X "list":=by rfl) (he:starEach (a::es) X.env=(false,eval a X.env)::starEach es X.env:=by rfl) (hpl:(backTo pos (starEach es X.env)).any (·.1)=false:=by rfl) :
 PD X E (.Call (.Name "list" p) (a::es) [] pos) (gF ya gs):=gz Dt ha fun h=>oq vP hg hm qm h (by decide) (by decide) he hpl
def mr (T:String) (d:PyData):Option PyData:=if aP d then some (.bool (wt d T)) else none
theorem jl {T:Str} {T':String} {p p':Pos} (hm:X.mg "isinstance"=none) (hmT:X.mg T=none) (hb:bootBuiltins T=some (.type T')) (hT:T'∈["bool", "int", "list", "tuple"]) (ha:PD X E a ga)
  (hg:Gl X "isinstance":=by rfl) (hgT:Gl X T:=by rfl) (hn:T≠"__name__":=by decide) (hdT:(T==("__debug__":Str))=false:=by decide) (hs:starEach [a,.Name T p'] X.env=(false,eval a X.env)::starEach [.Name T p'] X.env:=by rfl)
  (hs2:starEach [.Name T p'] X.env=(false,eval (.Name T p') X.env)::starEach [] X.env:=by rfl) (hpl:(backTo pos (starEach [.Name T p'] X.env)).any (·.1)=false:=by rfl) :
  PD X E (.Call (.Name "isinstance" p) [a,.Name T p'] [] pos) (g1 (mr T') ga):=by
 refine (gH yg hg hm Bg (eX ha (eX (E1 (v:=.ty T') hgT hmT hb rfl hn hdT) gM hs2) hs) (by decide) (by decide) hs hpl).imp fun σ H Q rz3=>?_
 obtain ⟨A,δ,R,o⟩:=rz3;refine g1.read (tt:=fun Q x H1=>∃ d v T,[x,V.ty T']=[v,.ty T]/\IsD X.K H1 d v/\T∈["bool", "int", "list", "tuple"]/\Q (.bl (wt d T)) H1) R o fun d1 d x H' e _ _ h k=>?_
 unfold mr at e;split at e
 ·rename_i z;cases e;exact ⟨d1,x,T',rfl,(h.same aI).isd z,hT,k _ H' (aA.refl _) is_bool⟩
 ·cases e
end
def zV (K:PySem.W.Frag) (J:It) (ds:List PyData) (G:Hp):Prop:=∀ (H1:Hp) (B:List Addr),aA G H1->Ls H1 B->(∀ b∈B,G b=none) ->
 (∀ i,i<ds.length->J.go i H1)/\J.stop ds.length H1/\∀ i x H2,i<ds.length->J.yld i H1 x H2->aA H1 H2/\∃ d,ds[i]?=some d/\Is K (del H2 B) d x
def outI (K:PySem.W.Frag) (E:XK) (A:List Addr) (H:Hp) (r:Rs (List PyData)) (R:It->Hp->Prop):Prop:=match r with
 | .ok ds=>∀ J H',aA H H'->zV K J ds (del H' A)->R J H'
 | .rz C=>∀ H',aA H H'->E (.ref C) none H'
 | .no=>False
def iD (K:PySem.W.Frag) (E:XK) (g:Ds->Rs (List PyData)):TI:=fun σ H R=>∃ A δ,eK K H A δ σ/\outI K E A H (g δ) R
def PID (X:Cx) (E:XK) (tg iter:Expr) (g:Ds->Rs (List PyData)):Prop:=PI X tg iter (iD X.K E g)
theorem PI.imp {X:Cx} {tg it:Expr} {t t':TI} (h:PI X tg it t) (k:∀ σ H R,t' σ H R->t σ H R):PI X tg it t':=fun pins s σ H R I q=>h pins s σ H R I (k σ H R q)
theorem PI.or {X:Cx} {tg it:Expr} {t t':TI} (h:PI X tg it t) (h':PI X tg it t'):PI X tg it (fun σ H R=>t σ H R\/t' σ H R):=fun pins s σ H R I q=>q.elim (h pins s σ H R I) (h' pins s σ H R I)
section
variable {X:Cx} {E:XK} {tg a:Expr} {ga:Ds->Rs PyData} {pos:Pos}
def Al:PyData->Rs (List PyData)
 | .list ds=>.ok ds
 | .tuple ds=>.ok ds
 | _=>.no
theorem nj {G H1:Hp} {B:List Addr} (s:aA G H1) (hB:∀ b∈B,G b=none):aA G (del H1 B):=fun b o e=>by rw [ba (fun z=>by rw [hB b z] at e;cases e)];exact s b o e
theorem BD {K:PySem.W.Frag} {G:Hp} {p:Addr} {xs:List V} {ds:List PyData} (hp:G p=some (.lst xs)) (h:Iss K G ds xs):zV K (Itl K p) ds G:=fun H1 B s _ hB=>by have hl:=h.length;have hS:SqL K H1 p xs:=SqL.of (s _ _ hp);refine ⟨fun i hi=>⟨xs,xs[i]'(by omega),hS,K3 _⟩,⟨xs,hS,by omega⟩,fun i x H2 hi y=>?_⟩;obtain ⟨rfl,y⟩:=y;obtain ⟨d,e,hd⟩:=h.get (y xs hS);exact ⟨aA.refl _,d,e,hd.same (nj s hB)⟩
theorem Dn {K:PySem.W.Frag} {G:Hp} {p:Addr} {xs:List V} {ds:List PyData} (hp:G p=some (.tup xs)) (h:Iss K G ds xs):zV K (Itt K p) ds G:=fun H1 B s _ hB=>by have hl:=h.length;have hS:SqT K H1 p xs:=SqT.of (s _ _ hp);refine ⟨fun i hi=>⟨xs,xs[i]'(by omega),hS,K3 _⟩,⟨xs,hS,by omega⟩,fun i x H2 hi y=>?_⟩;obtain ⟨rfl,y⟩:=y;obtain ⟨d,e,hd⟩:=h.get (y xs hS);exact ⟨aA.refl _,d,e,hd.same (nj s hB)⟩
def cC (g:Ds->Rs PyData):Ds->Rs (List PyData):=fun δ=>(g δ).bind Al
theorem dq (h:PD X E a ga):PID X E tg a (cC ga):=(PI.or (ED h) (GV h)).imp fun σ H R pz3=>by
 obtain ⟨A,δ,Rp,o⟩:=pz3;unfold cC at o;cases q:ga δ with
 | no=>rw [q] at o;exact o.elim
 | rz C=>rw [q] at o;exact .inl (eD.run Rp (fun d e=>by rw [q] at e;cases e) (fun C' e H' s=>by rw [q] at e;cases e;exact o H' s) (fun e=>by rw [q] at e;cases e))
 | ok d =>
  rw [q] at o;cases d with
  | list ds =>refine .inl (eD.run Rp (fun d e v H1 s1 R1 h1=>?_) (fun C' e=>by rw [q] at e;cases e) (fun e=>by rw [q] at e;cases e));rw [q] at e;cases e;obtain ⟨p,xs,rfl,hp,hx⟩:=h1.ofLst;exact ⟨p,rfl,⟨xs,SqL.of (aI _ _ hp)⟩,o _ H1 s1 (BD hp hx)⟩
  | tuple ds =>refine .inr (eD.run Rp (fun d e v H1 s1 R1 h1=>?_) (fun C' e=>by rw [q] at e;cases e) (fun e=>by rw [q] at e;cases e));rw [q] at e;cases e;obtain ⟨p,xs,rfl,hp,hx⟩:=h1.ofTup;exact ⟨p,rfl,⟨xs,SqT.of (aI _ _ hp)⟩,o _ H1 s1 (Dn hp hx)⟩
  | _=>exact o.elim
def b8 (lo:Int) (n:Nat):List PyData:=(List.range n).map fun (i:Nat)=>PyData.int (lo+(i:Int))
theorem dR (lo:Int) (n:Nat):(b8 lo n).length=n:=by simp [b8]
theorem qI {K:PySem.W.Frag} {G:Hp} {lo:Int} {n:Nat}:zV K (Itr lo n) (b8 lo n) G:=fun H1 B s _ hB=>by refine ⟨fun i hi=>by rw [dR] at hi;exact hi,by rw [dR];exact K8 _,fun i x H2 hi y=>?_⟩;obtain ⟨rfl,rfl⟩:=y;rw [dR] at hi;exact ⟨aA.refl _,_,by simp [b8,hi],ck⟩
def Fn:List PyData->Rs (List PyData)
 | [.int j]=>if -(2 ^ 62)<=j/\j<2 ^ 62 then .ok (b8 0 j.toNat) else .no
 | _=>.no
def DT:List PyData->Rs (List PyData)
 | [.int i,.int j]=>if -(2 ^ 62)<=i/\i<2 ^ 62/\-(2 ^ 62)<=j/\j<2 ^ 62 then .ok (b8 i (j-i).toNat) else .no
 | _=>.no
def jm (g:Ds->Rs (List PyData)):Ds->Rs (List PyData):=fun δ=>(g δ).bind Fn
def tj (g:Ds->Rs (List PyData)):Ds->Rs (List PyData):=fun δ=>(g δ).bind DT
theorem rq {gs:Ds->Rs (List PyData)} {f:List PyData->Rs (List PyData)} {σ:St} {H:Hp} {A:List Addr} {δ:Ds} {R:It->Hp->Prop} {K:PySem.W.Frag} {t:List V->Hp->Prop} (Rp:eK K H A δ σ) (o:outI K E A H ((gs δ).bind f) R)
  (k:∀ ds vs H1,gs δ=.ok ds->aA H H1->eK K H1 A δ σ->Iss K (del H1 A) ds vs->outI K E A H1 (f ds) R->t vs H1):aD K E gs σ H t:=by
 refine aD.run Rp (fun d e v H1 s1 R1 h1=>?_) (fun C e H' s'=>?_) (fun e=>?_)
 ·rw [e] at o;refine k d v H1 e s1 R1 h1 ?_;have o:outI K E A H (f d) R:=o;cases q:f d with
  | ok ds=>rw [q] at o;exact fun J H' s j=>o J H' (s1.trans s) j
  | rz C=>rw [q] at o;exact fun H' s=>o H' (s1.trans s)
  | no=>rw [q] at o;exact o
 ·rw [e] at o;exact o H' s'
 ·rw [e] at o;exact o
theorem iF {gs:Ds->Rs (List PyData)} {p:Pos} (hm:X.mg "range"=none) (ha:PAD X E [a] gs) (hg:Gl X "range":=by rfl) (hs:starEach [a] X.env=[(false,eval a X.env)]:=by rfl) :
  PID X E tg (.Call (.Name "range" p) [a] [] pos) (jm gs):=(BL hg hm ha.1 hs).imp fun σ H R ⟨A,δ,Rp,o⟩=>rq Rp o fun ds vs H1 e s1 R1 h1 o=>by
 unfold Fn at o;split at o
 ·split at o
  ·rename_i z;obtain ⟨v,rfl,h⟩:=lK h1;rw [h.ofInt];exact ⟨_,rfl,z.1,z.2,o _ H1 (aA.refl _) qI⟩
  ·exact o.elim
 ·exact o.elim
theorem zq {b:Expr} {gs:Ds->Rs (List PyData)} {p:Pos} (hm:X.mg "range"=none) (ha:PAD X E [a,b] gs) (hg:Gl X "range":=by rfl) (hs:starEach [a,b] X.env=[(false,eval a X.env),(false,eval b X.env)]:=by rfl) (hs2:starEach [b] X.env=[(false,eval b X.env)]:=by rfl) :
  PID X E tg (.Call (.Name "range" p) [a,b] [] pos) (tj gs):=(Bp hg hm ha.1 hs hs2).imp fun σ H R ⟨A,δ,Rp,o⟩=>rq Rp o fun ds vs H1 e s1 R1 h1 o=>by
 unfold DT at o;split at o
 ·split at o
  ·rename_i z;obtain ⟨v,u,rfl,h,h'⟩:=BB h1;rw [h.ofInt,h'.ofInt];exact ⟨_,_,rfl,z,o _ H1 (aA.refl _) qI⟩
  ·exact o.elim
 ·exact o.elim
def TgD (K:PySem.W.Frag) (n0 n:Nat) (tgt:PyData->Option Ds) (g:TG):Prop:=∀ (d:PyData) (v:V) (σ σ':St) (H:Hp) (A:List Addr) (Q:St->Hp->Prop) (own:Ds),σ.length=n0->σ'.length=n->Ls H A->Is K (del H A) d v->tgt d=some own ->
 own.length=n/\((∀ vs:St,vs.length=n->(∀ (i:Nat) e,own[i]?=some (some e)->∃ u,vs[i]?=some (some u)/\Is K (del H A) e u)->Q (σ++vs) H)->g v (σ++σ') H Q)
def aT:PyData->Option Ds:=fun d=>some [some d]
theorem cE {K:PySem.W.Frag} {n0:Nat}:TgD K n0 1 aT (kY n0):=fun d v σ σ' H A Q own h1 h2 hA hd e=>by
 cases e;refine ⟨rfl,fun k=>?_⟩;unfold kY;subst h1;rw [set_own σ none v σ' h2];refine k _ rfl fun i e z=>?_
 match i,z with
 | 0,z=>cases z;exact ⟨v,rfl,hd⟩
def kq:PyData->Option Ds
 | .tuple [x,y]=>some [some x,some y]
 | _=>none
theorem wG {K:PySem.W.Frag} {n0:Nat}:TgD K n0 2 kq (L2.G1 K 2 (L2.Ah (kY n0) (L2.Ah (kY (n0+1)) L2.HY))):=fun d v σ σ' H A Q own h1 h2 hA hd e=>by
 unfold kq at e;split at e
 ·rename_i x y;cases e;refine ⟨rfl,fun k=>?_⟩;obtain ⟨p,xs,rfl,hp,hx⟩:=hd.ofTup;obtain ⟨u,w,rfl,hu,hw⟩:=BB hx;subst h1;refine ⟨p,_,rfl,SqT.of (aI _ _ hp),rfl,u,[w],rfl,w,[],rfl,rfl,?_⟩
  match σ',h2 with
  | [s1,s2],_ =>
   have:((σ++[s1,s2]).set σ.length (some u)).set (σ.length+1) (some w)=σ++[some u,some w]:=by rw [My _ _ (K8 _),My _ _ (by omega)];simp
   rw [this];refine k _ rfl fun i e z=>?_
   match i,z with
   | 0,z=>cases z;exact ⟨u,rfl,hu⟩
   | 1,z=>cases z;exact ⟨w,rfl,hw⟩
 ·cases e
def fu (cond:Ds->Rs Bool) (elt:Ds->Rs PyData) (tgt:PyData->Option Ds) (δ:Ds):List PyData->Rs (List PyData)
 | []=>.ok []
 | d::r=>match tgt d with
  | none=>.no
  | some own=>(cond (δ++own)).calm.bind fun b=>if b=true then (elt (δ++own)).calm.bind fun x=>(fu cond elt tgt δ r).bind fun xs=>.ok (x::xs) else fu cond elt tgt δ r
def bM (n0:Nat) (src:Ds->Rs (List PyData)) (cond:Ds->Rs Bool) (elt:Ds->Rs PyData) (tgt:PyData->Option Ds):Ds->Rs (List PyData):=fun δ=>if δ.length=n0 then (src δ).bind fun ds=>if ds.length<=1000000 then fu cond elt tgt δ ds else .no else .no
def bF:Ds->Rs Bool:=fun _=>.ok true
def ER (K:PySem.W.Frag) (E:XK) (A:List Addr) (H:Hp) (r:Rs (List PyData)) (Q:VK):Prop:=match r with
 | .ok ds=>∀ a xs H',H a=none->aA H H'->H' a=some (.lst xs)->Iss K (del H' (a::A)) ds xs->Q (.ref a) H'
 | .rz C=>∀ H',aA H H'->E (.ref C) none H'
 | .no=>False
def lD (K:PySem.W.Frag) (E:XK) (g:Ds->Rs (List PyData)):TE:=fun σ H Q=>∃ A δ,eK K H A δ σ/\ER K E A H (g δ) Q
def PLD (X:Cx) (E:XK) (e:Expr) (g:Ds->Rs (List PyData)):Prop:=PE X e (lD X.K E g)
def gL (g:Ds->Rs (List PyData)):Ds->Rs PyData:=fun δ=>(g δ).bind fun ds=>.ok (.list ds)
theorem oS {H:Hp} {a:Addr} {A:List Addr}:aA (del H (a::A)) (del H A):=fun b o e=>by obtain ⟨z,e⟩:=bL e;rw [ba (fun q=>z (K0 _ q))];exact e
theorem e9 {e:Expr} {g:Ds->Rs (List PyData)} (h:PLD X E e g):PD X E e (gL g):=PE.imp h fun σ H Q ⟨A,δ,R,o⟩=>⟨A,δ,R,by
 unfold gL at o;cases q:g δ with
 | no=>rw [q] at o;exact o
 | rz C=>rw [q] at o;exact o
 | ok ds =>rw [q] at o;intro a xs H' hn s hl hi;exact o _ H' s (kI (by rw [ba (R.ls.new hn)];exact hl) (hi.same oS))⟩
theorem qp {es:List Expr} {gs:Ds->Rs (List PyData)} (h:PAD X E es gs) (hl:es.length<=1000:=by decide):PLD X E (.List es pos) gs:=(zE h.1).imp fun σ H Q pz3=>by
 obtain ⟨A,δ,R,o⟩:=pz3;refine aD.run R (fun ds e vs H1 s1 R1 h1=>?_) (fun C e H' s'=>by rw [e] at o;exact o H' s') (fun e=>by rw [e] at o;exact o);rw [e] at o;have n:=h.2 δ ds e;have m:=h1.length;refine ⟨by rw [sizeLine_eq];omega,fun p hp=>o p vs _ (s1.free hp) (s1.trans (cm hp)) aV (h1.same ?_)⟩;refine fun b o e=>?_
 obtain ⟨z,e⟩:=bL e;have:b≠p:=aX e hp;rw [ba (by simp [this,z]),aL this];exact e
theorem DL {K:PySem.W.Frag} {own:List Str} {gi:Ds->Rs (List PyData)} {g:TG} {tt:TT} {cond:Ds->Rs Bool} {ge:Ds->Rs PyData} {tgt:PyData->Option Ds} {n0:Nat} (hT:TgD K n0 own.length tgt g) (htt:∀ σ H Q,cD K E0 cond σ H Q->tt σ H Q) :
  ∀ σ H Q,lD K E (bM n0 gi cond ge tgt) σ H Q->tLC own.length (iD K E gi) g tt (eD K E0 ge) σ H Q:=by
 intro σ H Q ⟨A,δ,R,o⟩;unfold bM at o;by_cases hn0:δ.length=n0
 case neg=>rw [if_neg hn0] at o;exact o.elim
 rw [if_pos hn0] at o;have hσ:σ.length=n0:=by rw [<-R.len];exact hn0
 refine ⟨A,δ,R,?_⟩;cases q:gi δ with
 | no=>rw [q] at o;exact o
 | rz C=>rw [q] at o;exact o
 | ok ds =>
  rw [q] at o;have o:ER K E A H (if ds.length<=1000000 then fu cond ge tgt δ ds else .no) Q:=o;by_cases hz:ds.length<=1000000
  case neg=>rw [if_neg hz] at o;exact o.elim
  rw [if_pos hz] at o;intro J H1 s1 hJ D hD;have R1:=R.same s1;have nD:D∉A:=R1.ls.new hD;cases qo:fu cond ge tgt δ ds with
  | rz C =>
   exfalso;have:∀ l,fu cond ge tgt δ l≠.rz C:=by
    intro l
    induction l with
    | nil=>intro z;cases z
    | cons d r ih =>
     intro z;unfold fu at z;split at z
     ·cases z
     ·rename_i own' _;cases c1:cond (δ++own') with
      | ok b =>
       simp only [c1,Rs.dZ,Rs.aj] at z;split at z
       ·cases c2:ge (δ++own') with
        | ok x =>
         simp only [c2,Rs.dZ,Rs.aj] at z;cases c3:fu cond ge tgt δ r with
         | ok l=>simp only [c3,Rs.aj] at z;cases z
         | rz C'=>simp only [c3,Rs.fo] at z;cases z;exact ih c3
         | no=>simp only [c3,Rs.bX] at z;cases z
        | rz C'=>simp only [c2,Rs.calm,Rs.bX] at z;cases z
        | no=>simp only [c2,Rs.calm,Rs.bX] at z;cases z
       ·exact ih z
      | rz C'=>simp only [c1,Rs.calm,Rs.bX] at z;cases z
      | no=>simp only [c1,Rs.calm,Rs.bX] at z;cases z
   exact this ds qo
  | no=>rw [qo] at o;exact o.elim
  | ok out =>
   rw [qo] at o;have base:aA (del H1 A) (del (upd H1 D (.lst [])) (D::A)):=fun b o e=>by obtain ⟨z,e⟩:=bL e;have nb:b≠D:=aX e hD;rw [ba (by simp [nb,z]),aL nb];exact e
   refine ⟨fun i m ys H'=>m=ds.length-i/\i<=ds.length/\aA H1 H'/\H' D=some (.lst ys)/\ys.length<=i/\∃ dn rest,fu cond ge tgt δ (ds.drop i)=.ok rest/\out=dn++rest/\Iss K (del H' (D::A)) dn ys,
    ⟨ds.length,by simp,Lw _,cm hD,aV,K8 _,[],out,qo,rfl,dH⟩,?_⟩
   rintro i m ys H' ⟨rfl,hi,sm,hl,hy,dn,rest,c1,c2,c3⟩
   refine ⟨hl,?_⟩;have sG:aA (del H1 A) H':=aI.trans sm;have hBn:∀ b∈D::A,(del H1 A) b=none:=fun b hb=>by
    rcases K6.mp hb with z | z
    ·rw [z,ba nD];exact hD
    ·exact iI z
   obtain ⟨jg,js,jy⟩:=hJ H' (D::A) sG (fun b hb=>by
    rcases K6.mp hb with z | z
    ·exact ⟨_,by rw [z];exact hl,rfl⟩
    ·exact (R1.ls.same sm) b z) hBn
   by_cases hlt:i<ds.length
   ·refine .inr ⟨jg i hlt,fun x H2 σ' hσ' y=>?_⟩;obtain ⟨s2,d,ed,hd⟩:=jy i x H2 hlt y;have edr:ds.drop i=d::ds.drop (i+1):=by
     rw [Mp hlt];have:ds[i]=d:=by have:=K3 hlt;rw [this] at ed;exact Option.some.inj ed
     rw [this]
    rw [edr] at c1;unfold fu at c1;cases et:tgt d with
    | none=>rw [et] at c1;cases c1
    | some ow =>
     rw [et] at c1;have l2:H2 D=some (.lst ys):=s2 _ _ hl;have LsD:Ls H2 (D::A):=fun b hb=>by
      rcases K6.mp hb with z | z
      ·exact ⟨_,by rw [z];exact l2,rfl⟩
      ·exact (R1.ls.same (sm.trans s2)) b z
     obtain ⟨hol,hgo⟩:=hT d x σ σ' H2 (D::A) (fun σ2 H2=>tt σ2 H2 fun b H3 =>
      if b=true then eD K E0 ge σ2 H3 fun v H4=>H4 D=some (.lst ys)/\ys.length<sizeLine/\(∃ σ'',σ2=σ++σ''/\σ''.length=own.length)/\∃ m',m' < ds.length-i/\_
      else (∃ σ'',σ2=σ++σ''/\σ''.length=own.length)/\∃ m',m' < ds.length-i/\_) ow hσ hσ' LsD hd et
     refine hgo fun vs hvs hown=>?_
     have sAll:aA (del H1 A) (del H2 (D::A)):=nj (sG.trans s2) hBn;have RE:eK K H2 (D::A) (δ++ow) (σ++vs):=by
      refine ⟨LsD,by rw [KU,KU,R.len,hvs,hol],fun k e ek=>?_⟩;by_cases hk:k<δ.length
      ·rw [La hk] at ek;obtain ⟨u,e1,hu⟩:=R1.get k e ek;exact ⟨u,by rw [La (by rw [<-R.len];exact hk)];exact e1,hu.same sAll⟩
      ·rw [Le (by omega)] at ek;obtain ⟨u,e1,hu⟩:=hown _ e ek;exact ⟨u,by rw [Le (by rw [<-R.len];omega),<-R.len];exact e1,hu⟩
     have bad:∀ r:Rs Bool,r=.rz 0->r.calm=.no:=fun r e=>by rw [e];rfl
     refine htt _ _ _ (cD.run RE (fun b eb H3 s3 R3=>?_) (fun C eb=>?_) (fun eb=>?_))
     ·simp only [eb,Rs.dZ,Rs.aj] at c1;cases b with
      | true =>
       simp only [if_true] at c1;refine eD.run R3 (fun xd ex v H4 s4 R4 hv=>?_) (fun C ex=>?_) (fun ex=>?_)
       ·simp only [ex,Rs.dZ,Rs.aj] at c1;cases cr:fu cond ge tgt δ (ds.drop (i+1)) with
        | ok rs =>
         simp only [cr,Rs.aj] at c1;cases c1;have l4:H4 D=some (.lst ys):=s4 _ _ (s3 _ _ l2);have dU:del (upd H4 D (.lst (ys++[v]))) (D::A)=del H4 (D::A):=lE (K4);refine ⟨l4,by rw [sizeLine_eq];omega,⟨vs,rfl,hvs⟩,ds.length-(i+1),by omega,rfl,hlt,?_,aV,by simp;omega,dn++[xd],rs,cr,by rw [c2];simp,?_⟩
         ·exact aA.put (((sm.trans s2).trans s3).trans s4) hD
         ·rw [dU];exact (c3.same (aA.del (s2.trans (s3.trans s4)))).append (j8 hv)
        | rz C=>simp only [cr,Rs.fo] at c1;cases c1
        | no=>simp only [cr,Rs.bX] at c1;cases c1
       ·simp only [ex,Rs.calm,Rs.bX] at c1;cases c1
       ·simp only [ex,Rs.calm,Rs.bX] at c1;cases c1
      | false =>simp only [L5,if_false] at c1;exact ⟨⟨vs,rfl,hvs⟩,ds.length-(i+1),by omega,rfl,hlt,(sm.trans s2).trans s3,s3 _ _ l2,by omega,dn,rest,c1,c2,c3.same (aA.del (s2.trans s3))⟩
     ·simp only [eb,Rs.calm,Rs.bX] at c1;cases c1
     ·simp only [eb,Rs.calm,Rs.bX] at c1;cases c1
   ·have e:i=ds.length:=by omega
    subst e;rw [MP] at c1;cases c1;rw [LL] at c2;subst c2;exact .inl ⟨js,o D ys H' (s1.free hD) (s1.trans sm) hl c3⟩
theorem cX {M:List Str} {elt iter:Expr} {ifs:List Expr} {scope:Scope} {own:List Str} {gi:Ds->Rs (List PyData)} {g:TG} {tt:TT} {cond:Ds->Rs Bool} {ge:Ds->Rs PyData} {tgt:PyData->Option Ds} {n0:Nat} (hc:X.calm=true) (hi:PID X E tg iter gi)
  (hT:TgD X.K n0 own.length tgt g) (hg:∀ C s2 H2 fp,PG (blk X M scope own C s2 H2 fp) tg g) (ht:∀ C s2 H2 fp,PTs (blk X M scope own C s2 H2 fp) ifs tt) (htt:∀ σ H Q,cD X.K E0 cond σ H Q->tt σ H Q) (he:∀ C s2 H2 fp,PD (blk X M scope own C s2 H2 fp) E0 elt ge)
  (hB:pV X.N M X.env.scope scope own=true:=by rfl) (hs:∀ x,foldedSetIterable iter X.env x=pure x:=by intro _;rfl):PLD X E (.ListComp elt [⟨tg,iter,ifs,0⟩] scope pos) (bM n0 gi cond ge tgt) :=
 (C6 (own:=own) (te:=eD X.K E0 ge) hc hi hg ht (fun C s2 H2 fp=>he C s2 H2 fp) hB hs).imp (DL hT htt)
def PLS (X:Cx) (E:XK) (i:Nat) (st:Stmt) (gl:Ds->Rs (List PyData)):Prop:=PS X st (C5 (lD X.K E gl) (kY i))
theorem wB {M:List Str} {elt iter:Expr} {ifs:List Expr} {scope:Scope} {own:List Str} {gi:Ds->Rs (List PyData)} {g:TG} {tt:TT} {cond:Ds->Rs Bool} {ge:Ds->Rs PyData} {tgt:PyData->Option Ds} {n0:Nat} {i:Nat} {x:Str} {pos' spos:Pos} (hc:X.calm=true) (hN:X.N.Nodup) (hi:PID X E tg iter gi)
  (hT:TgD X.K n0 own.length tgt g) (hg:∀ C s2 H2 fp,PG (blk X M scope own C s2 H2 fp) tg g) (ht:∀ C s2 H2 fp,PTs (blk X M scope own C s2 H2 fp) ifs tt) (htt:∀ σ H Q,cD X.K E0 cond σ H Q->tt σ H Q) (he:∀ C s2 H2 fp,PD (blk X M scope own C s2 H2 fp) E0 elt ge)
  (hxi:X.N[i]?=some x:=by rfl) (hx:Loc X.env.scope x:=by first | exact Or.inl rfl | exact Or.inr rfl) (hsw:swapsWith (.ListComp elt [⟨tg,iter,ifs,0⟩] scope pos) (some (.Name x pos')) spos.line X.env=pure true:=by rfl)
  (hB:pV X.N M X.env.scope scope own=true:=by rfl) (hs:∀ x,foldedSetIterable iter X.env x=pure x:=by intro _;rfl) (hf:X.fn x=true\/X.env.scope.names.lookup x=some .local:=by first | exact .inl rfl | exact .inr rfl | assumption) :
  PLS X E i (.Assign [.Name x pos'] (.ListComp elt [⟨tg,iter,ifs,0⟩] scope pos) spos) (bM n0 gi cond ge tgt) :=
 PS.imp (q9 (own:=own) (te:=eD X.K E0 ge) hc hN hxi hx hsw hi hg ht (fun C s2 H2 fp=>he C s2 H2 fp) hB hs hf) fun D σ H h=>DL hT htt σ H _ h
end
inductive Sr where
 | nx (δ:Ds)
 | rt (d:PyData)
 | rz (C:Addr)
 | bk (δ:Ds)
 | ct (δ:Ds)
 | no
def iH (K:PySem.W.Frag) (G:Hp):PyData->HO->Prop
 | .list ds,.lst xs=>Iss K G ds xs
 | .dict kvs,.dK l=>∃ m:List (Int×Int),kvs=m.map (fun p=>(PyData.int p.1,PyData.int p.2))/\l=m.map fun p=>(.inl p.1,V.int p.2)
 | _,_=>False
theorem iH.same {K:PySem.W.Frag} {G G':Hp} {d:PyData} {o:HO} (h:iH K G d o) (s:aA G G'):iH K G' d o:=by
 unfold iH at h ⊢;split at h
 ·exact Iss.same s h
 ·exact h
 ·exact h.elim
theorem iH.is {K:PySem.W.Frag} {G:Hp} {d:PyData} {o:HO} {a:Addr} (h:iH K G d o) (ha:G a=some o):Is K G d (.ref a):=by
 unfold iH at h;split at h
 ·exact kI ha h
 ·obtain ⟨m,rfl,rfl⟩:=h;unfold Is;exact .inl (.inr ⟨a,m,rfl,rfl,ha⟩)
 ·exact h.elim
theorem iH.lst {K:PySem.W.Frag} {G:Hp} {ds:List PyData} {o:HO} (h:iH K G (.list ds) o):∃ xs,o=.lst xs/\Iss K G ds xs:=by
 unfold iH at h;split at h
 ·rename_i e;cases e;exact ⟨_,rfl,h⟩
 ·rename_i e;cases e
 ·exact h.elim
structure cz (K:PySem.W.Frag) (H0:Hp) (A0:List Addr) (H:Hp) (A:List Addr) (O:List Nat) (δ:Ds) (σ:St):Prop where
 same:aA H0 H
 ls0:Ls H0 A0
 new:∀ a∈A,H0 a=none
 ls:Ls H A
 len:δ.length=σ.length
 pl:∀ (i:Nat) d,i∉O->δ[i]?=some (some d)->∃ v,σ[i]?=some (some v)/\Is K (del H (A++A0)) d v
 own:∀ (i:Nat) d,i∈O->δ[i]?=some (some d)->∃ a o d',σ[i]?=some (some (.ref a))/\a∈A/\H a=some o/\d=d'/\iH K (del H (A++A0)) d' o
 inj:∀ (i j:Nat) d e a,i∈O->j∈O->δ[i]?=some (some d)->δ[j]?=some (some e)->σ[i]?=some (some (.ref a))->σ[j]?=some (some (.ref a))->i=j
def mask (O:List Nat) (δ:Ds):Ds:=if O=[] then δ else δ.mapIdx fun i d=>if i∈O then none else d
theorem jB (δ:Ds):mask [] δ=δ:=by simp [mask]
theorem DQ {O:List Nat} {δ:Ds} {i:Nat} {d:PyData} (h:(mask O δ)[i]?=some (some d)):i∉O/\δ[i]?=some (some d):=by
 unfold mask at h;split at h
 ·rename_i z;subst z;exact ⟨by simp,h⟩
 ·rw [M1] at h;cases q:δ[i]? with
  | none=>rw [q] at h;cases h
  | some x =>
   rw [q] at h;simp only [M9,Option.some.injEq] at h;by_cases z:i∈O
   ·rw [if_pos z] at h;cases h
   ·rw [if_neg z] at h;exact ⟨z,by rw [h]⟩
theorem xw {O:List Nat} {δ:Ds}:(mask O δ).length=δ.length:=by unfold mask;split <;> simp
theorem yp {H:Hp} {A B:List Addr}:aA (del H (A++B)) (del H B):=fun b o e=>by obtain ⟨z,e⟩:=bL e;rw [ba (fun q=>z (K7 _ q))];exact e
section
variable {K:PySem.W.Frag} {E:XK} {H0 H H1:Hp} {A0 A:List Addr} {O:List Nat} {δ:Ds} {σ:St}
theorem cz.lsA (R:cz K H0 A0 H A O δ σ):Ls H (A++A0):=fun a h=>(Lg.mp h).elim (R.ls a) fun z=>(R.ls0.same R.same) a z
theorem cz.step (R:cz K H0 A0 H A O δ σ) (s:aA H H1):cz K H0 A0 H1 A O δ σ where
 same:=R.same.trans s
 ls0:=R.ls0
 new:=R.new
 ls:=R.ls.same s
 len:=R.len
 pl:=fun i d h e=>by obtain ⟨v,e1,h1⟩:=R.pl i d h e;exact ⟨v,e1,h1.same s.del⟩
 own:=fun i d h e=>by obtain ⟨a,xs,ds,e1,h1,h2,h3,h4⟩:=R.own i d h e;exact ⟨a,xs,ds,e1,h1,s _ _ h2,h3,h4.same s.del⟩
 inj:=R.inj
theorem cz.apart (R:cz K H0 A0 H A O δ σ) {a:Addr} (h:a∈A):a∉A0:=fun z=>by obtain ⟨xs,e,_⟩:=R.ls0 a z;rw [R.new a h] at e;cases e
theorem cz.ownL {i:Nat} {ds:List PyData} (R:cz K H0 A0 H A O δ σ) (h:i∈O) (e:δ[i]?=some (some (.list ds))):∃ a xs ds',σ[i]?=some (some (.ref a))/\a∈A/\H a=some (.lst xs)/\PyData.list ds=.list ds'/\Iss K (del H (A++A0)) ds' xs:=by obtain ⟨a,o,d',e1,h1,h2,h3,h4⟩:=R.own i _ h e;subst h3;obtain ⟨xs,rfl,h5⟩:=h4.lst;exact ⟨a,xs,ds,e1,h1,h2,rfl,h5⟩
theorem cz.full (R:cz K H0 A0 H A O δ σ):eK K H A0 δ σ where
 ls:=R.ls0.same R.same
 len:=R.len
 get:=fun i d e=>by
  by_cases h:i∈O
  ·obtain ⟨a,xs,ds,e1,h1,h2,h3,h4⟩:=R.own i d h e;subst h3;exact ⟨_,e1,(h4.same yp).is (by rw [ba (R.apart h1)];exact h2)⟩
  ·obtain ⟨v,e1,h1⟩:=R.pl i d h e;exact ⟨v,e1,h1.same yp⟩
theorem cz.part (R:cz K H0 A0 H A O δ σ):eK K H (A++A0) (mask O δ) σ where
 ls:=R.lsA
 len:=by rw [xw];exact R.len
 get:=fun i d e=>by obtain ⟨h,e⟩:=DQ e;exact R.pl i d h e
theorem get_set {α:Type} {l:List α} {i j:Nat} {x y:α} (h:(l.set i x)[j]?=some y):(i=j/\y=x)\/(i≠j/\l[j]?=some y):=by
 by_cases z:i=j
 ·subst z;rw [List.getElem?_set_self'] at h;cases q:l[i]? with
  | none=>rw [q] at h;cases h
  | some w=>rw [q] at h;simp at h;exact .inl ⟨rfl,h.symm⟩
 ·rw [Lf z] at h;exact .inr ⟨z,h⟩
theorem lF {α:Type} {l:List α} {i j:Nat} {x y:α} (hn:i≠j) (h:l[j]?=some y):(l.set i x)[j]?=some y:=by rw [Lf hn];exact h
theorem cz.set {i:Nat} {d:PyData} {v:V} (R:cz K H0 A0 H A O δ σ) (hi:i∉O) (hl:i<δ.length) (h:Is K (del H (A++A0)) d v):cz K H0 A0 H A O (δ.set i (some d)) (σ.set i (some v)) where
 same:=R.same
 ls0:=R.ls0
 new:=R.new
 ls:=R.ls
 len:=by simp [R.len]
 pl:=fun j e hj q=>by
  rcases get_set q with ⟨z,q⟩ | ⟨z,q⟩
  ·cases q;subst z;exact ⟨v,by rw [Lp (by rw [<-R.len];exact hl)],h⟩
  ·obtain ⟨u,e1,h1⟩:=R.pl j e hj q;exact ⟨u,lF z e1,h1⟩
 own:=fun j e hj q=>by
  rcases get_set q with ⟨z,q⟩ | ⟨z,q⟩
  ·subst z;exact absurd hj hi
  ·obtain ⟨a,xs,ds,e1,h1⟩:=R.own j e hj q;exact ⟨a,xs,ds,lF z e1,h1⟩
 inj:=fun j k d' e a hj hk q1 q2 p1 p2=>by
  have n1:i≠j:=fun z=>hi (z▸hj)
  have n2:i≠k:=fun z=>hi (z▸hk)
  rw [Lf n1] at q1 p1;rw [Lf n2] at q2 p2;exact R.inj j k d' e a hj hk q1 q2 p1 p2
theorem cz.setOwn {i:Nat} {ds:List PyData} {a:Addr} {xs:List V} (R:cz K H0 A0 H A O δ σ) (hi:i∈O) (hl:i<δ.length) (hn:H a=none) (s:aA H H1) (ha:H1 a=some (.lst xs)) (h:Iss K (del H1 (a::(A++A0))) ds xs) :
  cz K H0 A0 H1 (a::A) O (δ.set i (some (.list ds))) (σ.set i (some (.ref a))) where
 same:=R.same.trans s
 ls0:=R.ls0
 new:=fun b hb=>by
  rcases K6.mp hb with z | z
  ·rw [z];exact R.same.free hn
  ·exact R.new b z
 ls:=fun b hb=>by
  rcases K6.mp hb with z | z
  ·exact ⟨_,by rw [z];exact ha,rfl⟩
  ·exact (R.ls.same s) b z
 len:=by simp [R.len]
 pl:=fun j e hj q=>by
  rcases get_set q with ⟨z,q⟩ | ⟨z,q⟩
  ·subst z;exact absurd hi hj
  ·obtain ⟨u,e1,h1⟩:=R.pl j e hj q;refine ⟨u,lF z e1,h1.same fun b o e=>?_⟩;obtain ⟨y,e⟩:=bL e;have nb:b≠a:=aX e hn;rw [ba (by simpa [nb] using y)];exact s _ _ e
 own:=fun j e hj q=>by
  have kk:∀ b o,del H (A++A0) b=some o->del H1 (a::A++A0) b=some o:=fun b o e=>by obtain ⟨y,e⟩:=bL e;have nb:b≠a:=aX e hn;rw [ba (by simpa [nb] using y)];exact s _ _ e
  rcases get_set q with ⟨z,q⟩ | ⟨z,q⟩
  ·cases q;subst z;exact ⟨a,_,_,by rw [Lp (by rw [<-R.len];exact hl)],K4,ha,rfl,h⟩
  ·obtain ⟨b,ys,es,e1,h1,h2,h3,h4⟩:=R.own j e hj q;exact ⟨b,ys,es,lF z e1,K0 _ h1,s _ _ h2,h3,h4.same kk⟩
 inj:=fun j k d' e b hj hk q1 q2 p1 p2=>by
  have old:∀ k,k∈O->i≠k->∀ e,δ[k]?=some (some e)->σ[k]?=some (some (.ref a))->False:=fun k hk _ e q p=>by obtain ⟨b,ys,es,e1,h1,h2,_⟩:=R.own k e hk q;rw [p] at e1;cases e1;rw [hn] at h2;cases h2
  by_cases z1:i=j
  ·by_cases z2:i=k
   ·rw [<-z1,z2]
   ·subst z1;rw [Lp (by rw [<-R.len];exact hl)] at p1;cases p1;rw [Lf z2] at q2 p2;exact (old k hk z2 e q2 p2).elim
  ·by_cases z2:i=k
   ·subst z2;rw [Lp (by rw [<-R.len];exact hl)] at p2;cases p2;rw [Lf z1] at q1 p1;exact (old j hj z1 d' q1 p1).elim
   ·rw [Lf z1] at q1 p1;rw [Lf z2] at q2 p2;exact R.inj j k d' e b hj hk q1 q2 p1 p2
theorem cz.put {i:Nat} {ds:List PyData} {a:Addr} {ys:List V} {d0:PyData} (R:cz K H0 A0 H A O δ σ) (hi:i∈O) (hd:δ[i]?=some (some d0)) (hs:σ[i]?=some (some (.ref a))) (ha:a∈A) (h:Iss K (del H (A++A0)) ds ys) :
  cz K H0 A0 (upd H a (.lst ys)) A O (δ.set i (some (.list ds))) σ:=by
 have dU:del (upd H a (.lst ys)) (A++A0)=del H (A++A0):=lE (Lm _ ha);have hl:i<δ.length:=(Lj.mp hd).1;refine ⟨fun b o e=>?_,R.ls0,R.new,fun b hb=>?_,by simp [R.len],fun j e hj q=>?_,fun j e hj q=>?_,fun j k d' e b hj hk q1 q2 p1 p2=>?_⟩
 ·have nb:b≠a:=fun z=>by rw [z,R.new a ha] at e;cases e
  rw [aL nb];exact R.same b o e
 ·by_cases z:b=a
  ·exact ⟨_,by rw [z,aV],rfl⟩
  ·rw [aL z];exact R.ls b hb
 ·rcases get_set q with ⟨z,q⟩ | ⟨z,q⟩
  ·subst z;exact absurd hi hj
  ·rw [dU];exact R.pl j e hj q
 ·rcases get_set q with ⟨z,q⟩ | ⟨z,q⟩
  ·cases q;subst z;exact ⟨a,_,_,hs,ha,aV,rfl,by rw [dU];exact h⟩
  ·obtain ⟨b,zs,es,e1,h1,h2,h3,h4⟩:=R.own j e hj q;have nb:b≠a:=fun w=>z (R.inj i j _ _ a hi hj hd q hs (by rw [<-w];exact e1))
   exact ⟨b,zs,es,e1,h1,by rw [aL nb];exact h2,h3,by rw [dU];exact h4⟩
 ·rcases get_set q1 with ⟨z1,q1⟩ | ⟨z1,q1⟩ <;> rcases get_set q2 with ⟨z2,q2⟩ | ⟨z2,q2⟩
  ·rw [<-z1,z2]
  ·subst z1;exact R.inj i k d0 e b hi hk hd q2 p1 p2
  ·subst z2;exact R.inj j i d' d0 b hj hi q1 hd p1 p2
  ·exact R.inj j k d' e b hj hk q1 q2 p1 p2
def un (H0 G:Hp):Hp:=fun b=>match H0 b with | some o=>some o | none=>G b
theorem DR {H0 G:Hp}:aA H0 (un H0 G):=fun b o e=>by unfold un;rw [e]
theorem Kf {H0 G:Hp} (h0:aA H0 H) (hG:aA G H):aA G (un H0 G):=fun b o e=>by
 unfold un;cases q:H0 b with
 | none=>exact e
 | some o2=>have h2:=h0 b o2 q;rw [hG b o e] at h2;exact h2.symm
theorem JD {H0 G:Hp} (h0:aA H0 H) (hG:aA G H):aA (un H0 G) H:=fun b o e=>by
 unfold un at e;cases q:H0 b with
 | none=>rw [q] at e;exact hG b o e
 | some o2=>rw [q] at e;rw [<-Option.some.inj e];exact h0 b o2 q
theorem cz.more (R:cz K H0 A0 H A O δ σ):cz K (un H0 (del H (A++A0))) A0 H A O δ σ :=
 ⟨JD R.same aI,R.ls0.same DR,fun a h=>by unfold un;rw [R.new a h];exact iI (Lm _ h),R.ls,R.len,R.pl,R.own,R.inj⟩
theorem cz.less {H0':Hp} (R:cz K H0' A0 H A O δ σ) (s:aA H0 H0') (l:Ls H0 A0):cz K H0 A0 H A O δ σ:=⟨s.trans R.same,l,fun a h=>s.free (R.new a h),R.ls,R.len,R.pl,R.own,R.inj⟩
end
def oH (K:PySem.W.Frag) (E:XK) (H0:Hp) (A0:List Addr) (O:List Nat) (r:Sr) (D:Ends):Prop:=match r with
 | .nx δ=>∀ A σ H,cz K H0 A0 H A O δ σ->D.nx σ H
 | .rt d=>∀ v H,aA H0 H->Is K (del H A0) d v->D.rt v H
 | .rz C=>∀ H,aA H0 H->E (.ref C) none H
 | .bk δ=>∀ A σ H,cz K H0 A0 H A O δ σ->D.bk σ H
 | .ct δ=>∀ A σ H,cz K H0 A0 H A O δ σ->D.ct σ H
 | .no=>False
def sD (K:PySem.W.Frag) (E:XK) (O:List Nat) (G:Ds->Sr):TS:=fun D σ H=>∃ H0 A0 A δ,cz K H0 A0 H A O δ σ/\oH K E H0 A0 O (G δ) D
def PSD (X:Cx) (E:XK) (O:List Nat) (s:Stmt) (G:Ds->Sr):Prop:=PS X s (sD X.K E O G)
def PBD (X:Cx) (E:XK) (O:List Nat) (ss:List Stmt) (G:Ds->Sr):Prop:=PSs X ss (sD X.K E O G)
def bO:Ds->Sr:=fun δ=>.nx δ
def aK (a b:Ds->Sr):Ds->Sr:=fun δ=>match a δ with
 | .nx δ'=>b δ'
 | r=>r
def ofR {α:Type} (r:Rs α) (k:α->Sr):Sr:=match r with
 | .ok a=>k a
 | .rz C=>.rz C
 | .no=>.no
@[simp] theorem aH {α:Type} (a:α) (k:α->Sr):ofR (.ok a) k=k a:=rfl
@[simp] theorem sC {α:Type} (C:Addr) (k:α->Sr):ofR (.rz C) k=.rz C:=rfl
@[simp] theorem tw {α:Type} (k:α->Sr):ofR (.no:Rs α) k=.no:=rfl
def sIf (c:Ds->Rs Bool) (a b:Ds->Sr):Ds->Sr:=fun δ=>ofR (c δ) fun t=>if t=true then a δ else b δ
def bR (g:Ds->Rs PyData):Ds->Sr:=fun δ=>ofR (g δ) .rt
def mM (g:Ds->Rs PyData):Ds->Sr:=fun δ=>ofR (g δ) fun _=>.nx δ
def aW (O:List Nat) (i:Nat) (g:Ds->Rs PyData):Ds->Sr:=fun δ=>if i<δ.length then ofR (g (mask O δ)) fun d=>.nx (δ.set i (some d)) else .no
def si (i:Nat) (g:Ds->Rs PyData):Ds->Sr:=fun δ=>if i<δ.length then ofR (g δ) fun d=>if fQ d then .nx (δ.set i (some d)) else .no else .no
def lI (O:List Nat) (i:Nat) (g:Ds->Rs (List PyData)):Ds->Sr:=fun δ=>if i<δ.length then ofR (g (mask O δ)) fun ds=>.nx (δ.set i (some (.list ds))) else .no
def md (O:List Nat) (i:Nat) (g:Ds->Rs PyData):Ds->Sr:=fun δ=>match δ[i]? with
 | some (some (.list ds))=>ofR (g (mask O δ)) fun d=>if ds.length<1000000 then .nx (δ.set i (some (.list (ds++[d])))) else .no
 | _=>.no
section
variable {X:Cx} {E:XK} {O:List Nat} {st:Stmt} {ss:List Stmt} {G G':Ds->Sr} {e a b c:Expr} {ga gb:Ds->Rs PyData} {ca:Ds->Rs Bool} {pos:Pos}
theorem bW:PBD X E O [] bO:=vY.imp fun D σ H qz3=>(by obtain ⟨H0,A0,A,δ,R,o⟩:=qz3;exact o A σ H R)
theorem aw (h1:PSD X E O st G) (h2:PBD X E O ss G'):PBD X E O (st::ss) (aK G G'):=(ej h1 h2).imp fun D σ H ⟨H0,A0,A,δ,R,o⟩=>⟨H0,A0,A,δ,R,by
 unfold aK at o;cases q:G δ with
 | nx δ'=>rw [q] at o;exact fun A' σ' H' R'=>⟨H0,A0,A',δ',R',o⟩
 | rt d=>rw [q] at o;exact o
 | rz C=>rw [q] at o;exact o
 | bk d=>rw [q] at o;exact o
 | ct d=>rw [q] at o;exact o
 | no=>rw [q] at o;exact o⟩
theorem aG (h1:PSD X E O st G):PBD X E O [st] G:=(jW h1).imp fun D σ H h=>h
theorem cF {ss':List Stmt} (hc:PCD X E c ca) (h1:PBD X E O ss G) (h2:PBD X E O ss' G'):PSD X E O (.If c ss ss' pos) (sIf ca G G'):=(A8 hc h1 h2).imp fun D σ H pz3=>by
 obtain ⟨H0,A0,A,δ,R,o⟩:=pz3;unfold sIf at o;refine cD.run R.full (fun t et H1 s1 R1=>?_) (fun C et H' s'=>?_) (fun et=>?_)
 ·rw [et] at o;cases t with
  | true=>exact ⟨H0,A0,A,δ,R.step s1,o⟩
  | false=>exact ⟨H0,A0,A,δ,R.step s1,o⟩
 ·rw [et] at o;exact o H' (R.same.trans s')
 ·rw [et] at o;exact o
theorem aR (h:PD X E e ga):PSD X E O (.Return (some e) pos) (bR ga):=(sY h).imp fun D σ H pz3=>by
 obtain ⟨H0,A0,A,δ,R,o⟩:=pz3;unfold bR at o;refine eD.run R.full (fun d ed v H1 s1 R1 hv=>?_) (fun C et H' s'=>?_) (fun et=>?_)
 ·rw [ed] at o;exact o v H1 (R.same.trans s1) hv
 ·rw [et] at o;exact o H' (R.same.trans s')
 ·rw [et] at o;exact o
theorem nG (h:PD X E e ga) (hs:swapsWith e none pos.line X.env=pure false:=by rfl):PSD X E O (.Expr e pos) (mM ga):=(qB h hs).imp fun D σ H pz3=>by
 obtain ⟨H0,A0,A,δ,R,o⟩:=pz3;unfold mM at o;refine eD.run R.full (fun d ed v H1 s1 R1 hv=>?_) (fun C et H' s'=>?_) (fun et=>?_)
 ·rw [ed] at o;exact o A σ H1 (R.step s1)
 ·rw [et] at o;exact o H' (R.same.trans s')
 ·rw [et] at o;exact o
theorem bj {i:Nat} {x:Str} {pos':Pos} (h:PD X E e ga) (hN:X.N.Nodup) (hO:i∉O:=by decide) (hi:X.N[i]?=some x:=by rfl) (hx:Loc X.env.scope x:=by first | exact Or.inl rfl | exact Or.inr rfl) (hs:swapsWith e (some (.Name x pos')) pos.line X.env=pure false:=by rfl)
  (hf:X.fn x=true\/X.env.scope.names.lookup x=some .local:=by first | exact .inl rfl | exact .inr rfl | assumption):PSD X E O (.Assign [.Name x pos'] e pos) (aW O i ga):=(rT hN hi hx h hs hf).imp fun D σ H pz3=>by
 obtain ⟨H0,A0,A,δ,R,o⟩:=pz3;unfold aW at o;split at o
 ·rename_i hl;refine eD.run R.part (fun d ed v H1 s1 R1 hv=>?_) (fun C et H' s'=>?_) (fun et=>?_)
  ·rw [ed] at o;exact o A _ H1 ((R.step s1).set hO hl hv)
  ·rw [et] at o;exact o H' (R.same.trans s')
  ·rw [et] at o;exact o
 ·exact o.elim
theorem CK {i:Nat} {x:Str} {pos':Pos} (h:PD X E e ga) (hN:X.N.Nodup) (hO:i∉O:=by decide) (hi:X.N[i]?=some x:=by rfl) (hx:Loc X.env.scope x:=by first | exact Or.inl rfl | exact Or.inr rfl) (hs:swapsWith e (some (.Name x pos')) pos.line X.env=pure false:=by rfl)
  (hf:X.fn x=true\/X.env.scope.names.lookup x=some .local:=by first | exact .inl rfl | exact .inr rfl | assumption):PSD X E O (.Assign [.Name x pos'] e pos) (si i ga):=(rT hN hi hx h hs hf).imp fun D σ H pz3=>by
 obtain ⟨H0,A0,A,δ,R,o⟩:=pz3;unfold si at o;split at o
 ·rename_i hl;refine eD.run R.full (fun d ed v H1 s1 R1 hv=>?_) (fun C et H' s'=>?_) (fun et=>?_)
  ·rw [ed] at o;have o:oH X.K E H0 A0 O (if fQ d=true then .nx (δ.set i (some d)) else .no) D:=o;split at o
   ·rename_i hd;exact o A _ H1 ((R.step s1).set hO hl ((hv.same aI).dl (R.step s1).lsA hd))
   ·exact o.elim
  ·rw [et] at o;exact o H' (R.same.trans s')
  ·rw [et] at o;exact o
 ·exact o.elim
theorem ni {i:Nat} {x:Str} {pos':Pos} {gl:Ds->Rs (List PyData)} (h:PLD X E e gl) (hN:X.N.Nodup) (hO:i∈O:=by decide) (hi:X.N[i]?=some x:=by rfl) (hx:Loc X.env.scope x:=by first | exact Or.inl rfl | exact Or.inr rfl) (hs:swapsWith e (some (.Name x pos')) pos.line X.env=pure false:=by rfl)
  (hf:X.fn x=true\/X.env.scope.names.lookup x=some .local:=by first | exact .inl rfl | exact .inr rfl | assumption):PSD X E O (.Assign [.Name x pos'] e pos) (lI O i gl):=(rT hN hi hx h hs hf).imp fun D σ H pz3=>by
 obtain ⟨H0,A0,A,δ,R,o⟩:=pz3;unfold lI at o;split at o
 ·rename_i hl;refine ⟨A++A0,mask O δ,R.part,?_⟩;cases q:gl (mask O δ) with
  | ok ds =>rw [q] at o;exact fun p xs H' hn s hp hi'=>o (p::A) _ H' (R.setOwn hO hl hn s hp hi')
  | rz C=>rw [q] at o;exact fun H' s'=>o H' (R.same.trans s')
  | no=>rw [q] at o;exact o
 ·exact o.elim
theorem xO {i:Nat} {gl:Ds->Rs (List PyData)} (h:PLS X E i st gl) (hO:i∉O:=by decide):PSD X E O st (aW O i (gL gl)):=PS.imp h fun D σ H pz3=>by
 obtain ⟨H0,A0,A,δ,R,o⟩:=pz3;unfold aW gL at o;split at o
 ·rename_i hl;have R1:=R.part;refine ⟨A++A0,mask O δ,R1,?_⟩;cases q:gl (mask O δ) with
  | ok ds =>rw [q] at o;intro p xs H' hn s hp hi';exact o A _ H' ((R.step s).set hO hl (kI (by rw [ba (R1.ls.new hn)];exact hp) (hi'.same oS)))
  | rz C=>rw [q] at o;exact fun H' s'=>o H' (R.same.trans s')
  | no=>rw [q] at o;exact o
 ·exact o.elim
theorem tyL {K:PySem.W.Frag} {H:Hp} {p:Addr} {xs:List V} (h:H p=some (.lst xs)):tyV K "list" (.ref p) H:=.inl ⟨rfl,xs,SqL.of h⟩
theorem qw {i:Nat} {x:Str} {pn pa pc:Pos} (h:PD X E e ga) (hO:i∈O:=by decide) (hi:X.N[i]?=some x:=by rfl) (hv:Vis X.env.scope x:=by first | exact Or.inl rfl | exact Or.inr (Or.inl rfl) | exact Or.inr (Or.inr rfl))
  (hd:(x==("__debug__":Str))=false:=by decide) (hcd:(x==("__classdict__":Str))=false:=by decide) (hst:starEach [e] X.env=(false,eval e X.env)::starEach [] X.env:=by rfl)
  (hbase:attributeBase (.Name x pn) "append" X.env (eval (.Name x pn) X.env)=eval (.Name x pn) X.env:=by rfl)
  (hfew:((backTo pc (starEach [e] X.env)).all (fun x=>!x.1)&&(backToKw pc (keywordEach [] X.env)).all (fun x=>x.1.isSome)&&decide (([e]:List Expr).length+([]:List Keyword).length+(if ([]:List Keyword).isEmpty then 0 else 1)<30))=true:=by rfl)
  (hline:(pa.endLine==pc.line)=true:=by rfl) (hs:swapsWith (.Call (.Attribute (.Name x pn) "append" pa) [e] [] pc) none pos.line X.env=pure false:=by rfl) :
  PSD X E O (.Expr (.Call (.Attribute (.Name x pn) "append" pa) [e] [] pc) pos) (md O i ga) :=
 (qB (DN PySem.F.plainAttrs_list PySem.F.slot_list_append PySem.F.type_list_append nU (mh hi hv hd hcd) (eX h gM hst) hbase hfew hline hst rfl) hs).imp fun D σ H pz3=>by
  obtain ⟨H0,A0,A,δ,R,o⟩:=pz3;unfold md at o;split at o
  ·rename_i ds q;obtain ⟨p,xs,ds',e1,hp,hl,e2,hx⟩:=R.ownL hO q;cases e2;refine ⟨_,e1,tyL hl,?_⟩;refine eD.run R.part (fun d ed v H1 s1 R1 hv=>?_) (fun C et H' s'=>?_) (fun et=>?_)
   ·rw [ed] at o;have o:oH X.K E H0 A0 O (if ds.length<1000000 then .nx (δ.set i (some (.list (ds++[d])))) else .no) D:=o;split at o
    ·rename_i hz;refine ⟨p,xs,v,rfl,rfl,s1 _ _ hl,by rw [hx.length,sizeLine_eq];omega,?_⟩;exact o A _ _ ((R.step s1).put hO q e1 hp ((hx.same s1.del).append (j8 hv)))
    ·exact o.elim
   ·rw [et] at o;exact o H' (R.same.trans s')
   ·rw [et] at o;exact o
  ·exact o.elim
def TgS (K:PySem.W.Frag) (O:List Nat) (tgt:PyData->Ds->Option Ds) (g:TG):Prop:=∀ (d:PyData) (v:V) (H0:Hp) (A0:List Addr) (H:Hp) (A:List Addr) (δ δ':Ds) (σ:St) (Q:St->Hp->Prop),cz K H0 A0 H A O δ σ->Is K (del H (A++A0)) d v->tgt d δ=some δ' ->
 (∀ σ',cz K H0 A0 H A O δ' σ'->Q σ' H)->g v σ H Q
def cy (i:Nat):PyData->Ds->Option Ds:=fun d δ=>if i<δ.length then some (δ.set i (some d)) else none
theorem jj {K:PySem.W.Frag} {i:Nat} (hi:i∉O):TgS K O (cy i) (kY i):=fun d v H0 A0 H A δ δ' σ Q R h e k=>by
 unfold cy at e;split at e
 ·rename_i hl;cases e;exact k _ (R.set hi hl h)
 ·cases e
def oK:List Nat->List PyData->Ds->Option Ds
 | [],[],δ=>some δ
 | i::is,d::ds,δ=>if i<δ.length then oK is ds (δ.set i (some d)) else none
 | _,_,_=>none
def kO (is:List Nat):PyData->Ds->Option Ds
 | .tuple ds,δ=>oK is ds δ
 | _,_=>none
def zo:List Nat->TGs
 | []=>L2.HY
 | i::is=>L2.Ah (kY i) (zo is)
theorem p8 {K:PySem.W.Frag}:∀ (is:List Nat) (ds:List PyData) (vs:List V) (H0:Hp) (A0:List Addr) (H:Hp) (A:List Addr) (δ δ':Ds) (σ:St) (Q:St->Hp->Prop),(∀ i∈is,i∉O)->cz K H0 A0 H A O δ σ->Iss K (del H (A++A0)) ds vs->oK is ds δ=some δ' ->
  (∀ σ',cz K H0 A0 H A O δ' σ'->Q σ' H)->zo is vs σ H Q
 | [],[],vs,H0,A0,H,A,δ,δ',σ,Q,_,R,h,e,k=>by cases e;exact ⟨h.nil_of,k σ R⟩
 | i::is,d::ds,vs,H0,A0,H,A,δ,δ',σ,Q,hO,R,h,e,k=>by
  obtain ⟨v,r,rfl,h1,h2⟩:=h.cons_of;unfold oK at e;split at e
  ·rename_i hl;exact ⟨v,r,rfl,p8 is ds r H0 A0 H A _ δ' _ Q (fun j hj=>hO j (K0 _ hj)) (R.set (hO i K4) hl h1) h2 e k⟩
  ·cases e
 | [],_::_,_,_,_,_,_,_,_,_,_,_,_,_,e,_=>by cases e
 | _::_,[],_,_,_,_,_,_,_,_,_,_,_,_,e,_=>by cases e
theorem qM:∀ {is:List Nat} {ds:List PyData} {δ δ':Ds},oK is ds δ=some δ'->ds.length=is.length
 | [],[],_,_,_=>rfl
 | _::is,_::ds,δ,δ',e=>by
  unfold oK at e;split at e
  ·simp [qM e]
  ·cases e
 | [],_::_,_,_,e=>by cases e
 | _::_,[],_,_,e=>by cases e
theorem vm {K:PySem.W.Frag} {is:List Nat} (hi:∀ i∈is,i∉O):TgS K O (kO is) (L2.G1 K is.length (zo is)):=fun d v H0 A0 H A δ δ' σ Q R h e k=>by
 unfold kO at e;split at e
 ·obtain ⟨p,xs,rfl,hp,hx⟩:=h.ofTup;exact ⟨p,xs,rfl,SqT.of (aI _ _ hp),by rw [hx.length,qM e],p8 is _ xs H0 A0 H A δ δ' σ Q hi R hx e k⟩
 ·cases e
def forL (tgt:PyData->Ds->Option Ds) (body:Ds->Sr):List PyData->Ds->Sr
 | [],δ=>.nx δ
 | d::r,δ=>match tgt d δ with
  | none=>.no
  | some δ1=>match body δ1 with
   | .nx δ2=>forL tgt body r δ2
   | .ct δ2=>forL tgt body r δ2
   | .bk δ2=>.nx δ2
   | .rt v=>.rt v
   | .rz C=>.rz C
   | .no=>.no
def ju (O:List Nat) (src:Ds->Rs (List PyData)) (tgt:PyData->Ds->Option Ds) (body:Ds->Sr):Ds->Sr:=fun δ=>ofR (src (mask O δ)) fun ds=>forL tgt body ds δ
theorem iS {iter tg:Expr} {gi:Ds->Rs (List PyData)} {tgt:PyData->Ds->Option Ds} {g:TG} (hp:PassesOwn (model X.prog X.w) X.A X.env X.xe) (hc:X.calm=true) (hi:PID X E tg iter gi) (hT:TgS X.K O tgt g) (hg:PG X tg g) (hb:PBD X E O ss G)
  (hs:∀ x,foldedSetIterable iter X.env x=pure x:=by intro _;rfl):PSD X E O (.For tg iter ss [] pos) (ju O gi tgt G):=(Ib hp hc hi hg hb hs).imp fun D σ H pz3=>by
 obtain ⟨H0,A0,A,δ,R,o⟩:=pz3;unfold ju at o;refine ⟨A++A0,mask O δ,R.part,?_⟩;cases q:gi (mask O δ) with
 | no=>rw [q] at o;exact o
 | rz C=>rw [q] at o;exact fun H' s'=>o H' (R.same.trans s')
 | ok ds =>
  rw [q] at o;intro J H1 s1 hJ;have R1:=(R.step s1).more;have o:oH X.K E H0 A0 O (forL tgt G ds δ) D:=o;refine ⟨fun i m σ' H'=>m=ds.length-i/\i<=ds.length/\∃ A' δ',cz X.K (un H0 (del H1 (A++A0))) A0 H' A' O δ' σ'/\oH X.K E H0 A0 O (forL tgt G (ds.drop i) δ') D,⟨ds.length,by simp,Lw _,A,δ,R1,o⟩,?_⟩
  rintro i m σ' H' ⟨rfl,hi',A',δ',R',o'⟩
  have sG:aA (del H1 (A++A0)) (un H0 (del H1 (A++A0))):=Kf (R.same.trans s1) aI;have hB:∀ b∈A'++A0,(del H1 (A++A0)) b=none:=fun b hb=>by
   rcases Lg.mp hb with z | z
   ·exact sG.free (R'.new b z)
   ·exact iI (K7 _ z)
  obtain ⟨jg,js,jy⟩:=hJ H' (A'++A0) (sG.trans R'.same) R'.lsA hB;by_cases hlt:i<ds.length
  ·refine .inr ⟨jg i hlt,?_⟩;have edr:ds.drop i=ds[i]::ds.drop (i+1):=Mp hlt;rw [edr] at o';unfold forL at o';refine ⟨fun σ2 H2=>∃ A2 δ2,cz X.K (un H0 (del H1 (A++A0))) A0 H2 A2 O δ2 σ2/\oH X.K E H0 A0 O (forL tgt G (ds.drop (i+1)) δ2) D,fun σ2 H2 ⟨A2,δ2,R2,o2⟩=>⟨ds.length-(i+1),by omega,rfl,hlt,A2,δ2,R2,o2⟩,fun x H2 y=>?_⟩;obtain ⟨s2,d,ed,hd⟩:=jy i x H2 hlt y;have:ds[i]=d:=by have:=K3 hlt;rw [this] at ed;exact Option.some.inj ed
   rw [this] at o';cases et:tgt d δ' with
   | none=>rw [et] at o';exact o'.elim
   | some δ1 =>
    simp only [et] at o';refine hT d x _ _ _ _ _ _ _ _ (R'.step s2) hd et fun σ3 R3=>⟨_,_,_,_,R3,?_⟩
    cases eb:G δ1 with
    | nx δ2=>rw [eb] at o';exact fun A4 σ4 H4 R4=>⟨A4,δ2,R4,o'⟩
    | ct δ2=>rw [eb] at o';exact fun A4 σ4 H4 R4=>⟨A4,δ2,R4,o'⟩
    | bk δ2=>rw [eb] at o';exact fun A4 σ4 H4 R4=>o' A4 σ4 H4 (R4.less DR R.ls0)
    | rt v=>rw [eb] at o';exact fun v4 H4 s4 h4=>o' v4 H4 (DR.trans s4) h4
    | rz C=>rw [eb] at o';exact fun H4 s4=>o' H4 (DR.trans s4)
    | no=>rw [eb] at o';exact o'
  ·have e:i=ds.length:=by omega
   subst e;rw [MP] at o';exact .inl ⟨js,o' A' σ' H' (R'.less DR R.ls0)⟩
end
section
variable {X:Cx} {E:XK} {O:List Nat} {st:Stmt} {ss:List Stmt} {G G':Ds->Sr} {e a b c:Expr} {ga gb gk:Ds->Rs PyData} {ca:Ds->Rs Bool} {pos:Pos}
def cg (c:Ds->Rs Bool) (b:Ds->Sr):Nat->Ds->Sr
 | 0,_=>.no
 | n+1,δ=>ofR (c δ) fun t=>if t=true then (match b δ with
  | .nx δ2=>cg c b n δ2
  | .ct δ2=>cg c b n δ2
  | .bk δ2=>.nx δ2
  | .rt v=>.rt v
  | .rz C=>.rz C
  | .no=>.no) else .nx δ
theorem uu (fuel:Nat) (hp:PassesOwn (model X.prog X.w) X.A X.env X.xe) (hc:PCD X E c ca) (hb:PBD X E O ss G):PSD X E O (.While c ss [] pos) (fun δ=>cg ca G fuel δ):=(xC hp hc hb).imp fun D σ H pz3=>by
 obtain ⟨H0,A0,A,δ,R,o⟩:=pz3;refine ⟨fun m σ H=>∃ A δ,cz X.K H0 A0 H A O δ σ/\oH X.K E H0 A0 O (cg ca G m δ) D,⟨fuel,A,δ,R,o⟩,?_⟩
 rintro m σ H ⟨A,δ,R,o⟩
 cases m with
 | zero=>exact o.elim
 | succ m =>
  unfold cg at o;refine cD.run R.full (fun t et H1 s1 R1=>?_) (fun C et H' s'=>?_) (fun et=>?_)
  ·rw [et] at o;cases t with
   | false=>exact o A σ H1 (R.step s1)
   | true =>
    refine ⟨fun σ' H'=>∃ A δ,cz X.K H0 A0 H' A O δ σ'/\oH X.K E H0 A0 O (cg ca G m δ) D,fun σ' H' q=>⟨m,LR m,q⟩,H0,A0,A,δ,R.step s1,?_⟩;have o:oH X.K E H0 A0 O (match G δ with
     | .nx δ2=>cg ca G m δ2
     | .ct δ2=>cg ca G m δ2
     | .bk δ2=>.nx δ2
     | .rt v=>.rt v
     | .rz C=>.rz C
     | .no=>.no) D:=o
    cases eb:G δ with
    | nx δ2=>rw [eb] at o;exact fun A4 σ4 H4 R4=>⟨A4,δ2,R4,o⟩
    | ct δ2=>rw [eb] at o;exact fun A4 σ4 H4 R4=>⟨A4,δ2,R4,o⟩
    | bk δ2=>rw [eb] at o;exact o
    | rt v=>rw [eb] at o;exact o
    | rz C=>rw [eb] at o;exact o
    | no=>rw [eb] at o;exact o
  ·rw [et] at o;exact o H' (R.same.trans s')
  ·rw [et] at o;exact o
def EN (O:List Nat) (tgt:PyData->Ds->Option Ds) (g:Ds->Rs PyData):Ds->Sr:=fun δ=>ofR (g (mask O δ)) fun d=>match tgt d δ with
 | some δ'=>.nx δ'
 | none=>.no
theorem FV {tg:Expr} {tgt:PyData->Ds->Option Ds} {g:TG} (h:PD X E e ga) (hT:TgS X.K O tgt g) (hg:PG X tg g) (hs:swapsWithSole [tg] e pos.line X.env=pure false:=by rfl) (hw:swappedStores [tg] e X.env=pure none:=by rfl)
  (h1:(assignEach [tg] X.env).map (·.2)=[assign tg X.env]:=by rfl):PSD X E O (.Assign [tg] e pos) (EN O tgt ga):=(Dl h hg hs hw h1).imp fun D σ H pz3=>by
 obtain ⟨H0,A0,A,δ,R,o⟩:=pz3;unfold EN at o;refine eD.run R.part (fun d ed v H1 s1 R1 hv=>?_) (fun C et H' s'=>?_) (fun et=>?_)
 ·simp only [ed,aH] at o;cases q:tgt d δ with
  | none=>rw [q] at o;exact o.elim
  | some δ'=>rw [q] at o;exact hT d v H0 A0 H1 A δ δ' σ _ (R.step s1) hv q fun σ' R'=>o A σ' H1 R'
 ·rw [et] at o;exact o H' (R.same.trans s')
 ·rw [et] at o;exact o
def BI (i:Nat) (gk ge:Ds->Rs PyData):Ds->Sr:=fun δ=>match δ[i]? with
 | some (some (.list ds))=>ofR (ge δ) fun d=>ofR (gk δ) fun k=>match k with
  | .int k=>match ixN ds.length k with
   | some j=>if fQ d then .nx (δ.set i (some (.list (ds.set j d)))) else .no
   | none=>.no
  | _=>.no
 | _=>.no
theorem EU {k:Expr} {i:Nat} {x:Str} {pn ps:Pos} (h:PD X E e ga) (hk:PD X E k gk) (hO:i∈O:=by decide) (hi:X.N[i]?=some x:=by rfl) (hv:Vis X.env.scope x:=by first | exact Or.inl rfl | exact Or.inr (Or.inl rfl) | exact Or.inr (Or.inr rfl))
  (hd:(x==("__debug__":Str))=false:=by decide) (hcd:(x==("__classdict__":Str))=false:=by decide)
  (ha:∀ v,assign (.Subscript (.Name x pn) k ps) X.env v=(do
   let ov <-holding [v] (eval (.Name x pn) X.env);let iv <-holding [v,ov] (eval k X.env)
   standAt ps
   holding [v,ov,iv] (setItem ov iv v)
   release [v,ov,iv] []):=by intro _;rfl)
  (hs:swapsWithSole [.Subscript (.Name x pn) k ps] e pos.line X.env=pure false:=by rfl) (hw:swappedStores [.Subscript (.Name x pn) k ps] e X.env=pure none:=by rfl)
  (h1:(assignEach [.Subscript (.Name x pn) k ps] X.env).map (·.2)=[assign (.Subscript (.Name x pn) k ps) X.env]:=by rfl):PSD X E O (.Assign [.Subscript (.Name x pn) k ps] e pos) (BI i gk ga) :=
 (Dl h (Ik (mh hi hv hd hcd) hk set_list ha) hs hw h1).imp fun D σ H pz3=>by
  obtain ⟨H0,A0,A,δ,R,o⟩:=pz3;unfold BI at o;split at o
  ·rename_i ds q;obtain ⟨p,xs,ds',e1,hp,hl,e2,hx⟩:=R.ownL hO q;cases e2;refine eD.run R.full (fun d ed v H1 s1 R1 hv=>?_) (fun C et H' s'=>?_) (fun et=>?_)
   ·simp only [ed,aH] at o;refine ⟨_,e1,?_⟩;refine eD.run R1 (fun kd ek u H2 s2 R2 hu=>?_) (fun C et H' s'=>?_) (fun et=>?_)
    ·simp only [ek,aH] at o;split at o
     ·rename_i kk;split at o
      ·rename_i j hj;split at o
       ·rename_i hn;have s12:=s1.trans s2;refine ⟨p,xs,kk,j,rfl,hu.ofInt,s12 _ _ hl,by rw [hx.length];exact hj,?_⟩;exact o A _ _ ((R.step s12).put hO q e1 hp (Iss.set (((hv.same s2.del).same aI).dl (R.step s12).lsA hn) j (hx.same s12.del)))
       ·exact o.elim
      ·exact o.elim
     ·exact o.elim
    ·simp only [et,sC] at o;exact o H' (R.same.trans (s1.trans s'))
    ·simp only [et,tw] at o;exact o
   ·simp only [et,sC] at o;exact o H' (R.same.trans s')
   ·simp only [et,tw] at o;exact o
  ·exact o.elim
structure yt (K:PySem.W.Frag) (mg:Str->Option Value) (x:Str) (C:Addr):Prop where
 m:mg x=some (.ref C)
 e:PySem.W.excIn K C [.type "ValueError",.type "Exception",.type "BaseException",.type "object"] "ValueError.__new__"=true
def kB (C:Addr) (gs:Ds->Rs (List PyData)):Ds->Sr:=fun δ=>ofR (gs δ) fun _=>.rz C
theorem jt {x:Str} {C:Addr} {np cpos:Pos} {es:List Expr} {gs:Ds->Rs (List PyData)} (hc:X.calm=true) (M:yG X E) (EE:yt X.K X.mg x C) (ha:PAD X E (e::es) gs) (hl:(e::es).length<=1000:=by decide) (hg:Gl X x:=by rfl)
  (hdb:(x==("__debug__":Str))=false:=by decide) (he:starEach (e::es) X.env=(false,eval e X.env)::starEach es X.env:=by rfl) (hpl:(backTo cpos (starEach es X.env)).any (·.1)=false:=by rfl) :
  PSD X E O (.Raise (some (.Call (.Name x np) (e::es) [] cpos)) none pos) (kB C gs) :=
 (Cz hc M PySem.F.excBase_ValueError hg EE.m EE.e ha.1 hdb he hpl).imp fun D σ H pz3=>by
  obtain ⟨H0,A0,A,δ,R,o⟩:=pz3;unfold kB at o;refine aD.run R.full (fun ds ed vs H1 s1 R1 hv=>?_) (fun C et H' s'=>?_) (fun et=>?_)
  ·simp only [ed,aH] at o;exact ⟨by rw [hv.length,ha.2 δ ds ed,sizeLine_eq];omega,o H1 (R.same.trans s1)⟩
  ·simp only [et,sC] at o;exact o H' (R.same.trans s')
  ·simp only [et,tw] at o;exact o
end
section
variable {P:Program} {w:World} {K:PySem.W.Frag} {mg:Str->Option Value} {base:Heap}
theorem qr {x qual:Str} {st:Stmt} {f:Addr} {fd:FuncData} {N ps:List Str} {k:Nat} {sp:Sp} {CX:CXT} (F:Fun K x qual st f fd) (S:aZ N ps (ax st)) (len:∀ vs H Q E,sp vs H Q E->vs.length=ps.length)
  (hbody:∀ (cdv:Value) (A:Around) (outer:List Env) (s:Shared) (H:Hp) (vs:List V) (Q:VK) (E:XK),cR k (A.deeper (envOfC qual (ax st) s.heap.objs.size f cdv))->sp vs H Q E ->
   ∃ t,PSs (eF CX P w K mg base N qual (ax st) f cdv A outer s H E) (dm st) t/\t { nx:=fun _ H'=>Q .non H',rt:=Q } (start N vs) H):iC P w K mg base CX (k+1) f fd ps sp:=by
 obtain ⟨oc,od,kV,doc,pm,an,cdv,ct,osl,rfl,lk,hcd⟩:=F.ex;exact Co lk hcd S len fun A outer s H vs Q E hr hsp=>hbody cdv A outer s H vs Q E hr hsp
def bu:Sr->Rs PyData
 | .rt d=>.ok d
 | .nx _=>.ok .none
 | .rz C=>.rz C
 | _=>.no
theorem rV {N:List Str} {qual:Str} {scope:Scope} {f:Addr} {cd:Value} {A:Around} {outer:List Env} {s:Shared} {H:Hp} {E:XK}:yG (eF (CXW P w) P w K mg base N qual scope f cd A outer s H E) E :=
 fun _ _ _ _ _ _ _ _ I hx hE=>yj (CX:=CX0) I hx hE
theorem cz.start {N ps:List Str} {A0:List Addr} {H:Hp} {O:List Nat} {ds:List PyData} {vs:List V} (hA:Ls H A0) (hi:Iss K (del H A0) ds vs) (hl:ds.length=ps.length) (hO:∀ i∈O,ps.length<=i) :
  cz K H A0 H [] O (ds.map some++List.replicate (N.length-ps.length) none) (L2.start N vs):=by
 have hv:=hi.length;have at':∀ (i:Nat) d,(ds.map some++List.replicate (N.length-ps.length) none)[i]?=some (some d)->i<ds.length/\ds[i]?=some d:=fun i d e=>by
  by_cases h:i<ds.length
  ·rw [La (by simpa using h),Lb] at e;refine ⟨h,?_⟩;cases q:ds[i]? with
   | none=>rw [q] at e;cases e
   | some z=>rw [q] at e;simp at e;rw [e]
  ·rw [Le (by simpa using h),Mt] at e;split at e <;> cases e
 refine ⟨aA.refl _,hA,(fun a h=>by cases h),(fun a h=>by cases h),?_,fun i d _ e=>?_,fun i d h e=>?_,fun i j d e a h _ q _ _ _=>?_⟩
 ·unfold L2.start;simp [hv,hl]
 ·obtain ⟨hlt,e⟩:=at' i d e;obtain ⟨v,ev,hd⟩:=hi.getD e;refine ⟨v,?_,hd⟩;unfold L2.start;rw [La (by simp;omega),Lb,ev];rfl
 ·obtain ⟨hlt,_⟩:=at' i d e;exact absurd (hO i h) (by omega)
 ·obtain ⟨hlt,_⟩:=at' i d q;exact absurd (hO i h) (by omega)
theorem bg.of {x qual:Str} {st:Stmt} {f:Addr} {fd:FuncData} {N ps:List Str} {k:Nat} {O:List Nat} {G:Ds->Sr} {gf:List PyData->Rs PyData} (F:Fun K x qual st f fd) (S:aZ N ps (ax st)) (b:Binds K fd ps []) (m:mg x=some (.ref f)) (hO:∀ i∈O,ps.length<=i)
  (body:∀ (cdv:Value) (A:Around) (outer:List Env) (s:Shared) (H:Hp) (E:XK),cR k (A.deeper (envOfC qual (ax st) s.heap.objs.size f cdv))->PBD (eF (CXW P w) P w K mg base N qual (ax st) f cdv A outer s H E) E O (dm st) G)
  (hg:∀ ds,ds.length=ps.length->gf ds≠.no->bu (G (ds.map some++List.replicate (N.length-ps.length) none))=gf ds):bg P w K mg base (k+1) x ps.length gf:=by
 refine ⟨f,fd,ps,qr F S (fun vs H Q E h=>?_) (fun cdv A outer s H vs Q E hr h=>?_),m,F.kp,b⟩
 ·obtain ⟨A,ds,hA,hi,hl,o⟩:=h;rw [hi.length,hl]
 ·obtain ⟨A0,ds,hA,hi,hl,o⟩:=h;refine ⟨_,body cdv A outer s H E hr,H,A0,[],_,cz.start hA hi hl hO,?_⟩;have hg':=hg ds hl (fun z=>by rw [z] at o;exact o);cases q:G (ds.map some++List.replicate (N.length-ps.length) none) with
  | rt d=>rw [q] at hg';rw [<-hg'] at o;exact fun v H' s' hv=>o v H' s' hv
  | nx δ=>rw [q] at hg';rw [<-hg'] at o;exact fun A' σ H' R'=>o .non H' R'.same is_none
  | rz C=>rw [q] at hg';rw [<-hg'] at o;exact fun H' s'=>o H' s'
  | bk δ=>rw [q] at hg';rw [<-hg'] at o;exact o.elim
  | ct δ=>rw [q] at hg';rw [<-hg'] at o;exact o.elim
  | no=>rw [q] at hg';rw [<-hg'] at o;exact o.elim
theorem bg.old {x:Str} {f:Addr} {fd:FuncData} {ps:List Str} {k:Nat} {sp:Sp} {gf:List PyData->Rs PyData} (F:iC P w K mg base CX0 k f fd ps sp) (m:mg x=some (.ref f)) (kp:PySem.W.keepIn K (.ref f)=true) (b:Binds K fd ps [])
  (h:∀ ds,ds.length=ps.length->gf ds≠.no->∃ d,gf ds=.ok d/\hV d=true/\∀ vs H Q,Iss K H ds vs->(∀ v H',aA H H'->IsD K H' d v->Q v H')->sp vs H Q E0):bg P w K mg base k x ps.length gf:=by
 refine ⟨f,fd,ps,⟨fun vs H Q E h'=>?_,fun A outer s H args us vs Q E hr he hb hv h'=>?_⟩,m,kp,b⟩
 ·obtain ⟨A,ds,hA,hi,hl,o⟩:=h';rw [hi.length,hl]
 ·obtain ⟨A0,ds,hA,hi,hl,o⟩:=h';obtain ⟨d,e,nl,hsp⟩:=h ds hl (fun z=>by rw [z] at o;exact o);rw [e] at o;refine codeAny_mono (F.run A outer s H args us vs Q E0 hr he hb hv (hsp vs H Q (hi.same aI) fun v H' s' hd=>o v H' s' ((hd.is nl).dl (hA.same s') (zP nl)))) fun r s' hq=>?_
  cases r with
  | error ev=>exact False.elim hq
  | ok fl =>
   cases fl with
   | ret u=>exact hq
   | next=>exact False.elim hq
   | brk=>exact False.elim hq
   | cont=>exact False.elim hq
end
open AutoSeq1 (wpAny_loadPart')
theorem oj:fillsNumberSlot (.type "tuple") "mul"=pure false :=
 PySem.fillsNumberSlot_seq (id:="tuple.__mul__") (r:=some (.builtin "tuple.__rmul__")) PySem.F.slot_tuple_mul.lookup (by decide +kernel) PySem.F.slot_tuple_rmul.lookup (by decide +kernel)
theorem vW:seqRepeat? (.type "tuple")=pure (some (.builtin "tuple.__mul__")):=by unfold seqRepeat?;rw [PySem.seqSlot_of (T:="tuple") (name:="__mul__") (id:="tuple.__mul__") PySem.F.slot_tuple_mul.lookup (by decide +kernel),PySem.seqSlot_of (T:="tuple") (name:="__rmul__") (id:="tuple.__rmul__") PySem.F.slot_tuple_rmul.lookup (by decide +kernel)];rfl
theorem vV (a:Int) (t:Tok) (l:Addr) (items:Array Value) (n:Nat) (dd:Option Addr) (sl:Array (Option Value)) :
  Meets (Builtin.«int.__rmul__» ⟨[.int a t,.ref l],[]⟩) (fun _ R s=>s.heap.get? l=some { cls:=.type "tuple",dict:=dd,data:=.seq items n,slots:=sl }/\R (.ok (.ret Value.notImplemented)) s) :=
 .of_wp fun prog w A R s h=>by obtain ⟨hp,g,d,tk,os⟩:=s;obtain ⟨hl,h⟩:=h;wp_walk;exact ⟨_,rfl,h⟩
theorem Eg (l:Addr) (items:Array Value) (n:Nat) (x:Int) (u:Tok) (dd:Option Addr) (sl:Array (Option Value)) (h1:(decide (x < -(2 ^ 63)) || decide (x≥2 ^ 63))=false) (h2:(items.isEmpty || x==1)=false) (h3:(decide (x<=0) || items.isEmpty)=false)
  (h4:decide ((items.size:Int)*x>(2 ^ 63-1) / 8)=false) (h5:Builtin.Tuple.tupleTooMany ((items.size:Int)*x)=false) (hsz:(List.foldl (fun x1 x2=>x1++x2) #[] (List.replicate x.toNat items)).size<=sizeLine) :
  Meets (Builtin.«tuple.__mul__» ⟨[.ref l,.int x u],[]⟩) (fun _ R s=>s.heap.get? l=some { cls:=.type "tuple",dict:=dd,data:=.seq items n,slots:=sl }/\R (.ok (.ret (Value.ref s.heap.objs.size))) { s with heap:=s.heap.push { cls:=Value.type "tuple",data:=Data.seq (List.foldl (fun x1 x2=>x1++x2) #[] (List.replicate x.toNat items)) } }) :=
 .of_wp fun prog w A R s h=>by
  obtain ⟨hp,g,d,tk,os⟩:=s;obtain ⟨hl,h⟩:=h;have f1:=AutoSeq1.idx_int;have f2:=AutoSeq1.sub_tuple_tuple
  wp_walk using wpAny_loadPart' hl
  refine wpAny_ite_false (by rw [h1];rfl) ?_
  wp_walk using wpAny_loadPart' hl
  refine wpAny_ite_false h4 ?_
  wp_walk using wpAny_loadPart' hl
  exact ⟨_,rfl,h⟩
section
variable {X:Cx} {E:XK} {a b c e:Expr} {ga gb gc:Ds->Rs PyData} {pos:Pos} {es:List Expr} {gs:Ds->Rs (List PyData)}
def GP (K:PySem.W.Frag):R2:=fun x y H Q=>∃ l k xs,x=.ref l/\y=.int k/\SqT K H l xs/\xs≠[]/\2<=k/\k<1000000/\xs.length*k.toNat<=1000000/\∀ p,H p=none->Q (.ref p) (upd H p (.tup (List.replicate k.toNat xs).flatten))
theorem FI:OpR X (binaryOp .Mult) (GP X.K):=by
 intro pins s σ H x y v u Q I rx ry h;obtain ⟨l,k,xs,rfl,rfl,hl,hne,hk1,hk2,hz,q⟩:=h;cases rx;obtain ⟨t,rfl⟩:=ry;obtain ⟨its,r,p1,_⟩:=I.tuple hl;obtain ⟨⟨cls,dd,data,sl⟩,ho,hc,n,hd⟩:=id p1;simp only at hc hd;subst hc hd;have hlen:=r.length;have hne':its≠[]:=fun z=>hne (r.nil_iff.mp z)
 have hpos:0<its.length:=LO.mpr hne';have hfold:List.foldl (fun x1 x2=>x1++x2) #[] (List.replicate k.toNat its.toArray)=(List.replicate k.toNat its).flatten.toArray:=by have:=foldl_rep its k.toNat [];rw [Ln] at this;exact this
 have hemp:its.toArray.isEmpty=false:=by simp [hne']
 have hmul:(its.length:Int)*k<=1000000:=by
  have e1:((its.length*k.toNat:Nat):Int)=(its.length:Int)*k:=by rw [Int.natCast_mul,LP (by omega)]
  rw [<-e1,<-hlen];omega
 have hsz2:(List.replicate k.toNat its).flatten.length<=1000000:=by rw [len_rep,Nat.mul_comm,<-hlen];exact hz
 refine wpAny_binaryOp_repeat_ref (T:="tuple") (U:="int") (by decide) ⟨_,ho,rfl⟩ (fun s'=>typeIs_int s' k t) oj PySem.F.fills_int_mul PySem.F.slot_int_rmul vW PySem.F.slot_int_index.lookup
  (call_meets PySem.F.slot_int_rmul (typeIs_int s k t) PySem.F.entry_int_rmul (PySem.F.args_int_rmul_2 _ _) (vV k t l its.toArray n dd sl)
   ⟨ho,rfl,⟨_,ho,rfl⟩,call_meets PySem.F.slot_tuple_mul ⟨_,ho,rfl⟩ PySem.F.entry_tuple_mul (PySem.F.args_tuple_mul_2 _ _) (Eg l its.toArray n k t dd sl ?_ ?_ ?_ ?_ ?_ ?_) ⟨ho,?_⟩⟩)
 ·rw [decide_eq_false (by omega),decide_eq_false (by omega)];rfl
 ·rw [hemp,Bool.false_or];simp;omega
 ·rw [hemp,Bool.or_false];exact decide_eq_false (by omega)
 ·rw [L0];exact decide_eq_false (by omega)
 ·rw [L0];unfold Builtin.Tuple.tupleTooMany;rw [sizeLine_eq];exact decide_eq_false (by omega)
 ·rw [hfold,L0,sizeLine_eq];omega
 ·rw [hfold];refine ⟨.ref s.heap.objs.size,_,I.laid (t':=s.toks) (o:=.tup (List.replicate k.toNat xs).flatten) (fun b ob q=>K2 _ q) (K8 _) ?_,rfl,q _ (I.hok.fresh (K8 _))⟩;exact ⟨by rw [len_rep,Nat.mul_comm,sizeLine_eq];omega,_,r.rep k.toNat,xF.new _ _⟩
def eM:PyData->PyData->Option PyData
 | .int i,.int j=>if (-(2 ^ 64)<i/\i<2 ^ 64)\/(-(2 ^ 64)<j/\j<2 ^ 64) then some (.int (i*j)) else none
 | .list x,.int k=>if 0<=k/\k<1000000/\x.length*k.toNat<=1000000 then some (.list (List.replicate k.toNat x).flatten) else none
 | .tuple x,.int k=>if x≠[]/\2<=k/\k<1000000/\x.length*k.toNat<=1000000 then some (.tuple (List.replicate k.toNat x).flatten) else none
 | _,_=>none
theorem EL {K:PySem.W.Frag}:OpD K eM (fun x y H Q=>rI FG (fun i j=>.int (i*j)) x y H Q\/Jx x y H Q\/GP K x y H Q):=fun d1 d2 d x y H A Q e hA h1 h2 k=>by
 unfold eM at e;split at e
 ·split at e
  ·rename_i z;cases e;exact .inl ⟨_,_,h1.ofInt,h2.ofInt,z,k _ H (aA.refl _) ck⟩
  ·cases e
 ·split at e
  ·rename_i z;cases e;obtain ⟨p,xs,rfl,hp,hx⟩:=h1.ofLst;exact .inr (.inl ⟨p,_,xs,rfl,h2.ofInt,aI _ _ hp,by omega,by omega,by rw [hx.length,sizeLine_eq];omega,fun r hr=>k _ _ (cm hr) (nJ hA hr (hx.rep _))⟩)
  ·cases e
 ·split at e
  ·rename_i z;cases e;obtain ⟨p,xs,rfl,hp,hx⟩:=h1.ofTup;refine .inr (.inr ⟨p,_,xs,rfl,h2.ofInt,SqT.of (aI _ _ hp),fun q=>z.1 ?_,z.2.1,z.2.2.1,by rw [hx.length];exact z.2.2.2,fun r hr=>k _ _ (cm hr) (qj hA hr (hx.rep _))⟩);exact M4.mp (by rw [<-hx.length,q];rfl)
  ·cases e
 ·cases e
theorem km (ha:PD X E a ga) (hb:PD X E b gb):PD X E (.BinOp a .Mult b pos) (g2 eM ga gb):=g0 EL ha hb (fB (pG.or (HS.or FI)))
end
section
variable {prog:Program} {w:World} {A:Around} {E:Value->Shared->Prop} {s:Shared}
end
end L2
namespace L2
open PySem PySem.Spec PyProof.Rows
section
variable {X:Cx} {E:XK} {a b c e:Expr} {ga gb gc:Ds->Rs PyData} {pos:Pos} {es:List Expr} {gs:Ds->Rs (List PyData)}
def cutD (xs:List PyData) (lo hi:Option Int):List PyData:=(xs.drop (HT.sIx xs.length 0 lo)).take (HT.sIx xs.length xs.length hi-HT.sIx xs.length 0 lo)
def ES:PyData->Option Int->Option Int->Option PyData
 | .list x,lo,hi=>some (.list (cutD x lo hi))
 | .tuple x,lo,hi=>some (.tuple (cutD x lo hi))
 | _,_,_=>none
def DG:PyData->Rs (Option Int)
 | .int i=>.ok (some i)
 | _=>.no
def Fq:Ds->Rs (Option Int):=fun _=>.ok none
def JR (g:Ds->Rs PyData):Ds->Rs (Option Int):=fun δ=>(g δ).bind DG
def G3 (g:Ds->Rs PyData) (lo hi:Ds->Rs (Option Int)):Ds->Rs PyData:=fun δ=>(g δ).bind fun d=>(lo δ).bind fun l=>(hi δ).bind fun h=>Rs.eP (ES d l h)
def toV:PyData->V
 | .none=>.non
 | .bool b=>.bl b
 | .int i=>.int i
 | .str x=>.str x
 | _=>.non
def inD (x:PyData) (xs:List PyData):Bool:=inV (toV x) (xs.map toV)
def Ee (neg:Bool):PyData->PyData->Option PyData
 | x,.list xs=>if hV x&&xs.all hV then some (.bool (if neg then !inD x xs else inD x xs)) else none
 | x,.tuple xs=>if hV x&&xs.all hV then some (.bool (if neg then !inD x xs else inD x xs)) else none
 | _,_=>none
theorem Is.flat {K:PySem.W.Frag} {H:Hp} {d:PyData} {v:V} (h:Is K H d v) (f:hV d=true):v=toV d/\kg v=true:=by
 cases d with
 | none=>rw [h.ofNone];exact ⟨rfl,rfl⟩
 | bool b=>rw [h.ofBool];exact ⟨rfl,rfl⟩
 | int i=>rw [h.ofInt];exact ⟨rfl,rfl⟩
 | str x=>rw [h.ofStr];exact ⟨rfl,rfl⟩
 | _=>cases f
theorem Iss.flat {K:PySem.W.Frag} {H:Hp}:∀ {ds:List PyData} {vs:List V},Iss K H ds vs->ds.all hV=true->vs=ds.map toV/\vs.all kg=true
 | [],_,h,_=>by rw [h.nil_of];exact ⟨rfl,rfl⟩
 | d::ds,_,h,f=>by rw [LY,K9] at f;obtain ⟨v,r,rfl,h1,h2⟩:=h.cons_of;obtain ⟨e1,f1⟩:=h1.flat f.1;obtain ⟨e2,f2⟩:=Iss.flat h2 f.2;exact ⟨by rw [e1,e2];rfl,by rw [LY,f1,f2];rfl⟩
theorem GW {K:PySem.W.Frag} {neg:Bool}:OpD K (Ee neg) (rIn K neg):=fun d1 d2 d x y H A Q e hA h1 h2 k=>by
 unfold Ee at e;split at e
 ·split at e
  ·rename_i z;rw [K9] at z;cases e;obtain ⟨p,xs,rfl,hp,hx⟩:=h2.ofLst;obtain ⟨e1,f1⟩:=h1.flat z.1;obtain ⟨e2,f2⟩:=hx.flat z.2;refine ⟨p,xs,rfl,.inl (SqL.of (aI _ _ hp)),f1,f2,?_⟩;rw [e1,e2];exact k _ H (aA.refl _) is_bool
  ·cases e
 ·split at e
  ·rename_i z;rw [K9] at z;cases e;obtain ⟨p,xs,rfl,hp,hx⟩:=h2.ofTup;obtain ⟨e1,f1⟩:=h1.flat z.1;obtain ⟨e2,f2⟩:=hx.flat z.2;refine ⟨p,xs,rfl,.inr (SqT.of (aI _ _ hp)),f1,f2,?_⟩;rw [e1,e2];exact k _ H (aA.refl _) is_bool
  ·cases e
 ·cases e
theorem J6 (ha:PD X E a ga) (hb:PD X E b gb) (hm:behindInMarks .In b=false:=by with_unfolding_all rfl):PD X E (.Compare a [.In] [b] pos) (g2 (Ee false) ga gb):=g0 GW ha hb fun h1 h2=>mV Br h1 h2 hm
def oW (f f':PyData->PyData->Option PyData) (a b c:Ds->Rs PyData):Ds->Rs PyData:=fun δ=>(a δ).bind fun x=>(b δ).bind fun y=>(Rs.eP (f x y)).bind fun z=>(truth z).bind fun t=>if t=true then (c δ).bind fun w=>Rs.eP (f' y w) else .ok (.bool false)
theorem Cu {op op':CmpOp} {r r':R2} {f f':PyData->PyData->Option PyData} (ho:OpR X (compareOp op) r) (ho':OpR X (compareOp op') r') (hf:OpD X.K f r) (hf':OpD X.K f' r') (ha:PD X E a ga) (hb:PD X E b gb) (hc:PD X E c gc)
  (hm:lastMarks [op,op'] [b,c]=false:=by with_unfolding_all rfl):PD X E (.Compare a [op,op'] [b,c] pos) (oW f f' ga gb gc):=(CL ho ho' ha hb hc hm).imp fun σ H Q pz3=>by
 obtain ⟨A,δ,R,o⟩:=pz3;unfold oW at o;refine eD.run R (fun d1 e1 v H1 s1 R1 h1=>?_) (fun C et H' s'=>by rw [et] at o;exact o H' s') (fun et=>by rw [et] at o;exact o);simp only [e1,Rs.aj] at o;refine eD.run R1 (fun d2 e2 u H2 s2 R2 h2=>?_) (fun C et H' s'=>by rw [et] at o;exact o H' (s1.trans s')) (fun et=>by rw [et] at o;exact o);simp only [e2,Rs.aj] at o;cases e3:f d1 d2 with
 | none=>rw [e3] at o;exact o.elim
 | some z =>
  simp only [e3,Rs.ar,Rs.aj] at o;refine hf d1 d2 z v u H2 A _ e3 R2.ls (h1.same s2.del) h2 fun w H3 s3 h3=>?_
  obtain ⟨t,rfl,o⟩:=sg o;refine ⟨t,h3.ofBool,?_⟩;cases t with
  | false=>exact o _ H3 (s1.trans (s2.trans s3)) is_bool
  | true =>
   have o:iK X.K E A H ((gc δ).bind fun w=>Rs.eP (f' d2 w)) Q:=o;refine eD.run (R2.same s3) (fun d3 e4 w' H4 s4 R4 h4=>?_) (fun C et H' s'=>by rw [et] at o;exact o H' (s1.trans (s2.trans (s3.trans s')))) (fun et=>by rw [et] at o;exact o);simp only [e4,Rs.aj] at o;cases e5:f' d2 d3 with
   | none=>rw [e5] at o;exact o.elim
   | some d=>rw [e5] at o;exact hf' d2 d3 d u w' H4 A Q e5 R4.ls (h2.same (s3.trans s4).del) h4 fun x H5 s5 h5=>o x H5 (s1.trans (s2.trans (s3.trans (s4.trans s5)))) h5
theorem Af (ha:PD X E a ga) (hb:PD X E b gb) (hc:PD X E c gc) (hm:lastMarks [.LtE,.LtE] [b,c]=false:=by with_unfolding_all rfl):PD X E (.Compare a [.LtE,.LtE] [b,c] pos) (oW dLe dLe ga gb gc):=Cu Az Az (jI fun _ _ _ _=>is_bool) (jI fun _ _ _ _=>is_bool) ha hb hc hm
end
def Itc (lo c:Int) (n:Nat):It:=⟨fun i _=>i<n,fun i H x H'=>H'=H/\x=.int (lo+i*c),fun i _=>n<=i⟩
theorem xt {P:Program} {w:World} {K:PySem.W.Frag} {tg:Expr} (it:Addr) (lo c:Int) (n:Nat):Turn P w K tg (Itc lo c n) [it] it (fun i h=>IsRangeIter h it (lo+(i:Nat)*c) ((n:Int)-(i:Nat)) c) where
 mem:=by simp
 obj:=fun i h st b hb=>by
  have e:b=it:=by simpa using hb
  subst e;exact ⟨_,st,fun v z=>by have z':Data.fields _=Data.cell v:=z;cases z'⟩
 keep:=fun i h h' st k=>k it (by simp) _ st
 item:=by
  intro X hP hw hK hc i pins s σ H E I hf st hg;subst hP hw hK;obtain ⟨f0,f1,f2,f3,f4,f5⟩:=hf it (by simp);have W:=Walks.range (prog:=X.prog) (w:=X.w) (I.ok.hd hc) it lo c n;refine W.item i s _ _ hg st fun v h' tk hv st' kk=>?_
  obtain ⟨t,rfl⟩:=hv;have I1:Inv X pins σ H { s with heap:=h',toks:=tk }:=I.turned (fun b o hb e=>kk b o (by simpa using hb) e) f0 f1 f3 f4 f5;exact ⟨_,rfl,An (s:={ s with heap:=h',toks:=tk }) (n:="range_iterator") st' rfl rfl (by decide) ⟨.int (lo+i*c),H,I1,⟨t,rfl⟩,⟨rfl,rfl⟩,st',fun b hb=>(hf b hb).1⟩⟩
 done:=by intro X hP hw hK hc i pins s σ H E I hf st hg;subst hP hw hK;obtain ⟨f0,f1,f2,f3,f4,f5⟩:=hf it (by simp);exact wpAny_pyNext_range_end (I.ok.hd hc) st (by have:n<=i:=hg;omega) fun h' eb=>⟨rfl,I.turned (t':=s.toks) (fun b o hb e=>eb b o hb e) f0 f1 f3 f4 f5⟩
 self:=fun _ _ _ _ _ st h=>wpAny_pyIter_rangeiter st h
section
variable {X:Cx} {E:XK} {tg a b c:Expr} {pos:Pos} {gs:Ds->Rs (List PyData)}
def zM (i j c:Int):Nat:=(Builtin.Range.rangeSize i j c).toNat
theorem wq (a b c:Int):0<=Builtin.Range.rangeSize a b c:=by
 unfold Builtin.Range.rangeSize;split
 ·split
  ·rename_i h1 h2;have:0<=(b-a-1) / c:=LW (by omega) (by omega);omega
  ·omega
 ·split
  ·rename_i h1 h2;by_cases hc:c=0
   ·subst hc;simp
   ·have:0<=(a-b-1) / (-c):=LW (by omega) (by omega);omega
  ·omega
def sr (i j c:Int):Bool:=decide (-(1000000)<=i/\i<=1000000/\-(1000000)<=j/\j<=1000000/\-(1000000)<=c/\c<=1000000/\c≠0)&&Builtin.Range.small i j c
def Ji (ta:TA):TI:=fun σ H R=>ta σ H fun vs H1=>∃ i j c:Int,vs=[.int i,.int j,.int c]/\sr i j c=true/\R (Itc i c (zM i j c)) H1
theorem Bc {ta:TA} {p:Pos} (hg:Gl X "range") (hm:X.mg "range"=none) (ha:PA X [a,b,c] ta) (hs:starEach [a,b,c] X.env=[(false,eval a X.env),(false,eval b X.env),(false,eval c X.env)]:=by rfl) (hs2:starEach [b,c] X.env=[(false,eval b X.env),(false,eval c X.env)]:=by rfl) :
  PI X tg (.Call (.Name "range" p) [a,b,c] [] pos) (Ji ta):=by
 intro pins s σ H R I h;refine Call_ (fX I hg hm boot_range (PyProof.Rows.callWith_type1 (thn (ha pos pins s σ H _ I h) fun us s1 rz2=>?_) (by rw [hs,hs2]) (by rw [hs2];rfl)));obtain ⟨vs,H1,I1,r1,q1⟩:=rz2;obtain ⟨i,j,c,e,q1,q⟩:=q1;subst e;unfold sr at q1;rw [K9] at q1;have q2:=of_decide_eq_true q1.1;cases r1 with
 | cons r rr =>
  cases rr with
  | cons r' rr =>
   cases rr with
   | cons r'' rr =>
    cases rr;obtain ⟨t,rfl⟩:=r;obtain ⟨t',rfl⟩:=r';obtain ⟨t'',rfl⟩:=r'';refine PySem.call_range_3 q2.2.2.2.2.2.2 ?_ (.inl (PyProof.noPylong_small (by omega)));refine wpAny_pyIter_range (IsRange.new ..) q1.2 ?_;have I2:Inv X pins σ H1 { s1 with heap:=s1.heap.push { cls:=.type "range",data:=.fields #[.int i t,.int j t',.int c t''] },toks:=s1.toks }:=I1.kept fun b o e=>K2 _ e
    refine ⟨(s1.heap.push { cls:=.type "range",data:=.fields #[.int i t,.int j t',.int c t''] }).objs.size,[(s1.heap.push { cls:=.type "range",data:=.fields #[.int i t,.int j t',.int c t''] }).objs.size],_,_,H1,rfl,
     I2.kept (t':=s1.toks) fun b o e=>K2 _ e,xt _ i c (zM i j c),?_,fun b hb=>?_,q⟩
    ·have e1:i+((0:Nat):Int)*c=i:=by simp
     have e2:((zM i j c:Nat):Int)-((0:Nat):Int)=Builtin.Range.rangeSize i j c:=by have:=wq i j c;unfold zM;omega
     show IsRangeIter _ _ (i+((0:Nat):Int)*c) (((zM i j c:Nat):Int)-((0:Nat):Int)) c;rw [e1,e2];exact KZ _ rfl
    ·have e:b=(s1.heap.push { cls:=.type "range",data:=.fields #[.int i t,.int j t',.int c t''] }).objs.size:=by simpa using hb
     subst e;exact I2.fpOk (K8 _) (I2.hok.fresh (K8 _))
def jH (lo c:Int) (n:Nat):List PyData:=(List.range n).map fun (i:Nat)=>PyData.int (lo+(i:Int)*c)
theorem jP (lo c:Int) (n:Nat):(jH lo c n).length=n:=by simp [jH]
theorem xp {K:PySem.W.Frag} {G:Hp} {lo c:Int} {n:Nat}:zV K (Itc lo c n) (jH lo c n) G:=fun H1 B s _ hB=>by refine ⟨fun i hi=>by rw [jP] at hi;exact hi,by rw [jP];exact K8 _,fun i x H2 hi y=>?_⟩;obtain ⟨rfl,rfl⟩:=y;rw [jP] at hi;exact ⟨aA.refl _,_,by simp [jH,hi],ck⟩
def Ek:List PyData->Rs (List PyData)
 | [.int i,.int j,.int c]=>if sr i j c then .ok (jH i c (zM i j c)) else .no
 | _=>.no
def Bb (g:Ds->Rs (List PyData)):Ds->Rs (List PyData):=fun δ=>(g δ).bind Ek
theorem Ko {K:PySem.W.Frag} {H:Hp} {d e f:PyData} {vs:List V} (h:Iss K H [d,e,f] vs):∃ v u w,vs=[v,u,w]/\Is K H d v/\Is K H e u/\Is K H f w:=by obtain ⟨v,r,rfl,h1,h2⟩:=h.cons_of;obtain ⟨u,w,rfl,h3,h4⟩:=BB h2;exact ⟨v,u,w,rfl,h1,h3,h4⟩
theorem zG {p:Pos} (hm:X.mg "range"=none) (ha:PAD X E [a,b,c] gs) (hg:Gl X "range":=by rfl) (hs:starEach [a,b,c] X.env=[(false,eval a X.env),(false,eval b X.env),(false,eval c X.env)]:=by rfl) (hs2:starEach [b,c] X.env=[(false,eval b X.env),(false,eval c X.env)]:=by rfl) :
  PID X E tg (.Call (.Name "range" p) [a,b,c] [] pos) (Bb gs):=(Bc hg hm ha.1 hs hs2).imp fun σ H R ⟨A,δ,Rp,o⟩=>rq Rp o fun ds vs H1 e s1 R1 h1 o=>by
 unfold Ek at o;split at o
 ·split at o
  ·rename_i z;obtain ⟨v,u,w,rfl,h,h',h''⟩:=Ko h1;rw [h.ofInt,h'.ofInt,h''.ofInt];exact ⟨_,_,_,rfl,z,o _ H1 (aA.refl _) xp⟩
  ·exact o.elim
 ·exact o.elim
def tLR (ta:TA):TE:=fun σ H Q=>ta σ H fun vs H1=>∃ j:Int,vs=[.int j]/\0<=j/\j<=1000000/\∀ p,H1 p=none->Q (.ref p) (upd H1 p (.lst ((List.range j.toNat).map fun (i:Nat)=>V.int (i:Int))))
theorem Ht {pins:List (Addr×Obj)} {σ:St} {H1:Hp} {s2:Shared} {Q:VK} {j:Int} {h':Heap} {tk:Nat} {acc':Array Value} {c':Nat} (I2:Inv X pins σ H1 s2) (kk:∀ b o,s2.heap.get? b=some o->h'.get? b=some o)
 (hl:h'.get? s2.heap.objs.size=some { cls:=.type "list",dict:=none,data:=.seq acc' c',slots:=#[] }) (hi:ItemsOf (fun i v=>∃ t,v=.int ((0:Int)+(i:Int)*1) t) acc' j.toNat) (q1:0<=j) (q2:j<=1000000)
 (q:∀ p,H1 p=none->Q (.ref p) (upd H1 p (.lst ((List.range j.toNat).map fun (i:Nat)=>V.int (i:Int))))):EP X pins σ Q (.ref s2.heap.objs.size) { s2 with heap:=h',toks:=tk }:=by
 have hv:Vals ((List.range j.toNat).map fun (i:Nat)=>V.int (i:Int)) acc'.toList:=by
  have aux:∀ (l:List Value) (k:Nat),(∀ (m:Nat) v,l[m]?=some v->∃ t,v=.int ((0:Int)+((k+m:Nat):Int)*1) t)->Vals ((List.range' k l.length).map fun (i:Nat)=>V.int (i:Int)) l:=by
   intro l
   induction l with
   | nil=>intro k _;exact .nil
   | cons x r ih =>
    intro k hk;rw [L6,MQ,K1];refine .cons ?_ (ih (k+1) fun m v hm=>?_)
    ·obtain ⟨t,e⟩:=hk 0 x rfl;exact ⟨t,by rw [e];simp⟩
    ·obtain ⟨t,e⟩:=hk (m+1) v (by simpa using hm);exact ⟨t,by rw [e,show k+(m+1)=k+1+m by omega]⟩
  have h1:=aux acc'.toList 0 (fun m v hm=>by obtain ⟨t,e⟩:=hi.2 m v (by rw [<-Mx];exact hm);exact ⟨t,by rw [e];simp⟩)
  rw [MD,hi.1] at h1;rw [List.range_eq_range'];exact h1
 exact ⟨.ref s2.heap.objs.size,_,I2.laid (t':=tk) kk (K8 _) (show dX X.prog X.w _ h' _ (.lst ((List.range j.toNat).map fun (i:Nat)=>V.int (i:Int))) from ⟨by rw [K5,M0,sizeLine_eq];omega,acc'.toList,c',hv,by simpa using hl⟩),rfl,q _ (I2.hok.fresh (K8 _))⟩
theorem wu {ta:TA} {p p2 pos2:Pos} (hc:X.calm=true) (hg:Gl X "range") (hm:X.mg "range"=none) (hgl:Gl X "list") (hml:X.mg "list"=none) (ha:PA X [a] ta) (hs:starEach [a] X.env=[(false,eval a X.env)]:=by rfl)
  (hs2:starEach [.Call (.Name "range" p) [a] [] pos] X.env=[(false,eval (.Call (.Name "range" p) [a] [] pos) X.env)]:=by rfl) :
  PE X (.Call (.Name "list" p2) [.Call (.Name "range" p) [a] [] pos] [] pos2) (tLR ta):=by
 intro pins s σ H Q I h;refine Call_ (fX I hgl hml qm (PyProof.Rows.callWith_type1 ?_ hs2 rfl));rw [hs2];show wpAny _ _ (spliced ((false,eval (.Call (.Name "range" p) [a] [] pos) X.env)::backTo pos2 [])) _ _ s;refine Calls.spliced_cons (Call_ (fX I hg hm boot_range (PyProof.Rows.callWith_type1 (thn (ha pos pins s σ H _ I h) fun us s1 rz2=>?_) hs rfl)));obtain ⟨vs,H1,I1,r1,q1⟩:=rz2;obtain ⟨j,e,q1,q2,q⟩:=q1;subst e;cases r1 with
 | cons r rr =>
  cases rr;obtain ⟨t,rfl⟩:=r;refine call_range_1 (Calls.spliced_nil ?_);have e2:Builtin.Range.rangeSize 0 j 1=((j.toNat:Nat):Int):=by rw [rangeSize_one];split <;> omega
  refine call_list_range (n:=j.toNat) (I1.ok.hd hc) (IsRange.new ..) (small_one (by omega) (by omega) (by omega) (by omega)) e2 (by omega) fun h' tk acc' c' kk hl hi=>?_
  exact Ht (I1.kept fun b o e=>K2 _ e) kk hl hi q1 q2 q
def wc:List PyData->Rs (List PyData)
 | [.int j]=>if 0<=j/\j<=1000000 then .ok (b8 0 j.toNat) else .no
 | _=>.no
def gLR (g:Ds->Rs (List PyData)):Ds->Rs (List PyData):=fun δ=>(g δ).bind wc
theorem BJ {p p2 pos2:Pos} (hc:X.calm=true) (hm:X.mg "range"=none) (hml:X.mg "list"=none) (ha:PAD X E [a] gs) (hg:Gl X "range":=by rfl) (hgl:Gl X "list":=by rfl) (hs:starEach [a] X.env=[(false,eval a X.env)]:=by rfl)
  (hs2:starEach [.Call (.Name "range" p) [a] [] pos] X.env=[(false,eval (.Call (.Name "range" p) [a] [] pos) X.env)]:=by rfl):PLD X E (.Call (.Name "list" p2) [.Call (.Name "range" p) [a] [] pos] [] pos2) (gLR gs) :=
 (wu hc hg hm hgl hml ha.1 hs hs2).imp fun σ H Q pz3=>by
  obtain ⟨A,δ,R,o⟩:=pz3;unfold gLR at o;refine aD.run R (fun ds e vs H1 s1 R1 h1=>?_) (fun C e H' s'=>by rw [e] at o;exact o H' s') (fun e=>by rw [e] at o;exact o);simp only [e,Rs.aj] at o;unfold wc at o;split at o
  ·split at o
   ·rename_i j z;obtain ⟨v,rfl,h⟩:=lK h1;rw [h.ofInt];refine ⟨j,rfl,z.1,z.2,fun q hq=>o q _ _ (s1.free hq) (s1.trans (cm hq)) aV ?_⟩;have:b8 0 j.toNat=((List.range j.toNat).map fun (i:Nat)=>(i:Int)).map PyData.int:=by unfold b8;rw [L3];congr 1;funext i;simp
    rw [this,show ((List.range j.toNat).map fun (i:Nat)=>V.int (i:Int))=((List.range j.toNat).map fun (i:Nat)=>(i:Int)).map V.int by rw [L3];rfl];exact xu _
   ·exact o.elim
  ·exact o.elim
end
theorem xI (t:Addr) (xs:Array Value):Meets (Builtin.«enumerate.__new__» ⟨[.type "enumerate",.ref t],[]⟩) (fun _ R s=>s.heap.IsTuple t xs /\
   R (.ok (.ret (.ref (s.heap.push { cls:=.type "tuple_iterator",data:=.fields #[.ref t,.int 0 0] }).objs.size)))
    { s with heap:=(s.heap.push { cls:=.type "tuple_iterator",data:=.fields #[.ref t,.int 0 0] }).push { cls:=.type "enumerate",data:=.fields #[.none,.bool false,.ref s.heap.objs.size,rawInt 0,.none,.none] } }) :=
 .of_wp fun prog w A R s h=>by
  obtain ⟨hp,g,d,tk,os⟩:=s;obtain ⟨hl,h⟩:=h;have hsub:=sub_enumerate;have hL:Heap.IsTuple (Shared.heap ⟨hp,g,d,tk,os⟩) t xs:=hl
  wp_walk
  refine wpAny_stack_any fun st=>wpAny_pure ?_
  split
  ·rename_i c _ _ _ _ _;cases (c==Value.type "enumerate")
   ·wp_walk using wpAny_pyIter_tuple hL
    exact ⟨_,rfl,h⟩
   ·wp_walk using wpAny_pyIter_tuple hL
    exact ⟨_,rfl,h⟩
  ·wp_walk using wpAny_pyIter_tuple hL
   exact ⟨_,rfl,h⟩
theorem yM {prog:Program} {w:World} {A:Around} {E:Value->Shared->Prop} {s:Shared} {l:Addr} {items:Array Value} {Q:Value->Shared->Prop} (hL:s.heap.IsTuple l items)
  (h:∀ h',IsEnum h' (s.heap.objs.size+1) s.heap.objs.size 0 .none->h'.IsTupleIter s.heap.objs.size l 0->(∀ b o,s.heap.get? b=some o->h'.get? b=some o)->Q (.ref (s.heap.objs.size+1)) { s with heap:=h' }) :
  wpAny (model prog w) A (call (.type "enumerate") [.ref l]) Q E s:=by
 refine callType_new PySem.F.called_enumerate (by decide) (PySem.F.typeCall_enumerate_1 _) (PySem.F.newCall_enumerate_1 _) (fun obj=>PySem.F.args_object_init_2 obj _) PySem.F.entry_enumerate_new (xI l items) ⟨hL,?_⟩;have hz:(s.heap.push { cls:=.type "tuple_iterator",data:=.fields #[.ref l,.int 0 0] }).objs.size=s.heap.objs.size+1:=Heap.size_push ..;show _/\_;rw [hz];have he:IsEnum ((s.heap.push { cls:=.type "tuple_iterator",data:=.fields #[.ref l,.int 0 0] }).push
   { cls:=.type "enumerate",data:=.fields #[.none,.bool false,.ref s.heap.objs.size,rawInt 0,.none,.none] }) (s.heap.objs.size+1) s.heap.objs.size 0 .none:=by
  have:=KZ (s.heap.push { cls:=.type "tuple_iterator",data:=.fields #[.ref l,.int 0 0] })
   (o:={ cls:=.type "enumerate",data:=.fields #[.none,.bool false,.ref s.heap.objs.size,rawInt 0,.none,.none] }) rfl
  rw [hz] at this;exact this
 refine ⟨⟨_,he,rfl⟩,h _ he ⟨_,K2 _ (KZ _ rfl),rfl,rfl⟩ fun b o e=>K2 _ (K2 _ e)⟩
def Ite (P:Hp->List V->Prop) (n:Nat):It :=
 ⟨fun i H=>i<n/\∃ xs,P H xs/\xs.length=n,
  fun i H v H'=>∃ t x,v=.ref t/\H t=none/\H'=upd H t (.tup [.int i,x])/\∀ xs,P H xs->xs[i]?=some x,
  fun i H=>i=n/\∃ xs,P H xs/\xs.length=n⟩
theorem u7 {P:Program} {w:World} {K:PySem.W.Frag} {elts:List Expr} {x1:Nat} {tp:Pos} {a e it:Addr} {n:Nat} {Pv:Hp->List V->Prop} {S:Nat->Heap->Prop} {B:Heap->Array Value->Prop} (hne:e≠it) (hea:e≠a)
  (hD:∀ (A:Around),A.handled=none->∀ its:Array Value,Draws P w A it [it,a] its.size (fun i v=>its[i]?=some v) (fun i h=>S i h/\B h its))
  (hB:∀ (X:Cx),X.prog=P->X.w=w->X.K=K->∀ {pins:List (Addr×Obj)} {s:Shared} {σ:St} {H:Hp} {xs:List V},Inv X pins σ H s->Pv H xs->∃ its:List Value,Vals xs its/\B s.heap its.toArray)
  (hI:∀ (X:Cx),X.prog=P->X.w=w->X.K=K->∀ {pins:List (Addr×Obj)} {s:Shared} {σ:St} {H:Hp} {xs ys:List V},Inv X pins σ H s->Pv H xs->Pv H ys->xs=ys)
  (hO:∀ i h,S i h->∃ o,h.get? it=some o/\∀ v,o.data≠.cell v) (hK:∀ i h h',S i h->(∀ o,h.get? it=some o->h'.get? it=some o)->S i h') :
  Turn P w K (.Tuple elts x1 tp) (Ite Pv n) [e,it] e (fun i h=>(∃ old,IsEnum h e it i old)/\S i h) where
 mem:=by simp
 obj:=fun i h st c hc=>by
  obtain ⟨⟨old,h1⟩,h2⟩:=st;simp only [K6,L7,or_false] at hc;rcases hc with rfl | rfl
  ·exact ⟨_,h1,fun v q=>by cases q⟩
  ·exact hO i h h2
 keep:=fun i h h' st k=>by obtain ⟨⟨old,h1⟩,h2⟩:=st;exact ⟨⟨old,k e (by simp) _ h1⟩,hK i h h' h2 fun o q=>k it (by simp) o q⟩
 item:=by
  intro X hP hw hKK hc i pins s σ H E I hf st hg;subst hP hw hKK;obtain ⟨hi,xs,hx,lx⟩:=hg;obtain ⟨⟨old,h1⟩,h2⟩:=st;obtain ⟨its,rv,hb⟩:=hB X rfl rfl rfl I hx;have la:=rv.length;refine wpAny_pyNext_enum_itemD (hD X.A.in1 (I.ok.hd hc) its.toArray) h1 ⟨h2,hb⟩ (by simp;omega) hne (by simp [hne,hea]) fun x h' tk px ho hs hT hsz hk=>⟨_,rfl,?_⟩
  refine wpAny_letOwnedTupleGo_enum (s:={ s with heap:=h',toks:=tk+1 }) ho fun h2' d1 d2=>?_
  have el:e<s.heap.objs.size:=KR h1;have il:it<s.heap.objs.size:=by obtain ⟨o,q,_⟩:=hO i _ h2;exact KR q
  have up:∀ c o,c≠e->h'.get? c=some o->h2'.get? c=some o:=fun c o hc q=>(d2.2 c hc).trans q
  obtain ⟨x0,ex,rx⟩:∃ x0,xs[i]?=some x0/\RelV x0 x:=by
   have hil:i<xs.length:=by omega
   obtain ⟨u',e1,e2⟩:=rv.get (K3 hil);refine ⟨xs[i],K3 hil,?_⟩;have px':its[i]?=some x:=by simpa using px
   rw [e1] at px';cases px';exact e2
  have fr:H s.heap.objs.size=none:=I.hok.fresh (K8 _);refine ⟨.ref s.heap.objs.size,upd H s.heap.objs.size (.tup [.int i,x0]),?_,rfl,⟨_,x0,rfl,fr,rfl,fun ys h=>by rw [hI X rfl rfl rfl I h hx];exact ex⟩,?_,fun c hc'=>?_⟩
  ·refine I.turnLay (t':=tk+1) (ch:=[e,it]) hf (K8 _) (fun c o hn q=>?_) ⟨by show 2<=sizeLine;decide,[.int i tk,x],.cons ⟨tk,rfl⟩ (.cons rx .nil),⟨_,up _ _ (LA el) hT,rfl,rfl,_,rfl⟩⟩;simp only [K6,L7,or_false,not_or] at hn;exact up c o hn.1 (hk c o hn.1 hn.2 q)
  ·exact ⟨⟨x,by simpa using d1⟩,hK _ _ _ hs.1 fun o q=>up it o hne.symm q⟩
  ·have h0:=(hf c hc').1;simp only [K6,L7,or_false] at hc';rcases hc' with rfl | rfl
   ·rw [aL (KY el)];exact h0
   ·rw [aL (KY il)];exact h0
 done:=by
  intro X hP hw hKK hc i pins s σ H E I hf st hg;subst hP hw hKK;obtain ⟨hi,xs,hx,lx⟩:=hg;obtain ⟨⟨old,h1⟩,h2⟩:=st;obtain ⟨its,rv,hb⟩:=hB X rfl rfl rfl I hx;have la:=rv.length;have e':its.toArray.size=i:=by simp;omega
  refine wpAny_pyNext_enum_endD (hD X.A.in1 (I.ok.hd hc) its.toArray) h1 ⟨by rw [e'];exact h2,hb⟩ fun h' k=>⟨rfl,?_⟩
  refine I.turneds (t':=s.toks) (ch:=[e,it]) hf fun c o hn q=>?_
  simp only [K6,L7,or_false,not_or] at hn;exact k c o hn.2 q
 self:=fun _ _ _ _ _ st h=>by obtain ⟨⟨old,h1⟩,_⟩:=st;exact wpAny_pyIter_enum h1 h
theorem Fm:bootBuiltins "enumerate"=some (.type "enumerate"):=by decide +kernel
def Je (K:PySem.W.Frag) (ta:TA):TI:=fun σ H R=>ta σ H fun vs H1=>∃ a xs,vs=[.ref a]/\((SqT K H1 a xs/\R (Ite (fun H ys=>SqT K H a ys) xs.length) H1)\/(SqL K H1 a xs/\R (Ite (fun H ys=>SqL K H a ys) xs.length) H1))
theorem E2 {X:Cx} {elts:List Expr} {x1:Nat} {tp:Pos} {a:Expr} {ta:TA} {p pos:Pos} (hg:Gl X "enumerate") (hm:X.mg "enumerate"=none) (ha:PA X [a] ta) (hs:starEach [a] X.env=[(false,eval a X.env)]:=by rfl) :
  PI X (.Tuple elts x1 tp) (.Call (.Name "enumerate" p) [a] [] pos) (Je X.K ta):=by
 intro pins s σ H R I h;refine Call_ (fX I hg hm Fm (PyProof.Rows.callWith_type1 (thn (ha pos pins s σ H _ I h) fun us s1 rz2=>?_) hs rfl));obtain ⟨vs,H1,I1,r1,q1⟩:=rz2;obtain ⟨aa,xs,e,q⟩:=q1;subst e;obtain ⟨u1,e1,r2⟩:=vals1 r1;subst e1;cases r2;have big:∀ c∈[s1.heap.objs.size+1,s1.heap.objs.size],s1.heap.objs.size<=c:=fun c hc=>by
  simp only [K6,L7,or_false] at hc;rcases hc with rfl | rfl
  ·exact Ml _
  ·exact K8 _
 have nes:s1.heap.objs.size+1≠s1.heap.objs.size:=Nat.succ_ne_self _;rcases q with ⟨hx,q⟩ | ⟨hx,q⟩
 ·obtain ⟨its,rv,pt,_⟩:=I1.tuple hx;have pt':s1.heap.IsTuple aa its.toArray:=pt;have al:aa<s1.heap.objs.size:=by obtain ⟨_,g,_⟩:=pt';exact KR g
  refine yM pt' fun h' he hit kk=>wpAny_pyIter_enum he ?_
  have I2:Inv X pins σ H1 { s1 with heap:=h' }:=I1.kept (t':=s1.toks) kk;refine ⟨_,_,_,_,H1,rfl,I2,u7 (a:=aa) (S:=fun i h=>h.IsTupleIter s1.heap.objs.size aa i) (B:=fun h its=>h.IsTuple aa its) nes (LA (LF al)) (fun A hh its=>nZ hh s1.heap.objs.size aa (KY al) its)
   (fun X' _ _ hK {_ _ _ _ _} I h=>?_) (fun X' _ _ hK {_ _ _ _ _ _} I h1 h2=>?_) (fun i h st=>?_) (fun i h h'' st k=>?_),⟨⟨_,he⟩,hit⟩,fun c hc=>I1.fpOk (big c hc) (I1.hok.fresh (big c hc)),q⟩
  ·rw [<-hK] at h;obtain ⟨its,rv,p,_⟩:=I.tuple h;exact ⟨its,rv,p⟩
  ·rw [<-hK] at h1 h2;exact I.tuple_inj h1 h2
  ·obtain ⟨o,g,_,d⟩:=st;exact ⟨o,g,fun v q=>by rw [d] at q;cases q⟩
  ·obtain ⟨o,g,r⟩:=st;exact ⟨o,k o g,r⟩
 ·obtain ⟨its,rv,pl,_⟩:=I1.list hx;have al:aa<s1.heap.objs.size:=by obtain ⟨_,_,g,_⟩:=pl;exact KR g
  refine call_enumerate_list pl.isList fun h' he hit hz kk=>wpAny_pyIter_enum he ?_
  have I2:Inv X pins σ H1 { s1 with heap:=h' }:=I1.kept (t':=s1.toks) kk;refine ⟨_,_,_,_,H1,rfl,I2,u7 (a:=aa) (S:=fun i h=>h.IsListIter s1.heap.objs.size aa i) (B:=fun h its=>h.IsList aa its) nes (LA (LF al)) (fun A hh its=>Draws.list hh s1.heap.objs.size aa (KY al) its)
   (fun X' _ _ hK {_ _ _ _ _} I h=>?_) (fun X' _ _ hK {_ _ _ _ _ _} I h1 h2=>?_) (fun i h st=>?_) (fun i h h'' st k=>?_),⟨⟨_,he⟩,hit⟩,fun c hc=>I1.fpOk (big c hc) (I1.hok.fresh (big c hc)),q⟩
  ·rw [<-hK] at h;obtain ⟨its,rv,p,_⟩:=I.list h;exact ⟨its,rv,p.isList⟩
  ·rw [<-hK] at h1 h2;exact I.list_inj h1 h2
  ·obtain ⟨o,g,_,d⟩:=st;exact ⟨o,g,fun v q=>by rw [d] at q;cases q⟩
  ·obtain ⟨o,g,r⟩:=st;exact ⟨o,k o g,r⟩
def kQ (ds:List PyData):List PyData:=ds.mapIdx fun i d=>.tuple [.int i,d]
theorem lC (ds:List PyData):(kQ ds).length=ds.length:=by simp [kQ]
theorem uH {K:PySem.W.Frag} {G:Hp} {Pv:Hp->List V->Prop} {xs:List V} {ds:List PyData} (h:Iss K G ds xs) (hp:∀ H1,aA G H1->Pv H1 xs):zV K (Ite Pv xs.length) (kQ ds) G:=fun H1 B s lB hB=>by have hl:=h.length;rw [lC];refine ⟨fun i hi=>⟨by omega,xs,hp H1 s,rfl⟩,⟨hl.symm,xs,hp H1 s,rfl⟩,fun i x H2 hi y=>?_⟩;obtain ⟨t,x0,rfl,ht,rfl,hx⟩:=y;obtain ⟨d,e,hd⟩:=h.get (hx xs (hp H1 s));refine ⟨cm ht,.tuple [.int i,d],by unfold kQ;rw [M1,e];rfl,?_⟩;have nb:t∉B:=lB.new ht;exact jL (by rw [ba nb];exact aV) (dk ck (j8 (hd.same (fun b o q=>by have q1:=s b o q;have nt:b≠t:=aX q1 ht;rw [ba (fun z=>by rw [hB b z] at q;cases q),aL nt];exact q1))))
section
variable {X:Cx} {E:XK} {a b c e k:Expr} {ga gb gk:Ds->Rs PyData} {pos:Pos} {es:List Expr} {gs:Ds->Rs (List PyData)} {O:List Nat}
def qV:List PyData->Rs (List PyData)
 | [.list ds]=>.ok (kQ ds)
 | [.tuple ds]=>.ok (kQ ds)
 | _=>.no
def ue (g:Ds->Rs (List PyData)):Ds->Rs (List PyData):=fun δ=>(g δ).bind qV
theorem xq {elts:List Expr} {x1:Nat} {tp p:Pos} (hm:X.mg "enumerate"=none) (ha:PAD X E [a] gs) (hg:Gl X "enumerate":=by rfl) (hs:starEach [a] X.env=[(false,eval a X.env)]:=by rfl) :
  PID X E (.Tuple elts x1 tp) (.Call (.Name "enumerate" p) [a] [] pos) (ue gs):=(E2 hg hm ha.1 hs).imp fun σ H R ⟨A,δ,Rp,o⟩=>rq Rp o fun ds vs H1 e s1 R1 h1 o=>by
 unfold qV at o;split at o
 ·obtain ⟨v,rfl,h⟩:=lK h1;obtain ⟨p,xs,rfl,hp,hx⟩:=h.ofLst;exact ⟨p,xs,rfl,.inr ⟨SqL.of (aI _ _ hp),o _ H1 (aA.refl _) (uH hx fun H2 s2=>SqL.of (s2 _ _ hp))⟩⟩
 ·obtain ⟨v,rfl,h⟩:=lK h1;obtain ⟨p,xs,rfl,hp,hx⟩:=h.ofTup;exact ⟨p,xs,rfl,.inl ⟨SqT.of (aI _ _ hp),o _ H1 (aA.refl _) (uH hx fun H2 s2=>SqT.of (s2 _ _ hp))⟩⟩
 ·exact o.elim
def jM (y x:Nat) (gk:Ds->Rs PyData):Ds->Sr:=fun δ=>match δ[y]?,δ[x]? with
 | some (some (.list ys)),some (some (.list xs))=>ofR (gk δ) fun k=>match k with
  | .int k=>if -(1000000)<=k/\k<=1000000/\ys.length<1000000 then (match ixN xs.length k with
   | some j=>match xs[j]? with
    | some d=>.nx ((δ.set x (some (.list (xs.eraseIdx j)))).set y (some (.list (ys++[d]))))
    | none=>.no
   | none=>.no) else .no
  | _=>.no
 | _,_=>.no
theorem yJ {y x:Nat} {ny nx:Str} {py pa pc px pb pd:Pos} (hk:PD X E k gk) (hyx:x≠y:=by decide) (hOy:y∈O:=by decide) (hOx:x∈O:=by decide) (hiy:X.N[y]?=some ny:=by rfl) (hix:X.N[x]?=some nx:=by rfl)
  (hvy:Vis X.env.scope ny:=by first | exact Or.inl rfl | exact Or.inr (Or.inl rfl) | exact Or.inr (Or.inr rfl)) (hvx:Vis X.env.scope nx:=by first | exact Or.inl rfl | exact Or.inr (Or.inl rfl) | exact Or.inr (Or.inr rfl))
  (hdy:(ny==("__debug__":Str))=false:=by decide) (hcdy:(ny==("__classdict__":Str))=false:=by decide) (hdx:(nx==("__debug__":Str))=false:=by decide) (hcdx:(nx==("__classdict__":Str))=false:=by decide)
  (hst:starEach [k] X.env=(false,eval k X.env)::starEach [] X.env:=by rfl) (hst2:starEach [.Call (.Attribute (.Name nx px) "pop" pb) [k] [] pd] X.env=(false,eval (.Call (.Attribute (.Name nx px) "pop" pb) [k] [] pd) X.env)::starEach [] X.env:=by rfl)
  (hbase:attributeBase (.Name nx px) "pop" X.env (eval (.Name nx px) X.env)=eval (.Name nx px) X.env:=by rfl) (hbase2:attributeBase (.Name ny py) "append" X.env (eval (.Name ny py) X.env)=eval (.Name ny py) X.env:=by rfl)
  (hfew:((backTo pd (starEach [k] X.env)).all (fun x=>!x.1)&&(backToKw pd (keywordEach [] X.env)).all (fun x=>x.1.isSome)&&decide (([k]:List Expr).length+([]:List Keyword).length+(if ([]:List Keyword).isEmpty then 0 else 1)<30))=true:=by rfl)
  (hfew2:((backTo pc (starEach [.Call (.Attribute (.Name nx px) "pop" pb) [k] [] pd] X.env)).all (fun x=>!x.1)&&(backToKw pc (keywordEach [] X.env)).all (fun x=>x.1.isSome)&&decide (([.Call (.Attribute (.Name nx px) "pop" pb) [k] [] pd]:List Expr).length+([]:List Keyword).length+(if ([]:List Keyword).isEmpty then 0 else 1)<30))=true:=by rfl)
  (hline:(pb.endLine==pd.line)=true:=by rfl) (hline2:(pa.endLine==pc.line)=true:=by rfl)
  (hs:swapsWith (.Call (.Attribute (.Name ny py) "append" pa) [.Call (.Attribute (.Name nx px) "pop" pb) [k] [] pd] [] pc) none pos.line X.env=pure false:=by rfl) :
  PSD X E O (.Expr (.Call (.Attribute (.Name ny py) "append" pa) [.Call (.Attribute (.Name nx px) "pop" pb) [k] [] pd] [] pc) pos) (jM y x gk) :=
 (qB (DN PySem.F.plainAttrs_list PySem.F.slot_list_append PySem.F.type_list_append nU (mh hiy hvy hdy hcdy) (eX (DN PySem.F.plainAttrs_list PySem.F.slot_list_pop PySem.F.type_list_pop EA (mh hix hvx hdx hcdx) (eX hk gM hst) hbase hfew hline hst rfl) gM hst2) hbase2 hfew2 hline2 hst2 rfl) hs).imp fun D σ H pz3=>by
  obtain ⟨H0,A0,A,δ,R,o⟩:=pz3;unfold jM at o;split at o
  ·rename_i ys xs qy qx;obtain ⟨p,vy,dy,e1,hp,hl,e2,hx⟩:=R.ownL hOy qy;cases e2;obtain ⟨r,vx,dx,f1,hr,hm,f2,hz⟩:=R.ownL hOx qx;cases f2;have npr:p≠r:=fun z=>hyx (R.inj x y _ _ p hOx hOy qx qy (by rw [z];exact f1) e1)
   refine ⟨_,e1,tyL hl,_,f1,tyL hm,?_⟩;refine eD.run R.full (fun kd ek u H1 s1 R1 hu=>?_) (fun C et H' s'=>by rw [et] at o;exact o H' (R.same.trans s')) (fun et=>by rw [et] at o;exact o);simp only [ek,aH] at o;split at o
   ·rename_i kk;split at o
    ·rename_i hb;split at o
     ·rename_i j hj;split at o
      ·rename_i d hd;obtain ⟨w,hw,hwd⟩:=hz.getD hd;have hj':=hj;obtain ⟨g1,g2,g3,g4⟩:=vO hj;have RS:=R.step s1;have RS2:=RS.put (ds:=xs.eraseIdx j) (ys:=vx.eraseIdx j) hOx qx f1 hr ((hz.same s1.del).eraseIdx j);refine ⟨r,vx,kk,j,w,rfl,by rw [hu.ofInt],s1 _ _ hm,by omega,by omega,by rw [hz.length];exact g1,hw,?_⟩;have dU:del (upd H1 r (.lst (vx.eraseIdx j))) (A++A0)=del H1 (A++A0):=lE (Lm _ hr);refine ⟨p,vy,w,rfl,rfl,by rw [aL npr];exact s1 _ _ hl,by rw [hx.length,sizeLine_eq];omega,?_⟩;refine o A _ _ (RS2.put (ds:=ys++[d]) hOy (by rw [Lf hyx];exact qy) e1 hp ?_);rw [dU];exact (hx.same s1.del).append (j8 (hwd.same s1.del))
      ·exact o.elim
     ·exact o.elim
    ·exact o.elim
   ·exact o.elim
  ·exact o.elim
end
theorem xU:isSubtype (.type "tuple") (.type "set")=pure false:=by rw [isSubtype_type];kernel_rfl
theorem yx:isSubtype (.type "tuple") (.type "frozenset")=pure false:=by rw [isSubtype_type];kernel_rfl
section
variable {prog:Program} {w:World} {A:Around} {E:Value->Shared->Prop} {s:Shared}
def seen (ns:List Int) (n:Nat):List Int:=firstMet (fun i=>ns.getD i 0) n
theorem Bq {tu:Addr} {its:Array Value} {ns:List Int} {Q:Value->Shared->Prop} (hh:A.handled=none) (ht:s.heap.IsTuple tu its) (hi:IntsAre its.toList ns) (hb:its.size+1<scanBound)
  (hQ:∀ (h':Heap) (tk:Nat),h'.SetOf (intKind prog w) s.heap.objs.size (fun k=>(seen ns its.size).any (·==k)) (seen ns its.size).length->(∀ b o,b<s.heap.objs.size->s.heap.get? b=some o->h'.get? b=some o)->Q (.ref s.heap.objs.size) { s with heap:=h',toks:=tk }) :
  wpAny (model prog w) A (call (.type "set") [.ref tu]) Q E s:=by
 obtain ⟨c,tl,mro⟩:=PySem.F.called_set.mro;have m1:=PySem.F.called_set.made;have m2:=PySem.F.called_set.sub;refine wpAny_call (codeAny_of_tree ?_);show wpAny _ _ (callAny (.type "set") _) _ _ _;refine wpAny_pure ⟨Code.quiet_builtin _ (by decide +kernel),codeAny_builtin PySem.F.entry_type_call ?_⟩;rw [Around.under_plain (weight_type_call_type "set" [.ref tu] []) rfl];have m3:=PySem.F.called_set.notType;have m4:=PySem.F.called_set.canCreate;have m5:=PySem.F.typeCall_set_1 (.ref tu)
 repeat (any_goals (first | assumption | wp_step))
 refine codeAny_mono (PySem.code_set_new_1 (.ref tu) (E:=E) (Q₁:=fun ob s1=>∃ led:Bool,ob=.ref s.heap.objs.size/\s1={ s with heap:=s.heap.push { cls:=.type "set",dict:=none,data:=.set #[] 0 (.fresh 0 0 led) } }) fun led=>⟨led,rfl,rfl⟩) fun r s1 hr=>?_
 cases r with
 | error ev=>exact hr
 | ok fl =>
  cases fl with
  | ret ob =>
   obtain ⟨led,rfl,rfl⟩:=hr;have gS:(s.heap.push { cls:=.type "set",dict:=none,data:=.set #[] 0 (.fresh 0 0 led) }).get? s.heap.objs.size=some { cls:=.type "set",dict:=none,data:=.set #[] 0 (.fresh 0 0 led) }:=KZ _ rfl;have tS:Shared.TypeIs { s with heap:=s.heap.push { cls:=.type "set",dict:=none,data:=.set #[] 0 (.fresh 0 0 led) } } (.ref s.heap.objs.size) "set":=⟨_,gS,rfl⟩
   have m6:=PySem.F.called_set.init.lookup;have m7:=PySem.F.called_set.init.bind (.ref s.heap.objs.size)
   repeat (any_goals (first | assumption | wp_step))
   refine codeAny_mono (codeAny_call_builtin (R:=wants (fun rv s2=>rv=.none/\∃ h' tk,s2={ s with heap:=h',toks:=tk }/\h'.SetOf (intKind prog w) s.heap.objs.size (fun k=>(seen ns its.size).any (·==k)) (seen ns its.size).length /\
     (∀ b o,b<s.heap.objs.size->s.heap.get? b=some o->h'.get? b=some o)) E) PySem.F.called_set.init.plain PySem.F.entry_set_init (PySem.check_set_init_1 tS ?_)) fun r2 s2 hr2=>?_
   ·obtain ⟨⟨oc,od,oda,osl⟩,go,gc,gn,gd⟩:=ht;simp only at gc gd;subst gc;subst gd;have go':(s.heap.push { cls:=.type "set",dict:=none,data:=.set #[] 0 (.fresh 0 0 led) }).get? tu=some { cls:=.type "tuple",dict:=od,data:=.seq its gn,slots:=osl }:=K2 _ go;have n1:=xU;have n2:=yx;have n3:(Value.type "tuple"==Value.type "dict")=false:=by decide
    have t1:(s.heap.push { cls:=.type "set",dict:=none,data:=.set #[] 0 (.fresh 0 0 led) }).IsTuple tu its:=⟨_,go',rfl,gn,rfl⟩
    unfold Builtin.«set.__init__» noKeywords Builtin.Frozenset.updateFrom;generalize zz:pyIter=PI
    wp_walk
    subst zz;refine wpAny_pyIter_tuple t1 (wpAny_bind (wpAny_runValue ?_));have tl':tu<s.heap.objs.size:=KR go;have h3:A.in1.in1.in1.handled=none:=by simp [hh]
    have ne1:tu≠(s.heap.push { cls:=.type "set",dict:=none,data:=.set #[] 0 (.fresh 0 0 led) }).objs.size:=by rw [Heap.size_push];exact KY (LF tl')
    have nSf:s.heap.objs.size∉[(s.heap.push { cls:=.type "set",dict:=none,data:=.set #[] 0 (.fresh 0 0 led) }).objs.size,tu]:=by rw [Heap.size_push];simp only [K6,KW,L7,or_false,not_or];exact ⟨KY (LR _),LA tl'⟩
    have vv:∀ (i:Nat) (v:Value),its[i]?=some v->∃ t,v=.int ((fun i=>ns.getD i 0) i) t:=fun i v hv=>IntsAre.int_at hi i v (by rw [Mx];exact hv)
    refine codeAny_set_update_loopS ((Walks.tuple h3 _ tu ne1 its).toS) s.heap.objs.size nSf (fun i=>ns.getD i 0) vv hb (its.size-0) 0 _ (by omega) (Lw _) ⟨⟨_,KZ _ rfl,rfl,rfl⟩,⟨_,K2 _ go',rfl,gn,rfl⟩⟩ ?_ ?_
    ·have gg:((s.heap.push { cls:=.type "set",dict:=none,data:=.set #[] 0 (.fresh 0 0 led) }).push { cls:=.type "tuple_iterator",data:=.fields #[.ref tu,.int 0 0] }).get? s.heap.objs.size=some { cls:=.type "set",dict:=none,data:=.set #[] 0 (.fresh 0 0 led) }:=K2 _ gS;exact SetOf_congr ((setObjOf_fresh (knd:=intKind prog w) led).setOf gg (by unfold scanBound;omega)) (fun _=>rfl) rfl
    ·intro s' mv hS';obtain ⟨h',g',d',tk',os'⟩:=s';have e1:g'=s.gens:=mv.gens;have e2:d'=s.drawn:=mv.drawn;have e3:os'=s.os:=mv.os;subst e1;subst e2;subst e3;show wpAny _ _ _ _ _ _;refine wpAny_pure ?_;show wpAny _ _ (ret Value.none) _ _ _;refine wpAny_pure ⟨rfl,h',tk',rfl,hS',fun b o hb e=>?_⟩;have b2:b≠(s.heap.push { cls:=.type "set",dict:=none,data:=.set #[] 0 (.fresh 0 0 led) }).objs.size:=by rw [Heap.size_push];exact KY (LF hb)
     exact mv.heap b o (by simp only [K6,KW,L7,or_false,not_or];exact ⟨KY hb,b2⟩) (K2 _ (K2 _ e))
   ·cases r2 with
    | error ev=>exact hr2
    | ok fl2 =>
     cases fl2 with
     | ret rv =>
      obtain ⟨rfl,h',tk,rfl,hS',kk⟩:=hr2
      repeat (any_goals (first | assumption | wp_step))
      exact hQ _ _ hS' kk
     | _=>exact hr2.elim
  | _=>exact hr.elim
end
section
variable {X:Cx} {E:XK} {a b c e:Expr} {ga gb gc:Ds->Rs PyData} {pos:Pos} {es:List Expr} {gs:Ds->Rs (List PyData)}
theorem GZ:bootBuiltins "set"=some (.type "set"):=by decide +kernel
def tLS (K:PySem.W.Frag) (ta:TA):TE:=fun σ H Q=>ta σ H fun vs H1=>∃ (p:Addr) (ns:List Int),vs=[.ref p]/\SqT K H1 p (ns.map V.int)/\ns.length<=1000/\Q (.int (seen ns ns.length).length) H1
theorem Bl {ta:TA} {p p2 pos2:Pos} (hc:X.calm=true) (hg:Gl X "set") (hm:X.mg "set"=none) (hgl:Gl X "len") (hml:X.mg "len"=none) (ha:PA X [a] ta) (hs:starEach [a] X.env=[(false,eval a X.env)]:=by rfl)
  (hs2:starEach [.Call (.Name "set" p) [a] [] pos] X.env=(false,eval (.Call (.Name "set" p) [a] [] pos) X.env)::starEach [] X.env:=by rfl) (hpl:(backTo pos2 (starEach [] X.env)).any (·.1)=false:=by rfl) :
  PE X (.Call (.Name "len" p2) [.Call (.Name "set" p) [a] [] pos] [] pos2) (tLS X.K ta):=by
 intro pins s σ H Q I h;refine wpAny_Call_Name_kw (fX I hgl hml PySem.boot_len ?_);refine PyProof.Rows.callWith_builtin1 ?_ hs2 hpl;rw [hs2];show wpAny _ _ (spliced ((false,eval (.Call (.Name "set" p) [a] [] pos) X.env)::backTo pos2 [])) _ _ s;refine Calls.spliced_cons (Call_ (fX I hg hm GZ (PyProof.Rows.callWith_type1 (thn (ha pos pins s σ H _ I h) fun us s1 rz2=>?_) hs rfl)));obtain ⟨vs,H1,I1,r1,q1⟩:=rz2;obtain ⟨q,ns,e,hq,hz,fin⟩:=q1;subst e;obtain ⟨u,rfl,ru⟩:=vals1 r1;cases ru;obtain ⟨its,rv,pt,_⟩:=I1.tuple hq;have hl:=rv.length;rw [K5] at hl;refine Bq (I1.ok.hd hc) (show s1.heap.IsTuple q its.toArray from pt) (intsAre_of rv) (by rw [L0];unfold scanBound;omega) fun h' tk hS kk=>Calls.spliced_nil ?_
 have I2:Inv X pins σ H1 { s1 with heap:=h',toks:=tk }:=I1.kept fun b o e=>kk b o (KR e) e
 have esz:its.toArray.size=ns.length:=by rw [L0];exact hl.symm
 rw [esz] at hS;obtain ⟨o,es',ep,t,ho,ex,hd,_,_,hb,hf,hsz⟩:=hS;refine PySem.call_len_set ho ex hd hf (by unfold scanBound at hb;omega) ⟨.int (seen ns ns.length).length,H1,I2.tok _,⟨_,by rw [hsz]⟩,fin⟩
def nr:List PyData->Option PyData
 | [.tuple x]=>(gA x).bind fun ns=>if ns.length<=1000 then some (.int (seen ns ns.length).length) else none
 | _=>none
theorem B2 {p p2 pos2:Pos} (hc:X.calm=true) (hm:X.mg "set"=none) (hml:X.mg "len"=none) (ha:PAD X E [a] gs) (hg:Gl X "set":=by rfl) (hgl:Gl X "len":=by rfl) (hs:starEach [a] X.env=[(false,eval a X.env)]:=by rfl)
  (hs2:starEach [.Call (.Name "set" p) [a] [] pos] X.env=(false,eval (.Call (.Name "set" p) [a] [] pos) X.env)::starEach [] X.env:=by rfl) (hpl:(backTo pos2 (starEach [] X.env)).any (·.1)=false:=by rfl) :
  PD X E (.Call (.Name "len" p2) [.Call (.Name "set" p) [a] [] pos] [] pos2) (gF nr gs):=(Bl hc hg hm hgl hml ha.1 hs hs2 hpl).imp fun σ H Q ⟨A,δ,R,o⟩=>ym R o fun ds vs H1 e s1 R1 h1 o=>by
 unfold nr at o;split at o
 ·rename_i x;cases q:gA x with
  | none=>rw [q] at o;exact o.elim
  | some ns =>
   rw [q] at o;obtain ⟨v,rfl,hh⟩:=lK h1;obtain ⟨p,xs,rfl,hp,hx⟩:=hh.ofTup;rw [fq q] at hx;rw [hx.ofInts] at hp;by_cases z:ns.length<=1000
   ·simp only [Mi,if_pos z] at o;exact ⟨p,ns,rfl,SqT.of (aI _ _ hp),z,o _ H1 (aA.refl _) ck⟩
   ·simp only [Mi,if_neg z] at o;exact o.elim
 ·exact o.elim
end
open AutoSeq1 (wpAny_loadPart')
open SeqAt (EqAt)
theorem xf {prog:Program} {w:World} {A:Around} {E:Value->Shared->Prop} {s:Shared} {its:Array Value} {x:Value} {e:Value->Bool} {j:Nat} {Q:Option PySem.Fin×Unit->Shared->Prop} (hj:j<its.size) (hit:e its[j]=true) (hno:∀ m (hm:m<its.size),m<j->e its[m]=false)
  (he:∀ y,y∈its->EqAt A s y x (e y)) (hQ:Q (some (.done (.ret (.int j s.toks))),()) { s with toks:=s.toks+1 }):∀ (k i m:Nat),i+k=j->j<i+m ->
  wpAny (model prog w) A (forIn (List.range' i m) ((none:Option PySem.Fin),()) fun (i:Nat) _=>match its[i]? with
   | some y=>do
    let b <-eqBool y x
    if b=true then do
      let r <-retInt (i:Int)
      pure (ForInStep.done (some r,()))
     else pure (ForInStep.yield (none,()))
   | _=>pure (ForInStep.yield (none,()))) Q E s
 | 0,i,0,h1,h2=>by omega
 | 0,i,m+1,h1,h2=>by
  have:i=j:=by omega
  subst this;rw [MQ,Mo];have q:its[i]?=some its[i]:=by simp [hj]
  simp only [q];refine wpAny_bind (wpAny_bind (he _ (Array.getElem_mem hj) prog w _ _ ?_));rw [hit,if_pos rfl];unfold retInt;exact wpAny_bind (wpAny_bind (wpAny_mkInt (wpAny_pure (wpAny_pure (wpAny_pure hQ)))))
 | k+1,i,0,h1,h2=>by omega
 | k+1,i,m+1,h1,h2=>by
  have hi:i<its.size:=by omega
  rw [MQ,Mo];have q:its[i]?=some its[i]:=by simp [hi]
  simp only [q];refine wpAny_bind (wpAny_bind (he _ (Array.getElem_mem hi) prog w _ _ ?_));rw [hno i hi (by omega),if_neg L9];exact wpAny_pure (xf hj hit hno he hQ k (i+1) m (by omega) (by omega))
theorem BP (tu:Addr) (its:Array Value) (n:Nat) (dd:Option Addr) (sl:Array (Option Value)) (x:Value) (e:Value->Bool) (j:Nat) (hj:j<its.size) (hit:e its[j]=true) (hno:∀ m (hm:m<its.size),m<j->e its[m]=false) :
  Meets (Builtin.«tuple.index» ⟨[.ref tu,x],[]⟩)
   (fun A R s=>s.heap.get? tu=some { cls:=.type "tuple",dict:=dd,data:=.seq its n,slots:=sl }/\(∀ y,y∈its->EqAt A.in1 s y x (e y))/\R (.ok (.ret (.int j s.toks))) { s with toks:=s.toks+1 }):=by
 intro prog w A R s hs;obtain ⟨hp,g,d,tk,os⟩:=s;obtain ⟨hl,he,hR⟩:=hs;unfold Builtin.«tuple.index»;simp only [Std.Legacy.Range.forIn_eq_forIn_range',Std.Legacy.Range.size];generalize hF:(@forIn Sem (List Nat))=F
 wp_walk using wpAny_loadPart' hl
 subst hF;refine xf hj hit hno he ?_ j 0 _ (by omega) (by simp;omega);exact wpAny_pure hR
section
variable {X:Cx} {E:XK} {a o e:Expr} {ga go:Ds->Rs PyData} {pos:Pos} {es:List Expr} {gs:Ds->Rs (List PyData)}
def Im:V->List V->Hp->VK->Prop:=fun x vs H Q=>∃ l xs y j,x=.ref l/\vs=[y]/\H l=some (.tup xs)/\kg y=true/\xs.all kg=true/\(xs.findIdx? fun z=>eqV z y)=some j/\Q (.int j) H
def tIx (to:TE) (t:TA):TE:=fun σ H Q=>to σ H fun x H1=>(∃ l xs,x=.ref l/\H1 l=some (.tup xs))/\t σ H1 fun vs H2=>Im x vs H2 Q
theorem Et {to:TE} {t:TA} {apos cpos:Pos} (ho:PE X o to) (ha:PA X [e] t) (hbase:attributeBase o "index" X.env (eval o X.env)=eval o X.env:=by rfl)
  (hfew:((backTo cpos (starEach [e] X.env)).all (fun x=>!x.1)&&(backToKw cpos (keywordEach [] X.env)).all (fun x=>x.1.isSome)&&decide (([e]:List Expr).length+([]:List Keyword).length+(if ([]:List Keyword).isEmpty then 0 else 1)<30))=true:=by rfl)
  (hline:(apos.endLine==cpos.line)=true:=by rfl) (hs:starEach [e] X.env=(false,eval e X.env)::starEach [] X.env:=by rfl) (hplain:(backTo cpos (starEach [] X.env)).any (·.1)=false:=by rfl) :
  PE X (.Call (.Attribute o "index" apos) [e] [] cpos) (tIx to t):=by
 intro pins s σ H Q I h;refine wpAny_Call_method_late hbase hfew hline rfl (thn (ho pins s σ H _ I h) fun v s1 rz2=>?_);obtain ⟨x,H1,I1,r1,⟨l,xs,hx,hl⟩,q1⟩:=rz2;subst hx;cases r1;obtain ⟨hz,its,rv,ob,ge,gc,gd,n,gq⟩:=I1.hok l _ hl;refine ⟨"tuple", "tuple.index",PySem.F.plainAttrs_tuple,PySem.F.slot_tuple_index,PySem.F.type_tuple_index,⟨ob,ge,gc⟩,fun a ea=>by cases ea;exact ⟨ob,ge,gd⟩,?_⟩;have hA:=ha cpos pins s1 σ H1 _ I1 q1;rw [hs] at hA ⊢;refine Calls.callWith_builtin (by show (false || (backTo cpos (starEach [] X.env)).any (·.1))=false;rw [hplain];rfl) (Calls.evalArgs_plain ?_);refine thn hA fun us s2 rz2=>?_
 obtain ⟨vs,H2,I2,r2,q2⟩:=rz2;obtain ⟨l',xs',y,j,e1,e2,hl',fy,fs,hj,q⟩:=q2;cases e1;subst e2;obtain ⟨hz',its',rv',ob',ge',gc',gd',n',gq'⟩:=I2.hok l _ hl';obtain ⟨u,rfl,ru⟩:=vals1 r2;obtain ⟨oc,od,oda,osl⟩:=ob';simp only at gc' gd' gq';subst gc' gd' gq';have hlen:=rv'.length;obtain ⟨hjl,hjt,hjn⟩:=M3.mp hj;have at':∀ (m:Nat) (hm:m<xs'.length),eqU y (its'[m]'(by omega))=eqV xs'[m] y:=fun m hm=>by
  obtain ⟨w',hw,rw'⟩:=rv'.get (K3 hm);have:its'[m]'(by omega)=w':=by have h2:=K3 (show m<its'.length by omega);rw [h2] at hw;exact Option.some.inj hw
  rw [this];exact yO rw' (L4.mp fs _ (LC hm))
 refine call_meets PySem.F.slot_tuple_index ⟨_,ge',rfl⟩ PySem.F.entry_tuple_index (PySem.F.args_tuple_index_2 _ _) (BP l its'.toArray n' none osl u (eqU y) j (by simp;omega) (by simpa [at' j hjl] using hjt) (fun m hm hmj=>?_)) ⟨ge',fun z hz=>mX ru fy rv' fs z (by simpa using hz),⟨.int j,H2,I2.tok _,⟨_,rfl⟩,q⟩⟩;have hm':m<xs'.length:=by simp at hm;omega
 have:=hjn m hmj;simpa [at' m hm'] using this
def oA (xs:List PyData) (y:PyData):Option PyData:=if hV y&&xs.all hV then ((xs.map toV).findIdx? fun z=>eqV z (toV y)).map fun j=>.int j else none
def zZ (go ga:Ds->Rs PyData):Ds->Rs PyData:=fun δ=>(go δ).bind fun d=>match d with
 | .tuple xs=>(ga δ).bind fun y=>Rs.eP (oA xs y)
 | _=>.no
theorem DP {apos cpos:Pos} (ho:PD X E o go) (ha:PD X E e ga) (hbase:attributeBase o "index" X.env (eval o X.env)=eval o X.env:=by rfl)
  (hfew:((backTo cpos (starEach [e] X.env)).all (fun x=>!x.1)&&(backToKw cpos (keywordEach [] X.env)).all (fun x=>x.1.isSome)&&decide (([e]:List Expr).length+([]:List Keyword).length+(if ([]:List Keyword).isEmpty then 0 else 1)<30))=true:=by rfl)
  (hline:(apos.endLine==cpos.line)=true:=by rfl) (hs:starEach [e] X.env=(false,eval e X.env)::starEach [] X.env:=by rfl) (hplain:(backTo cpos (starEach [] X.env)).any (·.1)=false:=by rfl) :
  PD X E (.Call (.Attribute o "index" apos) [e] [] cpos) (zZ go ga):=(Et ho (eX ha gM hs) hbase hfew hline hs hplain).imp fun σ H Q pz3=>by
 obtain ⟨A,δ,R,oo⟩:=pz3;unfold zZ at oo;refine eD.run R (fun d1 e1 v H1 s1 R1 h1=>?_) (fun C et H' s'=>by rw [et] at oo;exact oo H' s') (fun et=>by rw [et] at oo;exact oo);simp only [e1,Rs.aj] at oo;cases d1 with
 | tuple xs =>
  obtain ⟨p,vs,rfl,hp,hx⟩:=h1.ofTup;refine ⟨⟨p,vs,rfl,aI _ _ hp⟩,?_⟩;have oo:iK X.K E A H ((ga δ).bind fun y=>Rs.eP (oA xs y)) Q:=oo;refine eD.run R1 (fun d2 e2 u H2 s2 R2 h2=>?_) (fun C et H' s'=>by rw [et] at oo;exact oo H' (s1.trans s')) (fun et=>by rw [et] at oo;exact oo);simp only [e2,Rs.aj] at oo;unfold oA at oo;split at oo
  ·rename_i z;rw [K9] at z;obtain ⟨f1,f2⟩:=h2.flat z.1;obtain ⟨f3,f4⟩:=hx.flat z.2;cases q:((xs.map toV).findIdx? fun z=>eqV z (toV d2)) with
   | none=>rw [q] at oo;exact oo.elim
   | some j =>rw [q] at oo;exact ⟨p,vs,u,j,rfl,rfl,s2 _ _ (aI _ _ hp),f2,f4,by rw [f1,f3];exact q,oo _ H2 (s1.trans s2) ck⟩
  ·exact oo.elim
 | _=>exact oo.elim
end
end L2
namespace L2
open PySem PySem.Spec PyProof.Rows
section
variable {X:Cx} {E:XK} {a:Expr} {es:List Expr} {gs:Ds->Rs (List PyData)} {pos:Pos}
theorem E5:bootBuiltins "min"=some (.builtin "min"):=by decide +kernel
end
section
variable {X:Cx} {E:XK} {O:List Nat} {K:PySem.W.Frag} {H0 H:Hp} {A0 A:List Addr} {δ:Ds} {σ:St}
end
section
variable {X:Cx} {E:XK} {a b c:Expr} {ga gb gc:Ds->Rs PyData} {pos:Pos}
end
section
variable {X:Cx} {E:XK} {a:Expr} {es:List Expr} {gs:Ds->Rs (List PyData)} {pos:Pos}
end
section
variable {X:Cx} {E:XK} {a:Expr} {gs:Ds->Rs (List PyData)} {pos:Pos}
end
end L2
namespace PyProof.Rows
open PySem
section
variable {prog:Program} {w:World} {A:Around} {E:Value->Shared->Prop} {s:Shared}
end
end PyProof.Rows
namespace L2
open PySem PySem.Spec PyProof.Rows
section
variable {X:Cx} {E:XK} {a:Expr} {es:List Expr} {gs:Ds->Rs (List PyData)} {pos:Pos}
end
end L2
namespace L2
open PySem PySem.Spec PySem.Calls PyProof.Rows PySem.W PySem.Builtin PySem.Builtin.ObjectAttr PySem.Builtin.Getset_descriptor
section
variable {prog:Program} {w:World} {A:Around} {E:Value->Shared->Prop} {s:Shared} {K:Frag} {x D:Addr} {ox:Obj}
structure GF (h:Heap) (x:Addr) (D:Addr):Prop where
 ex:∃ o,h.get? x=some o/\o.cls=.ref D
theorem GF.type {M:Model} {h:Heap} (I:GF h x D):Looks M h (typeOf (.ref x)) (.ref D):=by obtain ⟨o,h1,h2⟩:=I.ex;exact h2▸(Looks.ld h1).andThen .now
end
end L2
namespace L2
open PySem PySem.Spec PyProof.Rows
section
variable {X:Cx} {E:XK} {ea:Addr} {oe:Obj} {C:Addr} {pos:Pos} {i:Nat}
end
section
variable {X:Cx} {E:XK} {ea:Addr} {oe:Obj} {C:Addr} {pos:Pos} {i:Nat}
end
section
variable {X:Cx} {E:XK} {O:List Nat} {e a b:Expr} {ga gb:Ds->Rs PyData} {es:List Expr} {gs:Ds->Rs (List PyData)} {pos:Pos}
def kN (f:Str):List (PyData×PyData)->Option PyData
 | []=>none
 | (k,d)::r=>match k with
  | .str g=>if g=f then some d else kN f r
  | _=>none
def b9 (C:Addr) (f:Str):PyData->Option PyData
 | .dict (k::r)=>match k with
  | (.str z,.int c)=>if z=""/\c=(C:Int) then kN f r else none
  | _=>none
 | _=>none
theorem Isk.kN {K:PySem.W.Frag} {H:Hp}:∀ {r:List (PyData×PyData)} {fs:List (Str×V)} {f:Str} {d:PyData},Isk K H r fs->L2.kN f r=some d->∃ v,fs.lookup f=some v/\Is K H d v
 | [],_,f,d,_,l=>by simp [L2.kN] at l
 | (k,x)::r,fs,f,d,h,l=>by
  unfold Isk at h;obtain ⟨g,v,fs',rfl,rfl,h1,h2⟩:=h;simp only [L2.kN] at l;rw [Ld];by_cases z:g=f
  ·subst z;rw [if_pos rfl] at l;cases l;exact ⟨v,by simp,h1⟩
  ·rw [if_neg z] at l;have:(f==g)=false:=by simpa using fun q=>z q.symm
   rw [this];exact Isk.kN h2 l
theorem Fy {K:PySem.W.Frag} {H:Hp} {C:Addr} {f:Str} {d x:PyData} {v:V} (hf:f≠"@") (e:b9 C f d=some x) (h:Is K H d v):∃ a dx fs u,v=.ref a/\H a=some (.ins C dx fs)/\fs.lookup f=some u/\Is K H x u:=by
 unfold b9 at e;split at e
 ·rename_i k r;split at e
  ·rename_i z c;split at e
   ·rename_i q;obtain ⟨rfl,rfl⟩:=q;unfold Is at h;rcases h with (⟨a,ns,_,ek,_⟩ | ⟨a,l,_,ek,_⟩) | ⟨a,C',dx,fs,ev,h1,hn,h2 | h2⟩
    ·injection ek with ek _;cases ek
    ·cases l <;> simp at ek
    ·unfold Isk at h2;obtain ⟨g,u,fs',e1,e2,h3,h4⟩:=h2;cases e1;have e5:=h3.ofInt;injection e5 with e5
     obtain rfl:C'=C:=Int.ofNat.inj e5;obtain ⟨u,l,hu⟩:=h4.kN e;exact ⟨a,dx,fs,u,ev,h1,l,hu⟩
    ·unfold Isk at h2;obtain ⟨g,u,fs',e1,e2,h3,h4⟩:=h2;cases e1;have e5:=h3.ofInt;injection e5 with e5
     obtain rfl:C'=C:=Int.ofNat.inj e5;obtain ⟨u,l,hu⟩:=h4.kN e;rw [Ld,show (f==("@":Str))=false by simpa using hf] at l;exact ⟨a,dx,fs,u,ev,h1,l,hu⟩
   ·cases e
  ·cases e
 ·cases e
theorem cJ {C:Addr} {f:Str} (cl:Cls X.K C) (n:eG X.K C f) (ha:PD X E a ga) (hb:attributeBase a f X.env (eval a X.env)=eval a X.env:=by rfl) (hf:f≠"@":=by decide):PD X E (.Attribute a f pos) (g1 (b9 C f) ga) :=
 (HL ha hb).imp fun σ H Q ⟨A,δ,R,o⟩=>g1.read (tt:=fun Q x H1=>∃ a C dx fs v,x=.ref a/\H1 a=some (.ins C dx fs)/\Cls X.K C/\eG X.K C f/\fs.lookup f=some v/\Q v H1) R o fun d1 d x H' e _ _ h k=>by obtain ⟨p,dx,fs,u,rfl,hp,l,hu⟩:=Fy hf e h;exact ⟨p,C,dx,fs,u,rfl,aI _ _ hp,cl,n,l,k _ H' (aA.refl _) hu⟩
theorem AV {K:PySem.W.Frag} {H:Hp}:∀ {names:List Str} {ds:List PyData} {vs:List V},Iss K H ds vs->Isk K H ((names.zip ds).map fun p=>(.str p.1,p.2)) (names.zip vs)
 | [],_,_,_=>by simpa using qE
 | _::_,[],_,h=>by rw [h.nil_of];simpa using qE
 | n::ns,d::ds,_,h=>by obtain ⟨v,r,rfl,h1,h2⟩:=h.cons_of;simp only [Mq,K1];exact ff h1 (AV h2)
theorem Cq {f:Str}:∀ {names:List Str} {vs:List V},f∉names->(names.zip vs).lookup f=none
 | [],_,_=>rfl
 | _::_,[],_=>rfl
 | n::ns,v::vs,h=>by rw [Mq,Ld,show (f==n)=false by simpa using fun q=>h (by rw [q];exact K4)];exact Cq fun q=>h (K0 _ q)
end
section
variable {prog:Program} {w:World} {A:Around} {R:Result->Shared->Prop} {I:Addr} {fp wr:List Addr} {n:Nat} {T:Nat->Value->Prop} {St:Nat->Heap->Prop} {dv:Value}
variable {E:Value->Shared->Prop} {s:Shared} {l:Addr} {xs:Array (Int×Tok)}
end
section
variable {X:Cx} {E:XK} {O:List Nat} {e a b:Expr} {ga gb:Ds->Rs PyData} {es:List Expr} {gs:Ds->Rs (List PyData)} {pos:Pos}
theorem eD.weak {K:PySem.W.Frag} {g:Ds->Rs PyData} {σ:St} {H:Hp} {Q Q':VK} (h:eD K E g σ H Q) (k:∀ v H',Q v H'->Q' v H'):eD K E g σ H Q':=by
 obtain ⟨A,δ,R,o⟩:=h;refine ⟨A,δ,R,?_⟩;cases q:g δ with
 | ok d=>rw [q] at o;exact fun v H' s1 h1=>k v H' (o v H' s1 h1)
 | rz C=>rw [q] at o;exact o
 | no=>rw [q] at o;exact o
end
theorem Gg {K:PySem.W.Frag} {qual:Str} {st:Stmt} {ps:List Str} {f C:Addr} {oc:Value} {od an:Option Addr} {sl:Array (Option Value)} {kV dc pm cd ct:Value}
  (hb:∀ (kV doc pm:Value) (an:Option Addr) (cdv ct:Value) (us:List Value),us.length=ps.length->bindArgs (PySem.W.fnOf "__init__" qual (fF st) (dm st) (ax st) .none kV doc pm an cdv ct) ⟨us,[]⟩=pure (ps.zip us))
  (a:PySem.W.findIn K (.ref C) "__init__"=some (some (.ref f))) (i:PySem.W.isFn K (.ref f)=true)
  (l:K.lookup f=some ⟨oc,od,.func (PySem.W.fnOf "__init__" qual (fF st) (dm st) (ax st) .none kV dc pm an cd ct),sl⟩)
  (c:PySem.W.codeIn K cd qual=true) (k:PySem.W.keepIn K (.ref f)=true) (mk:PySem.W.makesIn K C=true) (kc:PySem.W.keepIn K (.ref C)=true):∃ f fd,Mk K C f/\Fun K "__init__" qual st f fd/\Binds K fd ps [] :=
 have F:=zk (st:=st) l c k
 ⟨f,_,⟨mk,a,i,kc⟩,F,F.binds hb⟩
theorem wg {X:Cx} {e:Expr} {g:Ds->Rs Bool} (h:PCD X E0 e g):PTs X [e] (cD X.K E0 g):=.one h
theorem mI.more {X:Cx} {σ:St} {pins:List (Addr×Obj)} {q l:Addr} {xs:List V} {Φ:Hp->Prop} {κ:Nat->V->Hp->Prop} {lt:Nat->Nat->Bool} (K:mI X σ [] q l xs Φ κ lt):mI X σ pins q l xs Φ κ lt :=
 ⟨K.lst,fun i x hx pins' H s u _=>K.turn i x hx pins' H s u (fun _ h=>nomatch h),K.cmp⟩
def EW (X:Cx) (ta tb:TE):TE:=fun σ H Q=>ta σ H fun x H1=>tb σ H1 fun y H2=>∃ (l q:Addr) (xs:List V) (Φ:Hp->Prop) (κ:Nat->V->Hp->Prop) (lt:Nat->Nat->Bool),x=.ref l/\y=.ref q/\0<xs.length/\Φ H2/\mI X σ [] q l xs Φ κ lt /\
 ∀ H3 v,Φ H3->xs[bst lt (xs.length-1)]?=some v->Q v H3
section
variable {X:Cx} {a b:Expr} {ta tb:TE} {pos:Pos}
theorem Bk {p kp:Pos} (hc:X.calm=true) (hm:X.mg "min"=none) (ha:PE X a ta) (hb:PE X b tb) (hg:Gl X "min":=by rfl) (he:starEach [a] X.env=[(false,eval a X.env)]:=by rfl) (wk:∀ {σ H} {Q Q':VK},ta σ H Q->(∀ x H,Q x H->Q' x H)->ta σ H Q') (wk2:∀ {σ H} {Q Q':VK},tb σ H Q->(∀ x H,Q x H->Q' x H)->tb σ H Q') :
  PE X (.Call (.Name "min" p) [a] [⟨some "key",b,kp⟩] pos) (EW X ta tb):=by
 intro pins s σ H Q I h;refine wpAny_Call_Name_kw (fX I hg hm E5 ?_ (by decide) (by decide));refine callWith_kw ?_ (by rw [he];rfl) (by rw [he];rfl) rfl rfl;refine thn ((eX ha gM he) pos pins s σ H (fun vs H1=>∃ x,vs=[x]/\tb σ H1 fun y H2=>∃ (l q:Addr) (xs:List V) (Φ:Hp->Prop) (κ:Nat->V->Hp->Prop) (lt:Nat->Nat->Bool),x=.ref l/\y=.ref q/\0<xs.length/\Φ H2/\mI X σ [] q l xs Φ κ lt /\
   ∀ H3 v,Φ H3->xs[bst lt (xs.length-1)]?=some v->Q v H3) I
  (wk h fun x H1 q=>⟨x,rfl,q⟩)) fun us s1 ⟨vs,H1,I1,r1,x,q0,q1⟩=>?_
 subst q0;obtain ⟨u,rfl,ru⟩:=vals1 r1;refine thn ((FK hb Hy) pos pins s1 σ H1 (fun vs H2=>∃ y,vs=[y]/\∃ (l q:Addr) (xs:List V) (Φ:Hp->Prop) (κ:Nat->V->Hp->Prop) (lt:Nat->Nat->Bool),x=.ref l/\y=.ref q/\0<xs.length/\Φ H2/\mI X σ [] q l xs Φ κ lt /\
   ∀ H3 v,Φ H3->xs[bst lt (xs.length-1)]?=some v->Q v H3) I1
  (wk2 q1 fun y H2 q=>⟨y,rfl,q⟩)) fun ws s2 ⟨zs,H2,I2,r2,y,q2,l,q,xs,Φ,κ,lt,ex,ey,hn,hΦ,KK,hQ⟩=>?_
 subst q2;obtain ⟨v,rfl,rv⟩:=vals1 r2;subst ex ey;obtain rfl:u=Value.ref l:=ru;obtain rfl:v=Value.ref q:=rv;exact Ih KK.more (I2.ok.hd hc) I2 hΦ hn fun H' s' x u hx ru J hp=>⟨x,H',J,ru,hQ H' x hp hx⟩
theorem Cb {σ:St} {q l c':Addr} {xs:List V} {Φ:Hp->Prop} {κ:Nat->V->Hp->Prop} {lt:Nat->Nat->Bool} {k:Nat} {N:List Str} {p qual:Str} {params:Arguments} {body:Expr} {scope:Scope} {cl:List (Str×Addr)} {pm ctv:Value} {cap:List Nat} {t:TE}
  (S:nA N [p] scope) (hr:cR (k+2) X.A) (hcl:∀ x c,cl.lookup x=some c->X.env.cells.lookup x=some c) (has:∀ x,scope.names.lookup x=some .free->∃ c,cl.lookup x=some c) (hN:N.length=1+cap.length)
  (hcap:∀ (i m:Nat) (x:Str),N[1+i]?=some x->cap[i]?=some m->X.N[m]?=some x/\scope.names.lookup x=some .free/\(X.env.kindOf x=some .cell\/X.env.kindOf x=some .free)/\Vis X.env.scope x)
  (hb:∀ u,bindArgs (PySem.W.kla_fn "<lambda>" qual params body scope cl pm (.ref c') ctv) ⟨[u],[]⟩=pure ([p].zip [u]))
  (hlst:∀ H,Φ H->H l=some (.lst xs)) (hfn:∀ H,Φ H->H q=some (.frz (PySem.W.kla_obj "<lambda>" qual params body scope cl pm c' ctv) (.own q))/\∃ o vs t,H c'=some (.frz o (.own c'))/\o.data=.fields vs/\vs[1]?=some (.str qual t))
  (hbody:∀ (s:Shared) (H:Hp),PE (uX (CXW X.prog X.w) X.prog X.w X.K X.mg X.base N qual scope q (.ref c') cl X.A.in1 X.stack s H E0) body t)
  (turn:∀ (i:Nat) (x:V) (H:Hp),xs[i]?=some x->Φ H->t (some x::cap.map fun m=>(σ[m]?).join) H fun v H'=>Φ H'/\κ i v H'/\∀ j v',κ j v' H->κ j v' H')
  (cmp:∀ (i j:Nat) (x y:V) (pins':List (Addr×Obj)) (H:Hp) (s:Shared) (u v:Value),Inv X.in1 pins' σ H s->Φ H->κ i x H->κ j y H->RelV x u->RelV y v ->
   wpAny (model X.prog X.w) X.A.in1 (richCompare .Lt u v) (fun r s'=>r=.bool (lt i j)/\Inv X.in1 pins' σ H s') (fun _ _=>False) s):mI X σ [] q l xs Φ κ lt:=by
 refine ⟨hlst,fun i x hx pins' H s u _ I hΦ ru=>?_,cmp⟩;obtain ⟨hq,oc,vs,tt,h1,h2,h3⟩:=hfn H hΦ;have C:HJ s H cl scope N [p].length (cap.map fun m=>(σ[m]?).join):=by
  refine ⟨fun a b c e1 e2=>I.ok.inj a b c (hcl a c e1) (hcl b c e2),has,fun a c e=>I.cell a c (hcl a c e),fun a c e=>I.freeC a c (hcl a c e),by rw [K5];exact hN,fun j y v e1 e2=>?_⟩;rw [Lb] at e2;cases hm:cap[j]? with
  | none=>rw [hm] at e2;cases e2
  | some m =>
   rw [hm] at e2;have e3:(σ[m]?).join=some v:=by simpa using e2
   obtain ⟨hX,hf,hk,hv⟩:=hcap j m y e1 hm;have e4:σ[m]?=some (some v):=by
    cases z:σ[m]? with
    | none=>rw [z] at e3;cases e3
    | some w=>rw [z] at e3;cases w with
     | none=>cases e3
     | some w=>cases e3;rfl
   obtain ⟨mm,hn,hl⟩:=I.loc;obtain ⟨u,rv,lk⟩:=hl m y v hX e4 hv;rcases lk with ⟨z,_⟩ | ⟨_,c,e5,e6⟩
   ·have z:X.env.kindOf y=some .local:=z;rcases hk with hk | hk <;> (rw [z] at hk;cases hk)
   ·obtain ⟨c2,e7⟩:=has y hf;have e8:=hcl y c2 e7;have e5:X.env.cells.lookup y=some c:=e5;rw [e5] at e8;cases e8;exact ⟨u,c,rv,hf,e7,e6⟩
 refine wpAny_call (codeAny_mono (Ge (CX:=CXW X.prog X.w) (E:=E0) S hr.in1 I.env0 rfl (.cons ru .nil) C (I.hok q _ hq).1 ⟨c',oc,vs,tt,rfl,(I.hok c' _ h1).1,h2,h3⟩ (hb u) (hbody s H) (turn i x H hx hΦ)) fun r s' hq=>?_);cases r with
 | error e=>obtain ⟨_,_,_,_,_,_,z,_⟩:=hq;exact z.elim
 | ok fl =>
  cases fl with
  | ret u=>exact I.after hq
  | next=>exact False.elim hq
  | brk=>exact False.elim hq
  | cont=>exact False.elim hq
end
section
variable {X:Cx} {E:XK} {a b:Expr} {gs:Ds->Rs (List PyData)} {pos:Pos}
end
section
variable {X:Cx} {E:XK} {O:List Nat} {K:PySem.W.Frag} {H0 H:Hp} {A0 A:List Addr} {δ:Ds} {σ:St} {pos:Pos}
end
structure fS (P:Program) (w:World) (K:PySem.W.Frag) (mg:Str->Option Value) (base:Heap) (k:Nat) (C:Addr) (m:Str) (n:Nat) (gf:List PyData->Rs PyData):Prop where
 ex:∃ f fd ps,Cls K C/\Meth K C m f/\iC P w K mg base (CXW P w) k f fd ps (spD K n gf)/\Binds K fd ps []
def kh (m:Str):List (PyData×PyData)->Bool
 | []=>true
 | (k,_)::r=>match k with
  | .str g=>decide (g≠m)&&kh m r
  | _=>false
def isC (C:Addr) (m:Str):PyData->Bool
 | .dict (k::r)=>match k with
  | (.str z,.int c)=>decide (z="")&&decide (c=(C:Int))&&kh m r
  | _=>false
 | _=>false
theorem Isk.kh {K:PySem.W.Frag} {H:Hp} {m:Str}:∀ {r:List (PyData×PyData)} {fs:List (Str×V)},Isk K H r fs->L2.kh m r=true->fs.lookup m=none
 | [],_,h,_=>by unfold Isk at h;rw [h];rfl
 | (k,d)::r,fs,h,n=>by unfold Isk at h;obtain ⟨f,v,fs',rfl,rfl,h1,h2⟩:=h;simp only [L2.kh,K9,decide_eq_true_eq] at n;rw [Ld,show (m==f)=false by simpa using fun q=>n.1 q.symm];exact Isk.kh h2 n.2
theorem Hk {K:PySem.W.Frag} {H:Hp} {C:Addr} {m:Str} {d:PyData} {v:V} (e:isC C m d=true) (h:Is K H d v):∃ a dx fs,v=.ref a/\H a=some (.ins C dx fs)/\fs.lookup m=none:=by
 unfold isC at e;split at e
 ·rename_i k r;split at e
  ·rename_i z c;simp only [K9,decide_eq_true_eq] at e;obtain ⟨⟨rfl,rfl⟩,n⟩:=e;unfold Is at h;rcases h with (⟨a,ns,_,ek,_⟩ | ⟨a,l,_,ek,_⟩) | ⟨a,C',dx,fs,ev,h1,hn,h2 | h2⟩
   ·injection ek with ek _;cases ek
   ·cases l <;> simp at ek
   ·unfold Isk at h2;obtain ⟨g,u,fs',e1,e2,h3,h4⟩:=h2;cases e1;have e5:=h3.ofInt;injection e5 with e5
    obtain rfl:C'=C:=Int.ofNat.inj e5;exact ⟨a,dx,fs,ev,h1,h4.kh n⟩
   ·unfold Isk at h2;obtain ⟨g,u,fs',e1,e2,h3,h4⟩:=h2;cases e1;have e5:=h3.ofInt;injection e5 with e5
    obtain rfl:C'=C:=Int.ofNat.inj e5;have l:=h4.kh n;rw [Ld] at l;cases q:(m==("@":Str)) with
    | true=>rw [q] at l;cases l
    | false=>rw [q] at l;exact ⟨a,dx,fs,ev,h1,l⟩
  ·cases e
 ·cases e
def bS (C:Addr) (m:Str) (gf:List PyData->Rs PyData) (ga:Ds->Rs PyData) (gs:Ds->Rs (List PyData)):Ds->Rs PyData:=fun δ=>(ga δ).bind fun d=>if isC C m d then (gs δ).bind fun ds=>gf (d::ds) else .no
section
variable {X:Cx} {E:XK} {o e:Expr} {es:List Expr} {ga:Ds->Rs PyData} {gs:Ds->Rs (List PyData)} {pos apos:Pos}
theorem bS.read {C:Addr} {m:Str} {n:Nat} {gf:List PyData->Rs PyData} {σ:St} {H:Hp} {Q:VK} {A:List Addr} {δ:Ds} (hn:∀ δ ds,gs δ=.ok ds->ds.length+1=n) (R:eK X.K H A δ σ) (ou:iK X.K E A H (bS C m gf ga gs δ) Q):AK C m (spD X.K n gf) [] E (eD X.K E ga) (aD X.K E gs) σ H Q:=by
 unfold bS at ou;refine eD.run R (fun d ed v H1 s1 R1 h1=>?_) (fun C et H' s'=>?_) (fun et=>?_)
 ·simp only [ed,Rs.aj] at ou;split at ou
  ·rename_i hc;obtain ⟨a,dx,fs,rfl,hp,l⟩:=Hk hc h1;refine ⟨a,dx,fs,rfl,aI _ _ hp,l,?_⟩;refine aD.run R1 (fun ds e2 vs H2 s2 R2 h2=>?_) (fun C et H' s'=>?_) (fun et=>?_)
   ·simp only [e2,Rs.aj] at ou;refine ⟨A,d::ds,R2.ls,?_,hn δ ds e2,ou.mono (s1.trans s2)⟩;rw [LL];exact dk (h1.same s2.del) h2
   ·rw [et] at ou;exact ou H' (s1.trans s')
   ·rw [et] at ou;exact ou
  ·exact ou.elim
 ·rw [et] at ou;exact ou H' s'
 ·rw [et] at ou;exact ou
theorem EJ {k j:Nat} {C:Addr} {m:Str} {gf:List PyData->Rs PyData} {pl:Sem Bool} (D:fS X.prog X.w X.K X.mg X.base k C m (es.length+2) gf) (hr:cR j X.A) (hx:Passes (CXW X.prog X.w) X E) (ho:PD X E o ga) (ha:PAD X E (e::es) gs) (hk:k<=j:=by decide)
  (hst:starEach (e::es) X.env=(false,eval e X.env)::starEach es X.env:=by rfl) (hpl:(backTo pos (starEach es X.env)).any (·.1)=false:=by rfl)
  (ht:eval (.Call (.Attribute o m apos) (e::es) [] pos) X.env=(do
   let ov <-eval o X.env
   standAt apos.atName
   let (f,first) <-holding [ov] (getMethod ov m pl)
   callWith pos f first (backTo pos (starEach (e::es) X.env)) (backToKw pos (keywordEach [] X.env))):=by rfl) :
  PD X E (.Call (.Attribute o m apos) (e::es) [] pos) (bS C m gf ga gs):=by
 obtain ⟨f,fd,ps,cl,hm,F,hb⟩:=D.ex;exact (FR ho cl hm F (hr.mono hk) hb .nil hx ha.1 hst hpl ht).imp fun σ H Q ⟨A,δ,R,ou⟩=>bS.read (fun δ ds e=>by rw [ha.2 δ ds e];rfl) R ou
theorem kM {k j:Nat} {C:Addr} {m:Str} {gf:List PyData->Rs PyData} {pl:Sem Bool} (D:fS X.prog X.w X.K X.mg X.base k C m 1 gf) (hr:cR j X.A) (hx:Passes (CXW X.prog X.w) X E) (ho:PD X E o ga) (hk:k<=j:=by decide)
  (ht:eval (.Call (.Attribute o m apos) [] [] pos) X.env=(do
   let ov <-eval o X.env
   standAt apos.atName
   let (f,first) <-holding [ov] (getMethod ov m pl)
   callWith pos f first (backTo pos (starEach [] X.env)) (backToKw pos (keywordEach [] X.env))):=by rfl) :
  PD X E (.Call (.Attribute o m apos) [] [] pos) (bS C m gf ga ao):=by
 obtain ⟨f,fd,ps,cl,hm,F,hb⟩:=D.ex;refine (xA ho cl hm F (hr.mono hk) hb .nil hx ht).imp fun σ H Q rz3=>?_
 obtain ⟨A,δ,R,ou⟩:=rz3;have h:=bS.read (gs:=ao) (X:=X) (n:=1) (fun δ ds e=>by cases e;rfl) R ou;unfold AK at h ⊢;exact h.weak fun v H1 ⟨a,dx,fs,e,hp,l,q⟩=>⟨a,dx,fs,e,hp,l,by obtain ⟨A',δ',R',o'⟩:=q;exact o' [] H1 (aA.refl _) dH⟩
end
def intsOf:List PyData->Option (List Int)
 | []=>some []
 | .int a::r=>(intsOf r).map (a::·)
 | _::_=>none
def qg:PyData->Option (Bool×List Int)
 | .int a=>some (false,[a])
 | .tuple ds=>(intsOf ds).map fun l=>(true,l)
 | _=>none
def ltD (a b:PyData):Bool:=match qg a,qg b with
 | some (_,l),some (_,m)=>HT.lexLt l m
 | _,_=>false
def keysOk (ks:List PyData):Bool:=ks.all (fun k=>match qg k with | some (false,_)=>true | _=>false) || ks.all fun k=>match qg k with | some (true,_)=>true | _=>false
def allR (g:PyData->Rs PyData):List PyData->Rs (List PyData)
 | []=>.ok []
 | d::r=>(g d).bind fun k=>(allR g r).bind fun ks=>.ok (k::ks)
theorem yc {g:PyData->Rs PyData}:∀ {ds ks:List PyData},allR g ds=.ok ks->ks.length=ds.length/\∀ (i:Nat) (d:PyData),ds[i]?=some d->∃ k,ks[i]?=some k/\g d=.ok k
 | [],ks,h=>by cases h;exact ⟨rfl,fun i d e=>by simp at e⟩
 | d::r,ks,h=>by
  unfold allR at h;cases e1:g d with
  | rz _=>rw [e1] at h;cases h
  | no=>rw [e1] at h;cases h
  | ok k =>
   rw [e1] at h;cases e2:allR g r with
   | rz _=>rw [Rs.aj,e2] at h;cases h
   | no=>rw [Rs.aj,e2] at h;cases h
   | ok t =>
    rw [Rs.aj,e2] at h;cases h;obtain ⟨hl,hg⟩:=yc e2;refine ⟨by simp [hl],fun i d' e=>?_⟩;cases i with
    | zero=>simp at e;subst e;exact ⟨k,rfl,e1⟩
    | succ i=>simpa using hg i d' (by simpa using e)
def vD (cap:List Nat) (δ:Ds):Ds:=cap.map fun m=>(δ[m]?).join
def okR:Rs (List PyData)->(List PyData->Rs PyData)->Rs PyData
 | .ok a,f=>f a
 | _,_=>.no
def j6 (cap:List Nat) (ga gb:Ds->Rs PyData):Ds->Rs PyData:=fun δ=>(ga δ).bind fun d=>match d with
 | .list ds=>if 0<ds.length then okR (allR (fun x=>gb (some x::vD cap δ)) ds) fun ks=>if keysOk ks then .eP (ds[bst (fun i j=>ltD (ks.getD i .none) (ks.getD j .none)) (ds.length-1)]?) else .no else .no
 | _=>.no
theorem Ad {K:PySem.W.Frag} {H:Hp} {d:PyData} {l:List Int} {v:V} (e:qg d=some (false,l)) (h:Is K H d v):∃ n,l=[n]/\v=.int n:=by
 unfold qg at e;split at e
 ·cases e;exact ⟨_,rfl,h.ofInt⟩
 ·rename_i ds;cases q:intsOf ds with
  | none=>rw [q] at e;cases e
  | some l=>rw [q] at e;cases e
 ·cases e
theorem uw:∀ {ds:List PyData} {l:List Int},intsOf ds=some l->ds=l.map PyData.int
 | [],l,e=>by cases e;rfl
 | d::r,l,e=>by
  cases d <;> first | (cases e;done) | skip
  rename_i a;unfold intsOf at e;cases q:intsOf r with
  | none=>rw [q] at e;cases e
  | some t=>rw [q] at e;cases e;rw [uw q];rfl
theorem xg {K:PySem.W.Frag} {H:Hp} {d:PyData} {l:List Int} {v:V} (e:qg d=some (true,l)) (h:Is K H d v):∃ a,v=.ref a/\H a=some (.tup (l.map V.int)):=by
 unfold qg at e;split at e
 ·cases e
 ·rename_i ds;cases q:intsOf ds with
  | none=>rw [q] at e;cases e
  | some l' =>rw [q] at e;cases e;obtain ⟨a,xs,ev,hp,hx⟩:=h.ofTup;rw [uw q] at hx;exact ⟨a,ev,by rw [hp,hx.ofInts]⟩
 ·cases e
section
variable {X:Cx}
theorem DA {ks:List PyData} {A:List Addr} {pins:List (Addr×Obj)} {σ:St} {H:Hp} {s:Shared} (hu:X.A.in1.units<cLine) (hk:keysOk ks=true) {i j:Nat} {x y:V} {u v:Value} {a b:PyData} (I:Inv X.in1 pins σ H s)
  (ea:ks[i]?=some a) (eb:ks[j]?=some b) (hx:Is X.K (del H A) a x) (hy:Is X.K (del H A) b y) (rx:RelV x u) (ry:RelV y v) :
  wpAny (model X.prog X.w) X.A.in1 (richCompare .Lt u v) (fun r s'=>r=.bool (ltD a b)/\Inv X.in1 pins σ H s') (fun _ _=>False) s:=by
 have J:=I.wish fun _ _=>False
 have ma:a∈ks:=Lu ea;have mb:b∈ks:=Lu eb;unfold keysOk at hk;rcases Bool.or_eq_true_iff.mp hk with hk | hk
 ·have fa:=L4.mp hk a ma;have fb:=L4.mp hk b mb;cases ka:qg a with
  | none=>rw [ka] at fa;cases fa
  | some p=>obtain ⟨pa,la⟩:=p;cases pa with
   | true=>rw [ka] at fa;cases fa
   | false=>cases kb:qg b with
    | none=>rw [kb] at fb;cases fb
    | some p=>obtain ⟨pb,lb⟩:=p;cases pb with
     | true=>rw [kb] at fb;cases fb
     | false =>
      obtain ⟨n,rfl,rfl⟩:=Ad ka hx;obtain ⟨m,rfl,rfl⟩:=Ad kb hy;have e:ltD a b=decide (n<m):=by
       unfold ltD;rw [ka,kb];show HT.lexLt [n] [m]=_;rw [HT.qK,HT.lP];by_cases z:n=m
       ·subst z;simp
       ·simp [z]
      rw [e];refine thn (DV (X:=X.in1.wish fun _ _=>False) pins s σ H (.int n) (.int m) u v (fun r H'=>r=.bl (decide (n<m))/\H'=H) J rx ry ⟨n,m,rfl,rfl,rfl,rfl⟩) fun r s' rz2=>?_
      obtain ⟨v',H',J',rr,q1,q2⟩:=rz2;subst q1 q2;exact ⟨rr,J'.unwish⟩
 ·have fa:=L4.mp hk a ma;have fb:=L4.mp hk b mb;cases ka:qg a with
  | none=>rw [ka] at fa;cases fa
  | some p=>obtain ⟨pa,la⟩:=p;cases pa with
   | false=>rw [ka] at fa;cases fa
   | true=>cases kb:qg b with
    | none=>rw [kb] at fb;cases fb
    | some p=>obtain ⟨pb,lb⟩:=p;cases pb with
     | false=>rw [kb] at fb;cases fb
     | true =>
      obtain ⟨p,rfl,hp⟩:=xg ka hx;obtain ⟨q,rfl,hq⟩:=xg kb hy;have e:ltD a b=HT.lexLt la lb:=by unfold ltD;rw [ka,kb]
      rw [e];refine thn (G6 (X:=X.in1.wish fun _ _=>False) hu pins s σ H (.ref p) (.ref q) u v (fun r H'=>r=.bl (HT.lexLt la lb)/\H'=H) J rx ry ⟨p,q,la,lb,rfl,rfl,SqT.of (aI _ _ hp),SqT.of (aI _ _ hq),rfl,rfl⟩) fun r s' rz2=>?_
      obtain ⟨v',H',J',rr,q1,q2⟩:=rz2;subst q1 q2;exact ⟨rr,J'.unwish⟩
theorem BK {E:XK} {a body:Expr} {ga gb:Ds->Rs PyData} {pos lpos kp p0:Pos} {params:Arguments} {scope:Scope} {clos:List (Str×Addr)} {c P:Addr} {k:Nat} {N:List Str} {p:Str} {cap:List Nat}
  (hc:X.calm=true) (hm:X.mg "min"=none) (hr:cR (k+2) X.A) (ha:PD X E a ga) (T:Fb X c P) (hcl:closureFor scope X.env=pure clos) (S:nA N [p] scope)
  (hcl2:∀ x c,clos.lookup x=some c->X.env.cells.lookup x=some c) (has:∀ x,scope.names.lookup x=some .free->∃ c,clos.lookup x=some c) (hN:N.length=1+cap.length)
  (hcap:∀ (i m:Nat) (x:Str),N[1+i]?=some x->cap[i]?=some m->X.N[m]?=some x/\scope.names.lookup x=some .free/\(X.env.kindOf x=some .cell\/X.env.kindOf x=some .free)/\Vis X.env.scope x)
  (hb:∀ (c':Addr) (pm ctv u:Value),bindArgs (PySem.W.kla_fn "<lambda>" (X.env.qual++"<lambda>") params body scope clos pm (.ref c') ctv) ⟨[u],[]⟩=pure ([p].zip [u]))
  (hbody:∀ (q c':Addr) (s:Shared) (H:Hp),PD (uX (CXW X.prog X.w) X.prog X.w X.K X.mg X.base N (X.env.qual++"<lambda>") scope q (.ref c') clos X.A.in1 X.stack s H E0) E0 body gb)
  (hg:Gl X "min":=by rfl) (he:starEach [a] X.env=[(false,eval a X.env)]:=by rfl) (hdef:defaultsOf params X.env=([],[]):=by rfl) :
  PD X E (.Call (.Name "min" p0) [a] [⟨some "key",.Lambda params body scope lpos,kp⟩] pos) (j6 cap ga gb):=by
 refine (Bk hc hm ha (IH T hcl hdef) hg he (fun h k=>eD.weak h k) (fun h k f c' ctv H' n e s c=>k _ _ (h f c' ctv H' n e s c))).imp fun σ H Q rz3=>?_
 obtain ⟨A,δ,R,ou⟩:=rz3;unfold j6 at ou;refine eD.run R (fun d ed v H1 s1 R1 h1=>?_) (fun C et H' s'=>?_) (fun et=>?_)
 ·rw [ed,Rs.aj] at ou;cases d with
  | list ds =>
   by_cases hpos:0<ds.length
   case neg=>simp only [if_neg hpos] at ou;exact ou.elim
   simp only [if_pos hpos] at ou;cases ek:allR (fun x=>gb (some x::vD cap δ)) ds with
   | rz _=>rw [ek] at ou;exact ou.elim
   | no=>rw [ek] at ou;exact ou.elim
   | ok ks =>
    rw [ek] at ou;cases hko:keysOk ks with
    | false=>simp only [okR,hko] at ou;exact ou.elim
    | true =>
     simp only [okR,hko,if_true] at ou;intro f c' ctv H2 hn hf s2 hcode;obtain ⟨l,xs,rfl,hl,hx⟩:=h1.ofLst;have hlen:=hx.length;obtain ⟨hkl,hkg⟩:=yc ek;refine ⟨l,f,xs,fun H=>aA H2 H,fun i v H=>∃ kd,ks[i]?=some kd/\Is X.K (del H A) kd v,fun i j=>ltD (ks.getD i .none) (ks.getD j .none),rfl,rfl,by omega,aA.refl _,?_,fun H3 v s3 ev=>?_⟩
     ·refine Cb (t:=eD X.K E0 gb) (c':=c') (cap:=cap) S hr hcl2 has hN hcap (hb c' _ ctv) (fun H s=>s _ _ (s2 _ _ (aI _ _ hl))) (fun H s=>⟨s _ _ hf,?_⟩) (fun s H=>hbody f c' s H) (fun i x H ex s=>?_) (fun i j x y pins' H s u v I sΦ hx' hy' rx ry=>?_)
      ·obtain ⟨o,vs,t,e1,e2,e3⟩:=hcode;exact ⟨o,vs,t,s _ _ e1,e2,e3⟩
      ·obtain ⟨d,e1,hd⟩:=hx.get ex;obtain ⟨kd,e2,gk⟩:=hkg i d e1;have R':eK X.K H A δ σ:=R.same (s1.trans (s2.trans s));refine ⟨A,some d::vD cap δ,⟨R'.ls,by simp [vD],fun n d' e=>?_⟩,?_⟩
       ·cases n with
        | zero =>have e:some (some d)=some (some d'):=e;cases e;exact ⟨x,rfl,hd.same (aA.del (s2.trans s))⟩
        | succ n =>
         have e:(vD cap δ)[n]?=some (some d'):=by simpa using e
         unfold vD at e;rw [Lb] at e;cases hm':cap[n]? with
         | none=>rw [hm'] at e;cases e
         | some m =>
          rw [hm'] at e;have e3:(δ[m]?).join=some d':=by simpa using e
          have e4:δ[m]?=some (some d'):=by
           cases z:δ[m]? with
           | none=>rw [z] at e3;cases e3
           | some w=>rw [z] at e3;cases w with
            | none=>cases e3
            | some w=>cases e3;rfl
          obtain ⟨v',e5,h5⟩:=R'.get m d' e4;exact ⟨v',by simp [hm',e5],h5⟩
       ·have gk':gb (some d::vD cap δ)=.ok kd:=gk;rw [gk'];exact fun v H' s' q=>⟨s.trans s',⟨kd,e2,q⟩,fun j v' qz2=>(by obtain ⟨kd',e3,e4⟩:=qz2;exact ⟨kd',e3,e4.same s'.del⟩)⟩
      ·obtain ⟨ka,e1,h1'⟩:=hx';obtain ⟨kb,e2,h2'⟩:=hy';have:=DA (X:=X) (by have:=hr.un;show X.A.units+1<_;omega) hko I e1 e2 h1' h2' rx ry;rw [Lh,Lh,e1,e2];exact this
     ·rw [hlen] at ev;obtain ⟨d,e1,hd⟩:=hx.get ev;rw [e1] at ou;exact ou v H3 (s1.trans (s2.trans s3)) (hd.same (aA.del (s2.trans s3)))
  | _=>exact ou.elim
 ·rw [et] at ou;exact ou H' s'
 ·rw [et] at ou;exact ou
end
section
variable {K:PySem.W.Frag} {H:Hp} {a:Addr}
mutual
theorem Is.off {C dx:Addr} {fs:List (Str×V)} (ha:H a=some (.ins C dx fs)):∀ {d:PyData} {v:V},aP d=true->Is K H d v->Is K (del H [a]) d v
 | .none,_,_,h=>by unfold Is at h ⊢;exact h
 | .bool _,_,_,h=>by unfold Is at h ⊢;exact h
 | .int _,_,_,h=>by unfold Is at h ⊢;exact h
 | .str _,_,_,h=>by unfold Is at h ⊢;exact h
 | .dict _,_,n,_=>by unfold aP at n;cases n
 | .list ds,_,n,h=>by unfold aP at n;obtain ⟨b,xs,e,h1,h2⟩:=h.ofLst;subst e;exact kI (by rw [ba (fun z=>by rw [KW.mp z,ha] at h1;cases h1)];exact h1) (Iss.off ha n h2)
 | .tuple ds,_,n,h=>by unfold aP at n;obtain ⟨b,xs,e,h1,h2⟩:=h.ofTup;subst e;exact jL (by rw [ba (fun z=>by rw [KW.mp z,ha] at h1;cases h1)];exact h1) (Iss.off ha n h2)
theorem Iss.off {C dx:Addr} {fs:List (Str×V)} (ha:H a=some (.ins C dx fs)):∀ {ds:List PyData} {vs:List V},d8 ds=true->Iss K H ds vs->Iss K (del H [a]) ds vs
 | [],_,_,h=>by rw [h.nil_of];exact dH
 | d::ds,_,n,h=>by unfold d8 at n;obtain ⟨n1,n2⟩:=Lx.mp n;obtain ⟨v,r,e,h1,h2⟩:=h.cons_of;subst e;exact dk (Is.off ha n1 h1) (Iss.off ha n2 h2)
end
def lW:List (PyData×PyData)->Bool
 | []=>true
 | (_,d)::r=>aP d&&lW r
theorem Isk.off {C dx:Addr} {fs:List (Str×V)} (ha:H a=some (.ins C dx fs)):∀ {ds:List (PyData×PyData)} {gs:List (Str×V)},lW ds=true->Isk K H ds gs->Isk K (del H [a]) ds gs
 | [],_,_,h=>by unfold Isk at h ⊢;exact h
 | (k,d)::ds,_,n,h=>by unfold lW at n;obtain ⟨n1,n2⟩:=Lx.mp n;unfold Isk at h ⊢;obtain ⟨f,v,r,e1,e2,h1,h2⟩:=h;exact ⟨f,v,r,e1,e2,Is.off ha n1 h1,Isk.off ha n2 h2⟩
def lr:List (PyData×PyData)->Option Int
 | (.str x,.int _)::(.str y,.int b)::r=>if x=""/\y="@"/\lW r then some b else none
 | _=>none
mutual
def objs:PyData->Bool
 | .list ds=>kR ds
 | .tuple ds=>kR ds
 | .dict kvs=>(lr kvs).isSome
 | _=>true
def kR:List PyData->Bool
 | []=>true
 | d::ds=>objs d&&kR ds
end
mutual
def fP (a:Addr) (nd:PyData):PyData->PyData
 | .list ds=>.list (kj a nd ds)
 | .tuple ds=>.tuple (kj a nd ds)
 | .dict kvs=>if lr kvs=some (a:Int) then nd else .dict kvs
 | d=>d
def kj (a:Addr) (nd:PyData):List PyData->List PyData
 | []=>[]
 | d::ds=>fP a nd d::kj a nd ds
end
end
def l9 (a:Addr) (nd:PyData) (δ:Ds):Ds:=δ.map fun d=>d.map (fP a nd)
theorem mY {a:Addr} {nd:PyData} {δ:Ds} {i:Nat} {d:PyData} (h:(l9 a nd δ)[i]?=some (some d)):∃ d0,δ[i]?=some (some d0)/\d=fP a nd d0:=by
 unfold l9 at h;rw [Lb] at h;cases e:δ[i]? with
 | none=>rw [e] at h;cases h
 | some x=>cases x with
  | none=>rw [e] at h;cases h
  | some d0=>rw [e] at h;cases h;exact ⟨d0,rfl,rfl⟩
theorem wH {H:Hp} {B:List Addr} {a:Addr} {o:HO} (h:a∉B):del (upd H a o) B=upd (del H B) a o:=by
 funext b;by_cases z:b=a
 ·subst z;rw [ba h,aV,aV]
 ·rw [aL z];by_cases y:b∈B
  ·rw [iI y,iI y]
  ·rw [ba y,ba y,aL z]
section
variable {K:PySem.W.Frag} {H H':Hp} {a:Addr}
theorem jw {o:HO} {b:Addr} {C dx:Addr} {fs:List (Str×V)} (hS:aA (del H [a]) H') (ha:H a=some (.ins C dx fs)) (hb:H b=some o) (hne:b≠a):H' b=some o :=
 hS _ _ (by rw [ba (fun z=>hne (KW.mp z))];exact hb)
mutual
theorem Is.mutH {C dx:Addr} {fs:List (Str×V)} {nd:PyData} (ha:H a=some (.ins C dx fs)) (hS:aA (del H [a]) H') (hn:Is K H' nd (.ref a)):∀ {d:PyData} {v:V},objs d=true->Is K H d v->Is K H' (fP a nd d) v
 | .none,_,_,h=>by unfold fP;unfold Is at h ⊢;exact h
 | .bool _,_,_,h=>by unfold fP;unfold Is at h ⊢;exact h
 | .int _,_,_,h=>by unfold fP;unfold Is at h ⊢;exact h
 | .str _,_,_,h=>by unfold fP;unfold Is at h ⊢;exact h
 | .list ds,_,n,h=>by unfold objs at n;obtain ⟨b,xs,e,h1,h2⟩:=h.ofLst;subst e;unfold fP;exact kI (jw hS ha h1 (fun z=>by rw [z,ha] at h1;cases h1)) (Iss.mutH ha hS hn n h2)
 | .tuple ds,_,n,h=>by unfold objs at n;obtain ⟨b,xs,e,h1,h2⟩:=h.ofTup;subst e;unfold fP;exact jL (jw hS ha h1 (fun z=>by rw [z,ha] at h1;cases h1)) (Iss.mutH ha hS hn n h2)
 | .dict kvs,v,n,h=>by
  unfold objs at n;unfold fP;unfold lr at n ⊢;split at n
  case h_2=>cases n
  rename_i x cI y b r;split at n
  case isFalse=>cases n
  rename_i hh;obtain ⟨rfl,rfl,hr⟩:=hh;have hb:∃ (b':Addr) (C' dx':Addr) (gs:List (Str×V)),v=.ref b'/\b=(b':Int)/\cI=(C':Int)/\H b'=some (.ins C' dx' gs)/\gs.lookup ("@":Str)=none/\Isk K H r gs:=by
   unfold Is at h;rcases h with (⟨a',ns,_,e,_⟩ | ⟨a',l,_,e,_⟩) | ⟨a',C',dx',gs,e,h1,hn',h2 | h2⟩
   ·cases e
   ·cases l <;> cases e
   ·unfold Isk at h2;obtain ⟨f,u,r',e1,e2,h3,h4⟩:=h2;cases e1;unfold Isk at h4;obtain ⟨f,u,r',e1,e2,h5,h6⟩:=h4;injection e2 with e2
    subst e2 e1;rw [Ld] at hn';simp at hn'
   ·unfold Isk at h2;obtain ⟨f,u,r',e1,e2,h3,h4⟩:=h2;cases e1;have e5:=h3.ofInt;injection e5 with e5
    unfold Isk at h4;obtain ⟨f,u,r',e1,e2,h5,h6⟩:=h4;cases e1;have e7:=h5.ofInt;injection e7 with e7
    exact ⟨a',C',dx',gs,e,e7.symm,e5.symm,h1,hn',h6⟩
  obtain ⟨b',C',dx',gs,rfl,rfl,rfl,h1,hl,h2⟩:=hb;simp only [hr,and_self,if_true];by_cases z:b'=a
  ·subst z;rw [if_pos rfl];exact hn
  ·have zz:¬ (some (b':Int)=some (a:Int)):=fun q=>z (Int.ofNat.inj (Option.some.inj q))
   rw [if_neg zz];unfold Is;refine .inr ⟨b',C',dx',gs,rfl,jw hS ha h1 z,hl,.inr (ff ck (ff ck ?_))⟩;exact (Isk.off ha hr h2).same hS
theorem Iss.mutH {C dx:Addr} {fs:List (Str×V)} {nd:PyData} (ha:H a=some (.ins C dx fs)) (hS:aA (del H [a]) H') (hn:Is K H' nd (.ref a)):∀ {ds:List PyData} {vs:List V},kR ds=true->Iss K H ds vs->Iss K H' (kj a nd ds) vs
 | [],_,_,h=>by rw [h.nil_of];unfold kj;exact dH
 | d::ds,_,n,h=>by unfold kR at n;obtain ⟨n1,n2⟩:=Lx.mp n;obtain ⟨v,r,e,h1,h2⟩:=h.cons_of;subst e;unfold kj;exact dk (Is.mutH ha hS hn n1 h1) (Iss.mutH ha hS hn n2 h2)
end
theorem Fv {B:List Addr}:aA (del H [a]) H'->aA (del (del H B) [a]) (del H' B):=fun hS b o e=>by obtain ⟨e1,e2⟩:=bL e;obtain ⟨e3,e4⟩:=bL e2;rw [ba e3];exact hS b o (by rw [ba e1];exact e4)
theorem cz.mutH {H0:Hp} {A0 A:List Addr} {O:List Nat} {δ:Ds} {σ:St} {C dx:Addr} {fs:List (Str×V)} {nd:PyData} (R:cz K H0 A0 H A O δ σ)
  (ha:H a=some (.ins C dx fs)) (h0:H0 a=none) (ho:∀ (i:Nat) d,δ[i]?=some (some d)->objs d=true) (hS:aA (del H [a]) H') (hn:Is K (del H' (A++A0)) nd (.ref a)):cz K H0 A0 H' A O (l9 a nd δ) σ:=by
 have hl0:Ls H A0:=R.ls0.same R.same;have na:a∉A++A0:=fun z=>by
  rcases Lg.mp z with z | z
  ·obtain ⟨xs,e,q⟩:=R.ls a z;rw [ha] at e;cases e;cases q
  ·obtain ⟨xs,e,q⟩:=hl0 a z;rw [ha] at e;cases e;cases q
 have hd:del H (A++A0) a=some (.ins C dx fs):=by rw [ba na];exact ha
 have hS2:aA (del (del H (A++A0)) [a]) (del H' (A++A0)):=Fv hS;refine ⟨fun b u e=>?_,R.ls0,R.new,fun b hb=>?_,?_,fun i d hi e=>?_,fun i d hi e=>?_,fun i j d e b hi hj e1 e2 e3 e4=>?_⟩
 ·exact jw hS ha (R.same b u e) (fun z=>by rw [z,h0] at e;cases e)
 ·obtain ⟨xs,e,q⟩:=R.ls b hb;exact ⟨xs,jw hS ha e (fun z=>by rw [z,ha] at e;cases e;cases q),q⟩
 ·unfold l9;rw [K5];exact R.len
 ·obtain ⟨d0,e0,rfl⟩:=mY e;obtain ⟨v,e1,h1⟩:=R.pl i d0 hi e0;exact ⟨v,e1,Is.mutH hd hS2 hn (ho i d0 e0) h1⟩
 ·obtain ⟨d0,e0,rfl⟩:=mY e;obtain ⟨b,o',d1,e1,hb,hp,rfl,h1⟩:=R.own i d0 hi e0;have hoo:=ho i _ e0;obtain ⟨ds,xs,rfl,rfl⟩:∃ ds xs,d0=.list ds/\o'=.lst xs:=by
   unfold iH at h1;split at h1
   ·exact ⟨_,_,rfl,rfl⟩
   ·obtain ⟨m,rfl,_⟩:=h1;exfalso;unfold objs lr at hoo;cases m <;> simp at hoo
   ·exact h1.elim
  have h1:Iss K _ ds xs:=h1;have:=ho i _ e0;unfold objs at this;exact ⟨b,.lst xs,.list (kj a nd ds),e1,hb,jw hS ha hp (fun z=>by rw [z,ha] at hp;cases hp),by unfold fP;rfl,Iss.mutH hd hS2 hn this h1⟩
 ·obtain ⟨d0,q1,_⟩:=mY e1;obtain ⟨d1,q2,_⟩:=mY e2;exact R.inj i j d0 d1 b hi hj q1 q2 e3 e4
end
def sDN (as:List Addr) (K:PySem.W.Frag) (E:XK) (O:List Nat) (G:Ds->Sr):TS:=fun D σ H=>∃ H0 A0 A δ,(∀ a∈as,H0 a=none)/\cz K H0 A0 H A O δ σ/\oH K E H0 A0 O (G δ) D
def PSN (as:List Addr) (X:Cx) (E:XK) (O:List Nat) (s:Stmt) (G:Ds->Sr):Prop:=PS X s (sDN as X.K E O G)
def PBN (as:List Addr) (X:Cx) (E:XK) (O:List Nat) (ss:List Stmt) (G:Ds->Sr):Prop:=PSs X ss (sDN as X.K E O G)
section
variable {as:List Addr} {X:Cx} {E:XK} {O:List Nat} {st:Stmt} {ss:List Stmt} {G G':Ds->Sr} {c:Expr} {ca:Ds->Rs Bool} {pos:Pos}
theorem oJ (h:PSD X E O st G):PSN as X E O st G:=h.imp fun D σ H qz3=>(by obtain ⟨H0,A0,A,δ,_,R,o⟩:=qz3;exact ⟨H0,A0,A,δ,R,o⟩)
theorem Hz (h:PBD X E O ss G):PBN as X E O ss G:=h.imp fun D σ H qz3=>(by obtain ⟨H0,A0,A,δ,_,R,o⟩:=qz3;exact ⟨H0,A0,A,δ,R,o⟩)
theorem AG:PBN as X E O [] bO:=Hz bW
theorem fD (h1:PSN as X E O st G) (h2:PBN as X E O ss G'):PBN as X E O (st::ss) (aK G G'):=(ej h1 h2).imp fun D σ H ⟨H0,A0,A,δ,hn,R,o⟩=>⟨H0,A0,A,δ,hn,R,by
 unfold aK at o;cases q:G δ with
 | nx δ'=>rw [q] at o;exact fun A' σ' H' R'=>⟨H0,A0,A',δ',hn,R',o⟩
 | rt d=>rw [q] at o;exact o
 | rz C=>rw [q] at o;exact o
 | bk d=>rw [q] at o;exact o
 | ct d=>rw [q] at o;exact o
 | no=>rw [q] at o;exact o⟩
theorem jT (h1:PSN as X E O st G):PBN as X E O [st] G:=(jW h1).imp fun D σ H h=>h
theorem zx {ss':List Stmt} (hc:PCD X E c ca) (h1:PBN as X E O ss G) (h2:PBN as X E O ss' G'):PSN as X E O (.If c ss ss' pos) (sIf ca G G'):=(A8 hc h1 h2).imp fun D σ H pz3=>by
 obtain ⟨H0,A0,A,δ,hn,R,o⟩:=pz3;unfold sIf at o;refine cD.run R.full (fun t et H1 s1 R1=>?_) (fun C et H' s'=>?_) (fun et=>?_)
 ·rw [et] at o;cases t with
  | true=>exact ⟨H0,A0,A,δ,hn,R.step s1,o⟩
  | false=>exact ⟨H0,A0,A,δ,hn,R.step s1,o⟩
 ·rw [et] at o;exact o H' (R.same.trans s')
 ·rw [et] at o;exact o
theorem BU (fuel:Nat) (hp:PassesOwn (model X.prog X.w) X.A X.env X.xe) (hc:PCD X E c ca) (hb:PBN as X E O ss G):PSN as X E O (.While c ss [] pos) (fun δ=>cg ca G fuel δ):=(xC hp hc hb).imp fun D σ H pz3=>by
 obtain ⟨H0,A0,A,δ,hn,R,o⟩:=pz3;refine ⟨fun m σ H=>∃ A δ,cz X.K H0 A0 H A O δ σ/\oH X.K E H0 A0 O (cg ca G m δ) D,⟨fuel,A,δ,R,o⟩,?_⟩
 rintro m σ H ⟨A,δ,R,o⟩
 cases m with
 | zero=>exact o.elim
 | succ m =>
  unfold cg at o;refine cD.run R.full (fun t et H1 s1 R1=>?_) (fun C et H' s'=>?_) (fun et=>?_)
  ·rw [et] at o;cases t with
   | false=>exact o A σ H1 (R.step s1)
   | true =>
    refine ⟨fun σ' H'=>∃ A δ,cz X.K H0 A0 H' A O δ σ'/\oH X.K E H0 A0 O (cg ca G m δ) D,fun σ' H' q=>⟨m,LR m,q⟩,H0,A0,A,δ,hn,R.step s1,?_⟩;have o:oH X.K E H0 A0 O (match G δ with
     | .nx δ2=>cg ca G m δ2
     | .ct δ2=>cg ca G m δ2
     | .bk δ2=>.nx δ2
     | .rt v=>.rt v
     | .rz C=>.rz C
     | .no=>.no) D:=o
    cases eb:G δ with
    | nx δ2=>rw [eb] at o;exact fun A4 σ4 H4 R4=>⟨A4,δ2,R4,o⟩
    | ct δ2=>rw [eb] at o;exact fun A4 σ4 H4 R4=>⟨A4,δ2,R4,o⟩
    | bk δ2=>rw [eb] at o;exact o
    | rt v=>rw [eb] at o;exact o
    | rz C=>rw [eb] at o;exact o
    | no=>rw [eb] at o;exact o.elim
  ·rw [et] at o;exact o H' (R.same.trans s')
  ·rw [et] at o;exact o
end
def my:List (PyData×PyData)->Option (List (Str×PyData))
 | []=>some []
 | (.str f,d)::r=>(my r).map fun l=>(f,d)::l
 | _=>none
theorem va:∀ {r:List (PyData×PyData)} {fds:List (Str×PyData)},my r=some fds->r=fds.map fun p=>(.str p.1,p.2)
 | [],fds,e=>by cases e;rfl
 | (k,d)::r,fds,e=>by
  cases k <;> first | (cases e;done) | skip
  rename_i f;unfold my at e;cases q:my r with
  | none=>rw [q] at e;cases e
  | some l=>rw [q] at e;cases e;rw [va q];rfl
theorem qX:∀ fds:List (Str×PyData),my (fds.map fun p=>(.str p.1,p.2))=some fds
 | []=>rfl
 | p::r=>by rw [K1];unfold my;rw [qX r];rfl
def objOf:PyData->Option (Addr×Addr×List (Str×PyData))
 | .dict ((.str x,.int c)::(.str y,.int b)::r)=>if x=""/\y="@"/\0<=c/\0<=b then (my r).map fun l=>(c.toNat,b.toNat,l) else none
 | _=>none
theorem CQ {d:PyData} {C a:Addr} {fds:List (Str×PyData)} (e:objOf d=some (C,a,fds)):d=cY C a fds:=by
 unfold objOf at e;split at e
 ·rename_i x c y b r;split at e
  ·rename_i h;obtain ⟨rfl,rfl,h0,h1⟩:=h;obtain ⟨l,q,e⟩:=Mc.mp e;cases e;rw [va q];unfold cY;rw [LP h0,LP h1]
  ·cases e
 ·cases e
theorem uA (C a:Addr) (fds:List (Str×PyData)):objOf (cY C a fds)=some (C,a,fds):=by unfold cY objOf;simp only [Ma,and_self,if_true,qX,M9,Ll]
def p7 (f:Str):List (Str×PyData)->Option PyData
 | []=>none
 | (g,d)::r=>if g=f then some d else p7 f r
def sI (f:Str) (v:PyData):List (Str×PyData)->List (Str×PyData)
 | []=>[(f,v)]
 | (g,x)::r=>if g=f then (g,v)::r else (g,x)::sI f v r
theorem Isk.put {K:PySem.W.Frag} {H:Hp} {f:Str} {d:PyData} {v:V} (hv:Is K H d v):∀ {fds:List (Str×PyData)} {gs:List (Str×V)},Isk K H (fds.map fun p=>(.str p.1,p.2)) gs->Isk K H ((sI f d fds).map fun p=>(.str p.1,p.2)) (i4 f v gs)
 | [],gs,h=>by rw [LS] at h;unfold Isk at h;subst h;exact ff hv qE
 | (g,x)::r,gs,h=>by
  rw [K1] at h;unfold Isk at h;obtain ⟨g',u,gs',rfl,e,h1,h2⟩:=h;injection e with e
  subst e;show Isk K H ((if g=f then (g,d)::r else (g,x)::sI f d r).map _) (if g=f then (g,v)::gs' else (g,u)::i4 f v gs');by_cases z:g=f
  ·rw [if_pos z,if_pos z];exact ff hv h2
  ·rw [if_neg z,if_neg z];exact ff h1 (Isk.put hv h2)
theorem Isk.look {K:PySem.W.Frag} {H:Hp} {f:Str} {d:PyData}:∀ {fds:List (Str×PyData)} {gs:List (Str×V)},Isk K H (fds.map fun p=>(.str p.1,p.2)) gs->p7 f fds=some d->∃ v,gs.lookup f=some v/\Is K H d v
 | [],gs,h,e=>by cases e
 | (g,x)::r,gs,h,e=>by
  rw [K1] at h;unfold Isk at h;obtain ⟨g',u,gs',rfl,e2,h1,h2⟩:=h;injection e2 with e2
  subst e2;unfold p7 at e;rw [Ld];by_cases z:g=f
  ·rw [if_pos z] at e;cases e;subst z;simp only [beq_self_eq_true];exact ⟨u,rfl,h1⟩
  ·rw [if_neg z] at e;rw [show (f==g)=false by simpa using fun q=>z q.symm];exact Isk.look h2 e
theorem Isk.len {K:PySem.W.Frag} {H:Hp}:∀ {fds:List (PyData×PyData)} {gs:List (Str×V)},Isk K H fds gs->gs.length=fds.length
 | [],_,h=>by unfold Isk at h;rw [h];rfl
 | (k,d)::r,_,h=>by unfold Isk at h;obtain ⟨_,_,_,rfl,_,_,h2⟩:=h;rw [L6,L6,Isk.len h2]
theorem Is.atObj {K:PySem.W.Frag} {H:Hp} {C a:Addr} {fds:List (Str×PyData)} {v:V} (h:Is K H (cY C a fds) v):v=.ref a/\∃ dx gs,H a=some (.ins C dx gs)/\gs.lookup ("@":Str)=none/\Isk K H (fds.map fun p=>(.str p.1,p.2)) gs:=by
 unfold cY at h;unfold Is at h;rcases h with (⟨a',ns,_,e,_⟩ | ⟨a',l,_,e,_⟩) | ⟨a',C',dx',gs,e,h1,hn',h2 | h2⟩
 ·cases e
 ·cases l <;> cases e
 ·unfold Isk at h2;obtain ⟨f,u,r',e1,e2,h3,h4⟩:=h2;cases e1;unfold Isk at h4;obtain ⟨f,u,r',e1,e2,h5,h6⟩:=h4;injection e2 with e2
  subst e2 e1;rw [Ld] at hn';simp at hn'
 ·unfold Isk at h2;obtain ⟨f,u,r',e1,e2,h3,h4⟩:=h2;cases e1;have e5:=h3.ofInt;injection e5 with e5
  obtain rfl:C'=C:=Int.ofNat.inj e5;unfold Isk at h4;obtain ⟨f,u,r',e1,e2,h5,h6⟩:=h4;cases e1;have e7:=h5.ofInt;injection e7 with e7
  obtain rfl:a'=a:=Int.ofNat.inj e7;exact ⟨e,dx',gs,h1,hn',h6⟩
def hZ (fds:List (Str×PyData)):Bool:=lW (fds.map fun p=>(.str p.1,p.2))
theorem wV (C a:Addr) (fds:List (Str×PyData)):objs (cY C a fds)=hZ fds:=by unfold cY objs lr hZ;cases h:lW (fds.map fun p=>(PyData.str p.1,p.2)) <;> simp [h]
def ij (δ:Ds):Bool:=δ.all fun o=>match o with | some d=>objs d | none=>true
theorem lq {δ:Ds} (h:ij δ=true) (i:Nat) (d:PyData) (e:δ[i]?=some (some d)):objs d=true:=by have:=L4.mp h _ (Lu e);exact this
theorem Em {K:PySem.W.Frag} {H:Hp} {B:List Addr} {C a dx:Addr} {fds:List (Str×PyData)} {gs:List (Str×V)} {f:Str} {z:Int} (hB:a∉B) (ha:H a=some (.ins C dx gs)) (hl:gs.lookup ("@":Str)=none) (hf:f≠"@") (hk:hZ fds=true) (h:Isk K (del H B) (fds.map fun p=>(.str p.1,p.2)) gs) :
  Is K (del (upd H a (.ins C dx (i4 f (.int z) gs))) B) (cY C a (sI f (.int z) fds)) (.ref a):=by
 rw [wH hB];refine Eu (dx:=dx) (fs:=i4 f (.int z) gs) (aV) (by rw [lg,if_neg (fun q=>hf q.symm)];exact hl) (Isk.put ck ?_);have hd:del H B a=some (.ins C dx gs):=by rw [ba hB];exact ha
 refine (Isk.off hd hk h).same fun b o e=>?_
 obtain ⟨e1,e2⟩:=bL e;rw [aL (fun q=>e1 (by rw [q];exact KW.mpr rfl))];exact e2
theorem yw {H:Hp} {a:Addr} {o:HO}:aA (del H [a]) (upd H a o):=fun b u e=>by obtain ⟨e1,e2⟩:=bL e;rw [aL (fun q=>e1 (by rw [q];exact KW.mpr rfl))];exact e2
def pM (as:List Addr) (C:Addr) (i:Nat) (δ:Ds):Option (Addr×List (Str×PyData)):=match δ[i]? with
 | some (some d)=>(match objOf d with
  | some (C',a,fds)=>if C'=C/\a∈as/\ij δ=true/\hZ fds=true/\fds.length<1000 then some (a,fds) else none
  | none=>none)
 | _=>none
theorem oM {as:List Addr} {C:Addr} {i:Nat} {δ:Ds} {a:Addr} {fds:List (Str×PyData)} (h:pM as C i δ=some (a,fds)):δ[i]?=some (some (cY C a fds))/\a∈as/\ij δ=true/\hZ fds=true/\fds.length<1000:=by
 unfold pM at h;split at h
 ·rename_i d e;split at h
  ·rename_i C' a' fds' q;split at h
   ·rename_i c;cases h;obtain ⟨rfl,c1,c2,c3,c4⟩:=c;rw [e,CQ q];exact ⟨rfl,c1,c2,c3,c4⟩
   ·cases h
  ·cases h
 ·cases h
def nF (as:List Addr) (C:Addr) (i:Nat) (f:Str) (g:Ds->Rs PyData):Ds->Sr:=fun δ=>match pM as C i δ with
 | some (a,fds)=>ofR (g δ) fun d=>match d with
  | .int z=>.nx (l9 a (cY C a (sI f (.int z) fds)) δ)
  | _=>.no
 | none=>.no
def fk (as:List Addr) (C:Addr) (i:Nat) (f:Str) (g:Ds->Rs PyData):Ds->Sr:=fun δ=>match pM as C i δ with
 | some (a,fds)=>(match p7 f fds with
  | some (.int n)=>ofR (g δ) fun d=>match d with
   | .int z=>.nx (l9 a (cY C a (sI f (.int (n+z)) fds)) δ)
   | _=>.no
  | _=>.no)
 | none=>.no
section
variable {as:List Addr} {X:Cx} {E:XK} {O:List Nat} {o value:Expr} {g:Ds->Rs PyData} {pos pos' tpos:Pos} {C:Addr} {f:Str} {i:Nat}
theorem Ak (ho:PD X E o (af i)) (hv:PD X E value g) (cl:Cls X.K C) (na:eG X.K C f) (hi:i∉O:=by decide) (hf:f≠"@":=by decide) (hs:swapsWith value (some (.Attribute o f pos')) pos.line X.env=pure false:=by rfl):PSN as X E O (.Assign [.Attribute o f pos'] value pos) (nF as C i f g):=(lj ho hv hs).imp fun D σ H pz3=>by
 obtain ⟨H0,A0,A,δ,hn,R,ou⟩:=pz3;unfold nF at ou;split at ou
 case h_2=>exact ou.elim
 rename_i a fds q;obtain ⟨e,ha,hob,hfl,hln⟩:=oM q;refine eD.run R.full (fun d ed v H1 s1 R1 hv=>?_) (fun C et H' s'=>?_) (fun et=>?_)
 ·rw [ed] at ou;cases d with
  | int z =>
   have hv':=hv.ofInt;subst hv';have e2:af i δ=.ok (cY C a fds):=by unfold af;rw [e]
   refine eD.run (R.step s1).full (fun d2 ed2 v2 H2 s2 R2 hv2=>?_) (fun C et H' s'=>?_) (fun et=>?_)
   ·rw [e2] at ed2;cases ed2;obtain ⟨rfl,dx,gs,hp,hl,hk⟩:=hv2.atObj;have R2':=R.step (s1.trans s2);obtain ⟨v3,e3,h3⟩:=R2'.pl i _ hi e;obtain ⟨rfl,dx',gs',hp',hl',hk'⟩:=h3.atObj;have hpH:H2 a=some (.ins C dx' gs'):=(bL hp').2;have hpA:a∉A++A0:=(bL hp').1;refine ⟨a,C,dx',gs',rfl,hpH,cl,na,by rw [hk'.len,K5];exact hln,?_⟩;exact ou A σ _ (R2'.mutH hpH (hn a ha) (lq hob) yw (Em hpA hpH hl' hf hfl hk'))
   ·rw [e2] at et;cases et
   ·rw [e2] at et;cases et
  | _=>exact ou.elim
 ·rw [et] at ou;exact ou H' (R.same.trans s')
 ·rw [et] at ou;exact ou
theorem mE (ho:PD X E o (af i)) (hv:PD X E value g) (cl:Cls X.K C) (na:eG X.K C f) (hi:i∉O:=by decide) (hf:f≠"@":=by decide):PSN as X E O (.AugAssign (.Attribute o f tpos) .Add value pos) (fk as C i f g):=(B1 ho hv HK).imp fun D σ H pz3=>by
 obtain ⟨H0,A0,A,δ,hn,R,ou⟩:=pz3;unfold fk at ou;split at ou
 case h_2=>exact ou.elim
 rename_i a fds q;obtain ⟨e,ha,hob,hfl,hln⟩:=oM q;split at ou
 case h_2=>exact ou.elim
 rename_i n hlk;have e2:af i δ=.ok (cY C a fds):=by unfold af;rw [e]
 refine eD.run R.full (fun d2 ed2 v2 H1 s1 R1 hv2=>?_) (fun C et H' s'=>?_) (fun et=>?_)
 ·rw [e2] at ed2;cases ed2;obtain ⟨rfl,dx,gs,hp,hl,hk⟩:=hv2.atObj;obtain ⟨v,ev,hvi⟩:=hk.look hlk;have hv':=hvi.ofInt;subst hv';refine ⟨a,C,dx,gs,.int n,rfl,(bL hp).2,cl,na,ev,?_⟩;refine eD.run (R.step s1).full (fun d ed w H2 s2 R2 hw=>?_) (fun C et H' s'=>?_) (fun et=>?_)
  ·rw [ed] at ou;cases d with
   | int z =>have hw':=hw.ofInt;subst hw';refine ⟨n,z,rfl,rfl,?_⟩;have R2':=R.step (s1.trans s2);obtain ⟨v3,e3,h3⟩:=R2'.pl i _ hi e;obtain ⟨rfl,dx',gs',hp',hl',hk'⟩:=h3.atObj;have hpH:H2 a=some (.ins C dx' gs'):=(bL hp').2;have hpA:a∉A++A0:=(bL hp').1;refine ⟨dx',gs',hpH,by rw [hk'.len,K5];exact hln,?_⟩;exact ou A σ _ (R2'.mutH hpH (hn a ha) (lq hob) yw (Em hpA hpH hl' hf hfl hk'))
   | _=>exact ou.elim
  ·rw [et] at ou;exact ou H' (R.same.trans (s1.trans s'))
  ·rw [et] at ou;exact ou
 ·rw [e2] at et;cases et
 ·rw [e2] at et;cases et
end
def spM (K:PySem.W.Frag) (C:Addr) (g:List (Str×PyData)->Option (List (Str×PyData))):Sp:=fun vs H Q E=>∃ A a fds fds',vs=[.ref a]/\Ls H A/\Is K (del H A) (cY C a fds) (.ref a)/\hZ fds=true/\fds.length<1000/\g fds=some fds' /\
 ∀ H',aA (del H [a]) H'->Is K (del H' A) (cY C a fds') (.ref a)->Q .non H'
structure uJ (P:Program) (w:World) (K:PySem.W.Frag) (mg:Str->Option Value) (base:Heap) (k:Nat) (C:Addr) (m:Str) (g:List (Str×PyData)->Option (List (Str×PyData))):Prop where
 ex:∃ f fd ps,Cls K C/\Meth K C m f/\iC P w K mg base (CXW P w) k f fd ps (spM K C g)/\Binds K fd ps []
theorem tF {K:PySem.W.Frag} {H:Hp} {f:Str}:∀ {fds:List (Str×PyData)} {gs:List (Str×V)},Isk K H (fds.map fun p=>(.str p.1,p.2)) gs->p7 f fds=none->gs.lookup f=none
 | [],gs,h,_=>by rw [LS] at h;unfold Isk at h;rw [h];rfl
 | (g,x)::r,gs,h,e=>by
  rw [K1] at h;unfold Isk at h;obtain ⟨g',u,gs',rfl,e2,h1,h2⟩:=h;injection e2 with e2
  subst e2;unfold p7 at e;rw [Ld];by_cases z:g=f
  ·rw [if_pos z] at e;cases e
  ·rw [if_neg z] at e;rw [show (f==g)=false by simpa using fun q=>z q.symm];exact tF h2 e
def pf (as:List Addr) (C:Addr) (m:Str) (i:Nat) (g:List (Str×PyData)->Option (List (Str×PyData))):Ds->Sr:=fun δ=>match pM as C i δ with
 | some (a,fds)=>if p7 m fds=none then (match g fds with
  | some fds'=>.nx (l9 a (cY C a fds') δ)
  | none=>.no) else .no
 | none=>.no
section
variable {as:List Addr} {X:Cx} {E:XK} {O:List Nat} {o:Expr} {pos apos spos:Pos} {C:Addr} {m:Str} {i:Nat} {g:List (Str×PyData)->Option (List (Str×PyData))}
theorem Dz {k j:Nat} {pl:Sem Bool} (D:uJ X.prog X.w X.K X.mg X.base k C m g) (hr:cR j X.A) (hx:Passes (CXW X.prog X.w) X E) (ho:PD X E o (af i)) (hk:k<=j:=by decide) (hi:i∉O:=by decide)
  (ht:eval (.Call (.Attribute o m apos) [] [] pos) X.env=(do
   let ov <-eval o X.env
   standAt apos.atName
   let (f,first) <-holding [ov] (getMethod ov m pl)
   callWith pos f first (backTo pos (starEach [] X.env)) (backToKw pos (keywordEach [] X.env))):=by rfl)
  (hs:swapsWith (.Call (.Attribute o m apos) [] [] pos) none spos.line X.env=pure false:=by rfl) :
  PSN as X E O (.Expr (.Call (.Attribute o m apos) [] [] pos) spos) (pf as C m i g):=by
 obtain ⟨f,fd,ps,cl,hm,F,hb⟩:=D.ex;refine (qB (xA ho cl hm F (hr.mono hk) hb .nil hx ht) hs).imp fun D σ H rz3=>?_
 obtain ⟨H0,A0,A,δ,hn,R,ou⟩:=rz3;unfold pf at ou;split at ou
 case h_2=>exact ou.elim
 rename_i a fds q;obtain ⟨e,ha,hob,hfl,hln⟩:=oM q;split at ou
 case isFalse=>exact ou.elim
 rename_i hlm;split at ou
 case h_2=>exact ou.elim
 rename_i fds' hg;have e2:af i δ=.ok (cY C a fds):=by unfold af;rw [e]
 refine eD.run R.full (fun d2 ed2 v2 H1 s1 R1 hv2=>?_) (fun C et H' s'=>?_) (fun et=>?_)
 ·rw [e2] at ed2;cases ed2;obtain ⟨rfl,dx,gs,hp,hl,hk⟩:=hv2.atObj;have R1':=R.step s1;obtain ⟨v3,e3,h3⟩:=R1'.pl i _ hi e;obtain ⟨rfl,dx',gs',hp',hl',hk'⟩:=h3.atObj;refine ⟨a,dx,gs,rfl,(bL hp).2,tF hk hlm,?_⟩;refine ⟨A++A0,a,fds,fds',rfl,R1'.lsA,h3,hfl,hln,hg,fun H' hS hn'=>?_⟩;exact ou A σ H' (R1'.mutH (bL hp').2 (hn a ha) (lq hob) hS hn')
 ·rw [e2] at et;cases et
 ·rw [e2] at et;cases et
end
theorem uJ.of {P:Program} {w:World} {K:PySem.W.Frag} {mg:Str->Option Value} {base:Heap} {C:Addr} {m qual:Str} {st:Stmt} {f:Addr} {fd:FuncData} {N:List Str} {p:Str} {k:Nat} {G:List Addr->Ds->Sr} {g:List (Str×PyData)->Option (List (Str×PyData))} (F:Fun K m qual st f fd) (S:aZ N [p] (ax st)) (b:Binds K fd [p] []) (cl:Cls K C) (hm:Meth K C m f)
  (body:∀ (as:List Addr) (cdv:Value) (A:Around) (outer:List Env) (s:Shared) (H:Hp) (E:XK),cR k (A.deeper (envOfC qual (ax st) s.heap.objs.size f cdv))->PBN as (eF (CXW P w) P w K mg base N qual (ax st) f cdv A outer s H E) E [] (dm st) (G as))
  (hg:∀ a fds fds',hZ fds=true->fds.length<1000->g fds=some fds'->∃ δ,G [a] (some (cY C a fds)::List.replicate (N.length-1) none)=.nx δ/\δ[0]?=some (some (cY C a fds'))):uJ P w K mg base (k+1) C m g:=by
 refine ⟨f,fd,[p],cl,hm,qr F S (fun vs H Q E h=>?_) (fun cdv A outer s H vs Q E hr h=>?_),b⟩
 ·obtain ⟨A,a,fds,fds',rfl,_⟩:=h;rfl
 ·obtain ⟨A0,a,fds,fds',rfl,hA,hi,hfl,hln,hgf,o⟩:=h;obtain ⟨_,dx,gs,hp,hl,hk⟩:=hi.atObj;have ha:=bL hp;obtain ⟨δ,e1,e2⟩:=hg a fds fds' hfl hln hgf;have R0:cz K H A0 H [] [] (some (cY C a fds)::List.replicate (N.length-1) none) (L2.start N [.ref a]):=cz.start (ps:=[p]) (ds:=[cY C a fds]) hA (dk hi dH) rfl (fun i h=>by cases h);have hA':Ls (del H [a]) A0:=fun b hb=>by
   obtain ⟨xs,e,q⟩:=hA b hb;exact ⟨xs,by
    have hne:b∉[a]:=fun z=>ha.1 (by rw [<-KW.mp z];exact hb)
    rw [ba hne];exact e,q⟩
  refine ⟨_,body [a] cdv A outer s H E hr,del H [a],A0,[],_,fun b hb=>by rw [KW.mp hb];exact iI (KW.mpr rfl),⟨aI,hA',fun b hb=>(L7 hb).elim,R0.ls,R0.len,R0.pl,R0.own,R0.inj⟩,?_⟩;rw [e1];intro A' σ' H' R';refine o H' R'.same ?_;obtain ⟨v,_,h2⟩:=R'.pl 0 _ (by simp) e2;have h3:=h2.same (H':=del H' A0) (fun b u e=>by obtain ⟨q1,q2⟩:=bL e;rw [ba (fun z=>q1 (K7 _ z))];exact q2)
  rw [h3.atObj.1] at h3;exact h3
def KC (C:Addr) (names:List Str) (tl:List (Str×Int)):Sp:=fun vs H Q _=>∃ (x dx:Addr) (args:List V),vs=.ref x::args/\args.length=names.length/\H x=some (.ins C dx []) /\
 ∀ H':Hp,(∀ b,b≠x->H' b=H b)->H' x=some (.ins C dx (names.zip args++tl.map fun p=>(p.1,.int p.2)))->Q .non H'
structure MkD (P:Program) (w:World) (K:PySem.W.Frag) (mg:Str->Option Value) (base:Heap) (k:Nat) (x:Str) (C:Addr) (names:List Str) (tl:List (Str×Int)):Prop where
 ex:∃ f fd ps,Mk K C f/\iC P w K mg base (CXW P w) k f fd ps (KC C names tl)/\Binds K fd ps []/\mg x=some (.ref C)
def tlD (tl:List (Str×Int)):List (Str×PyData):=tl.map fun p=>(p.1,.int p.2)
theorem El {K:PySem.W.Frag} {H:Hp}:∀ tl:List (Str×Int),Isk K H ((tlD tl).map fun p=>(.str p.1,p.2)) (tl.map fun p=>(p.1,.int p.2))
 | []=>qE
 | p::r=>ff ck (El r)
theorem A1 {K:PySem.W.Frag} {H:Hp} {e:List (PyData×PyData)} {gs:List (Str×V)} (h2:Isk K H e gs):∀ {d:List (PyData×PyData)} {fs:List (Str×V)},Isk K H d fs->Isk K H (d++e) (fs++gs)
 | [],fs,h=>by unfold Isk at h;subst h;exact h2
 | (k,x)::r,fs,h=>by unfold Isk at h;obtain ⟨f,v,fs',rfl,rfl,h1,h3⟩:=h;exact ff h1 (A1 h2 h3)
theorem sy {f:Str} {b:List (Str×V)} (hb:b.lookup f=none):∀ {a:List (Str×V)},a.lookup f=none->(a++b).lookup f=none
 | [],_=>hb
 | (g,x)::r,h=>by
  rw [Lk,Ld];rw [Ld] at h;cases q:(f==g) with
  | true=>rw [q] at h;cases h
  | false=>rw [q] at h;exact sy hb h
theorem GA {f:Str}:∀ {tl:List (Str×Int)},(f∉tl.map (·.1))->(tl.map fun p=>((p.1,V.int p.2):Str×V)).lookup f=none
 | [],_=>rfl
 | p::r,h=>by rw [K1,Ld,show (f==p.1)=false by simpa using fun q=>h (by rw [q];exact K4)];exact GA fun q=>h (K0 _ q)
def eMk (K:PySem.W.Frag) (E:XK) (C:Addr) (names:List Str) (tl:List (Str×Int)) (gs:Ds->Rs (List PyData)):TE:=fun σ H Q=>∃ A δ,eK K H A δ σ/\(match gs δ with
 | .ok ds=>ds.length=names.length/\∀ x H',H x=none->aA H H'->Is K (del H' A) (cY C x (names.zip ds++tlD tl)) (.ref x)->Q (.ref x) H'
 | .rz C'=>∀ H',aA H H'->E (.ref C') none H'
 | .no=>False)
section
variable {X:Cx} {E:XK} {e:Expr} {es:List Expr} {gs:Ds->Rs (List PyData)} {pos:Pos}
theorem Jr {k j:Nat} {x:Str} {C:Addr} {names:List Str} {tl:List (Str×Int)} {p:Pos} (D:MkD X.prog X.w X.K X.mg X.base k x C names tl) (hr:cR j X.A) (hx:Passes (CXW X.prog X.w) X E) (ha:PAD X E (e::es) gs) (hk:k+1<=j:=by decide) (hg:Gl X x:=by rfl)
  (hdb:(x==("__debug__":Str))=false:=by decide) (he:starEach (e::es) X.env=(false,eval e X.env)::starEach es X.env:=by rfl) (hpl:(backTo pos (starEach es X.env)).any (·.1)=false:=by rfl) (hn:("@":Str)∉names:=by decide) (hn2:("@":Str)∉tl.map (·.1):=by decide) :
  PE X (.Call (.Name x p) (e::es) [] pos) (eMk X.K E C names tl gs):=by
 obtain ⟨f,fd,ps,M,F,hb,hm⟩:=D.ex;refine (Fj M F (hr.mono hk) hg hm hb .nil hx ha.1 hdb he hpl).imp fun σ H Q rz3=>?_
 obtain ⟨A,δ,R,o⟩:=rz3;refine aD.run R (fun ds e1 vs H1 s1 R1 h1=>?_) (fun C et H' s'=>?_) (fun et=>?_)
 ·rw [e1] at o;obtain ⟨hl,o⟩:=o;intro x dx nx ndx ne;refine ⟨x,dx,vs++[],rfl,by rw [LL,h1.length,hl],aV,fun H' k1 k2=>⟨rfl,?_⟩⟩;rw [LL] at k2;have sm:aA H1 H':=fun b q eb=>by have n1:b≠x:=aX eb nx;rw [k1 b n1,aL n1,aL (aX eb ndx)];exact eb
  refine o x H' (s1.free nx) (s1.trans sm) (Eu (dx:=dx) (fs:=names.zip vs++tl.map fun p=>(p.1,.int p.2)) ?_ (sy (GA hn2) (Cq hn)) ?_)
  ·rw [ba (R1.ls.new nx)];exact k2
  ·rw [LG];exact A1 (El tl) (AV (h1.same sm.del))
 ·rw [et] at o;exact o H' s'
 ·rw [et] at o;exact o
end
def lT (C:Addr) (names:List Str) (tl:List (Str×Int)) (as:List Addr) (fss:List (List PyData)):List PyData:=(as.zip fss).map fun p=>cY C p.1 (names.zip p.2++tlD tl)
def lJ (K:PySem.W.Frag) (E:XK) (C:Addr) (names:List Str) (tl:List (Str×Int)) (n0:Nat) (gi gs:Ds->Rs (List PyData)) (tgt:PyData->Option Ds):TE:=fun σ H Q=>∃ A δ,eK K H A δ σ/\δ.length=n0/\∃ ds fss,gi δ=.ok ds/\ds.length<=1000000/\fss.length=ds.length /\
 (∀ (i:Nat) d,ds[i]?=some d->∃ ow fs,tgt d=some ow/\fss[i]?=some fs/\gs (δ++ow)=.ok fs/\fs.length=names.length) /\
 ∀ (as:List Addr) (D:Addr) (H':Hp),as.length=ds.length->as.Nodup->(∀ a∈as,H a=none)->aA H H'->Is K (del H' A) (.list (lT C names tl as fss)) (.ref D)->Q (.ref D) H'
theorem Hi {K:PySem.W.Frag} {E:XK} {C:Addr} {names:List Str} {tl:List (Str×Int)} {own:List Str} {gi gs:Ds->Rs (List PyData)} {g:TG} {tgt:PyData->Option Ds} {n0:Nat} (hT:TgD K n0 own.length tgt g) :
  ∀ σ H Q,lJ K E C names tl n0 gi gs tgt σ H Q->tLC own.length (iD K E gi) g Aq (eMk K E0 C names tl gs) σ H Q:=by
 intro σ H Q ⟨A,δ,R,hn0,ds,fss,q,hz,hfl,hel,o⟩;have hσ:σ.length=n0:=by rw [<-R.len];exact hn0
 refine ⟨A,δ,R,?_⟩;rw [q];intro J H1 s1 hJ D hD;have R1:=R.same s1;have nD:D∉A:=R1.ls.new hD;refine ⟨fun i m ys H'=>m=ds.length-i/\i<=ds.length/\aA H1 H'/\H' D=some (.lst ys)/\∃ as:List Addr,as.length=i/\ys=as.map V.ref/\as.Nodup/\(∀ a∈as,H1 a=none/\a≠D/\∃ u,H' a=some u)/\Iss K (del H' (D::A)) (lT C names tl as (fss.take i)) ys,
  ⟨ds.length,by simp,Lw _,cm hD,aV,[],rfl,rfl,List.nodup_nil,fun a h=>(L7 h).elim,dH⟩,?_⟩
 rintro i m ys H' ⟨rfl,hi,sm,hl,as,hal,rfl,nd,hnew,c3⟩
 refine ⟨hl,?_⟩;have sG:aA (del H1 A) H':=aI.trans sm;have hBn:∀ b∈D::A,(del H1 A) b=none:=fun b hb=>by
  rcases K6.mp hb with z | z
  ·rw [z,ba nD];exact hD
  ·exact iI z
 obtain ⟨jg,js,jy⟩:=hJ H' (D::A) sG (fun b hb=>by
  rcases K6.mp hb with z | z
  ·exact ⟨_,by rw [z];exact hl,rfl⟩
  ·exact (R1.ls.same sm) b z) hBn
 by_cases hlt:i<ds.length
 ·refine .inr ⟨jg i hlt,fun x H2 σ' hσ' y=>?_⟩;obtain ⟨s2,d,ed,hd⟩:=jy i x H2 hlt y;obtain ⟨ow,fs,et,ef,eg,hfs⟩:=hel i d ed;have l2:H2 D=some (.lst (as.map V.ref)):=s2 _ _ hl;have LsD:Ls H2 (D::A):=fun b hb=>by
   rcases K6.mp hb with z | z
   ·exact ⟨_,by rw [z];exact l2,rfl⟩
   ·exact (R1.ls.same (sm.trans s2)) b z
  obtain ⟨hol,hgo⟩:=hT d x σ σ' H2 (D::A) (fun σ2 H2=>Aq σ2 H2 fun b H3 =>
   if b=true then eMk K E0 C names tl gs σ2 H3 fun v H4=>H4 D=some (.lst (as.map V.ref))/\(as.map V.ref).length<sizeLine/\(∃ σ'',σ2=σ++σ''/\σ''.length=own.length)/\∃ m',m' < ds.length-i/\_
   else (∃ σ'',σ2=σ++σ''/\σ''.length=own.length)/\∃ m',m' < ds.length-i/\_) ow hσ hσ' LsD hd et
  refine hgo fun vs hvs hown=>?_
  have sAll:aA (del H1 A) (del H2 (D::A)):=nj (sG.trans s2) hBn;have RE:eK K H2 (D::A) (δ++ow) (σ++vs):=by
   refine ⟨LsD,by rw [KU,KU,R.len,hvs,hol],fun k e ek=>?_⟩;by_cases hk:k<δ.length
   ·rw [La hk] at ek;obtain ⟨u,e1,hu⟩:=R1.get k e ek;exact ⟨u,by rw [La (by rw [<-R.len];exact hk)];exact e1,hu.same sAll⟩
   ·rw [Le (by omega)] at ek;obtain ⟨u,e1,hu⟩:=hown _ e ek;exact ⟨u,by rw [Le (by rw [<-R.len];omega),<-R.len];exact e1,hu⟩
  unfold Aq;have hI:∀ {p q:Prop},p->(if true=true then p else q):=fun h=>by rw [if_pos rfl];exact h
  refine hI ?_;refine ⟨D::A,δ++ow,RE,?_⟩;rw [eg];refine ⟨hfs,fun a H4 na s4 ha=>?_⟩;have l4:H4 D=some (.lst (as.map V.ref)):=s4 _ _ l2;have naD:a≠D:=fun z=>by rw [z,l2] at na;cases na
  have naA:a∉as:=fun z=>by obtain ⟨_,_,u,hu⟩:=hnew a z;rw [s2 _ _ hu] at na;cases na
  have dU:del (upd H4 D (.lst (as.map V.ref++[.ref a]))) (D::A)=del H4 (D::A):=lE (K4);have h4a:∃ u,H4 a=some u:=by obtain ⟨_,dx,gs',hp,_⟩:=ha.atObj;exact ⟨_,(bL hp).2⟩
  have hex:lT C names tl (as++[a]) (fss.take (i+1))=lT C names tl as (fss.take i)++[cY C a (names.zip fs++tlD tl)]:=by
   have ht:fss.take (i+1)=fss.take i++[fs]:=by rw [List.take_add_one,ef];rfl
   unfold lT;rw [ht,List.zip_append (by rw [hal,List.length_take];omega),LG];rfl
  refine ⟨l4,by rw [sizeLine_eq,K5,hal];omega,⟨vs,rfl,hvs⟩,ds.length-(i+1),by omega,rfl,hlt,?_,aV,as++[a],by rw [KU,hal];rfl,by rw [LG];rfl,?_,fun b hb=>?_,?_⟩
  ·exact aA.put ((sm.trans s2).trans s4) hD
  ·exact MN.mpr ⟨nd,by simp,fun b hb c hc e=>by rw [KW.mp hc] at e;exact naA (e▸hb)⟩
  ·rcases Lg.mp hb with z | z
   ·obtain ⟨h1,h2,u,hu⟩:=hnew b z;refine ⟨h1,h2,u,?_⟩;rw [aL h2];exact s4 _ _ (s2 _ _ hu)
   ·cases KW.mp z;obtain ⟨u,hu⟩:=h4a;refine ⟨(sm.trans s2).free na,naD,u,?_⟩;rw [aL naD];exact hu
  ·rw [dU,hex];exact (c3.same (aA.del (s2.trans s4))).append (j8 ha)
 ·have e:i=ds.length:=by omega
  subst e;rw [<-hfl,List.take_length] at c3;refine .inl ⟨js,o as D H' (by rw [hal]) nd (fun a ha=>s1.free (hnew a ha).1) (s1.trans sm) ?_⟩;have hs:aA (del H' (D::A)) (del H' A):=fun b u eb=>by obtain ⟨q1,q2⟩:=bL eb;rw [ba (fun z=>q1 (K0 _ z))];exact q2
  exact kI (by rw [ba nD];exact hl) (c3.same hs)
section
variable {X:Cx} {E:XK} {O:List Nat} {st:Stmt} {ss:List Stmt}
theorem Fx {C:Addr} {names:List Str} {tl:List (Str×Int)} {n0 i:Nat} {gi gs:Ds->Rs (List PyData)} {tgt:PyData->Option Ds} {G:List Addr->Ds->Sr} {Gt:Ds->Sr} (hS:PS X st (C5 (lJ X.K E C names tl n0 gi gs tgt) (kY i))) (hss:∀ as,PBN as X E O ss (G as)) (hi:i∉O)
  (hGt:∀ δ,Gt δ≠.no->∃ d ds fss,Gt δ=.rt d/\i<δ.length/\δ.length=n0/\gi (mask O δ)=.ok ds/\ds.length<=1000000/\fss.length=ds.length/\(∀ (i:Nat) d,ds[i]?=some d->∃ ow fs,tgt d=some ow/\fss[i]?=some fs/\gs (mask O δ++ow)=.ok fs/\fs.length=names.length) /\
   ∀ as:List Addr,as.length=ds.length->as.Nodup->G as (δ.set i (some (.list (lT C names tl as fss))))=.rt d):PBD X E O (st::ss) Gt:=by
 have h2:PSs X ss (fun D σ H=>∃ as,sDN as X.K E O (G as) D σ H):=fun pins s σ H D I qz6=>(by obtain ⟨as,h⟩:=qz6;exact hss as pins s σ H D I h)
 refine (ej hS h2).imp fun D σ H rz3=>?_
 obtain ⟨H0,A0,A,δ,R,o⟩:=rz3;by_cases z:Gt δ=.no
 ·rw [z] at o;exact o.elim
 obtain ⟨d,ds,fss,e1,hl,hn,e2,hz,hf,hel,hG⟩:=hGt δ z;rw [e1] at o;have hml:(mask O δ).length=n0:=by rw [xw];exact hn
 refine ⟨A++A0,mask O δ,R.part,hml,ds,fss,e2,hz,hf,hel,fun as Dd H' hal nd hnew s1 hIs=>?_⟩;refine ⟨as,H0,A0,A,_,fun a ha=>R.same.free (hnew a ha),(R.step s1).set hi hl hIs,?_⟩;rw [hG as hal nd];exact o
end
section
variable {κ:Type} [DecidableEq κ]
def pE (kvs:List (κ×V)) (k:κ):Option V:=(kvs.find? fun kv=>decide (kv.1=k)).map (·.2)
def putK (kvs:List (κ×V)) (k:κ) (v:V):List (κ×V) :=
 if (kvs.any fun kv=>decide (kv.1=k))=true then kvs.map (fun kv=>if kv.1=k then (kv.1,v) else kv) else kvs++[(k,v)]
def GJ (kvs:List (κ×V)) (k:κ):List (κ×V):=kvs.filter fun kv=>decide (kv.1≠k)
theorem sF {p:κ×V} {r:List (κ×V)} {k:κ} (e:p.1=k):pE (p::r) k=some p.2:=by simp [pE,LH,e]
theorem sP {p:κ×V} {r:List (κ×V)} {k:κ} (e:¬ p.1=k):pE (p::r) k=pE r k:=by simp [pE,LH,e]
theorem wR (k:κ):∀ kvs:List (κ×V),(kvs.any fun kv=>decide (kv.1=k))=(pE kvs k).isSome
 | []=>rfl
 | p::r=>by
  rw [M7];by_cases e:p.1=k
  ·simp only [sF e,decide_eq_true e,Bool.true_or,Option.isSome_some]
  ·rw [sP e,decide_eq_false e,Bool.false_or];exact wR k r
theorem p3 (kvs:List (κ×V)) (k:κ) (v:V):(putK kvs k v).length<=kvs.length+1:=by
 unfold putK;split
 ·rw [K5];omega
 ·rw [KU,L6,LM];omega
theorem lL.isSome_eq {o:Option V} {u:Option Value} (r:lL o u):o.isSome=u.isSome:=by
 cases o with
 | none=>cases u with
  | none=>rfl
  | some _=>exact (show False from r).elim
 | some _=>cases u with
  | none=>exact (show False from r).elim
  | some _=>rfl
theorem lL.getD {o:Option V} {u:Option Value} {d:V} {d':Value} (r:lL o u) (rd:RelV d d'):RelV (o.getD d) (u.getD d'):=by
 cases o with
 | none=>cases u with
  | none=>exact rd
  | some _=>exact (show False from r).elim
 | some _=>cases u with
  | none=>exact (show False from r).elim
  | some _=>exact r
theorem KV.val {kvs:List (κ×V)} {vs:List (κ×Value)} (r:KV kvs vs) (k:κ):lL (pE kvs k) (valueAt vs k):=by
 unfold KV at r
 induction r with
 | nil=>exact True.intro
 | @cons p q ps qs h t ih =>
  obtain ⟨h1,h2⟩:=h;by_cases e:p.1=k
  ·have e':q.1=k:=h1.symm.trans e;have b:valueAt (q::qs) k=some q.2:=by simp [valueAt,LH,e']
   rw [sF e,b];exact h2
  ·have e':¬ q.1=k:=fun z=>e (h1.trans z)
   have b:valueAt (q::qs) k=valueAt qs k:=by simp [valueAt,LH,e']
   rw [sP e,b];exact ih
theorem KV.any {kvs:List (κ×V)} {vs:List (κ×Value)} (r:KV kvs vs) (k:κ):(kvs.any fun kv=>decide (kv.1=k))=vs.any fun kv=>decide (kv.1=k):=by
 unfold KV at r
 induction r with
 | nil=>rfl
 | cons h t ih=>rw [M7,M7,ih,h.1]
theorem KV.repl {kvs:List (κ×V)} {vs:List (κ×Value)} (r:KV kvs vs) (k:κ) {y:V} {u:Value} (ry:RelV y u) :
  KV (kvs.map fun kv=>if kv.1=k then (kv.1,y) else kv) (vs.map fun kv=>if kv.1=k then (kv.1,u) else kv):=by
 unfold KV at r ⊢
 induction r with
 | nil=>exact .nil
 | @cons p q ps qs h t ih =>
  rw [K1,K1];refine .cons ?_ ih;obtain ⟨h1,h2⟩:=h;by_cases e:p.1=k
  ·rw [if_pos e,if_pos (h1.symm.trans e)];exact ⟨h1,ry⟩
  ·rw [if_neg e,if_neg (fun z=>e (h1.trans z))];exact ⟨h1,h2⟩
theorem KV.put {kvs:List (κ×V)} {vs:List (κ×Value)} (r:KV kvs vs) (k:κ) {y:V} {u:Value} (ry:RelV y u):KV (putK kvs k y) (stored vs k u):=by
 unfold putK stored;rw [r.any k];by_cases e:(vs.any fun kv=>decide (kv.1=k))=true
 ·rw [if_pos e,if_pos e];exact r.repl k ry
 ·rw [if_neg e,if_neg e];exact Paired.snoc r ⟨rfl,ry⟩
theorem KV.drop {kvs:List (κ×V)} {vs:List (κ×Value)} (r:KV kvs vs) (k:κ):KV (GJ kvs k) (without vs k):=by
 unfold KV at r ⊢;unfold GJ without
 induction r with
 | nil=>exact .nil
 | @cons p q ps qs h t ih =>
  obtain ⟨h1,h2⟩:=h;rw [LK,LK];by_cases e:p.1=k
  ·have a:¬ decide (p.1≠k)=true:=by simp [e]
   have b:¬ decide (q.1≠k)=true:=by simp [h1.symm.trans e]
   rw [if_neg a,if_neg b];exact ih
  ·have e':¬ q.1=k:=fun z=>e (h1.trans z)
   have a:decide (p.1≠k)=true:=by simp [e]
   have b:decide (q.1≠k)=true:=by simp [e']
   rw [if_pos a,if_pos b];exact .cons ⟨h1,h2⟩ ih
theorem KV.length {kvs:List (κ×V)} {vs:List (κ×Value)} (r:KV kvs vs):kvs.length=vs.length:=Paired.length r
end
theorem CN {P:Program} {w:World} {k:Key} {u:Value} (r:RelV (kV k) u):(d7 P w).is k u=true:=by
 cases k with
 | inl i=>obtain ⟨t,e⟩:=(show ∃ t,u=Value.int i t from r);subst e;exact wN P w i t
 | inr x=>obtain ⟨t,e⟩:=(show ∃ t,u=Value.str x t from r);subst e;exact yq P w x t
theorem uE {P:Program} {w:World}:∀ {ks:List Key} {us:List Value},Vals (ks.map kV) us->ItemsAre (d7 P w) ks us
 | [],_,r=>by rw [LS] at r;cases r;exact .nil
 | k::ks,_,r=>by
  rw [K1] at r;cases r with
  | cons h t=>exact .cons (CN h) (uE t)
abbrev KT (H:Hp):List (List Key×V)->List (List Key×Addr×Value)->Prop:=Paired fun p q=>p.1=q.1/\H q.2.1=some (.tup (p.1.map kV))/\RelV p.2 q.2.2
theorem KT.val {H:Hp} {kvs:List (List Key×V)} {xs:List (List Key×Addr×Value)} (r:KT H kvs xs) (k:List Key):lL (pE kvs k) ((atKey xs k).map (·.2)):=by
 induction r with
 | nil=>exact True.intro
 | @cons p q ps qs h t ih =>
  obtain ⟨h1,_,h2⟩:=h;by_cases e:p.1=k
  ·have e':q.1=k:=h1.symm.trans e;have b:atKey (q::qs) k=some q.2:=by simp [atKey,LH,e']
   rw [sF e,b];exact h2
  ·have e':¬ q.1=k:=fun z=>e (h1.trans z)
   have b:atKey (q::qs) k=atKey qs k:=by simp [atKey,LH,e']
   rw [sP e,b];exact ih
theorem KT.repl {H:Hp} {kvs:List (List Key×V)} {xs:List (List Key×Addr×Value)} (r:KT H kvs xs) (k:List Key) {y:V} {u:Value} (ry:RelV y u) :
  KT H (kvs.map fun kv=>if kv.1=k then (kv.1,y) else kv) (xs.map (putAt k u)):=by
 induction r with
 | nil=>exact .nil
 | @cons p q ps qs h t ih =>
  rw [K1,K1];refine .cons ?_ ih;obtain ⟨h1,h2,h3⟩:=h;unfold putAt;by_cases e:p.1=k
  ·rw [if_pos e,if_pos (h1.symm.trans e)];exact ⟨h1,h2,ry⟩
  ·rw [if_neg e,if_neg (fun z=>e (h1.trans z))];exact ⟨h1,h2,h3⟩
theorem KT.put {H:Hp} {kvs:List (List Key×V)} {xs:List (List Key×Addr×Value)} (r:KT H kvs xs) (k:List Key) {b:Addr} {y:V} {u:Value} (hb:H b=some (.tup (k.map kV))) (ry:RelV y u) :
  KT H (putK kvs k y) (storedH xs k b u):=by
 have e:(kvs.any fun kv=>decide (kv.1=k))=(atKey xs k).isSome:=by rw [wR,(r.val k).isSome_eq,Option.isSome_map]
 unfold putK storedH;rw [e];by_cases q:(atKey xs k).isSome=true
 ·rw [if_pos q,if_pos q];exact r.repl k ry
 ·rw [if_neg q,if_neg q];exact Paired.snoc r ⟨rfl,hb,ry⟩
theorem KT.keeps {H H':Hp} {kvs:List (List Key×V)} {xs:List (List Key×Addr×Value)} (r:KT H kvs xs) (ht:∀ b ys,H b=some (.tup ys)->H' b=some (.tup ys)):KT H' kvs xs :=
 Paired.mapP r fun _ _ z=>⟨z.1,ht _ _ z.2.1,z.2.2⟩
section
variable {P:Program} {w:World} {H:Hp} {h:Heap} {a:Addr}
theorem GN {u:HO} (ok:HOk P w H h) (e:Rd H a u):dX P w H h a u:=e.ok ok
theorem CD {kvs:List (Key×V)} (ok:HOk P w H h) (e:Rd H a (.dK kvs)):kvs.length<=sizeLine/\(a==sysModules)=false/\∃ vs,KV kvs vs/\h.DictOf (d7 P w) a vs :=
 show dX P w H h a (.dK kvs) from GN ok e
theorem JA {kvs:List (Key×V)} (ok:HOk P w H h) (e:H a=some (.dK kvs)):kvs.length<=sizeLine/\(a==sysModules)=false/\∃ vs,KV kvs vs/\h.DictOf (d7 P w) a vs:=CD ok (.inl e)
theorem yU {ks:List Key} (ok:HOk P w H h) (e:H a=some (.tup (ks.map kV))):(tupleKind (d7 P w)).is h ks a:=by
 obtain ⟨_,its,r,o,h1,h2,_,n,h3⟩:=(show dX P w H h a (.tup (ks.map kV)) from ok a _ e)
 exact ⟨o,its.toArray,n,h1,h2,h3,by simpa using uE r⟩
theorem Ew {kvs:List (List Key×V)} (ok:HOk P w H h) (e:Rd H a (.dT kvs)):kvs.length<=sizeLine/\(a==sysModules)=false /\
  ∃ xs,KT H kvs xs/\h.DictOfH (tupleKind (d7 P w)) a xs:=by
 obtain ⟨z,y,xs,r,o,es,ep,h1,h2,h3,h4,h5⟩:=(show dX P w H h a (.dT kvs) from GN ok e)
 refine ⟨z,y,xs,r,o,es,ep,h1,h2,h3,h4,fun x hx=>?_,h5⟩;have all:∀ {l:List (List Key×V)} {m:List (List Key×Addr×Value)},KT H l m->∀ x∈m,(tupleKind (d7 P w)).is h x.1 x.2.1:=by
  intro l m q
  induction q with
  | nil=>intro x hx;exact nomatch hx
  | @cons p q ps qs hq t ih =>
   intro x hx;rcases K6.mp hx with e | hx
   ·subst e;exact yU ok (by rw [<-hq.1];exact hq.2.1)
   ·exact ih x hx
 exact all r x hx
theorem IQ {kvs:List (List Key×V)} (ok:HOk P w H h) (e:H a=some (.dT kvs)):kvs.length<=sizeLine/\(a==sysModules)=false /\
 ∃ xs,KT H kvs xs/\h.DictOfH (tupleKind (d7 P w)) a xs:=Ew ok (.inl e)
end
def Cg (H:Hp) (a:Addr) (y:V) (r:Option V):Prop :=
 (∃ kvs k,Rd H a (.dK kvs)/\y=kV k/\r=pE kvs k)\/∃ kvs k b,Rd H a (.dT kvs)/\y=.ref b/\H b=some (.tup (k.map kV))/\r=pE kvs k
def Ex (H:Hp) (a:Addr) (y v:V) (H':Hp):Prop :=
 (∃ kvs k,H a=some (.dK kvs)/\y=kV k/\kvs.length<sizeLine/\H'=upd H a (.dK (putK kvs k v))) \/
 ∃ kvs k b,H a=some (.dT kvs)/\y=.ref b/\H b=some (.tup (k.map kV))/\kvs.length<sizeLine/\H'=upd H a (.dT (putK kvs k v))
theorem Cg.k {H:Hp} {a:Addr} {kvs:List (Key×V)} {k:Key} (e:H a=some (.dK kvs)):Cg H a (kV k) (pE kvs k):=.inl ⟨kvs,k,.inl e,rfl,rfl⟩
theorem Ex.k {H:Hp} {a:Addr} {kvs:List (Key×V)} {k:Key} {v:V} (e:H a=some (.dK kvs)) (hl:kvs.length<sizeLine):Ex H a (kV k) v (upd H a (.dK (putK kvs k v))):=.inl ⟨kvs,k,e,rfl,hl,rfl⟩
section
variable {X:Cx} {pins:List (Addr×Obj)} {σ:St} {H:Hp} {s:Shared} {a:Addr} {y v:V} {u r:Value} {o:Option V} {A:Around} {E:Value->Shared->Prop}
theorem Inv.big (I:Inv X pins σ H s):sysModules<s.heap.objs.size:=by have h:mainGlobals<s.heap.objs.size:=(I.mod.glob.keeps I.bk).lt;exact Nat.lt_trans (by decide) h
theorem A7 {h':Heap} {t':Nat} {ob:HO} (I:Inv X pins σ H s) (mu:Mut (H a)) (hs:Heap.SameBut a s.heap h') (he:∃ q,h'.get? a=some q) (new:dX X.prog X.w (upd H a ob) h' a ob) :
  Inv X pins σ (upd H a ob) { s with heap:=h',toks:=t' } :=
 I.write (x:=a) (e:=a) mu (.inl rfl) (fun b q hb z=>(hs.2 b hb).trans z) he new
theorem Hn {P:Program} {w:World} {H':Hp} {h':Heap} {kvs:List (Key×V)} {vs:List (Key×Value)} (z:kvs.length<=sizeLine) (hd:(a==sysModules)=false) (rel:KV kvs vs) (dd:h'.DictOf (d7 P w) a vs) :
 dX P w H' h' a (.dK kvs):=⟨z,hd,vs,rel,dd⟩
theorem BW {H':Hp} {Q:Unit->Shared->Prop} (hu:A.units+1<cLine) (I:Inv X pins σ H s) (g:Ex H a y v H') (ry:RelV y u) (rv:RelV v r) (h:∀ s',Inv X pins σ H' s'->Q () s') :
  wpAny (model X.prog X.w) A (setItem (.ref a) u r) Q E s:=by
 rcases g with ⟨kvs,k,e,ey,l,eH⟩ | ⟨kvs,k,b,e,ey,eb,l,eH⟩
 ·subst ey eH;obtain ⟨z,hd,vs,rel,dd⟩:=JA I.hok e;have hz:vs.length<=sizeLine:=by rw [<-rel.length];exact z
  have hl:(putK kvs k v).length<=sizeLine:=by have:=p3 kvs k v;omega
  refine wpAny_setItem_pairs (hsz:=hz) (CN ry) dd fun h' dd' hs=>h _ ?_
  have he:∃ q,h'.get? a=some q:=let ⟨q,_,_,hq,_⟩:=dd';⟨q,hq⟩;exact A7 I (by rw [e];exact True.intro) hs he (Hn hl hd (rel.put k rv) dd')
 ·subst ey eH;cases (show u=Value.ref b from ry);obtain ⟨z,hd,xs,rel,dd⟩:=IQ I.hok e;have hz:xs.length<=sizeLine:=by rw [<-Paired.length rel];exact z
  have hl:(putK kvs k v).length<=sizeLine:=by have:=p3 kvs k v;omega
  refine wpAny_setItem_heap (hsz:=hz) (tupleKind_room_in1 hu) (yU I.hok eb) dd fun h' dd' hs=>h _ ?_
  obtain ⟨q,es,ep,hq,h2,h3,h4,_,h5⟩:=dd';refine A7 I (by rw [e];exact True.intro) hs ⟨q,hq⟩ ⟨hl,hd,_,(rel.put k eb rv).keeps fun c ys ec=>?_,q,es,ep,hq,h2,h3,h4,h5⟩;rw [aL (Jg ec e (fun z=>nomatch z))];exact ec
end
section
variable {X:Cx} {pins:List (Addr×Obj)} {σ:St} {H:Hp} {s:Shared} {a:Addr} {kvs:List (Key×V)} {k:Key} {u:Value} {A:Around} {E:Value->Shared->Prop}
end
def JJ (td ty tv:TE):TS:=fun D σ H=>tv σ H fun v H1=>td σ H1 fun x H2=>ty σ H2 fun y H3=>∃ a H4,x=.ref a/\Ex H3 a y v H4/\D.nx σ H4
section
variable {X:Cx} {o i e value:Expr} {pos pos' tpos:Pos} {td ty tv:TE}
theorem Fd (hu:X.A.units+1<cLine) (ho:PE X o td) (hi:PE X i ty) (hv:PE X value tv) (hs:swapsWith value (some (.Subscript o i pos')) pos.line X.env=pure false) :
  PS X (.Assign [.Subscript o i pos'] value pos) (JJ td ty tv):=by
 intro pins s σ H D I h;refine wpAny_Assign_Subscript (thn (hv pins s σ H _ I h) fun r s1 rz2=>?_) hs;obtain ⟨v,H1,I1,rv,q1⟩:=rz2;refine thn (ho pins s1 σ H1 _ I1 q1) fun u s2 rz2=>?_
 obtain ⟨x,H2,I2,rx,q2⟩:=rz2;refine thn (hi pins s2 σ H2 _ I2 q2) fun iv s3 rz2=>?_
 obtain ⟨y,H3,I3,ry,a,H4,ex,g,q3⟩:=rz2;subst ex;obtain rfl:u=Value.ref a:=rx;exact BW hu I3 g ry rv fun s4 I4=>⟨σ,H4,I4,q3⟩
end
theorem Eo {P:Program} {w:World} {H:Hp} (h:Heap) (hb:sysModules<h.objs.size):dX P w H (h.push { cls:=.type "dict",data:=.dict #[] }) h.objs.size (.dK []) :=
 ⟨Lw _,beq_eq_false_iff_ne.mpr (Ne.symm (KY hb)),[],.nil,Heap.DictOf.new h⟩
def HN:TE:=fun _ H Q=>∀ p,H p=none->Q (.ref p) (upd H p (.dK []))
section
variable {X:Cx} {pos:Pos}
theorem xr:PE X (.Dict [] [] pos) HN:=fun pins s σ H Q I h =>
 wpAny_Dict_empty ⟨.ref s.heap.objs.size,_,I.laid (a:=s.heap.objs.size) (o:=.dK []) (t':=s.toks) (fun _ _ q=>K2 _ q) (K8 _) (Eo s.heap I.big),rfl,h _ (I.hok.fresh (K8 _))⟩
end
structure M2 (X:Cx) (o:Expr) (m:Str) (apos:Pos) (e f:Expr) (cpos:Pos):Prop where
 base:attributeBase o m X.env (eval o X.env)=eval o X.env
 few:((backTo cpos (starEach [e,f] X.env)).all (fun x=>!x.1)&&(backToKw cpos (keywordEach [] X.env)).all (fun x=>x.1.isSome)
 &&decide (([e,f]:List Expr).length+([]:List Keyword).length+(if ([]:List Keyword).isEmpty then 0 else 1)<30))=true
 line:(apos.endLine==cpos.line)=true
 trees:backTo cpos (starEach [e,f] X.env)=[(false,eval e X.env),(false,eval f X.env)]
def J7 (H:Hp) (a:Addr):Prop:=(∃ kvs,Rd H a (.dK kvs))\/∃ kvs,Rd H a (.dT kvs)
theorem HA {X:Cx} {pins:List (Addr×Obj)} {σ:St} {H:Hp} {s:Shared} {a:Addr} (I:Inv X pins σ H s) (d:J7 H a) :
  s.TypeIs (.ref a) "dict"/\(∀ b,Value.ref a=.ref b->∃ ob,s.heap.get? b=some ob/\ob.dict=none)/\(a==sysModules)=false:=by
 rcases d with ⟨kvs,e⟩ | ⟨kvs,e⟩
 ·obtain ⟨_,hd,vs,_,dd⟩:=CD I.hok e;refine ⟨dd.typeIs,fun b q=>?_,hd⟩;cases q;obtain ⟨ob,_,_,h1,h2,_⟩:=dd;exact ⟨ob,h1,h2.2.1⟩
 ·obtain ⟨_,hd,xs,_,dd⟩:=Ew I.hok e;refine ⟨dd.typeIs,fun b q=>?_,hd⟩;cases q;obtain ⟨ob,_,_,h1,h2,_⟩:=dd;exact ⟨ob,h1,h2.2.1⟩
section
variable {X:Cx} {pins:List (Addr×Obj)} {σ:St} {H:Hp} {s:Shared} {a:Addr} {y d:V} {u r:Value} {o:Option V} {A:Around} {E:Value->Shared->Prop}
theorem Hv {Q:Value->Shared->Prop} (hu:A.units+1<cLine) (I:Inv X pins σ H s) (g:Cg H a y o) (ry:RelV y u) (rd:RelV d r) (h:∀ w' s',Inv X pins σ H s'->RelV (o.getD d) w'->Q w' s') :
  wpAny (model X.prog X.w) A (call (.builtin "dict.get") [.ref a,u,r]) Q E s:=by
 rcases g with ⟨kvs,k,e,ey,l⟩ | ⟨kvs,k,b,e,ey,eb,l⟩
 ·subst ey;obtain ⟨z,hd,vs,rel,dd⟩:=CD I.hok e;refine call_meetsIn PySem.F.slot_dict_get dd.typeIs PySem.F.entry_dict_get (PySem.F.args_dict_get_3 _ _ _) (meets_dict_get_default (d7 X.prog X.w) a (CN ry) hd r) ⟨_,dd.mapOf,h _ _ (I.tok _) ?_⟩;rw [l];exact (rel.val k).getD rd
 ·subst ey;cases (show u=Value.ref b from ry);obtain ⟨z,hd,xs,rel,dd⟩:=Ew I.hok e;refine call_meetsIn PySem.F.slot_dict_get dd.typeIs PySem.F.entry_dict_get (PySem.F.args_dict_get_3 _ _ _) (meetsH_dict_get_default (tupleKind (d7 X.prog X.w)) a b hd r) ⟨tupleKind_room_in1 hu,k,xs,yU I.hok eb,dd,h _ _ (I.tok _) ?_⟩;rw [l];exact (rel.val k).getD rd
end
def Iu (td ty tx:TE):TE:=fun σ H Q=>td σ H fun x H1=>∃ a,x=.ref a/\J7 H1 a/\ty σ H1 fun y H2=>tx σ H2 fun z H3=>∃ o,Cg H3 a y o/\Q (o.getD z) H3
section
variable {X:Cx} {o e f:Expr} {apos cpos:Pos} {td ty tx:TE}
theorem Ct (hu:X.A.units+1<cLine) (ho:PE X o td) (he:PE X e ty) (hf:PE X f tx) (m:M2 X o "get" apos e f cpos):PE X (.Call (.Attribute o "get" apos) [e,f] [] cpos) (Iu td ty tx):=by intro pins s σ H Q I h;refine wpAny_Call_method m.base m.few m.line PySem.F.plainAttrs_dict PySem.F.slot_dict_get PySem.F.type_dict_get (thn (ho pins s σ H _ I h) fun u s1 rz2=>?_);obtain ⟨x,H1,I1,rx,a,ex,d,q1⟩:=rz2;subst ex;obtain rfl:u=Value.ref a:=rx;obtain ⟨t1,t2,_⟩:=HA I1 d;refine ⟨t1,t2,?_⟩;rw [m.trees];refine Calls.callWith_builtin rfl (Calls.evalArgs_plain (Calls.spliced_cons (thn (he pins s1 σ H1 _ I1 q1) fun iv s2 rz2=>?_)));obtain ⟨y,H2,I2,ry,q2⟩:=rz2;refine Calls.spliced_cons (thn (hf pins s2 σ H2 _ I2 q2) fun fv s3 rz2=>?_);obtain ⟨z,H3,I3,rz,ov,g,q3⟩:=rz2;refine Calls.spliced_nil ?_;exact Hv hu I3 g ry rz fun w' s4 I4 rw'=>⟨_,H3,I4,rw',q3⟩
end
section
variable {X:Cx} {pins:List (Addr×Obj)} {σ:St} {H:Hp} {s:Shared} {a:Addr} {kvs:List (Key×V)} {A:Around} {E:Value->Shared->Prop}
end
section
variable {X:Cx} {pins:List (Addr×Obj)} {σ:St} {H:Hp} {s:Shared} {a:Addr} {y:V} {u:Value} {A:Around} {E:Value->Shared->Prop}
end
section
variable {K:PySem.W.Frag} {H0 H:Hp} {A0 A:List Addr} {O:List Nat} {δ:Ds} {σ:St}
theorem cz.setOwnO {i:Nat} {d0:PyData} {o:HO} {a:Addr} {H1:Hp} (R:cz K H0 A0 H A O δ σ) (hi:i∈O) (hl:i<δ.length) (hn:H a=none) (s:aA H H1) (ha:H1 a=some o) (hoo:Iw o=true) (h:iH K (del H1 (a::(A++A0))) d0 o) :
  cz K H0 A0 H1 (a::A) O (δ.set i (some d0)) (σ.set i (some (.ref a))) where
 same:=R.same.trans s
 ls0:=R.ls0
 new:=fun b hb=>by
  rcases K6.mp hb with z | z
  ·rw [z];exact R.same.free hn
  ·exact R.new b z
 ls:=fun b hb=>by
  rcases K6.mp hb with z | z
  ·exact ⟨_,by rw [z];exact ha,hoo⟩
  ·exact (R.ls.same s) b z
 len:=by simp [R.len]
 pl:=fun j e hj q=>by
  rcases get_set q with ⟨z,q⟩ | ⟨z,q⟩
  ·subst z;exact absurd hi hj
  ·obtain ⟨u,e1,h1⟩:=R.pl j e hj q;refine ⟨u,lF z e1,h1.same fun b o e=>?_⟩;obtain ⟨y,e⟩:=bL e;have nb:b≠a:=aX e hn;rw [ba (by simpa [nb] using y)];exact s _ _ e
 own:=fun j e hj q=>by
  have kk:∀ b o,del H (A++A0) b=some o->del H1 (a::A++A0) b=some o:=fun b o e=>by obtain ⟨y,e⟩:=bL e;have nb:b≠a:=aX e hn;rw [ba (by simpa [nb] using y)];exact s _ _ e
  rcases get_set q with ⟨z,q⟩ | ⟨z,q⟩
  ·cases q;subst z;exact ⟨a,_,_,by rw [Lp (by rw [<-R.len];exact hl)],K4,ha,rfl,h⟩
  ·obtain ⟨b,ys,es,e1,h1,h2,h3,h4⟩:=R.own j e hj q;exact ⟨b,ys,es,lF z e1,K0 _ h1,s _ _ h2,h3,h4.same kk⟩
 inj:=fun j k d' e b hj hk q1 q2 p1 p2=>by
  have old:∀ k,k∈O->i≠k->∀ e,δ[k]?=some (some e)->σ[k]?=some (some (.ref a))->False:=fun k hk _ e q p=>by obtain ⟨b,ys,es,e1,h1,h2,_⟩:=R.own k e hk q;rw [p] at e1;cases e1;rw [hn] at h2;cases h2
  by_cases z1:i=j
  ·by_cases z2:i=k
   ·rw [<-z1,z2]
   ·subst z1;rw [Lp (by rw [<-R.len];exact hl)] at p1;cases p1;rw [Lf z2] at q2 p2;exact (old k hk z2 e q2 p2).elim
  ·by_cases z2:i=k
   ·subst z2;rw [Lp (by rw [<-R.len];exact hl)] at p2;cases p2;rw [Lf z1] at q1 p1;exact (old j hj z1 d' q1 p1).elim
   ·rw [Lf z1] at q1 p1;rw [Lf z2] at q2 p2;exact R.inj j k d' e b hj hk q1 q2 p1 p2
theorem cz.putO {i:Nat} {d1 d0:PyData} {a:Addr} {o:HO} (R:cz K H0 A0 H A O δ σ) (hi:i∈O) (hd:δ[i]?=some (some d0)) (hs:σ[i]?=some (some (.ref a))) (ha:a∈A) (hoo:Iw o=true) (h:iH K (del H (A++A0)) d1 o) :
  cz K H0 A0 (upd H a o) A O (δ.set i (some d1)) σ:=by
 have dU:del (upd H a (o)) (A++A0)=del H (A++A0):=lE (Lm _ ha);have hl:i<δ.length:=(Lj.mp hd).1;refine ⟨fun b o e=>?_,R.ls0,R.new,fun b hb=>?_,by simp [R.len],fun j e hj q=>?_,fun j e hj q=>?_,fun j k d' e b hj hk q1 q2 p1 p2=>?_⟩
 ·have nb:b≠a:=fun z=>by rw [z,R.new a ha] at e;cases e
  rw [aL nb];exact R.same b o e
 ·by_cases z:b=a
  ·exact ⟨_,by rw [z,aV],hoo⟩
  ·rw [aL z];exact R.ls b hb
 ·rcases get_set q with ⟨z,q⟩ | ⟨z,q⟩
  ·subst z;exact absurd hi hj
  ·rw [dU];exact R.pl j e hj q
 ·rcases get_set q with ⟨z,q⟩ | ⟨z,q⟩
  ·cases q;subst z;exact ⟨a,_,_,hs,ha,aV,rfl,by rw [dU];exact h⟩
  ·obtain ⟨b,zs,es,e1,h1,h2,h3,h4⟩:=R.own j e hj q;have nb:b≠a:=fun w=>z (R.inj i j _ _ a hi hj hd q hs (by rw [<-w];exact e1))
   exact ⟨b,zs,es,e1,h1,by rw [aL nb];exact h2,h3,by rw [dU];exact h4⟩
 ·rcases get_set q1 with ⟨z1,q1⟩ | ⟨z1,q1⟩ <;> rcases get_set q2 with ⟨z2,q2⟩ | ⟨z2,q2⟩
  ·rw [<-z1,z2]
  ·subst z1;exact R.inj i k d0 e b hi hk hd q2 p1 p2
  ·subst z2;exact R.inj j i d' d0 b hj hi q1 hd p1 p2
  ·exact R.inj j k d' e b hj hk q1 q2 p1 p2
end
def dB (l:List (Int×Int)):PyData:=.dict (l.map fun p=>(PyData.int p.1,PyData.int p.2))
def dkO (l:List (Int×Int)):HO:=.dK (l.map fun p=>(.inl p.1,V.int p.2))
theorem rA:∀ {l m:List (Int×Int)},l.map (fun p=>(PyData.int p.1,PyData.int p.2))=m.map (fun p=>(PyData.int p.1,PyData.int p.2))->l=m
 | [],[],_=>rfl
 | [],_::_,h=>by simp at h
 | _::_,[],h=>by simp at h
 | (a,b)::l,(c,d)::m,h=>by simp only [K1,List.cons.injEq,Prod.mk.injEq,PyData.int.injEq] at h;obtain ⟨⟨rfl,rfl⟩,h⟩:=h;rw [rA h]
theorem Is.ofDic {K:PySem.W.Frag} {H:Hp} {l:List (Int×Int)} {v:V} (h:Is K H (dB l) v):∃ a,v=.ref a/\H a=some (dkO l):=by
 unfold dB Is at h;rcases h with (⟨a,ns,_,e,_⟩ | ⟨a,m,e1,e,h2⟩) | ⟨a,C,dx,fs,_,_,_,h | h⟩
 ·cases l with
  | nil=>simp at e
  | cons p l=>simp at e
 ·rw [rA e];exact ⟨a,e1,h2⟩
 ·cases l with
  | nil=>unfold Isk at h;simp at h
  | cons p l=>rw [K1] at h;unfold Isk at h;obtain ⟨f,_,_,_,q,_⟩:=h;cases q
 ·cases l with
  | nil=>unfold Isk at h;simp at h
  | cons p l=>rw [K1] at h;unfold Isk at h;obtain ⟨f,_,_,_,q,_⟩:=h;cases q
theorem G4 {K:PySem.W.Frag} {H:Hp} {l:List (Int×Int)} {a:Addr} (h:H a=some (dkO l)):Is K H (dB l) (.ref a):=by unfold dB Is;exact .inl (.inr ⟨a,l,rfl,rfl,h⟩)
def lY:List (PyData×PyData)->Option (List (Int×Int))
 | []=>some []
 | (.int a,.int b)::r=>(lY r).map fun l=>(a,b)::l
 | _=>none
theorem uW:∀ {r:List (PyData×PyData)} {l:List (Int×Int)},lY r=some l->r=l.map fun p=>(PyData.int p.1,PyData.int p.2)
 | [],l,e=>by cases e;rfl
 | (a,b)::r,l,e=>by
  cases a <;> cases b <;> first | (cases e;done) | skip
  unfold lY at e;cases q:lY r with
  | none=>rw [q] at e;cases e
  | some m=>rw [q] at e;cases e;rw [uW q];rfl
theorem rK:∀ l:List (Int×Int),lY (l.map fun p=>(PyData.int p.1,PyData.int p.2))=some l
 | []=>rfl
 | p::r=>by rw [K1];unfold lY;rw [rK r];rfl
def xZ:PyData->Option (List (Int×Int))
 | .dict kvs=>lY kvs
 | _=>none
theorem xx {d:PyData} {l:List (Int×Int)} (h:xZ d=some l):d=dB l:=by
 unfold xZ at h;split at h
 ·unfold dB;rw [uW h]
 ·cases h
theorem uq (l:List (Int×Int)):xZ (dB l)=some l:=rK l
def nK (l:List (Int×Int)) (k:Int):Option Int:=(l.find? fun p=>decide (p.1=k)).map (·.2)
def zW (l:List (Int×Int)) (k v:Int):List (Int×Int):=if (l.any fun p=>decide (p.1=k))=true then l.map (fun p=>if p.1=k then (p.1,v) else p) else l++[(k,v)]
theorem DW (l:List (Int×Int)) (k:Int):pE (l.map fun p=>((.inl p.1,V.int p.2):Key×V)) (.inl k)=(nK l k).map V.int:=by
 unfold pE nK
 induction l with
 | nil=>rfl
 | cons p r ih =>
  rw [K1,LH,LH];by_cases z:p.1=k
  ·have h1:decide ((Sum.inl p.1:Key)=.inl k)=true:=decide_eq_true (by rw [z]);simp only [h1,decide_eq_true z];rfl
  ·have h1:decide ((Sum.inl p.1:Key)=.inl k)=false:=decide_eq_false fun q=>z (Sum.inl.inj q)
   simp only [h1,decide_eq_false z];exact ih
theorem Gk (l:List (Int×Int)) (k v:Int):putK (l.map fun p=>((.inl p.1,V.int p.2):Key×V)) (.inl k) (.int v)=(zW l k v).map fun p=>(.inl p.1,V.int p.2):=by
 have ha:((l.map fun p=>((.inl p.1,V.int p.2):Key×V)).any fun kv=>decide (kv.1=.inl k))=l.any fun p=>decide (p.1=k):=by
  rw [List.any_map];congr 1;funext p;by_cases z:p.1=k
  ·simp [z]
  ·have:¬ ((Sum.inl p.1:Key)=.inl k):=fun q=>z (Sum.inl.inj q)
   simp [z,this]
 unfold putK zW;rw [ha];split
 ·rw [L3,L3];refine L8 fun p _=>?_
  by_cases z:p.1=k
  ·simp [z]
  ·have:¬ ((Sum.inl p.1:Key)=.inl k):=fun q=>z (Sum.inl.inj q)
   simp [z,this]
 ·rw [LG];rfl
section
variable {X:Cx} {E:XK} {O:List Nat} {o e f i' value:Expr} {go ge gf:Ds->Rs PyData} {pos pos' apos cpos:Pos}
theorem Ft:PD X E (.Dict [] [] pos) (gC (dB [])):=(xr).imp fun σ H Q ⟨A,δ,R,o⟩=>fun p hp=>o (.ref p) _ (cm hp) (G4 (l:=[]) (by rw [ba (R.ls.new hp)];exact aV))
def nM (go ge gf:Ds->Rs PyData):Ds->Rs PyData:=fun δ=>(go δ).bind fun d=>match xZ d with
 | some l=>(ge δ).bind fun k=>(gf δ).bind fun z=>(match k,z with
  | .int k,.int z=>.ok (.int ((nK l k).getD z))
  | _,_=>.no)
 | none=>.no
end
section
variable {X:Cx} {E:XK} {O:List Nat} {o e f k value:Expr} {go ge gf gk gv:Ds->Rs PyData} {pos pos' apos cpos:Pos}
theorem Ay (hu:X.A.units+1<cLine) (ho:PD X E o go) (he:PD X E e ge) (hf:PD X E f gf) (m:M2 X o "get" apos e f cpos):PD X E (.Call (.Attribute o "get" apos) [e,f] [] cpos) (nM go ge gf) :=
 (Ct hu ho he hf m).imp fun σ H Q pz3=>by
  obtain ⟨A,δ,R,ou⟩:=pz3;unfold nM at ou;refine eD.run R (fun d ed v H1 s1 R1 h1=>?_) (fun C et H' s'=>?_) (fun et=>?_)
  ·simp only [ed,Rs.aj] at ou;split at ou
   ·rename_i l hl;rw [xx hl] at h1;obtain ⟨a,rfl,ha⟩:=h1.ofDic;have ha1:H1 a=some (dkO l):=aI _ _ ha;refine ⟨a,rfl,.inl ⟨_,.inl ha1⟩,?_⟩;refine eD.run R1 (fun kd ek u H2 s2 R2 hu2=>?_) (fun C et H' s'=>?_) (fun et=>?_)
    ·simp only [ek,Rs.aj] at ou;refine eD.run R2 (fun zd ez z H3 s3 R3 hz=>?_) (fun C et H' s'=>?_) (fun et=>?_)
     ·simp only [ez,Rs.aj] at ou;split at ou
      ·rename_i kk zz;have e1:=hu2.ofInt;have e2:=hz.ofInt;subst e1 e2;refine ⟨_,Cg.k (k:=.inl kk) (s3 _ _ (s2 _ _ ha1)),?_⟩;rw [DW];have:((nK l kk).map V.int).getD (.int zz)=.int ((nK l kk).getD zz):=by cases nK l kk <;> rfl
       rw [this];exact ou _ H3 (s1.trans (s2.trans s3)) ck
      ·exact ou.elim
     ·simp only [et,Rs.fo] at ou;exact ou H' (s1.trans (s2.trans s'))
     ·simp only [et,Rs.bX] at ou;exact ou
    ·simp only [et,Rs.fo] at ou;exact ou H' (s1.trans s')
    ·simp only [et,Rs.bX] at ou;exact ou
   ·exact ou.elim
  ·simp only [et,Rs.fo] at ou;exact ou H' s'
  ·simp only [et,Rs.bX] at ou;exact ou
def xQ (i:Nat):Ds->Sr:=fun δ=>if i<δ.length then .nx (δ.set i (some (dB []))) else .no
theorem Ec {i:Nat} {x:Str} (hN:X.N.Nodup) (hO:i∈O:=by decide) (hi:X.N[i]?=some x:=by rfl) (hx:Loc X.env.scope x:=by first | exact Or.inl rfl | exact Or.inr rfl) (hs:swapsWith (.Dict [] [] pos') (some (.Name x apos)) pos.line X.env=pure false:=by rfl)
  (hf:X.fn x=true\/X.env.scope.names.lookup x=some .local:=by first | exact .inl rfl | exact .inr rfl | assumption):PSD X E O (.Assign [.Name x apos] (.Dict [] [] pos') pos) (xQ i):=(rT hN hi hx xr hs hf).imp fun D σ H pz3=>by
 obtain ⟨H0,A0,A,δ,R,o⟩:=pz3;unfold xQ at o;split at o
 ·rename_i hl;intro p hp;exact o (p::A) _ _ (R.setOwnO (o:=dkO []) hO hl hp (cm hp) aV rfl ⟨[],rfl,rfl⟩)
 ·exact o.elim
def rG (i:Nat) (gk gv:Ds->Rs PyData):Ds->Sr:=fun δ=>match δ[i]? with
 | some (some d)=>(match xZ d with
  | some l=>ofR (gv δ) fun v=>ofR (gk δ) fun k=>(match k,v with
   | .int k,.int v=>if l.length<1000000 then .nx (δ.set i (some (dB (zW l k v)))) else .no
   | _,_=>.no)
  | none=>.no)
 | _=>.no
theorem Dm {i:Nat} {x:Str} {pn:Pos} (hu:X.A.units+1<cLine) (h:PD X E value gv) (hk:PD X E k gk) (hO:i∈O:=by decide) (hi:X.N[i]?=some x:=by rfl) (hv:Vis X.env.scope x:=by first | exact Or.inl rfl | exact Or.inr (Or.inl rfl) | exact Or.inr (Or.inr rfl))
  (hd:(x==("__debug__":Str))=false:=by decide) (hcd:(x==("__classdict__":Str))=false:=by decide) (hs:swapsWith value (some (.Subscript (.Name x pn) k pos')) pos.line X.env=pure false:=by rfl):PSD X E O (.Assign [.Subscript (.Name x pn) k pos'] value pos) (rG i gk gv) :=
 (Fd hu (mh hi hv hd hcd) hk h hs).imp fun D σ H pz3=>by
  obtain ⟨H0,A0,A,δ,R,ou⟩:=pz3;unfold rG at ou;split at ou
  ·rename_i d q;split at ou
   ·rename_i l hl;rw [xx hl] at q;obtain ⟨p,o',d',e1,hp,hpl,e2,hx⟩:=R.own i _ hO q;subst e2;have ho':o'=dkO l:=by
     unfold dB iH at hx;split at hx
     ·rename_i e;cases e
     ·rename_i e;injection e with e
      obtain ⟨m,e3,rfl⟩:=hx;rw [<-e] at e3;rw [rA e3];rfl
     ·exact hx.elim
    subst ho';refine eD.run R.full (fun vd ed v H1 s1 R1 hv1=>?_) (fun C et H' s'=>?_) (fun et=>?_)
    ·simp only [ed,aH] at ou;refine ⟨_,e1,?_⟩;refine eD.run R1 (fun kd ek u H2 s2 R2 hu2=>?_) (fun C et H' s'=>?_) (fun et=>?_)
     ·simp only [ek,aH] at ou;split at ou
      ·rename_i kk vv;split at ou
       ·rename_i hlen;have e3:=hu2.ofInt;have e4:=hv1.ofInt;subst e3 e4;have s12:=s1.trans s2;refine ⟨p,_,rfl,Ex.k (k:=.inl kk) (s12 _ _ hpl) (by rw [K5,sizeLine_eq];omega),?_⟩;rw [Gk];exact ou A _ _ ((R.step s12).putO (o:=dkO (zW l kk vv)) hO q e1 hp rfl ⟨_,rfl,rfl⟩)
       ·exact ou.elim
      ·exact ou.elim
     ·simp only [et,sC] at ou;exact ou H' (R.same.trans (s1.trans s'))
     ·simp only [et,tw] at ou;exact ou
    ·simp only [et,sC] at ou;exact ou H' (R.same.trans s')
    ·simp only [et,tw] at ou;exact ou
   ·exact ou.elim
  ·exact ou.elim
end
theorem cR.u1 {k:Nat} {A:Around} (r:cR k A):A.units+1<cLine:=by have:=r.un;omega
def GR (XN N:List Str) (p:Str) (cap:List Nat) (osc sc:Scope):Bool :=
 (sc.kind==.function)&&!sc.isCoroutine&&!sc.isGenerator&&decide N.Nodup&&decide (N.take 1=[p])&&(sc.names.lookup p==some .local)&&sc.names.all (fun x=>x.2 != .cell) &&
 sc.names.all (fun y=>y.2 != .free || osc.names.lookup y.1==some .cell)&&decide (N.length=1+cap.length) &&
 (List.range cap.length).all (fun i=>match N[1+i]?,cap[i]? with
  | some x,some m=>(XN[m]?==some x)&&(sc.names.lookup x==some .free)&&(osc.names.lookup x==some .cell)
  | _,_=>false)
theorem pZ {α:Type} {x:Str} {k:α}:∀ {l:List (Str×α)},l.lookup x=some k->(x,k)∈l
 | [],h=>by cases h
 | (y,j)::r,h=>by
  rw [Ld] at h;cases q:(x==y) with
  | true=>rw [q] at h;cases h;rw [eq_of_beq q];exact K4
  | false=>rw [q] at h;exact K0 _ (pZ h)
theorem rp {CX:CXT} {P:Program} {w:World} {K:PySem.W.Frag} {mg:Str->Option Value} {base:Heap} {XN:List Str} {qual:Str} {osc:Scope} {fa:Addr} {cd:Value} {A:Around} {outer:List Env} {s:Shared} {H:Hp} {E:XK}
  {E':XK} {a body:Expr} {ga gb:Ds->Rs PyData} {pos lpos kp p0:Pos} {params:Arguments} {scope:Scope} {c Pt:Addr} {k:Nat} {N:List Str} {p:Str} {cap:List Nat}
  (hm:mg "min"=none) (hr:cR (k+2) (eF CX P w K mg base XN qual osc fa cd A outer s H E).A) (ha:PD (eF CX P w K mg base XN qual osc fa cd A outer s H E) E' a ga) (T:Fb (eF CX P w K mg base XN qual osc fa cd A outer s H E) c Pt)
  (hbody:∀ (q c':Addr) (s':Shared) (H':Hp),PD (uX (CXW P w) P w K mg base N ((eF CX P w K mg base XN qual osc fa cd A outer s H E).env.qual++"<lambda>") scope q (.ref c') (oa scope.names (eF CX P w K mg base XN qual osc fa cd A outer s H E).env.cells []) (eF CX P w K mg base XN qual osc fa cd A outer s H E).A.in1 (eF CX P w K mg base XN qual osc fa cd A outer s H E).stack s' H' E0) E0 body gb)
  (hok:GR XN N p cap osc scope=true:=by decide +kernel)
  (hb:∀ (q:Str) (cl:List (Str×Addr)) (c':Addr) (pm ctv u:Value),bindArgs (PySem.W.kla_fn "<lambda>" q params body scope cl pm (.ref c') ctv) ⟨[u],[]⟩=pure ([p].zip [u]):=by intro _ _ _ _ _ _;rfl)
  (hg:Gl (eF CX P w K mg base XN qual osc fa cd A outer s H E) "min":=by rfl) (he:starEach [a] (eF CX P w K mg base XN qual osc fa cd A outer s H E).env=[(false,eval a (eF CX P w K mg base XN qual osc fa cd A outer s H E).env)]:=by rfl) (hdef:defaultsOf params (eF CX P w K mg base XN qual osc fa cd A outer s H E).env=([],[]):=by rfl) :
  PD (eF CX P w K mg base XN qual osc fa cd A outer s H E) E' (.Call (.Name "min" p0) [a] [⟨some "key",.Lambda params body scope lpos,kp⟩] pos) (j6 cap ga gb):=by
 unfold GR at hok;simp only [K9,L4,decide_eq_true_eq,beq_iff_eq,bne_iff_ne,Bool.or_eq_true,Bool.not_eq_true'] at hok;obtain ⟨⟨⟨⟨⟨⟨⟨⟨⟨o1,o2⟩,o3⟩,o4⟩,o5⟩,o6⟩,o7⟩,o8⟩,o9⟩,o10⟩:=hok;have hcell:∀ x,osc.names.lookup x=some .cell->∃ c,(eF CX P w K mg base XN qual osc fa cd A outer s H E).env.cells.lookup x=some c:=fun x hx=>sM hx
 refine BK (cap:=cap) rfl hm hr ha T (ke fun y hy hf=>?_) ⟨o1,o2,o3,o4,o5,fun x hx=>by rw [KW.mp hx];exact o6,o7⟩ (fun x c h=>sO _ _ _ x c (fun _ _ z=>by cases z) h) (fun x hx=>?_) o9 (fun i m x h1 h2=>?_) (hb _ _) (fun q c' s' H'=>hbody q c' s' H') hg he hdef
 ·rcases o8 y hy with z | z
  ·exact absurd hf z
  ·exact hcell y.1 z
 ·have hmem:=pZ hx;rcases o8 (x,.free) hmem with z | z
  ·exact absurd rfl z
  ·obtain ⟨c,hc⟩:=hcell x z;exact nN _ _ _ x c hmem hc
 ·have hlt:i<cap.length:=(Lj.mp h2).1;have:=o10 i (LQ.mpr hlt);rw [h1,h2] at this;simp only [K9,beq_iff_eq] at this;obtain ⟨⟨q1,q2⟩,q3⟩:=this;exact ⟨q1,q2,.inl q3,.inr (.inl q3)⟩
end L2
namespace RS
open PySem
set_option genInjectivity true in
structure Er where
 every:Int
 due:Int
 late:Int
 parts:List (Int×Option Int)
def bq:Option Int->PyData
 | none=>.none
 | some i=>.int i
def bt (p:Int×Option Int):PyData:=.tuple [.int p.1,bq p.2]
def Er.d (e:Er):PyData:=.tuple [.int e.every,.int e.due,.int e.late,.tuple (e.parts.map bt)]
def aU (es:List Er):PyData:=.tuple (es.map Er.d)
def isWhole (d:PyData) (lo hi:Int):Bool:=match d with
 | .int i=>decide (lo<=i)&&decide (i<=hi)
 | _=>false
def cL (d:PyData) (lo hi:Int):Bool:=match d with
 | .tuple ds=>decide (lo<=(ds.length:Int))&&decide ((ds.length:Int)<=hi)
 | _=>false
def eC (d:PyData):Bool:=match d with
 | .tuple [a,b]=>isWhole a 1 20&&(match b with | .none=>true | b=>isWhole b 0 3)
 | _=>false
def kF (ds:List PyData):Bool:=match ds.getLast? with
 | some (.tuple [_,.none])=>true
 | _=>false
def fg (d:PyData):Bool:=match d with
 | .tuple ds=>decide (1<=ds.length)&&decide (ds.length<=4)&&ds.all eC&&kF ds
 | _=>false
def cx (d:PyData):Bool:=match d with
 | .tuple [.int e,du,.int l,ps]=>decide (2<=e)&&decide (e<=60)&&(decide (0<=l)&&decide (l<=(if e-1<20 then e-1 else 20)))&&isWhole du 1 (e-l)&&fg ps
 | _=>false
def fw (d:PyData):Bool:=match d with
 | .tuple ds=>decide (1<=ds.length)&&decide (ds.length<=6)&&ds.all cx
 | _=>false
structure Er.Ok (e:Er):Prop where
 e1:2<=e.every
 e2:e.every<=60
 l1:0<=e.late
 l2:e.late<=20
 l3:e.late<e.every
 d1:1<=e.due
 d2:e.due<=e.every-e.late
 p1:e.parts≠[]
 p2:e.parts.length<=4
 pl:∀ p∈e.parts,1<=p.1/\p.1<=20/\∀ t,p.2=some t->0<=t/\t<=3
 la:∀ p,e.parts.getLast?=some p->p.2=none
theorem Bj {p:Int×Option Int} (h1:1<=p.1) (h2:p.1<=20) (h3:∀ t,p.2=some t->0<=t/\t<=3):eC (bt p)=true:=by
 obtain ⟨l,t⟩:=p;cases t with
 | none=>simp [eC,bt,bq,isWhole,h1,h2]
 | some t =>obtain ⟨a,b⟩:=h3 t rfl;simp [eC,bt,bq,isWhole,h1,h2,a,b]
theorem xW {e:Er} (h:e.Ok):cx e.d=true:=by
 have hp:(e.parts.map bt).all eC=true:=by rw [L4];intro d hd;obtain ⟨p,hp,rfl⟩:=KS.mp hd;obtain ⟨a,b,c⟩:=h.pl p hp;exact Bj a b c
 have hl:kF (e.parts.map bt)=true:=by
  unfold kF;rw [List.getLast?_map];cases q:e.parts.getLast? with
  | none=>exact absurd (List.getLast?_eq_none_iff.mp q) h.p1
  | some p =>obtain ⟨l,t⟩:=p;have:t=none:=h.la _ q;subst this;rfl
 have hn:1<=e.parts.length:=by
  cases q:e.parts with
  | nil=>exact absurd q h.p1
  | cons _ _=>simp
 have h1:=h.e1;have h2:=h.e2;have h3:=h.l1;have h4:=h.l2;have h5:=h.l3;have h6:=h.d1;have h7:=h.d2;have h8:=h.p2;have hl2:e.late<=if e.every-1<20 then e.every-1 else 20:=by split <;> omega
 simp [cx,Er.d,fg,isWhole,hp,hl,hn,h1,h2,h3,h6,h7,h8,hl2]
theorem vR {es:List Er} (h1:1<=es.length) (h2:es.length<=6) (h:∀ e∈es,e.Ok):fw (aU es)=true:=by
 have hp:(es.map Er.d).all cx=true:=by rw [L4];intro d hd;obtain ⟨e,he,rfl⟩:=KS.mp hd;exact xW (h e he)
 simp [fw,aU,h1,h2,hp]
def cellAt (ns:List Int) (k:Int):Int :=
 if k<(ns.length:Int) then ns.getD k.toNat 0 else if ns=[] then 0 else ns.getD (k % (ns.length:Int)).toNat 0*31+k
def BZ (ns:List Int) (k:Int):Int:=(cellAt ns k+7919*k+1)*48271 % 2147483647
def mixed (ns:List Int) (k many:Int):Int:=(BZ ns k*BZ ns k+7*BZ ns k+k) % 2147483629 % many
theorem F3 (ns:List Int) (k:Int):0<=BZ ns k:=LN _ (by decide)
theorem E4 (ns:List Int) (k:Int):BZ ns k<2147483647:=LU _ (by decide)
theorem dj (ns:List Int) (k:Int) {many:Int} (h:0<many):0<=mixed ns k many:=LN _ (by omega)
theorem dG (ns:List Int) (k:Int) {many:Int} (h:0<many):mixed ns k many<many:=LU _ h
def lS (i:Int):Option Int:=if i=0 then some 0 else if i=1 then some 1 else if i=2 then some 1 else if i=3 then some 0 else none
def ft (ns:List Int) (j:Int) (tools:Bool):Int×Option Int:=(1+mixed ns j 40 % 4,if tools then lS (mixed ns j 40 / 4 % 5) else none)
def jc (ns:List Int) (at' every:Int):Int :=
 if every-1<mixed ns (at' + 1) 4*(if mixed ns (at' + 2) 3=0 then 1 else 0) then every-1 else mixed ns (at' + 1) 4*(if mixed ns (at' + 2) 3=0 then 1 else 0)
def pP (ns:List Int) (at' due:Int):Int:=if mixed ns (at' + 1) 3=0 then due-mixed ns (at' + 2) due else due
def mkE (ns:List Int) (at' top:Int) (tools:Bool):Er where
 every:=3+mixed ns at' top
 late:=jc ns at' (3+mixed ns at' top)
 due:=pP ns at' (3+mixed ns at' top-jc ns at' (3+mixed ns at' top))
 parts:=((List.range (mixed ns (at' + 3) 3).toNat).map fun (k:Nat)=>ft ns (at' + 4+(k:Int)) tools)++[(1+mixed ns (at' + 6) 3,none)]
def qb (ns:List Int) (at' most top:Int) (tools:Bool):List Er:=(List.range (1+mixed ns at' most).toNat).map fun (k:Nat)=>mkE ns (at' + 1+7*(k:Int)) top tools
theorem yo (ns:List Int) (at' every:Int) (h:3<=every):0<=jc ns at' every/\jc ns at' every<=3/\jc ns at' every<every:=by
 have h1:=dj ns (at' + 1) (many:=4) (by decide);have h2:=dG ns (at' + 1) (many:=4) (by decide);unfold jc;generalize mixed ns (at' + 1) 4=x at *;by_cases hc:mixed ns (at' + 2) 3=0
 ·simp only [hc,if_true,Int.mul_one];split <;> omega
 ·simp only [hc,if_false,Int.mul_zero];split <;> omega
theorem F8 (ns:List Int) (at' due:Int) (h:1<=due):1<=pP ns at' due/\pP ns at' due<=due:=by have h1:=dj ns (at' + 2) (many:=due) (by omega);have h2:=dG ns (at' + 2) (many:=due) (by omega);unfold pP;split <;> omega
theorem FJ (i t:Int) (h:lS i=some t):0<=t/\t<=1:=by
 unfold lS at h
 repeat' split at h
 all_goals (first | (cases h;decide) | cases h)
theorem Cj (ns:List Int) (j:Int) (tools:Bool):1<=(ft ns j tools).1/\(ft ns j tools).1<=4/\∀ t,(ft ns j tools).2=some t->0<=t/\t<=1:=by
 have h1:0<=mixed ns j 40 % 4:=LN _ (by decide);have h2:mixed ns j 40 % 4<4:=LU _ (by decide);refine ⟨by unfold ft;simp only;omega,by unfold ft;simp only;omega,fun t h=>?_⟩;unfold ft at h;simp only at h;cases tools with
 | false=>simp at h
 | true=>simp at h;exact FJ _ _ h
theorem HQ (ns:List Int) (at' top:Int) (tools:Bool) (h1:0<top) (h2:top<=58):(mkE ns at' top tools).Ok:=by
 have a1:=dj ns at' h1;have a2:=dG ns at' h1;have l:=yo ns at' (3+mixed ns at' top) (by omega);have d:=F8 ns at' (3+mixed ns at' top-jc ns at' (3+mixed ns at' top)) (by omega);have n1:=dj ns (at' + 3) (many:=3) (by decide);have n2:=dG ns (at' + 3) (many:=3) (by decide);have n3:=dj ns (at' + 6) (many:=3) (by decide);have n4:=dG ns (at' + 6) (many:=3) (by decide);refine ⟨?_,?_,l.1,?_,l.2.2,d.1,d.2,?_,?_,?_,?_⟩
 ·show 2<=3+mixed ns at' top;omega
 ·show 3+mixed ns at' top<=60;omega
 ·have:=l.2.1;show jc ns at' (3+mixed ns at' top)<=20;omega
 ·simp [mkE]
 ·simp only [mkE,KU,K5,M0,Lc];omega
 ·intro p hp;simp only [mkE,Lg,KS,KW] at hp;rcases hp with ⟨k,_,rfl⟩ | rfl
  ·have:=Cj ns (at' + 4+(k:Int)) tools;refine ⟨this.1,by omega,fun t ht=>?_⟩;have:=this.2.2 t ht;omega
  ·exact ⟨by simp only;omega,by simp only;omega,fun t ht=>by cases ht⟩
 ·intro p hp;simp only [mkE,List.getLast?_append,List.getLast?_singleton,Option.some_or] at hp;cases hp;rfl
theorem DS (ns:List Int) (at' most top:Int) (tools:Bool) (h:0<most):1<=(qb ns at' most top tools).length/\((qb ns at' most top tools).length:Int)<=most:=by have h1:=dj ns at' h;have h2:=dG ns at' h;simp only [qb,K5,M0];omega
theorem Fo (ns:List Int) (at' most top:Int) (tools:Bool) (h1:0<top) (h2:top<=58):∀ e∈qb ns at' most top tools,e.Ok:=by intro e he;simp only [qb,KS] at he;obtain ⟨k,_,rfl⟩:=he;exact HQ _ _ _ _ h1 h2
end RS
namespace RS
open PySem L2
structure Cs where
 RankError:Addr
 NoErrands:Addr
 NoRanks:Addr
 NoComings:Addr
 NoErrand:Addr
 NoNumber:Addr
 TooLong:Addr
 NoText:Addr
 Holding:Addr
 Jobs:Addr
abbrev Gf:=List PyData->Rs PyData
def bw (K:PySem.W.Frag) (mg:Str->Option Value) (x:Str) (st:Stmt) (ps:List Str):Prop:=∃ f fd,Fun K x x st f fd/\Binds K fd ps []/\mg x=some (.ref f)
def iL (cs:Cs):Ds->Sr :=
 (aK (sIf (cOr (iO (gT (g1 (mr "int") (af 0)))) (gT (g1 (mr "bool") (af 0)))) (bR (gC (.bool false))) bO)
  (bR (oW dLe dLe (af 1) (af 0) (af 2))))
def iE (cs:Cs):Ds->Sr :=
 (bR (wd (g1 (mr "tuple") (af 0)) (oW dLe dLe (af 1) (gF cZ (ae (af 0) ao)) (af 2))))
def fY (cs:Cs) (aC aB:Gf):Ds->Sr :=
 (aK (sIf (cOr (iO (gT (ay aB (ae (af 0) (ae (gC (.int 2)) (ae (gC (.int 2)) ao)))))) (iO (gT (ay aC (ae (g2 dIx (af 0) (gC (.int 0))) (ae (gC (.int 1)) (ae (gC (.int 20)) ao))))))) (bR (gC (.bool false))) bO)
  (bR (gOr (g1 gR (g2 dIx (af 0) (gC (.int 1)))) (ay aC (ae (g2 dIx (af 0) (gC (.int 1))) (ae (gC (.int 0)) (ae (g2 iP (gC (.int 4)) (gC (.int 1))) ao)))))))
def fz (cs:Cs) (aB gf_is_part:Gf):Ds->Sr :=
 (aK (sIf (cOr (iO (gT (ay aB (ae (af 0) (ae (gC (.int 1)) (ae (gC (.int 4)) ao)))))) (iO (gT (gF qe (ae (gL (bM 1 (cC (af 0)) bF (ay gf_is_part (ae (af 1) ao)) aT)) ao))))) (bR (gC (.bool false))) bO)
  (bR (g1 gR (g2 dIx (g2 dIx (af 0) (g1 qi (gC (.int 1)))) (gC (.int 1))))))
def dS (cs:Cs) (aC gf_are_parts aB:Gf):Ds->Sr :=
 (aK (sIf (iO (gT (ay aB (ae (af 0) (ae (gC (.int 4)) (ae (gC (.int 4)) ao)))))) (bR (gC (.bool false))) bO)
  (aK (aW [] 1 (g2 dIx (af 0) (gC (.int 0))))
  (aK (aW [] 2 (g2 dIx (af 0) (gC (.int 1))))
  (aK (aW [] 3 (g2 dIx (af 0) (gC (.int 2))))
  (aK (sIf (iO (gT (ay aC (ae (af 1) (ae (gC (.int 2)) (ae (gC (.int 60)) ao)))))) (bR (gC (.bool false))) bO)
  (aK (sIf (iO (gT (ay aC (ae (af 3) (ae (gC (.int 0)) (ae (gF lQ (ae (gC (.int 20)) (ae (g2 iP (af 1) (gC (.int 1))) ao))) ao)))))) (bR (gC (.bool false))) bO)
  (bR (wd (ay aC (ae (af 2) (ae (gC (.int 1)) (ae (g2 iP (af 1) (af 3)) ao)))) (ay gf_are_parts (ae (g2 dIx (af 0) (gC (.int 3))) ao))))))))))
def iq (cs:Cs) (aB gf_is_errand:Gf):Ds->Sr :=
 (aK (sIf (cOr (iO (gT (ay aB (ae (af 0) (ae (gC (.int 1)) (ae (gC (.int 6)) ao)))))) (iO (gT (gF qe (ae (gL (bM 1 (cC (af 0)) bF (ay gf_is_errand (ae (af 1) ao)) aT)) ao))))) (kB cs.NoErrands (ae (gC (.str "errands are a tuple of 1 to 6 errands (every, due, late, parts)")) ao)) bO)
  (bR (af 0)))
def cU (cs:Cs) (aB aC:Gf):Ds->Sr :=
 (aK (aW [] 2 (g2 iP (gF cZ (ae (af 0) ao)) (gC (.int 1))))
  (aK (sIf (cOr (iO (gT (ay aB (ae (af 1) (ae (gF cZ (ae (af 0) ao)) (ae (gF cZ (ae (af 0) ao)) ao)))))) (iO (gT (gF qe (ae (gL (bM 3 (cC (af 1)) bF (ay aC (ae (af 3) (ae (gC (.int 0)) (ae (af 2) ao)))) aT)) ao))))) (kB cs.NoRanks (ae (gC (.str "ranks are a tuple of the numbers of all errands")) ao)) bO)
  (aK (sIf (gT (g2 dLt (gF nr (ae (af 1) ao)) (gF cZ (ae (af 1) ao)))) (kB cs.NoRanks (ae (gC (.str "ranks have each errand's number once")) ao)) bO)
  (bR (af 1)))))
def pH (cs:Cs):Ds->Sr :=
 (bR (gF tH (ae (gL (bM 1 (cC (g2 dIx (af 0) (gC (.int 3)))) bF (g2 dIx (af 1) (gC (.int 0))) aT)) ao)))
def iG (cs:Cs):Ds->Sr :=
 (bR (g2 (Ee false) (af 1) (gL (bM 2 (cC (g2 dIx (af 0) (gC (.int 3)))) bF (g2 dIx (af 2) (gC (.int 1))) aT))))
def ll (cs:Cs) (cf:Gf):Ds->Sr :=
 (aK (ju [] (ue (ae (af 1) ao)) (kO [3,4]) (sIf (gT (ay cf (ae (g2 dIx (af 0) (af 4)) (ae (af 2) ao)))) (bR (af 3)) bO))
  (bR (gC .none)))
def fG (cs:Cs) (cO:Gf):Ds->Sr :=
 (bR (gL (bM 2 (jm (ae (gC (.int 4)) ao)) bF (ay cO (ae (af 0) (ae (af 1) (ae (af 2) ao)))) aT)))
def fO (cs:Cs) (ak:Gf):Ds->Sr :=
 (aK (aW [7] 4 (g2 bo (gC (.int 3)) (ay ak (ae (af 0) (ae (af 1) (ae (af 2) ao))))))
  (aK (aW [7] 5 (g2 eM (ay ak (ae (af 0) (ae (g2 bo (af 1) (gC (.int 1))) (ae (gC (.int 4)) ao)))) (gF vp (ae (g2 dEq (ay ak (ae (af 0) (ae (g2 bo (af 1) (gC (.int 2))) (ae (gC (.int 3)) ao)))) (gC (.int 0))) ao))))
  (aK (aW [7] 5 (gF lQ (ae (af 5) (ae (g2 iP (af 4) (gC (.int 1))) ao))))
  (aK (aW [7] 6 (g2 iP (af 4) (af 5)))
  (aK (sIf (gT (g2 dEq (ay ak (ae (af 0) (ae (g2 bo (af 1) (gC (.int 1))) (ae (gC (.int 3)) ao)))) (gC (.int 0)))) (aW [7] 6 (g2 iP (af 6) (ay ak (ae (af 0) (ae (g2 bo (af 1) (gC (.int 2))) (ae (af 6) ao)))))) bO)
  (aK (lI [7] 7 ao)
  (aK (ju [7] (jm (ae (ay ak (ae (af 0) (ae (g2 bo (af 1) (gC (.int 3))) (ae (gC (.int 3)) ao)))) ao)) (cy 8) (aK (aW [7] 9 (ay ak (ae (af 0) (ae (g2 bo (g2 bo (af 1) (gC (.int 4))) (af 8)) (ae (gC (.int 40)) ao)))))
  (aK (md [7] 7 (jU (ae (g2 bo (gC (.int 1)) (g2 fi (af 9) (gC (.int 4)))) (ae (g2 dIx (gQ (ae (gC (.int 0)) (ae (gC (.int 1)) (ae (gC (.int 1)) (ae (gC (.int 0)) (ae (gC .none) ao)))))) (g2 fi (g2 gB (af 9) (gC (.int 4))) (gC (.int 5)))) ao))))
  (sIf (iO (gT (af 3))) (BI 7 (g1 qi (gC (.int 1))) (jU (ae (g2 dIx (g2 dIx (af 7) (g1 qi (gC (.int 1)))) (gC (.int 0))) (ae (gC .none) ao)))) bO))))
  (bR (jU (ae (af 4) (ae (af 6) (ae (af 5) (ae (gF kP (ae (g2 bo (af 7) (gQ (ae (jU (ae (g2 bo (gC (.int 1)) (ay ak (ae (af 0) (ae (g2 bo (af 1) (gC (.int 6))) (ae (gC (.int 3)) ao))))) (ae (gC .none) ao))) ao))) ao)) ao)))))))))))))
def fe (cs:Cs) (bV ak:Gf):Ds->Sr :=
 (aK (aW [] 5 (g2 bo (gC (.int 1)) (ay ak (ae (af 0) (ae (af 1) (ae (af 2) ao))))))
  (bR (gF kP (ae (gL (bM 6 (jm (ae (af 5) ao)) bF (ay bV (ae (af 0) (ae (g2 bo (g2 bo (af 1) (gC (.int 1))) (g2 eM (gC (.int 7)) (af 6))) (ae (af 3) (ae (af 4) ao))))) aT)) ao))))
def gy (cs:Cs) (ak:Gf):Ds->Sr :=
 (aK (lI [3,4] 3 (gLR (ae (af 2) ao)))
  (aK (lI [3,4] 4 ao)
  (aK (ju [3,4] (jm (ae (af 2) ao)) (cy 5) (jM 4 3 (ay ak (ae (af 0) (ae (g2 bo (af 1) (af 5)) (ae (gF cZ (ae (af 3) ao)) ao))))))
  (bR (gF kP (ae (af 4) ao))))))
def rR (cs:Cs):Ds->Sr :=
 (bR (gF tH (ae (gL (bM 1 (cC (g2 dIx (af 0) (gC (.int 3)))) bF (g2 dIx (af 1) (gC (.int 0))) aT)) ao)))
end RS
set_option maxHeartbeats 1000000
namespace RS
open PySem L2
theorem FO {O:List Nat} {δ:Ds} {i:Nat} (h:i∉O):(mask O δ)[i]?=δ[i]?:=by
 unfold mask;by_cases z:O=[]
 ·rw [if_pos z]
 ·rw [if_neg z,M1];cases δ[i]? with
  | none=>rfl
  | some d=>simp [h]
theorem b0 {O:List Nat} {δ:Ds} {i:Nat} (h:i∉O):af i (mask O δ)=af i δ:=by unfold af;rw [FO h]
@[simp] theorem az (d:PyData) (δ:Ds):af 0 (some d::δ)=.ok d:=rfl
@[simp] theorem aF (i:Nat) (x:Option PyData) (δ:Ds):af (i+1) (x::δ)=af i δ:=rfl
@[simp] theorem dP (d:PyData) (δ:Ds):gC d δ=.ok d:=rfl
@[simp] theorem gr (f:PyData->Option PyData) (a:Ds->Rs PyData) (δ:Ds):g1 f a δ=(a δ).bind fun x=>Rs.eP (f x):=rfl
@[simp] theorem cw (f:PyData->PyData->Option PyData) (a b:Ds->Rs PyData) (δ:Ds):g2 f a b δ=(a δ).bind fun x=>(b δ).bind fun y=>Rs.eP (f x y):=rfl
@[simp] theorem gW (f:List PyData->Option PyData) (a:Ds->Rs (List PyData)) (δ:Ds):gF f a δ=(a δ).bind fun x=>Rs.eP (f x):=rfl
@[simp] theorem aY (δ:Ds):ao δ=.ok []:=rfl
@[simp] theorem aQ (a:Ds->Rs PyData) (r:Ds->Rs (List PyData)) (δ:Ds):ae a r δ=(a δ).bind fun x=>(r δ).bind fun xs=>.ok (x::xs):=rfl
@[simp] theorem nP (a:Ds->Rs (List PyData)) (δ:Ds):jU a δ=(a δ).bind fun ds=>.ok (.tuple ds):=rfl
@[simp] theorem vA (a:Ds->Rs (List PyData)) (δ:Ds):gQ a δ=(a δ).bind fun ds=>.ok (.list ds):=rfl
@[simp] theorem cu (f:Gf) (a:Ds->Rs (List PyData)) (δ:Ds):ay f a δ=(a δ).bind f:=rfl
@[simp] theorem eN (a:Ds->Rs PyData) (δ:Ds):gT a δ=(a δ).bind truth:=rfl
@[simp] theorem bH (b:Bool):truth (.bool b)=.ok b:=rfl
@[simp] theorem vj (a:Ds->Rs Bool) (δ:Ds):iO a δ=(a δ).bind fun b=>.ok (!b):=rfl
@[simp] theorem Aa (a b:Ds->Rs Bool) (δ:Ds):Bd a b δ=(a δ).bind fun x=>if x=true then b δ else .ok false:=rfl
@[simp] theorem wK (a b:Ds->Rs Bool) (δ:Ds):cOr a b δ=(a δ).bind fun x=>if x=true then .ok true else b δ:=rfl
@[simp] theorem vG (a b:Ds->Rs PyData) (δ:Ds):wd a b δ=(a δ).bind fun x=>(truth x).bind fun t=>if t=true then b δ else .ok (.bool false):=rfl
@[simp] theorem IW (a b:Ds->Rs PyData) (δ:Ds):gOr a b δ=(a δ).bind fun x=>(truth x).bind fun t=>if t=true then .ok (.bool true) else b δ:=rfl
@[simp] theorem Ke (a:Ds->Rs PyData) (δ:Ds):Kj a δ=(a δ).bind fun x=>(truth x).bind fun t=>.ok (.bool (!t)):=rfl
@[simp] theorem og (a:Ds->Rs (List PyData)) (δ:Ds):gL a δ=(a δ).bind fun ds=>.ok (.list ds):=rfl
@[simp] theorem HP (a:Ds->Rs PyData) (δ:Ds):cC a δ=(a δ).bind Al:=rfl
@[simp] theorem Ky (ds:List PyData):Al (.list ds)=.ok ds:=rfl
@[simp] theorem Kk (ds:List PyData):Al (.tuple ds)=.ok ds:=rfl
@[simp] theorem mR (a:Ds->Rs (List PyData)) (δ:Ds):jm a δ=(a δ).bind Fn:=rfl
@[simp] theorem Gd (a:Ds->Rs (List PyData)) (δ:Ds):tj a δ=(a δ).bind DT:=rfl
@[simp] theorem Fz (a:Ds->Rs (List PyData)) (δ:Ds):Bb a δ=(a δ).bind Ek:=rfl
@[simp] theorem Jf (a:Ds->Rs (List PyData)) (δ:Ds):gLR a δ=(a δ).bind wc:=rfl
@[simp] theorem F5 (a:Ds->Rs (List PyData)) (δ:Ds):ue a δ=(a δ).bind qV:=rfl
@[simp] theorem J8 (ds:List PyData):qV [.list ds]=.ok (kQ ds):=rfl
@[simp] theorem FZ (ds:List PyData):qV [.tuple ds]=.ok (kQ ds):=rfl
@[simp] theorem Jk (f f':PyData->PyData->Option PyData) (a b c:Ds->Rs PyData) (δ:Ds):oW f f' a b c δ=(a δ).bind fun x=>(b δ).bind fun y=>(Rs.eP (f x y)).bind fun z=>(truth z).bind fun t=>if t=true then (c δ).bind fun w=>Rs.eP (f' y w) else .ok (.bool false):=rfl
@[simp] theorem IL (δ:Ds):Fq δ=.ok none:=rfl
@[simp] theorem J9 (g:Ds->Rs PyData) (δ:Ds):JR g δ=(g δ).bind DG:=rfl
@[simp] theorem Ka (i:Int):DG (.int i)=.ok (some i):=rfl
@[simp] theorem JC (g:Ds->Rs PyData) (lo hi:Ds->Rs (Option Int)) (δ:Ds):G3 g lo hi δ=(g δ).bind fun d=>(lo δ).bind fun l=>(hi δ).bind fun h=>Rs.eP (ES d l h):=rfl
@[simp] theorem Km (x:List PyData) (lo hi:Option Int):ES (.list x) lo hi=some (.list (cutD x lo hi)):=rfl
@[simp] theorem Kz (x:List PyData) (lo hi:Option Int):ES (.tuple x) lo hi=some (.tuple (cutD x lo hi)):=rfl
@[simp] theorem br (a b:Ds->Sr) (δ:Ds):aK a b δ=match a δ with | .nx δ'=>b δ' | r=>r:=rfl
@[simp] theorem eV (δ:Ds):bO δ=.nx δ:=rfl
@[simp] theorem dA (c:Ds->Rs Bool) (a b:Ds->Sr) (δ:Ds):sIf c a b δ=ofR (c δ) fun t=>if t=true then a δ else b δ:=rfl
@[simp] theorem cB (g:Ds->Rs PyData) (δ:Ds):bR g δ=ofR (g δ) .rt:=rfl
@[simp] theorem vL (g:Ds->Rs PyData) (δ:Ds):mM g δ=ofR (g δ) fun _=>.nx δ:=rfl
@[simp] theorem lH (i:Nat) (g:Ds->Rs PyData) (δ:Ds):aW [] i g δ=if i<δ.length then ofR (g δ) fun d=>.nx (δ.set i (some d)) else .no:=by unfold aW;rw [jB]
@[simp] theorem JE (C:Addr) (gs:Ds->Rs (List PyData)) (δ:Ds):kB C gs δ=ofR (gs δ) fun _=>.rz C:=rfl
theorem vn (O:List Nat) (src:Ds->Rs (List PyData)) (tgt:PyData->Ds->Option Ds) (body:Ds->Sr) (δ:Ds):ju O src tgt body δ=ofR (src (mask O δ)) fun ds=>forL tgt body ds δ:=rfl
@[simp] theorem bU (d:PyData):bu (.rt d)=.ok d:=rfl
@[simp] theorem IK (δ:Ds):bu (.nx δ)=.ok .none:=rfl
@[simp] theorem IM (C:Addr):bu (.rz C)=.rz C:=rfl
@[simp] theorem IJ:bu .no=.no:=rfl
@[simp] theorem fA (a b:Int):bo (.int a) (.int b)=some (.int (a+b)):=rfl
@[simp] theorem xD (a b:Int):iP (.int a) (.int b)=some (.int (a-b)):=rfl
@[simp] theorem ua (a b:Int):fi (.int a) (.int b)=if 0<b then some (.int (a % b)) else none:=rfl
@[simp] theorem uo (a b:Int):gB (.int a) (.int b)=if 0<b/\b<1073741824 then some (.int (a / b)) else none:=rfl
@[simp] theorem G9 (a b:Int):dLt (.int a) (.int b)=some (.bool (decide (a<b))):=rfl
@[simp] theorem Ga (a b:Int):dLe (.int a) (.int b)=some (.bool (decide (a<=b))):=rfl
@[simp] theorem yN (a b:Int):dGt (.int a) (.int b)=some (.bool (decide (b<a))):=rfl
@[simp] theorem KO (a b:Int):dGe (.int a) (.int b)=some (.bool (decide (b<=a))):=rfl
@[simp] theorem GU (a:Int):qi (.int a)=some (.int (-a)):=rfl
@[simp] theorem pY (d:PyData):gR d=some (.bool (bZ d)):=rfl
@[simp] theorem DI (d:PyData):tE d=some (.bool (!bZ d)):=rfl
@[simp] theorem mT:bZ .none=true:=rfl
@[simp] theorem jr (i:Int):bZ (.int i)=false:=rfl
@[simp] theorem GG (x:List PyData) (i:Int):dIx (.tuple x) (.int i)=atI x i:=rfl
@[simp] theorem D6 (x:List PyData) (i:Int):dIx (.list x) (.int i)=atI x i:=rfl
@[simp] theorem DH (x:List PyData):cZ [.tuple x]=some (.int x.length):=rfl
@[simp] theorem l5 (x:List PyData):cZ [.list x]=some (.int x.length):=rfl
@[simp] theorem zJ (a b:Int):lQ [.int a,.int b]=some (.int (if b<a then b else a)):=rfl
@[simp] theorem Ey (a b:Int):jv [.int a,.int b]=some (.int (if b>a then b else a)):=rfl
@[simp] theorem DF (b:Bool):vp [.bool b]=some (.int (if b then 1 else 0)):=rfl
@[simp] theorem CG (x:List PyData):kP [.list x]=some (.tuple x):=rfl
@[simp] theorem Kt (x:List PyData):kP [.tuple x]=some (.tuple x):=rfl
@[simp] theorem kD (a b:Int):dEq (.int a) (.int b)=some (.bool (a==b)):=by
 have h:∀ i:Int,PySem.SeqAt.shaped (.int i)=true:=fun i=>by simp [PySem.SeqAt.shaped,PyData.canLay0,PyData.depth]
 unfold dEq;rw [h,h];simp [aP,PyData.eqv]
@[simp] theorem JO (a b:Int):dNe (.int a) (.int b)=some (.bool (!(a==b))):=by
 have h:∀ i:Int,PySem.SeqAt.shaped (.int i)=true:=fun i=>by simp [PySem.SeqAt.shaped,PyData.canLay0,PyData.depth]
 unfold dNe;rw [h,h];simp [aP,PyData.eqv]
theorem tD {α:Type} {xs:List α} {i:Int} {j:Nat} (h:i=j):atI xs i=xs[j]?:=by
 subst h;unfold atI ixN;by_cases z:(j:Int)<xs.length
 ·rw [if_pos (by omega),if_pos z];simp
 ·rw [if_pos (by omega),if_neg z];simp;omega
@[simp] theorem KQ {α:Type} (xs:List α):atI xs 0=xs[0]?:=tD (j:=0) rfl
@[simp] theorem KN {α:Type} (xs:List α):atI xs 1=xs[1]?:=tD (j:=1) rfl
@[simp] theorem KL {α:Type} (xs:List α):atI xs 2=xs[2]?:=tD (j:=2) rfl
@[simp] theorem KP {α:Type} (xs:List α):atI xs 3=xs[3]?:=tD (j:=3) rfl
theorem n9 {α:Type} (xs:List α):atI xs (-1)=xs.getLast?:=by
 unfold atI ixN;rw [if_neg (by decide)];by_cases z:xs=[]
 ·subst z;rfl
 ·have:0<xs.length:=LO.mpr z;rw [if_pos (by omega),List.getLast?_eq_getElem?];simp only [Mi];congr 1;omega
theorem jo {α:Type} (g:α->Bool) (xs:List α):qe [.list (xs.map fun d=>.bool (g d))]=some (.bool (xs.all g)):=by
 have hb:i6 (xs.map fun d=>PyData.bool (g d))=some (xs.map g):=by rw [show (xs.map fun d=>PyData.bool (g d))=(xs.map g).map PyData.bool by rw [L3];rfl];exact rL _
 show (i6 (xs.map fun d=>PyData.bool (g d))).map (fun ns=>PyData.bool (ns.all id))=_;rw [hb,M9,List.all_map];rfl
theorem qS {α:Type} (g:α->Int) (xs:List α):tH [.list (xs.map fun d=>.int (g d))]=some (.int (xs.map g).sum):=by
 have hb:gA (xs.map fun d=>PyData.int (g d))=some (xs.map g):=by rw [show (xs.map fun d=>PyData.int (g d))=(xs.map g).map PyData.int by rw [L3];rfl];exact gp _
 show (gA (xs.map fun d=>PyData.int (g d))).map (fun ns=>PyData.int ns.sum)=_;rw [hb,M9]
theorem comp_map {elt:Ds->Rs PyData} {δ:Ds} {f:PyData->PyData}:∀ (ds:List PyData),(∀ d∈ds,elt (δ++[some d])=.ok (f d))->fu bF elt aT δ ds=.ok (ds.map f)
 | [],_=>rfl
 | d::r,h=>by unfold fu;simp only [aT,bF,Rs.dZ,Rs.aj,if_true,h d K4,comp_map r fun e he=>h e (K0 _ he),K1]
theorem cQ {n0:Nat} {src:Ds->Rs (List PyData)} {elt:Ds->Rs PyData} {δ:Ds} {f:PyData->PyData} {ds:List PyData} (hn:δ.length=n0) (hs:src δ=.ok ds) (hl:ds.length<=1000000) (h:∀ d∈ds,elt (δ++[some d])=.ok (f d)) :
  bM n0 src bF elt aT δ=.ok (ds.map f):=by
 unfold bM;rw [if_pos hn,hs];simp only [Rs.aj,if_pos hl];exact comp_map ds h
theorem jX:∀ {ds:List PyData},d8 ds=true->∀ d∈ds,aP d=true
 | [],_,d,hd=>by cases hd
 | e::r,h,d,hd=>by
  unfold d8 at h;obtain ⟨h1,h2⟩:=Lx.mp h;rcases K6.mp hd with z | z
  ·rw [z];exact h1
  ·exact jX h2 d z
theorem eU {ds:List PyData} (h:aP (.tuple ds)=true):∀ d∈ds,aP d=true:=by unfold aP at h;exact jX h
def aC:Gf
 | [d,.int a,.int b]=>if aP d then .ok (.bool (isWhole d a b)) else .no
 | _=>.no
theorem qF {f:PyData->Int->Int->Rs PyData} {ds:List PyData} (h:(match ds with | [x0,.int x1,.int x2]=>f x0 x1 x2 | _=>.no)≠.no):∃ x0 x1 x2,ds=[x0,.int x1,.int x2]/\f x0 x1 x2≠.no:=by
 rcases ds with _ | ⟨x0,_ | ⟨x1,_ | ⟨x2,_ | ⟨y,ys⟩⟩⟩⟩
 ·exact absurd rfl h
 ·exact absurd rfl h
 ·first | exact absurd rfl h | (cases x1 <;> exact absurd rfl h)
 ·skip
  cases x1 with
  | int x1 =>
   cases x2 with
   | int x2 =>exact ⟨_,_,_,rfl,h⟩
   | _=>exact absurd rfl h
  | _=>first | exact absurd rfl h | (cases x2 <;> exact absurd rfl h)
 ·first | exact absurd rfl h | (cases x1 <;> first | exact absurd rfl h | (cases x2 <;> exact absurd rfl h))
theorem zB (cs:Cs):∀ ds,ds.length=3->aC ds≠.no->bu (iL cs (ds.map some++List.replicate 0 none))=aC ds:=by
 intro ds hl hne;obtain ⟨d,a,b,ez,hz⟩:=qF hne;clear hne;subst ez;have hne:=hz;clear hz;unfold aC
 ·skip
  split at hne
  ·rename_i hd;simp only [hd,if_true];cases d with
   | int i=>by_cases h:a<=i <;> simp [iL,mr,hd,wt,tyD,isWhole,h]
   | dict _=>simp [aP] at hd
   | _=>simp [iL,mr,hd,wt,tyD,isWhole]
  ·exact absurd rfl hne
def aB:Gf
 | [d,.int a,.int b]=>if aP d then .ok (.bool (cL d a b)) else .no
 | _=>.no
theorem zC (cs:Cs):∀ ds,ds.length=3->aB ds≠.no->bu (iE cs (ds.map some++List.replicate 0 none))=aB ds:=by
 intro ds hl hne;obtain ⟨d,a,b,ez,hz⟩:=qF hne;clear hne;subst ez;have hne:=hz;clear hz;unfold aB
 ·skip
  split at hne
  ·rename_i hd;simp only [hd,if_true];cases d with
   | tuple x=>by_cases h:a<=(x.length:Int) <;> simp [iE,mr,hd,wt,tyD,cL,h]
   | dict _=>simp [aP] at hd
   | _=>simp [iE,mr,hd,wt,tyD,cL]
  ·exact absurd rfl hne
def ia (g:PyData->Bool):Gf
 | [d]=>if aP d then .ok (.bool (g d)) else .no
 | _=>.no
theorem r8 {g:PyData->Bool} {ds:List PyData} (h:ia g ds≠.no):∃ d,ds=[d]/\aP d=true/\ia g ds=.ok (.bool (g d)):=by
 unfold ia at h ⊢;split at h
 ·rename_i d;split at h
  ·rename_i hd;exact ⟨d,rfl,hd,by simp [hd]⟩
  ·exact absurd rfl h
 ·exact absurd rfl h
theorem rZ {g:PyData->Bool} {d:PyData} (h:aP d=true):ia g [d]=.ok (.bool (g d)):=by unfold ia;simp [h]
@[simp] theorem IP {d:PyData} {a b:Int} (h:aP d=true):aB [d,.int a,.int b]=.ok (.bool (cL d a b)):=by unfold aB;simp [h]
@[simp] theorem xX {d:PyData} {a b:Int} (h:aP d=true):aC [d,.int a,.int b]=.ok (.bool (isWhole d a b)):=by unfold aC;simp [h]
theorem xV {d:PyData} (h:cL d 2 2=true):∃ a b,d=.tuple [a,b]:=by
 cases d with
 | tuple ds =>
  simp [cL] at h
  match ds,h with
  | [a,b],_=>exact ⟨a,b,rfl⟩
  | [],h=>simp at h
  | [_],h=>simp at h
  | _::_::_::_,h=>simp at h;omega
 | _=>cases h
theorem Bn (cs:Cs):∀ ds,ds.length=1->ia eC ds≠.no->bu (fY cs aC aB (ds.map some++List.replicate 0 none))=ia eC ds:=by
 intro ds hl hne;obtain ⟨d,rfl,hd,e⟩:=r8 hne;rw [e];cases e1:cL d 2 2 with
 | false =>
  have:eC d=false:=by
   unfold eC;split
   ·simp [cL] at e1
   ·rfl
  simp [fY,hd,e1,this]
 | true =>
  obtain ⟨a,b,rfl⟩:=xV e1;have ha:=eU hd a (by simp);have hb:=eU hd b (by simp);cases e2:isWhole a 1 20 with
  | false=>simp [fY,hd,ha,e1,e2,eC]
  | true =>
   cases b with
   | none=>simp [fY,hd,ha,e1,e2,eC]
   | _=>simp [fY,hd,ha,hb,e1,e2,eC,bZ]
theorem wU (cs:Cs):∀ ds,ds.length=1->ia fg ds≠.no->bu (fz cs aB (ia eC) (ds.map some++List.replicate 0 none))=ia fg ds:=by
 intro ds hl hne;obtain ⟨d,rfl,hd,e⟩:=r8 hne;rw [e];cases e1:cL d 1 4 with
 | false =>
  have:fg d=false:=by
   cases d with
   | tuple ds =>simp only [cL,Lv,decide_eq_false_iff_not] at e1;simp only [fg,Lv,decide_eq_false_iff_not];refine .inl (.inl ?_);omega
   | _=>rfl
  simp [fz,hd,e1,this]
 | true =>
  obtain ⟨xs,rfl⟩:∃ ds,d=.tuple ds:=by cases d <;> first | exact ⟨_,rfl⟩ | cases e1
  have hn:1<=xs.length/\xs.length<=4:=by simp only [cL,K9,decide_eq_true_eq] at e1;omega
  have hc:bM 1 (cC (af 0)) bF (ay (ia eC) (ae (af 1) ao)) aT [some (.tuple xs)]=.ok (xs.map fun d=>.bool (eC d)) :=
   cQ rfl rfl (by omega) fun d hd'=>by simp [rZ (eU hd d hd')]
  have hf:=jo eC xs;cases e2:xs.all eC with
  | false=>simp [fz,hd,e1,hc,hf,e2,fg]
  | true =>
   have hne:xs≠[]:=by intro z;subst z;simp at hn
   have hl2:xs.getLast?=some (xs.getLast hne):=List.getLast?_eq_some_getLast hne;have hp:=L4.mp e2 _ (List.getLast_mem hne);obtain ⟨a,b,eab⟩:∃ a b,xs.getLast hne=.tuple [a,b]:=by
    revert hp;generalize xs.getLast hne=z;intro hp;unfold eC at hp;split at hp
    ·exact ⟨_,_,rfl⟩
    ·cases hp
   rw [eab] at hl2;have hln:kF xs=bZ b:=by unfold kF;rw [hl2];cases b <;> rfl
   simp [fz,hd,e1,hc,hf,e2,fg,n9,hl2,hln,hn.1,hn.2]
theorem vu {d:PyData} (h:cL d 4 4=true):∃ a b c e,d=.tuple [a,b,c,e]:=by
 cases d with
 | tuple ds =>
  simp [cL] at h
  match ds,h with
  | [a,b,c,e],_=>exact ⟨a,b,c,e,rfl⟩
  | [],h=>simp at h
  | [_],h=>simp at h
  | [_,_],h=>simp at h
  | [_,_,_],h=>simp at h
  | _::_::_::_::_::_,h=>simp at h;omega
 | _=>cases h
theorem gE {d:PyData} {a b:Int} (h:isWhole d a b=true):∃ i,d=.int i/\a<=i/\i<=b:=by
 cases d with
 | int i=>simp [isWhole] at h;exact ⟨i,rfl,h⟩
 | _=>cases h
theorem sW {a b c e:PyData} (h:isWhole a 2 60=false):cx (.tuple [a,b,c,e])=false:=by
 cases a with
 | int i =>
  cases c with
  | int l =>simp only [isWhole,Lv,decide_eq_false_iff_not] at h;simp only [cx,Lv,decide_eq_false_iff_not];omega
  | _=>rfl
 | _=>rfl
theorem tV {b c e:PyData} {i:Int} (h:isWhole c 0 (if i-1<20 then i-1 else 20)=false):cx (.tuple [.int i,b,c,e])=false:=by
 cases c with
 | int l =>simp only [isWhole,Lv,decide_eq_false_iff_not] at h;simp only [cx,Lv,decide_eq_false_iff_not];exact .inl (.inl (.inr h))
 | _=>rfl
theorem tP {b e:PyData} {i l:Int} (h1:2<=i/\i<=60) (h2:0<=l/\l<=if i-1<20 then i-1 else 20):cx (.tuple [.int i,b,.int l,e])=(isWhole b 1 (i-l)&&fg e):=by simp [cx,h1.1,h1.2,h2.1,h2.2]
theorem yn (cs:Cs):∀ ds,ds.length=1->ia cx ds≠.no->bu (dS cs aC (ia fg) aB (ds.map some++List.replicate 3 none))=ia cx ds:=by
 intro ds hl hne;obtain ⟨d,rfl,hd,e⟩:=r8 hne;rw [e];cases e1:cL d 4 4 with
 | false =>
  have:cx d=false:=by
   unfold cx;split
   ·simp [cL] at e1
   ·rfl
  simp [dS,hd,e1,this]
 | true =>
  obtain ⟨a,b,c,q,rfl⟩:=vu e1;have ha:=eU hd a (by simp);have hb:=eU hd b (by simp);have hc:=eU hd c (by simp);have he:=eU hd q (by simp);cases e2:isWhole a 2 60 with
  | false=>simp [dS,hd,ha,hb,hc,he,e1,e2,sW e2]
  | true =>
   obtain ⟨i,rfl,i1,i2⟩:=gE e2;cases e3:isWhole c 0 (if i-1<20 then i-1 else 20) with
   | false=>simp [dS,hd,ha,hb,hc,he,e1,e2,e3,tV e3]
   | true =>
    obtain ⟨l,rfl,l1,l2⟩:=gE e3;have er:=tP (b:=b) (e:=q) ⟨i1,i2⟩ ⟨l1,l2⟩;cases e4:isWhole b 1 (i-l) with
    | false=>simp [dS,hd,ha,hb,hc,he,e1,e2,e3,e4,er]
    | true=>simp [dS,hd,ha,hb,hc,he,e1,e2,e3,e4,er,rZ he]
def aM (cs:Cs):Gf
 | [d]=>if aP d then (if fw d then .ok d else .rz cs.NoErrands) else .no
 | _=>.no
theorem BG (cs:Cs):∀ ds,ds.length=1->aM cs ds≠.no->bu (iq cs aB (ia cx) (ds.map some++List.replicate 0 none))=aM cs ds:=by
 intro ds hl hne;obtain ⟨d,rfl⟩:∃ d,ds=[d]:=by
  match ds,hl with
  | [d],_=>exact ⟨d,rfl⟩
 have hd:aP d=true:=by
  unfold aM at hne;by_cases z:aP d=true
  ·exact z
  ·simp [z] at hne
 have eg:aM cs [d]=if fw d then .ok d else .rz cs.NoErrands:=by unfold aM;simp [hd]
 rw [eg];cases e1:cL d 1 6 with
 | false =>
  have:fw d=false:=by
   cases d with
   | tuple ds =>simp only [cL,Lv,decide_eq_false_iff_not] at e1;simp only [fw,Lv,decide_eq_false_iff_not];refine .inl ?_;omega
   | _=>rfl
  simp [iq,hd,e1,this]
 | true =>
  obtain ⟨xs,rfl⟩:∃ ds,d=.tuple ds:=by cases d <;> first | exact ⟨_,rfl⟩ | cases e1
  have hn:1<=xs.length/\xs.length<=6:=by simp only [cL,K9,decide_eq_true_eq] at e1;omega
  have hc:bM 1 (cC (af 0)) bF (ay (ia cx) (ae (af 1) ao)) aT [some (.tuple xs)]=.ok (xs.map fun d=>.bool (cx d)) :=
   cQ rfl rfl (by omega) fun d hd'=>by simp [rZ (eU hd d hd')]
  have hf:=jo cx xs;cases e2:xs.all cx with
  | false=>simp [iq,hd,e1,hc,hf,e2,fw]
  | true=>simp [iq,hd,e1,hc,hf,e2,fw,hn.1,hn.2]
theorem l0 {β:Type} {tgt:PyData->Ds->Option Ds} {body:Ds->Sr} (inv:Nat->Ds->Prop):∀ (ds:List PyData) (k:Nat),(∀ (i:Nat) d δ,ds[i]?=some d->inv (k+i) δ->∃ δ1 δ2,tgt d δ=some δ1/\body δ1=.nx δ2/\inv (k+i+1) δ2) ->
  ∀ δ,inv k δ->∃ δ',forL tgt body ds δ=.nx δ'/\inv (k+ds.length) δ'
 | [],k,_,δ,h=>⟨δ,rfl,h⟩
 | d::r,k,hs,δ,h=>by
  obtain ⟨δ1,δ2,e1,e2,h2⟩:=hs 0 d δ rfl h;obtain ⟨δ',e3,h3⟩:=l0 (β:=β) inv r (k+1) (fun i x δ hx hi=>by have:=hs (i+1) x δ (by simpa using hx) (by rw [show k+(i+1)=k+1+i by omega];exact hi);rw [show k+1+i+1=k+(i+1)+1 by omega];exact this) δ2 h2
  exact ⟨δ',by unfold forL;rw [e1];simp only [e2];exact e3,by rw [L6,show k+(r.length+1)=k+1+r.length by omega];exact h3⟩
def Ej:PyData->Option Int
 | .int i=>some i
 | _=>none
def dQ:PyData->Int×Option Int
 | .tuple [.int l,t]=>(l,Ej t)
 | _=>(0,none)
def deE:PyData->Er
 | .tuple [.int e,.int d,.int l,.tuple ps]=>⟨e,d,l,ps.map dQ⟩
 | _=>⟨0,0,0,[]⟩
theorem Dx (e:Int) (d:Int) (l:Int) (ps:List PyData):deE (.tuple [.int e,.int d,.int l,.tuple ps])=⟨e,d,l,ps.map dQ⟩:=rfl
def mO:PyData->List Er
 | .tuple ds=>ds.map deE
 | _=>[]
theorem zb (o:Option Int):Ej (bq o)=o:=by cases o <;> rfl
theorem ix (p:Int×Option Int):dQ (bt p)=p:=by obtain ⟨l,t⟩:=p;simp [bt,dQ,zb]
theorem nk (e:Er):deE e.d=e:=by
 obtain ⟨a,b,c,ps⟩:=e;simp [Er.d,Dx,L3]
 conv=>rhs;rw [<-LJ ps]
 exact L8 fun p _=>ix p
theorem zg (es:List Er):mO (aU es)=es:=by
 simp [aU,mO,L3]
 conv=>rhs;rw [<-LJ es]
 exact L8 fun e _=>nk e
def deI:PyData->Int
 | .int i=>i
 | _=>0
def iB:PyData->List Int
 | .tuple ds=>ds.map deI
 | _=>[]
def bc (ns:List Int):PyData:=.tuple (ns.map .int)
theorem qT (ns:List Int):iB (bc ns)=ns:=by
 simp [bc,iB,L3]
 conv=>rhs;rw [<-LJ ns]
 exact L8 fun _ _=>rfl
def fm (n:Nat):PyData->Bool
 | .tuple ds=>decide (ds.length=n)&&ds.all (fun d=>isWhole d 0 ((n:Int)-1))&&decide (ds.map deI).Nodup
 | _=>false
structure kG (n:Nat) (rs:List Int):Prop where
 len:rs.length=n
 rng:∀ r∈rs,0<=r/\r<n
 nd:rs.Nodup
theorem yv {n:Nat} {d:PyData} (h:fm n d=true):bc (iB d)=d/\kG n (iB d):=by
 unfold fm at h;split at h
 ·rename_i ds;simp only [K9,decide_eq_true_eq] at h;obtain ⟨⟨h1,h2⟩,h3⟩:=h;have pa:=L4.mp h2;refine ⟨?_,by simpa [iB] using h1,fun r hr=>?_,h3⟩
  ·simp only [iB,bc,L3];congr 1
   conv=>rhs;rw [<-LJ ds]
   refine L8 fun p hp=>?_
   obtain ⟨i,rfl,_⟩:=gE (pa p hp);rfl
  ·obtain ⟨q,hq,rfl⟩:=KS.mp (show r∈ds.map deI from hr);obtain ⟨i,rfl,a,b⟩:=gE (pa q hq);exact ⟨a,by show i<n;omega⟩
 ·cases h
theorem mG {n:Nat} {rs:List Int} (h:kG n rs):fm n (bc rs)=true:=by
 have e:(rs.map PyData.int).map deI=rs:=by
  rw [L3];conv=>rhs;rw [<-LJ rs]
  exact L8 fun _ _=>rfl
 unfold fm bc;simp only [K5,h.len,decide_true,Mv,e,h.nd,M8];rw [L4];intro d hd;obtain ⟨r,hr,rfl⟩:=KS.mp hd;have:=h.rng r hr;simp [isWhole,this.1];omega
theorem oN:∀ (l acc:List Int),acc.Nodup->((l.foldl PyProof.Rows.step_dedup acc).length<=acc.length+l.length)/\((l.foldl PyProof.Rows.step_dedup acc).length=acc.length+l.length↔(acc++l).Nodup)
 | [],acc,h=>by simpa using h
 | x::r,acc,h=>by
  rw [List.foldl_cons];by_cases z:acc.any (·==x)=true
  ·have e:PyProof.Rows.step_dedup acc x=acc:=by unfold PyProof.Rows.step_dedup;rw [if_pos z]
   rw [e];have:=oN r acc h;refine ⟨by rw [L6];omega,fun q=>?_,fun q=>?_⟩
   ·rw [L6] at q;omega
   ·exfalso;obtain ⟨y,hy,ey⟩:=MR.mp z;have:y=x:=by simpa using ey
    subst this;rw [MN] at q;exact q.2.2 y hy y K4 rfl
  ·have e:PyProof.Rows.step_dedup acc x=acc++[x]:=by unfold PyProof.Rows.step_dedup;rw [if_neg z]
   have hx:x∉acc:=fun q=>z (MR.mpr ⟨x,q,by simp⟩)
   have hn:(acc++[x]).Nodup:=by rw [MN];exact ⟨h,by simp,fun a ha b hb=>by rw [KW.mp hb];rintro rfl;exact hx ha⟩
   rw [e];have:=oN r (acc++[x]) hn;rw [KU,Lc,Mf] at this;refine ⟨by rw [L6];omega,?_⟩;rw [L6,show acc.length+(r.length+1)=acc.length+1+r.length by omega];exact this.2
theorem yS (ns:List Int):((seen ns ns.length).length:Int)<ns.length↔¬ ns.Nodup:=by
 have e:(List.range ns.length).map (fun i=>ns.getD i 0)=ns:=by
  apply List.ext_getElem?;intro i;rw [Lb];by_cases h:i<ns.length
  ·rw [ME h,K3 h];simp [Lh,K3 h]
  ·rw [Mg (by simpa using h),Mg (by simpa using h)];rfl
 have:=oN ns [] List.nodup_nil;unfold seen PyProof.Rows.firstMet;rw [e];simp only [LM,Mh,Ln] at this;constructor
 ·intro h q;have:=this.2.mpr q;omega
 ·intro h;have h1:=this.1;have h2:¬ (List.foldl PyProof.Rows.step_dedup [] ns).length=ns.length:=fun q=>h (this.2.mp q)
  omega
def bz (cs:Cs):Gf
 | [.tuple es,r]=>if aP r&&decide (es.length<=100) then (if fm es.length r then .ok r else .rz cs.NoRanks) else .no
 | _=>.no
theorem HM {f:List PyData->PyData->Rs PyData} {ds:List PyData} (h:(match ds with | [.tuple x0,x1]=>f x0 x1 | _=>.no)≠.no):∃ x0 x1,ds=[.tuple x0,x1]/\f x0 x1≠.no:=by
 rcases ds with _ | ⟨x0,_ | ⟨x1,_ | ⟨y,ys⟩⟩⟩
 ·exact absurd rfl h
 ·first | exact absurd rfl h | (cases x0 <;> exact absurd rfl h)
 ·skip
  cases x0 with
  | tuple x0 =>exact ⟨_,_,rfl,h⟩
  | _=>exact absurd rfl h
 ·first | exact absurd rfl h | (cases x0 <;> exact absurd rfl h)
theorem qc (cs:Cs):∀ ds,ds.length=2->bz cs ds≠.no->bu (cU cs aB aC (ds.map some++List.replicate 1 none))=bz cs ds:=by
 intro ds hl hne;obtain ⟨es,r,ez,hz⟩:=HM hne;clear hne;subst ez;have hne:=hz;clear hz;unfold bz
 ·skip
  split at hne
  ·rename_i hh;simp only [hh,if_true];rw [K9,decide_eq_true_eq] at hh;obtain ⟨hd,h100⟩:=hh;cases e1:cL r es.length es.length with
   | false =>
    have:fm es.length r=false:=by
     cases r with
     | tuple xs =>
      have:xs.length≠es.length:=fun q=>by simp [cL,q] at e1
      simp [fm,this]
     | _=>rfl
    simp [cU,hd,e1,this]
   | true =>
    obtain ⟨xs,rfl⟩:∃ ds,r=.tuple ds:=by cases r <;> first | exact ⟨_,rfl⟩ | cases e1
    have hn:xs.length=es.length:=by simp only [cL,K9,decide_eq_true_eq] at e1;omega
    have hc:bM 3 (cC (af 1)) bF (ay aC (ae (af 3) (ae (gC (.int 0)) (ae (af 2) ao)))) aT [some (.tuple es),some (.tuple xs),some (.int ((es.length:Int)-1))]=.ok (xs.map fun d=>.bool (isWhole d 0 ((es.length:Int)-1))) :=
     cQ rfl rfl (by omega) fun d hd'=>by simp [eU hd d hd']
    have hf:=jo (fun d=>isWhole d 0 ((es.length:Int)-1)) xs;cases e2:xs.all (fun d=>isWhole d 0 ((es.length:Int)-1)) with
    | false=>simp [cU,hd,e1,hc,hf,e2,fm]
    | true =>
     have pa:=L4.mp e2;have ei:xs=(xs.map deI).map PyData.int:=by
      rw [L3]
      conv=>lhs;rw [<-LJ xs]
      refine L8 fun p hp=>?_
      obtain ⟨i,rfl,_⟩:=gE (pa p hp);rfl
     have hs:nr [.tuple xs]=some (.int (seen (xs.map deI) (xs.map deI).length).length):=by
      unfold nr
      conv=>lhs;rw [ei]
      simp only [gp,Mi];rw [if_pos (by simp;omega)]
     have hsn:=yS (xs.map deI);have hml:(xs.map deI).length=es.length:=by rw [K5];exact hn
     rw [hml] at hs hsn;by_cases hnd:(xs.map deI).Nodup
     ·have h2:¬ (seen (xs.map deI) es.length).length<es.length:=fun q=>hsn.mp (by omega) hnd
      simp [cU,hd,e1,hc,hf,e2,hs,hn,h2,fm,hnd]
     ·have h2:(seen (xs.map deI) es.length).length<es.length:=by have:=hsn.mpr hnd;omega
      simp [cU,hd,e1,hc,hf,e2,hs,hn,h2,fm,hnd]
  ·exact absurd rfl hne
def kH:PyData->Bool
 | .tuple [.int l,b]=>decide (0<=l)&&decide (l<=1000000)&&(match b with | .none=>true | .int t=>decide (0<=t)&&decide (t<=3) | _=>false)
 | _=>false
def wa:PyData->Bool
 | .tuple [.int e,.int _,.int l,.tuple ps]=>decide (1<=e)&&decide (e<1073741824)&&decide (-1000000000<=l)&&decide (l<=1000000000)&&decide (ps.length<=1000)&&ps.all kH
 | _=>false
def u9:PyData->Bool
 | .tuple ds=>decide (ds.length<=100)&&ds.all wa
 | _=>false
structure Er.Sh (e:Er):Prop where
 e1:1<=e.every
 e2:e.every<1073741824
 l1:-1000000000<=e.late
 l2:e.late<=1000000000
 pn:e.parts.length<=1000
 pl:∀ p∈e.parts,0<=p.1/\p.1<=1000000/\∀ t,p.2=some t->0<=t/\t<=3
theorem uz {d:PyData} (h:kH d=true):bt (dQ d)=d/\0<=(dQ d).1/\(dQ d).1<=1000000/\∀ t,(dQ d).2=some t->0<=t/\t<=3:=by
 unfold kH at h;split at h
 ·rename_i l b;simp only [K9,decide_eq_true_eq] at h;obtain ⟨⟨h1,h2⟩,h3⟩:=h;cases b with
  | none=>exact ⟨rfl,h1,h2,fun t q=>by cases q⟩
  | int t =>simp only [K9,decide_eq_true_eq] at h3;exact ⟨rfl,h1,h2,fun t q=>by cases q;exact h3⟩
  | _=>cases h3
 ·cases h
theorem uc {d:PyData} (h:wa d=true):(deE d).d=d/\(deE d).Sh:=by
 unfold wa at h;split at h
 ·rename_i e du l ps;simp only [K9,decide_eq_true_eq] at h;obtain ⟨⟨⟨⟨⟨h1,h2⟩,hl1⟩,hl2⟩,h3⟩,h4⟩:=h;have pa:=L4.mp h4;have em:ps.map (bt∘dQ)=ps:=by
   conv=>rhs;rw [<-LJ ps]
   exact L8 fun p hp=>(uz (pa p hp)).1
  refine ⟨by simp only [Dx,Er.d,L3,em],h1,h2,hl1,hl2,by simpa [Dx] using h3,fun p hp=>?_⟩;obtain ⟨q,hq,rfl⟩:=KS.mp (show p∈ps.map dQ from hp);exact (uz (pa q hq)).2
 ·cases h
theorem mQ {e:Er} (h:e.Sh):wa e.d=true:=by
 unfold wa Er.d;simp only [h.e1,h.e2,h.l1,h.l2,decide_true,Mv,K5,h.pn];rw [L4];intro d hd;obtain ⟨p,hp,rfl⟩:=KS.mp hd;obtain ⟨a,b,c⟩:=h.pl p hp;obtain ⟨l,t⟩:=p;cases t with
 | none=>simp at a b;simp [kH,bt,bq,a,b]
 | some t=>have:=c t rfl;simp at a b;simp [kH,bt,bq,a,b,this.1,this.2]
theorem Er.Ok.sh {e:Er} (h:e.Ok):e.Sh:=⟨by have:=h.e1;omega,by have:=h.e2;omega,by have:=h.l1;omega,by have:=h.l2;omega,by have:=h.p2;omega,fun p hp=>by obtain ⟨a,b,c⟩:=h.pl p hp;exact ⟨by omega,by omega,c⟩⟩
theorem EC {d:PyData} (h:u9 d=true):aU (mO d)=d/\(mO d).length<=100/\∀ e∈mO d,e.Sh:=by
 unfold u9 at h;split at h
 ·rename_i ds;simp only [K9,decide_eq_true_eq] at h;have pa:=L4.mp h.2;refine ⟨?_,by simpa [mO] using h.1,fun e he=>?_⟩
  ·simp only [mO,aU,L3];congr 1
   conv=>rhs;rw [<-LJ ds]
   exact L8 fun p hp=>(uc (pa p hp)).1
  ·obtain ⟨q,hq,rfl⟩:=KS.mp (show e∈ds.map deE from he);exact (uc (pa q hq)).2
 ·cases h
theorem xa {es:List Er} (h1:es.length<=100) (h:∀ e∈es,e.Sh):u9 (aU es)=true:=by unfold u9 aU;simp only [K5,h1,decide_true,Mv];rw [L4];intro d hd;obtain ⟨e,he,rfl⟩:=KS.mp hd;exact mQ (h e he)
def Er.work (e:Er):Int:=(e.parts.map (·.1)).sum
def Er.has (e:Er) (t:Int):Bool:=e.parts.any fun p=>p.2==some t
def er0:Er:=⟨1,1,0,[]⟩
def jx (es:List Er) (n:Int):Er:=es.getD n.toNat er0
def hts (es:List Er):List Int->Int->Int->Option Int
 | [],_,_=>none
 | r::rs,k,t=>if (jx es r).has t then some k else hts es rs (k+1) t
def fN (es:List Er) (rs:List Int) (t:Int):Option Int:=hts es rs 0 t
def placeOf (rs:List Int) (n:Int):Nat:=rs.findIdx (·==n)
theorem nE {es:List Er} {n:Int} (h0:0<=n) (h1:n<es.length):es[n.toNat]?=some (jx es n):=by unfold jx;rw [Lh,K3 (by omega)];rfl
theorem mK {es:List Er} {n:Int} (h0:0<=n) (h1:n<es.length):jx es n∈es:=Lu (nE h0 h1)
theorem vC {es:List Er} {n:Int} (h0:0<=n) (h1:n<es.length):atI (es.map Er.d) n=some (jx es n).d:=by rw [tD (j:=n.toNat) (by omega),Lb,nE h0 h1];rfl
def c8:Gf
 | [d]=>if wa d then .ok (.int (deE d).work) else .no
 | _=>.no
theorem kU {e:Er} (h:e.Sh):c8 [e.d]=.ok (.int e.work):=by unfold c8;simp [mQ h,nk]
theorem DY (p:Int×Option Int):dIx (bt p) (.int 0)=some (.int p.1):=rfl
theorem Hm (p:Int×Option Int):dIx (bt p) (.int 1)=some (bq p.2):=rfl
theorem G0 (e:Er):dIx e.d (.int 3)=some (.tuple (e.parts.map bt)):=rfl
theorem JQ {f:PyData->Rs PyData} {ds:List PyData} (h:(match ds with | [x0]=>f x0 | _=>.no)≠.no):∃ x0,ds=[x0]/\f x0≠.no:=by
 rcases ds with _ | ⟨x0,_ | ⟨y,ys⟩⟩
 ·exact absurd rfl h
 ·skip
  exact ⟨_,rfl,h⟩
 ·exact absurd rfl h
theorem yH (cs:Cs):∀ ds,ds.length=1->c8 ds≠.no->bu (rR cs (ds.map some++List.replicate 0 none))=c8 ds:=by
 intro ds hl hne;obtain ⟨d,ez,hz⟩:=JQ hne;clear hne;subst ez;have hne:=hz;clear hz
 ·skip
  split at hne
  ·rename_i hd;obtain ⟨e1,sh⟩:=uc hd;rw [<-e1];generalize deE d=e at sh;rw [kU sh];have hc:bM 1 (cC (g2 dIx (af 0) (gC (.int 3)))) bF (g2 dIx (af 1) (gC (.int 0))) aT [some e.d]=.ok ((e.parts.map bt).map fun d=>.int (dQ d).1) :=
    cQ rfl (by simp [G0]) (by have:=sh.pn;simp;omega) fun d hd'=>by obtain ⟨p,hp,rfl⟩:=KS.mp hd';simp [DY,ix]
   have hm:((e.parts.map bt).map fun d=>PyData.int (dQ d).1)=e.parts.map fun p=>.int p.1:=by rw [L3];exact L8 fun p _=>by simp [ix]
   rw [hm] at hc;simp [rR,hc,qS,Er.work]
  ·exact absurd rfl hne
theorem xk:∀ {l m:List Int},l.Nodup->(∀ x∈l,x∈m)->l.length<=m.length
 | [],m,_,_=>Lw _
 | x::r,m,hn,hs=>by
  rw [Lr] at hn;have hx:=hs x K4;have:=xk (l:=r) (m:=m.erase x) hn.2 fun y hy=>by rw [List.mem_erase_of_ne (by rintro rfl;exact hn.1 hy)];exact hs y (K0 _ hy)
  rw [List.length_erase_of_mem hx] at this;have hp:=List.length_pos_of_mem hx;rw [L6];omega
theorem kG.mem {k:Nat} {rs:List Int} (h:kG k rs) {n:Int} (h0:0<=n) (h1:n<k):n∈rs:=by
 have base:∀ x:Int,0<=x->x<k->x∈(List.range k).map fun (i:Nat)=>(i:Int):=fun x a b=>KS.mpr ⟨x.toNat,LQ.mpr (by omega),by omega⟩
 by_cases z:n∈rs
 ·exact z
 ·exfalso;have:=xk (l:=n::rs) (m:=(List.range k).map fun (i:Nat)=>(i:Int)) (Lr.mpr ⟨z,h.nd⟩) fun x hx=>by
   rcases K6.mp hx with q | q
   ·rw [q];exact base n h0 h1
   ·have:=h.rng x q;exact base x this.1 this.2
  have hl:=h.len;simp at this;omega
theorem B0 (ns:List Int):(ns.map PyData.int).all hV=true:=by rw [L4];intro d hd;obtain ⟨n,_,rfl⟩:=KS.mp hd;rfl
theorem m8 (n:Int):∀ rs:List Int,n∈rs->(((rs.map PyData.int).map toV).findIdx? fun z=>eqV z (.int n))=some (placeOf rs n)
 | [],h=>by cases h
 | r::rs,h=>by
  have ev:eqV (.int r) (.int n)=(r==n):=rfl;rw [K1,K1,LV];unfold placeOf;rw [List.findIdx_cons];show (if eqV (.int r) (.int n)=true then some 0 else _)=_;rw [ev];cases hr:r==n with
  | true=>rfl
  | false =>
   have hne:r≠n:=by simpa using hr
   have:=m8 n rs ((K6.mp h).resolve_left fun q=>hne q.symm);rw [if_neg L9,this];rfl
theorem xN {rs:List Int} {n:Int} (h:n∈rs):oA (rs.map .int) (.int n)=some (.int (placeOf rs n)):=by unfold oA;rw [B0,show hV (.int n)=true from rfl];simp only [Bool.and_self,if_true];rw [show toV (.int n)=.int n from rfl,m8 n rs h];rfl
@[simp] theorem IB (go ga:Ds->Rs PyData) (δ:Ds):zZ go ga δ=(go δ).bind fun d=>match d with | .tuple xs=>(ga δ).bind fun y=>Rs.eP (oA xs y) | _=>.no:=rfl
theorem xj (es:List Er) (t:Int):∀ (rs:List Int) (k:Int) (m:Int),m∈rs->(jx es m).has t=true->∃ h,hts es rs k t=some h
 | [],_,_,h,_=>by cases h
 | r::rs,k,m,h,ht=>by
  unfold hts;by_cases z:(jx es r).has t=true
  ·exact ⟨k,by rw [if_pos z]⟩
  ·rw [if_neg z];rcases K6.mp h with q | q
   ·subst q;exact absurd ht z
   ·exact xj es t rs (k+1) m q ht
theorem zc {a b:Int} (h1:-(2 ^ 64)<b) (h2:b<2 ^ 64):eM (.int a) (.int b)=some (.int (a*b)):=by show (if _ then _ else _)=_;rw [if_pos (.inr ⟨h1,h2⟩)]
theorem rS {a b:Int} (h1:-(2 ^ 64)<a) (h2:a<2 ^ 64):eM (.int a) (.int b)=some (.int (a*b)):=by show (if _ then _ else _)=_;rw [if_pos (.inl ⟨h1,h2⟩)]
def fL:PyData->Option (List Int)
 | .dict [(.none,.list l)]=>gA l
 | _=>none
theorem gj (ns:List Int):fL (au ns)=some ns:=gp ns
def ak:Gf
 | [s,.int k,.int many]=>(match fL s with
  | some ns=>if 0<=k/\0<many then .ok (.int (mixed ns k many)) else .no
  | none=>.no)
 | _=>.no
theorem cT {ns:List Int} {k many:Int} (h1:0<=k) (h2:0<many):ak [au ns,.int k,.int many]=.ok (.int (mixed ns k many)):=by unfold ak;simp [gj,h1,h2]
theorem oE (O:List Nat) (i:Nat) (g:Ds->Rs PyData) (δ:Ds):aW O i g δ=if i<δ.length then ofR (g (mask O δ)) fun d=>.nx (δ.set i (some d)) else .no:=rfl
def bV:Gf
 | [s,.int a,.int top,.bool tools]=>(match fL s with
  | some ns=>if 0<=a/\0<top/\top<=58 then .ok (mkE ns a top tools).d else .no
  | none=>.no)
 | _=>.no
theorem jk {ns:List Int} {a top:Int} {tools:Bool} (h1:0<=a) (h2:0<top) (h3:top<=58):bV [au ns,.int a,.int top,.bool tools]=.ok (mkE ns a top tools).d:=by unfold bV;simp [gj,h1,h2,h3]
theorem BV (o:Option Int):fQ (bq o)=true:=by cases o <;> (unfold bq fQ;rfl)
theorem zQ (p:Int×Option Int):fQ (bt p)=true:=by unfold bt fQ mF;rw [show fQ (.int p.1)=true by unfold fQ;rfl];unfold mF;rw [BV];unfold mF;rfl
theorem DE {i:Int} (h0:0<=i) (h1:i<5):atI [PyData.int 0,PyData.int 1,PyData.int 1,PyData.int 0,PyData.none] i=some (bq (lS i)):=by
 have:i=0\/i=1\/i=2\/i=3\/i=4:=by omega
 rcases this with rfl | rfl | rfl | rfl | rfl <;> rfl
theorem xn (ns:List Int) (a top:Int) (tools:Bool) (ev la du:PyData) (ha:0<=a) (L:List PyData) (hL:L.length<1000) (i:Nat) (x8 x9:Option PyData) :
   aK (aW [7] 9 (ay ak (ae (af 0) (ae (g2 bo (g2 bo (af 1) (gC (.int 4))) (af 8)) (ae (gC (.int 40)) ao)))))
   (aK (md [7] 7 (jU (ae (g2 bo (gC (.int 1)) (g2 fi (af 9) (gC (.int 4)))) (ae (g2 dIx (gQ (ae (gC (.int 0)) (ae (gC (.int 1)) (ae (gC (.int 1)) (ae (gC (.int 0)) (ae (gC .none) ao)))))) (g2 fi (g2 gB (af 9) (gC (.int 4))) (gC (.int 5)))) ao))))
   (sIf (iO (gT (af 3))) (BI 7 (g1 qi (gC (.int 1))) (jU (ae (g2 dIx (g2 dIx (af 7) (g1 qi (gC (.int 1)))) (gC (.int 0))) (ae (gC .none) ao)))) bO))
     [some (au ns),some (.int a),some (.int top),some (.bool tools),some ev,some la,some du,some (.list L),some (.int (0+(i:Int))),x9]
  =.nx [some (au ns),some (.int a),some (.int top),some (.bool tools),some ev,some la,some du,some (.list (L++[bt (ft ns (a+4+(i:Int)) tools)])),some (.int (0+(i:Int))),some (.int (mixed ns (a+4+(0+(i:Int))) 40))]:=by
 have hm:=cT (ns:=ns) (k:=a+4+(0+(i:Int))) (many:=40) (by omega) (by decide);have m0:=dj ns (a+4+(0+(i:Int))) (many:=40) (by decide);have m1:=dG ns (a+4+(0+(i:Int))) (many:=40) (by decide);have ek:a+4+(0+(i:Int))=a+4+(i:Int):=by omega
 generalize hc:mixed ns (a+4+(0+(i:Int))) 40=c at *;have q1:0<=c / 4 % 5:=LN _ (by decide);have q2:c / 4 % 5<5:=LU _ (by decide);have t5:=DE q1 q2;have hp:ft ns (a+4+(i:Int)) tools=(1+c % 4,if tools then lS (c / 4 % 5) else none):=by unfold ft;rw [<-ek,hc]
 have s1:aW [7] 9 (ay ak (ae (af 0) (ae (g2 bo (g2 bo (af 1) (gC (.int 4))) (af 8)) (ae (gC (.int 40)) ao)))) [some (au ns),some (.int a),some (.int top),some (.bool tools),some ev,some la,some du,some (.list L),some (.int (0+(i:Int))),x9]
    =.nx [some (au ns),some (.int a),some (.int top),some (.bool tools),some ev,some la,some du,some (.list L),some (.int (0+(i:Int))),some (.int c)]:=by
   rw [oE,if_pos (by simp)];simp only [cu,aQ,aY,cw,b0 (show 0∉[7] by decide),b0 (show 1∉[7] by decide),b0 (show 8∉[7] by decide),az,aF,dP,Rs.aj,fA,Rs.ar,hm,aH];rfl
 have s2:md [7] 7 (jU (ae (g2 bo (gC (.int 1)) (g2 fi (af 9) (gC (.int 4)))) (ae (g2 dIx (gQ (ae (gC (.int 0)) (ae (gC (.int 1)) (ae (gC (.int 1)) (ae (gC (.int 0)) (ae (gC .none) ao)))))) (g2 fi (g2 gB (af 9) (gC (.int 4))) (gC (.int 5)))) ao)))
     [some (au ns),some (.int a),some (.int top),some (.bool tools),some ev,some la,some du,some (.list L),some (.int (0+(i:Int))),some (.int c)]
    =.nx [some (au ns),some (.int a),some (.int top),some (.bool tools),some ev,some la,some du,some (.list (L++[bt (1+c % 4,lS (c / 4 % 5))])),some (.int (0+(i:Int))),some (.int c)]:=by
   unfold md;simp only [M5,M6];simp only [nP,vA,aQ,aY,cw,b0 (show 9∉[7] by decide),az,aF,dP,Rs.aj,fA,Rs.ar,ua,uo,if_pos (show (0:Int)<4 by decide),if_pos (show (0:Int)<5 by decide),if_pos (show (0:Int)<4/\(4:Int)<1073741824 by decide),D6,t5,aH,if_pos (show L.length<1000000 by omega)];rfl
 rw [br,s1];simp only;rw [br,s2];simp only;cases tools with
 | true =>rw [hp];simp
 | false =>
   rw [hp];have hl:atI (L++[bt (1+c % 4,lS (c / 4 % 5))]) (-1)=some (bt (1+c % 4,lS (c / 4 % 5))):=by rw [n9];simp
   have hx:ixN (L++[bt (1+c % 4,lS (c / 4 % 5))]).length (-1)=some L.length:=by unfold ixN;rw [if_neg (by decide),KU,Lc,if_pos (by omega)];congr 1;omega
   have hs:(L++[bt (1+c % 4,lS (c / 4 % 5))]).set L.length (.tuple [.int (1+c % 4),.none])=L++[bt (1+c % 4,none)]:=by rw [My _ _ (K8 _)];simp;rfl
   have nl:fQ (.tuple [.int (1+c % 4),.none])=true:=zQ (1+c % 4,none);rw [dA];simp only [vj,eN,az,aF,Rs.aj,bH,aH,MG,if_true];unfold BI;simp only [M5,M6,nP,aQ,aY,cw,gr,az,aF,dP,Rs.aj,GU,Rs.ar,D6,hl,DY,aH,hx,nl,if_true,hs];rfl
theorem m9 {j:Int} (h0:0<=j) (h1:j<1000000):Fn [.int j]=.ok (b8 0 j.toNat):=by show (if _ then _ else _)=_;rw [if_pos (by omega)]
theorem iJ {lo:Int} {n i:Nat} {d:PyData} (h:(b8 lo n)[i]?=some d):i<n/\d=.int (lo+(i:Int)):=by have hi:=(Lj.mp h).1;rw [dR] at hi;unfold b8 at h;rw [Lb,ME hi] at h;exact ⟨hi,(Option.some.inj h).symm⟩
theorem qY {α:Type} (n:Nat) (g:Nat->α):(List.range (n+1)).map g=(List.range n).map g++[g n]:=by rw [List.range_succ,LG];rfl
theorem Cm {f:PyData->Int->Int->Bool->Rs PyData} {ds:List PyData} (h:(match ds with | [x0,.int x1,.int x2,.bool x3]=>f x0 x1 x2 x3 | _=>.no)≠.no):∃ x0 x1 x2 x3,ds=[x0,.int x1,.int x2,.bool x3]/\f x0 x1 x2 x3≠.no:=by
 rcases ds with _ | ⟨x0,_ | ⟨x1,_ | ⟨x2,_ | ⟨x3,_ | ⟨y,ys⟩⟩⟩⟩⟩
 ·exact absurd rfl h
 ·exact absurd rfl h
 ·first | exact absurd rfl h | (cases x1 <;> exact absurd rfl h)
 ·first | exact absurd rfl h | (cases x1 <;> first | exact absurd rfl h | (cases x2 <;> exact absurd rfl h))
 ·skip
  cases x1 with
  | int x1 =>
   cases x2 with
   | int x2 =>
    cases x3 with
    | bool x3 =>exact ⟨_,_,_,_,rfl,h⟩
    | _=>exact absurd rfl h
   | _=>first | exact absurd rfl h | (cases x3 <;> exact absurd rfl h)
  | _=>first | exact absurd rfl h | (cases x2 <;> first | exact absurd rfl h | (cases x3 <;> exact absurd rfl h))
 ·first | exact absurd rfl h | (cases x1 <;> first | exact absurd rfl h | (cases x2 <;> first | exact absurd rfl h | (cases x3 <;> exact absurd rfl h)))
theorem vh (cs:Cs):∀ ds,ds.length=4->bV ds≠.no->bu (fO cs ak (ds.map some++List.replicate 6 none))=bV ds:=by
 intro ds hl hne;obtain ⟨s,a,top,tools,ez,hz⟩:=Cm hne;clear hne;subst ez;have hne:=hz;clear hz
 ·skip
  split at hne
  ·rename_i ns hs;have es:s=au ns:=by
    unfold fL at hs;split at hs
    ·rename_i l;rw [fq hs];rfl
    ·cases hs
   subst es;split at hne
   ·rename_i hc;obtain ⟨ha,ht,ht2⟩:=hc;rw [jk ha ht ht2];show bu (fO cs ak [some (au ns),some (.int a),some (.int top),some (.bool tools),none,none,none,none,none,none])=_;have hm:∀ k many:Int,0<=k->0<many->ak [au ns,.int k,.int many]=.ok (.int (mixed ns k many)):=fun k many h1 h2=>cT h1 h2
    have a1:=dj ns a ht;have lb:=yo ns a (3+mixed ns a top) (by omega);have b1:=dj ns (a+1) (many:=4) (by decide);have b2:=dG ns (a+1) (many:=4) (by decide);have n1:=dj ns (a+3) (many:=3) (by decide);have n2:=dG ns (a+3) (many:=3) (by decide);have c1:=dj ns (a+6) (many:=3) (by decide);have c2:=dG ns (a+6) (many:=3) (by decide)
    -- every
    have s1:aW [7] 4 (g2 bo (gC (.int 3)) (ay ak (ae (af 0) (ae (af 1) (ae (af 2) ao))))) [some (au ns),some (.int a),some (.int top),some (.bool tools),none,none,none,none,none,none]
      =.nx [some (au ns),some (.int a),some (.int top),some (.bool tools),some (.int (3+mixed ns a top)),none,none,none,none,none]:=by
     rw [oE,if_pos (by simp)];simp only [cu,aQ,aY,cw,b0 (show 0∉[7] by decide),b0 (show 1∉[7] by decide),b0 (show 2∉[7] by decide),az,aF,dP,Rs.aj,hm a top ha ht,fA,Rs.ar,aH];rfl
    generalize hev:3+mixed ns a top=ev at *;have evp:3<=ev:=by omega
    have s2:aW [7] 5 (g2 eM (ay ak (ae (af 0) (ae (g2 bo (af 1) (gC (.int 1))) (ae (gC (.int 4)) ao)))) (gF vp (ae (g2 dEq (ay ak (ae (af 0) (ae (g2 bo (af 1) (gC (.int 2))) (ae (gC (.int 3)) ao)))) (gC (.int 0))) ao))) [some (au ns),some (.int a),some (.int top),some (.bool tools),some (.int ev),none,none,none,none,none]
      =.nx [some (au ns),some (.int a),some (.int top),some (.bool tools),some (.int ev),some (.int (mixed ns (a+1) 4*(if mixed ns (a+2) 3=0 then 1 else 0))),none,none,none,none]:=by
     rw [oE,if_pos (by simp)];simp only [cu,aQ,aY,cw,gW,b0 (show 0∉[7] by decide),b0 (show 1∉[7] by decide),az,aF,dP,Rs.aj,fA,Rs.ar,hm (a+1) 4 (by omega) (by decide),hm (a+2) 3 (by omega) (by decide),kD,DF];rw [rS (by omega) (by omega)];simp only [Rs.ar,aH,beq_iff_eq];rfl
    have s3:aW [7] 5 (gF lQ (ae (af 5) (ae (g2 iP (af 4) (gC (.int 1))) ao))) [some (au ns),some (.int a),some (.int top),some (.bool tools),some (.int ev),some (.int (mixed ns (a+1) 4*(if mixed ns (a+2) 3=0 then 1 else 0))),none,none,none,none]
      =.nx [some (au ns),some (.int a),some (.int top),some (.bool tools),some (.int ev),some (.int (jc ns a ev)),none,none,none,none]:=by
     rw [oE,if_pos (by simp)];simp only [gW,aQ,aY,cw,b0 (show 4∉[7] by decide),b0 (show 5∉[7] by decide),az,aF,dP,Rs.aj,xD,Rs.ar,zJ,aH];rfl
    generalize hla:jc ns a ev=la at *;have s4:aW [7] 6 (g2 iP (af 4) (af 5)) [some (au ns),some (.int a),some (.int top),some (.bool tools),some (.int ev),some (.int la),none,none,none,none]
      =.nx [some (au ns),some (.int a),some (.int top),some (.bool tools),some (.int ev),some (.int la),some (.int (ev-la)),none,none,none]:=by
     rw [oE,if_pos (by simp)];simp only [cw,b0 (show 4∉[7] by decide),b0 (show 5∉[7] by decide),az,aF,Rs.aj,xD,Rs.ar,aH];rfl
    have s5:sIf (gT (g2 dEq (ay ak (ae (af 0) (ae (g2 bo (af 1) (gC (.int 1))) (ae (gC (.int 3)) ao)))) (gC (.int 0)))) (aW [7] 6 (g2 iP (af 6) (ay ak (ae (af 0) (ae (g2 bo (af 1) (gC (.int 2))) (ae (af 6) ao)))))) bO
        [some (au ns),some (.int a),some (.int top),some (.bool tools),some (.int ev),some (.int la),some (.int (ev-la)),none,none,none]
      =.nx [some (au ns),some (.int a),some (.int top),some (.bool tools),some (.int ev),some (.int la),some (.int (pP ns a (ev-la))),none,none,none]:=by
     rw [dA];simp only [eN,cw,cu,aQ,aY,az,aF,dP,Rs.aj,fA,Rs.ar,hm (a+1) 3 (by omega) (by decide),kD,bH,aH];by_cases z:mixed ns (a+1) 3=0
     · rw [if_pos (by simp [z]),oE,if_pos (by simp)];simp only [cu,aQ,aY,cw,b0 (show 0∉[7] by decide),b0 (show 1∉[7] by decide),b0 (show 6∉[7] by decide),az,aF,dP,Rs.aj,fA,Rs.ar,hm (a+2) (ev-la) (by omega) (by omega),xD,aH];unfold pP;rw [if_pos z];rfl
     · rw [if_neg (by simp [z])];unfold pP;rw [if_neg z];rfl
    generalize hdu:pP ns a (ev-la)=du at *;have s6:lI [7] 7 ao [some (au ns),some (.int a),some (.int top),some (.bool tools),some (.int ev),some (.int la),some (.int du),none,none,none]
      =.nx [some (au ns),some (.int a),some (.int top),some (.bool tools),some (.int ev),some (.int la),some (.int du),some (.list []),none,none]:=rfl
    have src:jm (ae (ay ak (ae (af 0) (ae (g2 bo (af 1) (gC (.int 3))) (ae (gC (.int 3)) ao)))) ao) (mask [7] [some (au ns),some (.int a),some (.int top),some (.bool tools),some (.int ev),some (.int la),some (.int du),some (.list []),none,none])=.ok (b8 0 (mixed ns (a+3) 3).toNat):=by simp only [mR,cu,aQ,aY,cw,b0 (show 0∉[7] by decide),b0 (show 1∉[7] by decide),az,aF,dP,Rs.aj,fA,Rs.ar,hm (a+3) 3 (by omega) (by decide)];exact m9 n1 (by omega)
    obtain ⟨δ',e,x8,x9,hδ⟩:=l0 (β:=Unit) (tgt:=cy 8) (body:=aK (aW [7] 9 (ay ak (ae (af 0) (ae (g2 bo (g2 bo (af 1) (gC (.int 4))) (af 8)) (ae (gC (.int 40)) ao)))))
  (aK (md [7] 7 (jU (ae (g2 bo (gC (.int 1)) (g2 fi (af 9) (gC (.int 4)))) (ae (g2 dIx (gQ (ae (gC (.int 0)) (ae (gC (.int 1)) (ae (gC (.int 1)) (ae (gC (.int 0)) (ae (gC .none) ao)))))) (g2 fi (g2 gB (af 9) (gC (.int 4))) (gC (.int 5)))) ao))))
  (sIf (iO (gT (af 3))) (BI 7 (g1 qi (gC (.int 1))) (jU (ae (g2 dIx (g2 dIx (af 7) (g1 qi (gC (.int 1)))) (gC (.int 0))) (ae (gC .none) ao)))) bO)))
     (fun i δ=>∃ x8 x9,δ=[some (au ns),some (.int a),some (.int top),some (.bool tools),some (.int ev),some (.int la),some (.int du),some (.list ((List.range i).map fun (k:Nat)=>bt (ft ns (a+4+(k:Int)) tools))),x8,x9])
     (b8 0 (mixed ns (a+3) 3).toNat) 0 (fun i d δ hi pz4=>by obtain ⟨x8,x9,hx⟩:=pz4;subst hx;rw [Mh] at *;obtain ⟨hil,rfl⟩:=iJ hi;refine ⟨[some (au ns),some (.int a),some (.int top),some (.bool tools),some (.int ev),some (.int la),some (.int du),some (.list ((List.range i).map fun (k:Nat)=>bt (ft ns (a+4+(k:Int)) tools))),some (.int (0+(i:Int))),x9],_,rfl,xn ns a top tools (.int ev) (.int la) (.int du) ha _ (by simp;omega) i none x9,some (.int (0+(i:Int))),some (.int (mixed ns (a+4+(0+(i:Int))) 40)),?_⟩;rw [qY]) [some (au ns),some (.int a),some (.int top),some (.bool tools),some (.int ev),some (.int la),some (.int du),some (.list []),none,none] ⟨none,none,rfl⟩
    subst hδ;rw [Mh,dR] at e;have hd:(mkE ns a top tools).d=.tuple [.int ev,.int du,.int la,.tuple (((List.range (mixed ns (a+3) 3).toNat).map fun (k:Nat)=>bt (ft ns (a+4+(k:Int)) tools))++[bt (1+mixed ns (a+6) 3,none)])]:=by simp only [mkE,Er.d,LG,L3,hev,hla,hdu];rfl
    rw [hd];simp only [fO];rw [br,s1];simp only;rw [br,s2];simp only;rw [br,s3];simp only;rw [br,s4];simp only;rw [br,s5];simp only;rw [br,s6];simp only;rw [br,vn,src,aH,e];simp only;simp only [cB,nP,vA,aQ,aY,cw,gW,cu,az,aF,dP,Rs.aj,fA,Rs.ar,hm (a+6) 3 (by omega) (by decide)];have hcat:bo (.list ((List.range (mixed ns (a+3) 3).toNat).map fun (k:Nat)=>bt (ft ns (a+4+(k:Int)) tools))) (.list [.tuple [.int (1+mixed ns (a+6) 3),.none]])=some (.list (((List.range (mixed ns (a+3) 3).toNat).map fun (k:Nat)=>bt (ft ns (a+4+(k:Int)) tools))++[bt (1+mixed ns (a+6) 3,none)])):=by show (if _ then _ else _)=_;rw [if_pos (by simp;omega)];rfl
    rw [hcat];simp
   ·exact absurd rfl hne
  ·exact absurd rfl hne
def bp:Gf
 | [s,.int a,.int most,.int top,.bool tools]=>(match fL s with
  | some ns=>if 0<=a/\0<most/\most<=6/\0<top/\top<=58 then .ok (aU (qb ns a most top tools)) else .no
  | none=>.no)
 | _=>.no
theorem iR {ns:List Int} {a most top:Int} {tools:Bool} (h1:0<=a) (h2:0<most) (h3:most<=6) (h4:0<top) (h5:top<=58):bp [au ns,.int a,.int most,.int top,.bool tools]=.ok (aU (qb ns a most top tools)):=by unfold bp;simp [gj,h1,h2,h3,h4,h5]
theorem iQ {s:PyData} {ns:List Int} (hs:fL s=some ns):s=au ns:=by
 unfold fL at hs;split at hs
 ·rename_i l;rw [fq hs];rfl
 ·cases hs
theorem B9 {f:PyData->Int->Int->Int->Bool->Rs PyData} {ds:List PyData} (h:(match ds with | [x0,.int x1,.int x2,.int x3,.bool x4]=>f x0 x1 x2 x3 x4 | _=>.no)≠.no):∃ x0 x1 x2 x3 x4,ds=[x0,.int x1,.int x2,.int x3,.bool x4]/\f x0 x1 x2 x3 x4≠.no:=by
 rcases ds with _ | ⟨x0,_ | ⟨x1,_ | ⟨x2,_ | ⟨x3,_ | ⟨x4,_ | ⟨y,ys⟩⟩⟩⟩⟩⟩
 ·exact absurd rfl h
 ·exact absurd rfl h
 ·first | exact absurd rfl h | (cases x1 <;> exact absurd rfl h)
 ·first | exact absurd rfl h | (cases x1 <;> first | exact absurd rfl h | (cases x2 <;> exact absurd rfl h))
 ·first | exact absurd rfl h | (cases x1 <;> first | exact absurd rfl h | (cases x2 <;> first | exact absurd rfl h | (cases x3 <;> exact absurd rfl h)))
 ·skip
  cases x1 with
  | int x1 =>
   cases x2 with
   | int x2 =>
    cases x3 with
    | int x3 =>
     cases x4 with
     | bool x4 =>exact ⟨_,_,_,_,_,rfl,h⟩
     | _=>exact absurd rfl h
    | _=>first | exact absurd rfl h | (cases x4 <;> exact absurd rfl h)
   | _=>first | exact absurd rfl h | (cases x3 <;> first | exact absurd rfl h | (cases x4 <;> exact absurd rfl h))
  | _=>first | exact absurd rfl h | (cases x2 <;> first | exact absurd rfl h | (cases x3 <;> first | exact absurd rfl h | (cases x4 <;> exact absurd rfl h)))
 ·first | exact absurd rfl h | (cases x1 <;> first | exact absurd rfl h | (cases x2 <;> first | exact absurd rfl h | (cases x3 <;> first | exact absurd rfl h | (cases x4 <;> exact absurd rfl h))))
theorem tU (cs:Cs):∀ ds,ds.length=5->bp ds≠.no->bu (fe cs bV ak (ds.map some++List.replicate 1 none))=bp ds:=by
 intro ds hl hne;obtain ⟨s,a,most,top,tools,ez,hz⟩:=B9 hne;clear hne;subst ez;have hne:=hz;clear hz
 ·skip
  split at hne
  ·rename_i ns hs;have es:=iQ hs;subst es;split at hne
   ·rename_i hc;obtain ⟨ha,hm1,hm2,ht,ht2⟩:=hc;rw [iR ha hm1 hm2 ht ht2];have hm:=cT (ns:=ns) ha hm1;have m1:=dj ns a hm1;have m2:=dG ns a hm1;have hcm:bM 6 (jm (ae (af 5) ao)) bF (ay bV (ae (af 0) (ae (g2 bo (g2 bo (af 1) (gC (.int 1))) (g2 eM (gC (.int 7)) (af 6))) (ae (af 3) (ae (af 4) ao))))) aT
      [some (au ns),some (.int a),some (.int most),some (.int top),some (.bool tools),some (.int (1+mixed ns a most))]=.ok ((b8 0 (1+mixed ns a most).toNat).map fun d=>(mkE ns (a+1+7*deI d) top tools).d) :=
     cQ rfl (by simp only [mR,aQ,aY,az,aF,Rs.aj];exact m9 (by omega) (by omega)) (by rw [dR];omega) fun d hd=>by obtain ⟨i,hi⟩:=MB hd;obtain ⟨_,rfl⟩:=iJ hi;simp only [Lk,Ln,cu,aQ,aY,cw,az,aF,dP,Rs.aj,fA,Rs.ar];rw [rS (by decide) (by decide)];simp only [Rs.ar,Rs.aj,fA];exact jk (by omega) ht ht2
    have hds:aU (qb ns a most top tools)=.tuple ((b8 0 (1+mixed ns a most).toNat).map fun d=>(mkE ns (a+1+7*deI d) top tools).d):=by
     unfold aU qb b8;rw [L3,L3];congr 1;refine L8 fun k _=>?_
     simp [deI]
    rw [hds];show bu (fe cs bV ak [some (au ns),some (.int a),some (.int most),some (.int top),some (.bool tools),none])=_;simp only [fe,br,lH,L6,LM,Nat.reduceAdd,Nat.reduceLT,if_true,cu,aQ,aY,cw,az,aF,dP,Rs.aj,hm,fA,Rs.ar,aH,Mr,Ms,cB,gW,og,hcm,CG,bU]
   ·exact absurd rfl hne
  ·exact absurd rfl hne
end RS
namespace RS
open PySem PySem.Spec PyProof.Rows L2
section
variable {P:Program} {w:World} {K:PySem.W.Frag} {mg:Str->Option Value} {base:Heap}
theorem A5 {x qual:Str} {st:Stmt} {f:Addr} {fd:FuncData} {N ps:List Str} {k:Nat} {O:List Nat} {G:Ds->Sr} {gf:List PyData->Rs PyData} (F:Fun K x qual st f fd) (S:aZ N ps (ax st)) (hO:∀ i∈O,ps.length<=i)
  (body:∀ (cdv:Value) (A:Around) (outer:List Env) (s:Shared) (H:Hp) (E:XK),cR k (A.deeper (envOfC qual (ax st) s.heap.objs.size f cdv))->PBD (eF (CXW P w) P w K mg base N qual (ax st) f cdv A outer s H E) E O (dm st) G)
  (hg:∀ ds,ds.length=ps.length->gf ds≠.no->bu (G (ds.map some++List.replicate (N.length-ps.length) none))=gf ds):iC P w K mg base (CXW P w) (k+1) f fd ps (spD K ps.length gf):=by
 refine qr F S (fun vs H Q E h=>?_) (fun cdv A outer s H vs Q E hr h=>?_)
 ·obtain ⟨A,ds,hA,hi,hl,o⟩:=h;rw [hi.length,hl]
 ·obtain ⟨A0,ds,hA,hi,hl,o⟩:=h;refine ⟨_,body cdv A outer s H E hr,H,A0,[],_,cz.start hA hi hl hO,?_⟩;have hg':=hg ds hl (fun z=>by rw [z] at o;exact o);cases q:G (ds.map some++List.replicate (N.length-ps.length) none) with
  | rt d=>rw [q] at hg';rw [<-hg'] at o;exact fun v H' s' hv=>o v H' s' hv
  | nx δ=>rw [q] at hg';rw [<-hg'] at o;exact fun A' σ H' R'=>o .non H' R'.same is_none
  | rz C=>rw [q] at hg';rw [<-hg'] at o;exact fun H' s'=>o H' s'
  | bk δ=>rw [q] at hg';rw [<-hg'] at o;exact o.elim
  | ct δ=>rw [q] at hg';rw [<-hg'] at o;exact o.elim
  | no=>rw [q] at hg';rw [<-hg'] at o;exact o.elim
theorem bx {h:Heap} {x:Str} {st:Stmt} {ps:List Str} {f:Addr} {oc:Value} {od an:Option Addr} {sl:Array (Option Value)} {kV dc pm cd ct:Value} (X:K.In h) (G:h.Ns mainGlobals mg)
  (hb:∀ (kV doc pm:Value) (an:Option Addr) (cdv ct:Value) (us:List Value),us.length=ps.length->bindArgs (PySem.W.fnOf x x (fF st) (dm st) (ax st) .none kV doc pm an cdv ct) ⟨us,[]⟩=pure (ps.zip us))
  (a:PySem.W.nsIn K mainGlobals x=some (some (.ref f)))
  (l:K.lookup f=some ⟨oc,od,.func (PySem.W.fnOf x x (fF st) (dm st) (ax st) .none kV dc pm an cd ct),sl⟩)
  (c:PySem.W.codeIn K cd x=true) (k:PySem.W.keepIn K (.ref f)=true):bw K mg x st ps :=
 have F:=zk (st:=st) l c k
 ⟨f,_,F,F.binds hb,PySem.W.mg_of X G a⟩
theorem wj {h:Heap} {x:Str} {C:Addr} (X:K.In h) (G:h.Ns mainGlobals mg) (a:PySem.W.nsIn K mainGlobals x=some (some (.ref C)))
 (e:PySem.W.excIn K C [.type "ValueError",.type "Exception",.type "BaseException",.type "object"] "ValueError.__new__"=true):yt K mg x C:=⟨PySem.W.mg_of X G a,e⟩
theorem gw {h:Heap} {x:Str} {n:Int} {t:_} (X:K.In h) (G:h.Ns mainGlobals mg) (a:PySem.W.nsIn K mainGlobals x=some (some (.int n t))):∃ t,mg x=some (.int n t):=⟨t,PySem.W.mg_of X G a⟩
end
def gx (n:Nat):Gf
 | [s]=>(match fL s with
  | some ns=>if ns.length<=n then .ok (.bool true) else .no
  | none=>.no)
 | _=>.no
theorem Jq {l:PySem.W.OpenLaw} {n k:Nat} {q:Program} {loose:List Str} {XP:(Str->Option Value)->Heap->Prop} {YP:World->Heap->Prop} {d:DefRec} {K:Params->PySem.W.Frag} {x:Str} {st:Stmt}
  (hn:l.most=some n) (hn2:n<=sizeLine) (hdf:d.params.defaults=[]) (hr:cR k callerA)
  (hY:∀ (w:World) (h:Heap),YP w h->(K w.params).In h)
  (hb:∀ (kV doc pm:Value) (an:Option Addr) (cdv ct:Value) (us:List Value),us.length=1->bindArgs (PySem.W.fnOf d.name d.name (fF st) (dm st) (ax st) .none kV doc pm an cdv ct) ⟨us,[]⟩=pure ([x].zip us))
  (F:∀ (w:World) (mg:Str->Option Value) (h:Heap),(K w.params).In h->h.Ns mainGlobals mg->
   bw (K w.params) mg d.name st [x]/\∀ f fd,Fun (K w.params) d.name d.name st f fd->∀ base:Heap,(K w.params).In base->base.Ns mainGlobals mg->L2.pT mg base->iC l.prog w (K w.params) mg base (CXW l.prog w) k f fd [x] (spD (K w.params) 1 (gx n)))
  (hTb:∀ (w:World) (h:Heap) (loose':List Str) (mean:ExcName->Option Value) (mg mb:Str->Option Value),PyProof.Rows.Top q loose' mean mg mb h->(K w.params).In h->L2.pA (K w.params) h:=by exact fun _ _ _ _ _ _ _ _=>L2.tabsIn_nil rfl) :
  PySem.W.WalkO q loose XP YP l.row.toRowW d [] (fun f vs=>PySem.call f vs) :=
 L2.AU (n:=n) (k:=k) (x:=x) (CX:=fun w=>CXW l.prog w) (sp:=fun w=>spD (K w.params) 1 (gx n)) hn hn2 hdf hr hY
  (fun w mg fa h X G hfa=>by obtain ⟨⟨f,fd,F1,b,m⟩,hF⟩:=F w mg h X G;have e:=hfa.symm.trans m;cases e;refine ⟨fd,fun s u=>?_,hF fa fd F1⟩;obtain ⟨oc,od,kV,doc,pm,an,cdv,ct,osl,rfl,lk,hcd⟩:=F1.ex;exact .of_eq (hb kV doc pm an cdv ct [u] rfl))
  (fun w H a ns hl hO hS=>by
   refine ⟨[],[au ns],?_,?_,rfl,?_⟩
   ·exact Ls.nil
   ·rw [A3];exact ⟨_,[],rfl,BO hS,rfl⟩
   ·have eg:gx n [au ns]=.ok (.bool true):=by unfold gx;simp [gj,hl]
    rw [eg];intro v H' _ hv;rw [A3] at hv;unfold Is at hv;exact hv)
  (fun w H s e s' qz5=>(by obtain ⟨_,_,_,_,_,_,z,_⟩:=qz5;exact z)) hTb
end RS
set_option maxHeartbeats 4000000
namespace L2
open PySem PySem.Spec PyProof.Rows
def EY (K:PySem.W.Frag) (x:Str):Prop:=∃ f oc od fd sl c P o vs,PySem.W.nsIn K mainGlobals x=some (some (.ref f))/\K.lookup f=some ⟨oc,od,.func fd,sl⟩/\fd.code=.ref c/\K.lookup c=some o/\o.data=.fields vs/\vs[11]?=some (.ref P)/\PySem.W.codeHdIn K c P=true
section
variable {P:Program} {w:World} {K:PySem.W.Frag} {mg:Str->Option Value} {base:Heap}
theorem bg.ofL {x:Str} {st:Stmt} {f:Addr} {fd:FuncData} {N ps:List Str} {k:Nat} {O:List Nat} {G:Ds->Sr} {gf:List PyData->Rs PyData} (F:Fun K x x st f fd) (S:aZ N ps (ax st)) (b:Binds K fd ps []) (m:mg x=some (.ref f)) (hO:∀ i∈O,ps.length<=i)
  (hx:x∈qC) (hm:∀ g,PySem.W.nsIn K mainGlobals x=some (some (.ref g))->mg x=some (.ref g)) (hT:EY K x) (hB:pT mg base) (hK:K.In base) (hq:∀ (L:Addr) (cdv:Value),(envOfC x (ax st) L f cdv).qual++"<lambda>"=x++".<locals>.<lambda>")
  (body:∀ (cdv:Value) (A:Around) (outer:List Env) (s:Shared) (H:Hp) (E:XK),cR k (A.deeper (envOfC x (ax st) s.heap.objs.size f cdv))->∀ c Pt,Fb (eF (CXW P w) P w K mg base N x (ax st) f cdv A outer s H E) c Pt->PBD (eF (CXW P w) P w K mg base N x (ax st) f cdv A outer s H E) E O (dm st) G)
  (hg:∀ ds,ds.length=ps.length->gf ds≠.no->bu (G (ds.map some++List.replicate (N.length-ps.length) none))=gf ds):bg P w K mg base (k+1) x ps.length gf:=by
 obtain ⟨oc,od,kV,doc,pm,an,cdv,ct,osl,rfl,lk,hcd⟩:=F.ex;obtain ⟨f',oc',od',fd',sl',c,Pt,o,vs,t1,t2,t3,t4,t5,t6,t7⟩:=hT;have hf:f'=f:=by have:=hm f' t1;rw [m] at this;cases this;rfl
 subst hf;rw [lk] at t2;have hcc:cdv=.ref c:=by cases t2;exact t3
 subst hcc;obtain ⟨bm,ob,b1,b2,b3,b4,b5,b6,b7⟩:=hB;refine ⟨f',_,ps,Co lk hcd S (fun vs H Q E h=>?_) (fun A outer s H vs' Q E hr h=>?_),m,F.kp,b⟩
 ·obtain ⟨A,ds,hA,hi,hl,o⟩:=h;rw [hi.length,hl]
 ·obtain ⟨A0,ds,hA,hi,hl,ou⟩:=h;refine ⟨_,body (.ref c) A outer s H E hr c Pt ⟨?_,rfl,PySem.W.codeHd_of_K hK t7,bm,ob,b1,b2,b3,b4,b5,b6,b7⟩,H,A0,[],_,cz.start hA hi hl hO,?_⟩
  ·exact ⟨x,hx,f',_,_,_,_,c,t1,lk,rfl,⟨o,vs,t4,t5,t6⟩,hq _ _⟩
  ·have hg':=hg ds hl (fun z=>by rw [z] at ou;exact ou);cases q:G (ds.map some++List.replicate (N.length-ps.length) none) with
   | rt d=>rw [q] at hg';rw [<-hg'] at ou;exact fun v H' s' hv=>ou v H' s' hv
   | nx δ=>rw [q] at hg';rw [<-hg'] at ou;exact fun A' σ H' R'=>ou .non H' R'.same is_none
   | rz C=>rw [q] at hg';rw [<-hg'] at ou;exact fun H' s'=>ou H' s'
   | bk δ=>rw [q] at hg';rw [<-hg'] at ou;exact ou.elim
   | ct δ=>rw [q] at hg';rw [<-hg'] at ou;exact ou.elim
   | no=>rw [q] at hg';rw [<-hg'] at ou;exact ou.elim
end
def f6 (cond:Ds->Rs Bool) (elt:Ds->Rs PyData) (tgt:PyData->Option Ds) (δ δ2:Ds):List PyData->Rs (List PyData)
 | []=>.ok []
 | d::r=>match tgt d with
  | none=>.no
  | some own=>(cond (δ2++own)).calm.bind fun b=>if b=true then (elt (δ++own)).calm.bind fun x=>(f6 cond elt tgt δ δ2 r).bind fun xs=>.ok (x::xs) else f6 cond elt tgt δ δ2 r
def nW (n0:Nat) (src:Ds->Rs (List PyData)) (cond:Ds->Rs Bool) (elt:Ds->Rs PyData) (tgt:PyData->Option Ds):Ds->Ds->Rs (List PyData):=fun δ δ2=>if δ.length=n0 then (src δ).bind fun ds=>if ds.length<=1000000 then f6 cond elt tgt δ δ2 ds else .no else .no
theorem Fw {K:PySem.W.Frag} {E:XK} {own:List Str} {gi:Ds->Rs (List PyData)} {g:TG} {tt:TT} {cond:Ds->Rs Bool} {ge:Ds->Rs PyData} {tgt:PyData->Option Ds} {n0:Nat} (hT:TgD K n0 own.length tgt g) (htt:∀ σ H Q,cD K E0 cond σ H Q->tt σ H Q) {σ:St} {H:Hp} {Q:VK} {A A2:List Addr} {δ δ2:Ds} (R:eK K H A δ σ) (Rf:eK K H A2 δ2 σ) (hAA:∀ a∈A2,a∈A) (o:ER K E A H (nW n0 gi cond ge tgt δ δ2) Q) :
  tLC own.length (iD K E gi) g tt (eD K E0 ge) σ H Q:=by
 unfold nW at o;by_cases hn0:δ.length=n0
 case neg=>rw [if_neg hn0] at o;exact o.elim
 rw [if_pos hn0] at o;have hσ:σ.length=n0:=by rw [<-R.len];exact hn0
 refine ⟨A,δ,R,?_⟩;cases q:gi δ with
 | no=>rw [q] at o;exact o
 | rz C=>rw [q] at o;exact o
 | ok ds =>
  rw [q] at o;have o:ER K E A H (if ds.length<=1000000 then f6 cond ge tgt δ δ2 ds else .no) Q:=o;by_cases hz:ds.length<=1000000
  case neg=>rw [if_neg hz] at o;exact o.elim
  rw [if_pos hz] at o;intro J H1 s1 hJ D hD;have R1:=R.same s1;have nD:D∉A:=R1.ls.new hD;cases qo:f6 cond ge tgt δ δ2 ds with
  | rz C =>
   exfalso;have:∀ l,f6 cond ge tgt δ δ2 l≠.rz C:=by
    intro l
    induction l with
    | nil=>intro z;cases z
    | cons d r ih =>
     intro z;unfold f6 at z;split at z
     ·cases z
     ·rename_i own' _;cases c1:cond (δ2++own') with
      | ok b =>
       simp only [c1,Rs.dZ,Rs.aj] at z;split at z
       ·cases c2:ge (δ++own') with
        | ok x =>
         simp only [c2,Rs.dZ,Rs.aj] at z;cases c3:f6 cond ge tgt δ δ2 r with
         | ok l=>simp only [c3,Rs.aj] at z;cases z
         | rz C'=>simp only [c3,Rs.fo] at z;cases z;exact ih c3
         | no=>simp only [c3,Rs.bX] at z;cases z
        | rz C'=>simp only [c2,Rs.calm,Rs.bX] at z;cases z
        | no=>simp only [c2,Rs.calm,Rs.bX] at z;cases z
       ·exact ih z
      | rz C'=>simp only [c1,Rs.calm,Rs.bX] at z;cases z
      | no=>simp only [c1,Rs.calm,Rs.bX] at z;cases z
   exact this ds qo
  | no=>rw [qo] at o;exact o.elim
  | ok out =>
   rw [qo] at o;have base:aA (del H1 A) (del (upd H1 D (.lst [])) (D::A)):=fun b o e=>by obtain ⟨z,e⟩:=bL e;have nb:b≠D:=aX e hD;rw [ba (by simp [nb,z]),aL nb];exact e
   refine ⟨fun i m ys H'=>m=ds.length-i/\i<=ds.length/\aA H1 H'/\H' D=some (.lst ys)/\ys.length<=i/\∃ dn rest,f6 cond ge tgt δ δ2 (ds.drop i)=.ok rest/\out=dn++rest/\Iss K (del H' (D::A)) dn ys,
    ⟨ds.length,by simp,Lw _,cm hD,aV,K8 _,[],out,qo,rfl,dH⟩,?_⟩
   rintro i m ys H' ⟨rfl,hi,sm,hl,hy,dn,rest,c1,c2,c3⟩
   refine ⟨hl,?_⟩;have sG:aA (del H1 A) H':=aI.trans sm;have hBn:∀ b∈D::A,(del H1 A) b=none:=fun b hb=>by
    rcases K6.mp hb with z | z
    ·rw [z,ba nD];exact hD
    ·exact iI z
   obtain ⟨jg,js,jy⟩:=hJ H' (D::A) sG (fun b hb=>by
    rcases K6.mp hb with z | z
    ·exact ⟨_,by rw [z];exact hl,rfl⟩
    ·exact (R1.ls.same sm) b z) hBn
   by_cases hlt:i<ds.length
   ·refine .inr ⟨jg i hlt,fun x H2 σ' hσ' y=>?_⟩;obtain ⟨s2,d,ed,hd⟩:=jy i x H2 hlt y;have edr:ds.drop i=d::ds.drop (i+1):=by
     rw [Mp hlt];have:ds[i]=d:=by have:=K3 hlt;rw [this] at ed;exact Option.some.inj ed
     rw [this]
    rw [edr] at c1;unfold f6 at c1;cases et:tgt d with
    | none=>rw [et] at c1;cases c1
    | some ow =>
     rw [et] at c1;have l2:H2 D=some (.lst ys):=s2 _ _ hl;have LsD:Ls H2 (D::A):=fun b hb=>by
      rcases K6.mp hb with z | z
      ·exact ⟨_,by rw [z];exact l2,rfl⟩
      ·exact (R1.ls.same (sm.trans s2)) b z
     obtain ⟨hol,hgo⟩:=hT d x σ σ' H2 (D::A) (fun σ2 H2=>tt σ2 H2 fun b H3 =>
      if b=true then eD K E0 ge σ2 H3 fun v H4=>H4 D=some (.lst ys)/\ys.length<sizeLine/\(∃ σ'',σ2=σ++σ''/\σ''.length=own.length)/\∃ m',m' < ds.length-i/\_
      else (∃ σ'',σ2=σ++σ''/\σ''.length=own.length)/\∃ m',m' < ds.length-i/\_) ow hσ hσ' LsD hd et
     refine hgo fun vs hvs hown=>?_
     have sAll:aA (del H1 A) (del H2 (D::A)):=nj (sG.trans s2) hBn;have RE:eK K H2 (D::A) (δ++ow) (σ++vs):=by
      refine ⟨LsD,by rw [KU,KU,R.len,hvs,hol],fun k e ek=>?_⟩;by_cases hk:k<δ.length
      ·rw [La hk] at ek;obtain ⟨u,e1,hu⟩:=R1.get k e ek;exact ⟨u,by rw [La (by rw [<-R.len];exact hk)];exact e1,hu.same sAll⟩
      ·rw [Le (by omega)] at ek;obtain ⟨u,e1,hu⟩:=hown _ e ek;exact ⟨u,by rw [Le (by rw [<-R.len];omega),<-R.len];exact e1,hu⟩
     have RE2:eK K H2 (D::A2) (δ2++ow) (σ++vs):=by
      have hsub:aA (del H2 (D::A)) (del H2 (D::A2)):=fun b u eb=>by
       obtain ⟨q1,q2⟩:=bL eb;rw [ba (fun z=>q1 (by
        rcases K6.mp z with z | z
        ·rw [z];exact K4
        ·exact K0 _ (hAA b z)))];exact q2
      have Rf1:=Rf.same (s1.trans (sm.trans s2));have nD2:D∉A2:=fun z=>nD (hAA D z)
      have hD0:H D=none:=s1.free hD;refine ⟨fun b hb=>?_,by rw [KU,KU,Rf.len,hvs,hol],fun k e ek=>?_⟩
      ·rcases K6.mp hb with z | z
       ·exact LsD b (by rw [z];exact K4)
       ·exact LsD b (K0 _ (hAA b z))
      ·by_cases hk:k<δ2.length
       ·rw [La hk] at ek;obtain ⟨u,e1,hu⟩:=Rf.get k e ek;refine ⟨u,by rw [La (by rw [<-Rf.len];exact hk)];exact e1,hu.same fun b u eb=>?_⟩;obtain ⟨q1,q2⟩:=bL eb;have nb:b≠D:=fun z=>by rw [z,hD0] at q2;cases q2
        rw [ba (by simp [nb,q1])];exact (s1.trans (sm.trans s2)) _ _ q2
       ·rw [Le (by omega)] at ek;obtain ⟨u,e1,hu⟩:=hown _ e ek;exact ⟨u,by rw [Le (by rw [<-Rf.len];omega),<-Rf.len];exact e1,hu.same hsub⟩
     have bad:∀ r:Rs Bool,r=.rz 0->r.calm=.no:=fun r e=>by rw [e];rfl
     refine htt _ _ _ (cD.run RE2 (fun b eb H3 s3 R3f=>?_) (fun C eb=>?_) (fun eb=>?_))
     ·simp only [eb,Rs.dZ,Rs.aj] at c1;cases b with
      | true =>
       simp only [if_true] at c1;refine eD.run (RE.same s3) (fun xd ex v H4 s4 R4 hv=>?_) (fun C ex=>?_) (fun ex=>?_)
       ·simp only [ex,Rs.dZ,Rs.aj] at c1;cases cr:f6 cond ge tgt δ δ2 (ds.drop (i+1)) with
        | ok rs =>
         simp only [cr,Rs.aj] at c1;cases c1;have l4:H4 D=some (.lst ys):=s4 _ _ (s3 _ _ l2);have dU:del (upd H4 D (.lst (ys++[v]))) (D::A)=del H4 (D::A):=lE (K4);refine ⟨l4,by rw [sizeLine_eq];omega,⟨vs,rfl,hvs⟩,ds.length-(i+1),by omega,rfl,hlt,?_,aV,by simp;omega,dn++[xd],rs,cr,by rw [c2];simp,?_⟩
         ·exact aA.put (((sm.trans s2).trans s3).trans s4) hD
         ·rw [dU];exact (c3.same (aA.del (s2.trans (s3.trans s4)))).append (j8 hv)
        | rz C=>simp only [cr,Rs.fo] at c1;cases c1
        | no=>simp only [cr,Rs.bX] at c1;cases c1
       ·simp only [ex,Rs.calm,Rs.bX] at c1;cases c1
       ·simp only [ex,Rs.calm,Rs.bX] at c1;cases c1
      | false =>simp only [L5,if_false] at c1;exact ⟨⟨vs,rfl,hvs⟩,ds.length-(i+1),by omega,rfl,hlt,(sm.trans s2).trans s3,s3 _ _ l2,by omega,dn,rest,c1,c2,c3.same (aA.del (s2.trans s3))⟩
     ·simp only [eb,Rs.calm,Rs.bX] at c1;cases c1
     ·simp only [eb,Rs.calm,Rs.bX] at c1;cases c1
   ·have e:i=ds.length:=by omega
    subst e;rw [MP] at c1;cases c1;rw [LL] at c2;subst c2;exact .inl ⟨js,o D ys H' (s1.free hD) (s1.trans sm) hl c3⟩
def uT (O:List Nat) (i n0:Nat) (gi:Ds->Rs (List PyData)) (cond:Ds->Rs Bool) (ge:Ds->Rs PyData) (tgt:PyData->Option Ds):Ds->Sr:=fun δ=>if i<δ.length then ofR (nW n0 gi cond ge tgt (mask O δ) δ) fun ds=>.nx (δ.set i (some (.list ds))) else .no
section
variable {X:Cx} {E:XK} {O:List Nat} {tg:Expr} {pos:Pos}
theorem Dy {M:List Str} {elt iter:Expr} {ifs:List Expr} {scope:Scope} {own:List Str} {gi:Ds->Rs (List PyData)} {g:TG} {tt:TT} {cond:Ds->Rs Bool} {ge:Ds->Rs PyData} {tgt:PyData->Option Ds} {n0:Nat} {i:Nat} {x:Str} {pos' spos:Pos} (hc:X.calm=true) (hN:X.N.Nodup) (hi:PID X E tg iter gi)
  (hT:TgD X.K n0 own.length tgt g) (hg:∀ C s2 H2 fp,PG (blk X M scope own C s2 H2 fp) tg g) (ht:∀ C s2 H2 fp,PTs (blk X M scope own C s2 H2 fp) ifs tt) (htt:∀ σ H Q,cD X.K E0 cond σ H Q->tt σ H Q) (he:∀ C s2 H2 fp,PD (blk X M scope own C s2 H2 fp) E0 elt ge) (hO:i∉O:=by decide)
  (hxi:X.N[i]?=some x:=by rfl) (hx:Loc X.env.scope x:=by first | exact Or.inl rfl | exact Or.inr rfl) (hsw:swapsWith (.ListComp elt [⟨tg,iter,ifs,0⟩] scope pos) (some (.Name x pos')) spos.line X.env=pure true:=by rfl)
  (hB:pV X.N M X.env.scope scope own=true:=by rfl) (hs:∀ x,foldedSetIterable iter X.env x=pure x:=by intro _;rfl) (hf:X.fn x=true\/X.env.scope.names.lookup x=some .local:=by first | exact .inl rfl | exact .inr rfl | assumption) :
  PSD X E O (.Assign [.Name x pos'] (.ListComp elt [⟨tg,iter,ifs,0⟩] scope pos) spos) (uT O i n0 gi cond ge tgt) :=
 PS.imp (q9 (own:=own) (te:=eD X.K E0 ge) hc hN hxi hx hsw hi hg ht (fun C s2 H2 fp=>he C s2 H2 fp) hB hs hf) fun D σ H pz3=>by
  obtain ⟨H0,A0,A,δ,R,o⟩:=pz3;unfold uT at o;split at o
  ·rename_i hl;have R1:=R.part;refine Fw hT htt R1 R.full (fun a ha=>K7 _ ha) ?_;cases q:nW n0 gi cond ge tgt (mask O δ) δ with
   | ok ds =>rw [q] at o;intro p xs H' hn s hp hi';exact o A _ H' ((R.step s).set hO hl (kI (by rw [ba (R1.ls.new hn)];exact hp) (hi'.same oS)))
   | rz C=>rw [q] at o;exact fun H' s'=>o H' (R.same.trans s')
   | no=>rw [q] at o;exact o
  ·exact o.elim
end
theorem fS.of {P:Program} {w:World} {K:PySem.W.Frag} {mg:Str->Option Value} {base:Heap} {C:Addr} {m qual:Str} {st:Stmt} {f:Addr} {fd:FuncData} {N ps:List Str} {k:Nat} {O:List Nat} {G:Ds->Sr} {gf:List PyData->Rs PyData} (F:Fun K m qual st f fd) (S:aZ N ps (ax st)) (b:Binds K fd ps []) (cl:Cls K C) (hm:Meth K C m f) (hO:∀ i∈O,ps.length<=i)
  (body:∀ (cdv:Value) (A:Around) (outer:List Env) (s:Shared) (H:Hp) (E:XK),cR k (A.deeper (envOfC qual (ax st) s.heap.objs.size f cdv))->PBD (eF (CXW P w) P w K mg base N qual (ax st) f cdv A outer s H E) E O (dm st) G)
  (hg:∀ ds,ds.length=ps.length->gf ds≠.no->bu (G (ds.map some++List.replicate (N.length-ps.length) none))=gf ds):fS P w K mg base (k+1) C m ps.length gf :=
 ⟨f,fd,ps,cl,hm,RS.A5 F S hO body hg,b⟩
def tX (xs ys:List PyData):List PyData:=List.zipWith (fun a b=>PyData.tuple [a,b]) xs ys
theorem DZ {K:PySem.W.Frag} {G:Hp} {a b:Addr} {xs ys:List V} {ds es:List PyData} (h1:Iss K G ds xs) (h2:Iss K G es ys) (hl:ys.length=xs.length) (hp:∀ H1,aA G H1->SqT K H1 a xs) (hq:∀ H1,aA G H1->SqL K H1 b ys):zV K (Itz K a b xs.length) (tX ds es) G:=fun H1 B s lB hB=>by
 have l1:=h1.length;have l2:=h2.length;have hz:(tX ds es).length=xs.length:=by unfold tX;rw [List.length_zipWith];omega
 rw [hz];refine ⟨fun i hi=>⟨hi,xs,ys,hp H1 s,hq H1 s,rfl,hl⟩,⟨rfl,xs,ys,hp H1 s,hq H1 s,rfl,hl⟩,fun i x H2 hi y=>?_⟩;obtain ⟨t,x0,y0,rfl,ht,rfl,hx,hy⟩:=y;obtain ⟨d,e,hd⟩:=h1.get (hx xs (hp H1 s));obtain ⟨d',e',hd'⟩:=h2.get (hy ys (hq H1 s));refine ⟨cm ht,.tuple [d,d'],by unfold tX;rw [List.getElem?_zipWith,e,e'],?_⟩;have nb:t∉B:=lB.new ht;have sm:aA G (del (upd H1 t (.tup [x0,y0])) B):=fun b o q=>by have q1:=s b o q;have nt:b≠t:=aX q1 ht;rw [ba (fun z=>by rw [hB b z] at q;cases q),aL nt];exact q1
 exact jL (by rw [ba nb];exact aV) (dk (hd.same sm) (j8 (hd'.same sm)))
section
variable {X:Cx} {E:XK} {a b:Expr} {pos:Pos} {gs:Ds->Rs (List PyData)}
def GL:List PyData->Rs (List PyData)
 | [.tuple xs,.list ys]=>if ys.length=xs.length then .ok (tX xs ys) else .no
 | _=>.no
def Fl (g:Ds->Rs (List PyData)):Ds->Rs (List PyData):=fun δ=>(g δ).bind GL
theorem FN {elts:List Expr} {x1:Nat} {tp p:Pos} (hm:X.mg "zip"=none) (ha:PAD X E [a,b] gs) (hg:Gl X "zip":=by rfl) (hs:starEach [a,b] X.env=[(false,eval a X.env),(false,eval b X.env)]:=by rfl) (hs2:starEach [b] X.env=[(false,eval b X.env)]:=by rfl) :
  PID X E (.Tuple elts x1 tp) (.Call (.Name "zip" p) [a,b] [] pos) (Fl gs):=(HI hg hm ha.1 hs hs2).imp fun σ H R ⟨A,δ,Rp,o⟩=>rq Rp o fun ds vs H1 e s1 R1 h1 o=>by
 unfold GL at o;split at o
 ·split at o
  ·rename_i hl;obtain ⟨v,u,rfl,h,h'⟩:=BB h1;obtain ⟨p,xs,rfl,hp,hx⟩:=h.ofTup;obtain ⟨q,ys,rfl,hq,hy⟩:=h'.ofLst;have l1:=hx.length;have l2:=hy.length;exact ⟨p,q,xs,ys,rfl,SqT.of (aI _ _ hp),SqL.of (aI _ _ hq),by omega,o _ H1 (aA.refl _) (DZ hx hy (by omega) (fun H2 s2=>SqT.of (s2 _ _ hp)) fun H2 s2=>SqL.of (s2 _ _ hq))⟩
  ·exact o.elim
 ·exact o.elim
end
end L2
namespace RS
open PySem L2
abbrev JN:List Str:=["number", "parts", "rank", "row"]
abbrev JT:List (Str×Int):=[("job",0),("part",0),("spent",0)]
def eO (cs:Cs):Ds->Sr :=
 (aK (aW [] 2 (g2 dIx (af 0) (gC (.int 0))))
  (aK (aW [] 3 (g2 dIx (af 0) (gC (.int 2))))
  (aK (aW [] 4 (g2 iP (gC (.int 0)) (af 3)))
  (aK (ju [] (cC (af 1)) (cy 5) (aK (aW [] 6 (gF jv (ae (af 4) (ae (g2 iP (af 5) (af 3)) ao))))
  (aK (sIf (gT (g2 dGt (af 6) (af 5))) (bR (gC (.bool false))) bO)
  (aW [] 4 (g2 bo (af 6) (af 2))))))
  (bR (gC (.bool true)))))))
def k9 (cs:Cs) (aC bQ:Gf):Ds->Sr :=
 (aK (sIf (cOr (iO (gT (g1 (mr "list") (af 1)))) (gT (g2 dGt (gF cZ (ae (af 1) ao)) (gC (.int 60))))) (bR (gC (.bool false))) bO)
  (bR (wd (gF qe (ae (gL (bM 2 (cC (af 1)) bF (ay aC (ae (af 2) (ae (gC (.int 0)) (ae (gC (.int 9999)) ao)))) aT)) ao)) (ay bQ (ae (af 0) (ae (af 1) ao))))))
def dF (cs:Cs) (cG aM:Gf):Ds->Sr :=
 (aK (mM (ay aM (ae (af 0) ao)))
  (aK (sIf (cOr (iO (gT (g1 (mr "list") (af 1)))) (gT (g2 dNe (gF cZ (ae (af 1) ao)) (gF cZ (ae (af 0) ao))))) (kB cs.NoComings (ae (gC (.str "comings are a list of one list for each errand")) ao)) bO)
  (aK (sIf (iO (gT (gF qe (ae (gL (bM 2 (Fl (ae (af 0) (ae (af 1) ao))) bF (ay cG (ae (af 2) (ae (af 3) ao))) kq)) ao)))) (kB cs.NoComings (ae (gC (.str "an errand can not come so")) ao)) bO)
  (bR (gL (bM 2 (cC (af 1)) bF (gF ya (ae (af 2) ao)) aT))))))
def eh (cs:Cs):Ds->Sr :=
 (bR (g2 dEq (g1 (b9 cs.Jobs "job") (af 0)) (gF cZ (ae (g1 (b9 cs.Jobs "row") (af 0)) ao))))
def fh (cs:Cs):Ds->Sr :=
 (bR (gIf (gT (g2 dEq (g1 (b9 cs.Jobs "spent") (af 0)) (gC (.int 0)))) (g2 dIx (g2 dIx (g1 (b9 cs.Jobs "parts") (af 0)) (g1 (b9 cs.Jobs "part") (af 0))) (gC (.int 1))) (gC .none)))
def gJ (cs:Cs):Ds->Sr :=
 (bR (gIf (gT (g2 dGt (g1 (b9 cs.Jobs "spent") (af 0)) (gC (.int 0)))) (g2 dIx (g2 dIx (g1 (b9 cs.Jobs "parts") (af 0)) (g1 (b9 cs.Jobs "part") (af 0))) (gC (.int 1))) (gC .none)))
def kE (cs:Cs) (aJ:Gf):Ds->Sr :=
 (aK (sIf (gT (g1 gR (af 1))) (bR (gC .none)) bO)
  (aK (ju [] (cC (af 0)) (cy 2) (sIf (gT (g2 dEq (bS cs.Jobs "held" aJ (af 2) ao) (af 1))) (bR (af 2)) bO))
  (bR (gC .none))))
def ie (cs:Cs) (aE bA:Gf):Ds->Sr :=
 (aK (xQ 1)
  (aK (ju [1] (cC (af 0)) (cy 2) (aK (aW [1] 3 (ay bA (ae (af 0) (ae (bS cs.Jobs "wanted" aE (af 2) ao) ao))))
  (sIf (gT (g1 tE (af 3))) (rG 1 (g1 (b9 cs.Jobs "number") (af 3)) (gF lQ (ae (g1 (b9 cs.Jobs "rank") (af 2)) (ae (nM (af 1) (g1 (b9 cs.Jobs "number") (af 3)) (g1 (b9 cs.Jobs "rank") (af 3))) ao)))) bO)))
  (bR (af 1))))
def cH (cs:Cs) (aJ:Gf):Ds->Sr :=
 (aK (aW [] 2 (bS cs.Jobs "held" aJ (af 0) ao))
  (aK (sIf (gT (g1 gR (af 2))) (bR (jU (ae (g1 (b9 cs.Jobs "rank") (af 0)) (ae (gC (.int 1)) ao)))) bO)
  (bR (jU (ae (gF lQ (ae (g1 (b9 cs.Jobs "rank") (af 0)) (ae (g2 dIx (af 1) (af 2)) ao))) (ae (gC (.int 0)) ao))))))
def ee (cs:Cs):Ds->Sr :=
 (bR (wd (g2 dLt (g1 (b9 cs.Jobs "job") (af 0)) (gF cZ (ae (g1 (b9 cs.Jobs "row") (af 0)) ao))) (g2 dLe (g2 dIx (g1 (b9 cs.Jobs "row") (af 0)) (g1 (b9 cs.Jobs "job") (af 0))) (af 1))))
def xS (cs:Cs) (bh de bz aM:Gf):Ds->Sr :=
 (aK (mM (ay aM (ae (af 0) ao)))
  (aK (mM (ay bz (ae (af 0) (ae (af 1) ao))))
  (bR (ay de (ae (af 0) (ae (af 1) (ae (ay bh (ae (af 0) (ae (af 2) ao))) (ae (af 3) ao))))))))
def c9 (cs:Cs) (ak:Gf):Ds->Sr :=
 (aK (aW [6] 4 (ay ak (ae (af 0) (ae (af 1) (ae (g2 Ci (gC (.int 10)) (gC (.int 9))) ao)))))
  (aK (aW [6] 5 (g2 iP (g2 fi (af 4) (g2 bo (g2 dIx (af 2) (gC (.int 0))) (gC (.int 2)))) (g2 dIx (af 2) (gC (.int 2)))))
  (aK (lI [6] 6 ao)
  (aK (aW [6] 7 (gC (.int 0)))
  (aK (fun δ=>cg (Bd (gT (g2 dLt (g2 bo (af 5) (g2 dIx (af 2) (gC (.int 2)))) (af 3))) (gT (g2 dLt (gF cZ (ae (af 6) ao)) (gC (.int 60))))) (aK (aW [6] 8 (g2 fi (g2 eM (g2 bo (g2 bo (af 4) (g2 eM (g2 eM (gC (.int 104729)) (af 7)) (af 7))) (g2 eM (gC (.int 7919)) (af 7))) (gC (.int 48271))) (gC (.int 2147483647))))
  (aK (aW [6] 9 (gF jv (ae (gC (.int 0)) (ae (g2 bo (af 5) (g2 fi (g2 gB (af 8) (gC (.int 7))) (g2 bo (g2 dIx (af 2) (gC (.int 2))) (gC (.int 1))))) ao))))
  (aK (sIf (gT (g2 dNe (af 6) (gQ ao))) (si 9 (gF jv (ae (af 9) (ae (g2 bo (g2 dIx (af 6) (g1 qi (gC (.int 1)))) (gC (.int 1))) ao)))) bO)
  (aK (md [6] 6 (af 9))
  (aK (aW [6] 5 (g2 bo (af 5) (g2 dIx (af 2) (gC (.int 0)))))
  (aK (sIf (gT (g2 dEq (g2 fi (g2 gB (af 8) (gC (.int 61))) (gC (.int 3))) (gC (.int 0)))) (aW [6] 5 (g2 bo (af 5) (g2 fi (g2 gB (af 8) (gC (.int 997))) (g2 dIx (af 2) (gC (.int 0)))))) bO)
  (aW [6] 7 (g2 bo (af 7) (gC (.int 1)))))))))) 1000000 δ)
  (bR (af 6)))))))
def eu (cs:Cs) (bf:Gf):Ds->Sr :=
 (bR (gL (bM 4 (jm (ae (gF cZ (ae (af 2) ao)) ao)) bF (ay bf (ae (af 0) (ae (g2 bo (af 1) (af 4)) (ae (g2 dIx (af 2) (af 4)) (ae (af 3) ao))))) aT)))
def ml (cs:Cs) (bG bB dE aS:Gf) (gm_Jobs_go_on:List (Str×PyData)->Option (List (Str×PyData))) (as:List Addr):Ds->Sr :=
 (aK (lI [6] 6 ao)
  (aK (fun δ=>cg (iO (gT (gF qe (ae (gL (bM 9 (cC (af 5)) bF (bS cs.Jobs "are_done" bB (af 9) ao) aT)) ao)))) (aK (uT [6] 7 9 (cC (af 5)) (gT (bS cs.Jobs "is_there" aS (af 9) (ae (gF cZ (ae (af 6) ao)) ao))) (af 9) aT)
  (sIf (gT (g2 dEq (gF cZ (ae (af 7) ao)) (gC (.int 0)))) (md [6] 6 (gC .none)) (aK (aW [6] 8 (ay dE (ae (af 7) (ae (af 4) (ae (af 3) ao)))))
  (aK (md [6] 6 (jU (ae (g1 (b9 cs.Jobs "number") (af 8)) (ae (g1 (b9 cs.Jobs "job") (af 8)) ao))))
  (pf as cs.Jobs "go_on" 8 gm_Jobs_go_on))))) 1000000 δ)
  (bR (af 6))))
def fH (cs:Cs) (as:List Addr):Ds->Sr :=
 (aK (fk as cs.Jobs 0 "spent" (gC (.int 1)))
  (aK (sIf (gT (g2 dEq (g1 (b9 cs.Jobs "spent") (af 0)) (g2 dIx (g2 dIx (g1 (b9 cs.Jobs "parts") (af 0)) (g1 (b9 cs.Jobs "part") (af 0))) (gC (.int 0))))) (aK (nF as cs.Jobs 0 "spent" (gC (.int 0)))
  (fk as cs.Jobs 0 "part" (gC (.int 1)))) bO)
  (sIf (gT (g2 dEq (g1 (b9 cs.Jobs "part") (af 0)) (gF cZ (ae (g1 (b9 cs.Jobs "parts") (af 0)) ao)))) (aK (nF as cs.Jobs 0 "part" (gC (.int 0)))
  (fk as cs.Jobs 0 "job" (gC (.int 1)))) bO)))
def kK (cs:Cs) (bY aE bA bK:Gf):Ds->Sr :=
 (aK (sIf (gT (g2 dEq (af 2) (gC (.str "high")))) (bR (j6 [1] (af 0) (ay bK (ae (af 0) (ae (af 1) ao))))) bO)
  (aK (aW [] 3 (gL (bM 5 (cC (af 0)) (gT (g1 gR (ay bA (ae (af 0) (ae (bS cs.Jobs "wanted" aE (af 5) ao) ao))))) (af 5) aT)))
  (aK (aW [] 4 (gIf (gT (g2 dEq (af 2) (gC (.str "asked")))) (ay bY (ae (af 0) ao)) (gC (dB []))))
  (bR (j6 [4] (af 3) (nM (af 1) (g1 (b9 cs.Jobs "number") (af 0)) (g1 (b9 cs.Jobs "rank") (af 0))))))))
end RS
set_option maxHeartbeats 1000000
namespace RS
open PySem L2
def cf:Gf
 | [d,.int t]=>if wa d then .ok (.bool ((deE d).has t)) else .no
 | _=>.no
theorem lh {e:Er} {t:Int} (h:e.Sh):cf [e.d,.int t]=.ok (.bool (e.has t)):=by unfold cf;simp [mQ h,nk]
theorem wY (t:Int):∀ ps:List (Int×Option Int),inD (.int t) ((ps.map bt).map fun d=>bq (dQ d).2)=ps.any fun p=>p.2==some t
 | []=>rfl
 | p::r=>by
  have h1:eqV (toV (bq p.2)) (.int t)=(p.2==some t):=by
   rcases hp:p.2 with _ | z
   ·rfl
   ·show (z==t)=(some z==some t)
    simp
  have:=wY t r;unfold inD inV at this ⊢;rw [K1,K1,K1,M7,M7,this,ix];show (eqV (toV (bq p.2)) (.int t) || _)=_;rw [h1]
theorem B6 (ps:List (Int×Option Int)):((ps.map bt).map fun d=>bq (dQ d).2).all hV=true:=by rw [L4];intro d hd;obtain ⟨n,_,rfl⟩:=KS.mp hd;cases (dQ n).2 <;> rfl
theorem Iq {f:PyData->Int->Rs PyData} {ds:List PyData} (h:(match ds with | [x0,.int x1]=>f x0 x1 | _=>.no)≠.no):∃ x0 x1,ds=[x0,.int x1]/\f x0 x1≠.no:=by
 rcases ds with _ | ⟨x0,_ | ⟨x1,_ | ⟨y,ys⟩⟩⟩
 ·exact absurd rfl h
 ·exact absurd rfl h
 ·skip
  cases x1 with
  | int x1 =>exact ⟨_,_,rfl,h⟩
  | _=>exact absurd rfl h
 ·first | exact absurd rfl h | (cases x1 <;> exact absurd rfl h)
theorem za (cs:Cs):∀ ds,ds.length=2->cf ds≠.no->bu (iG cs (ds.map some++List.replicate 0 none))=cf ds:=by
 intro ds hl hne;obtain ⟨d,t,ez,hz⟩:=Iq hne;clear hne;subst ez;have hne:=hz;clear hz
 ·skip
  split at hne
  ·rename_i hd;obtain ⟨e1,sh⟩:=uc hd;rw [<-e1];generalize deE d=e at sh;rw [lh sh];have hc:bM 2 (cC (g2 dIx (af 0) (gC (.int 3)))) bF (g2 dIx (af 2) (gC (.int 1))) aT [some e.d,some (.int t)]=.ok ((e.parts.map bt).map fun d=>bq (dQ d).2) :=
    cQ rfl (by simp [G0]) (by have:=sh.pn;simp;omega) fun d hd'=>by obtain ⟨p,hp,rfl⟩:=KS.mp hd';simp [Hm,ix]
   have hi:Ee false (.int t) (.list ((e.parts.map bt).map fun d=>bq (dQ d).2))=some (.bool (e.has t)):=by show (if (hV (.int t)&&_)=true then some (PyData.bool (if false=true then _ else inD _ _)) else none)=_;rw [B6,wY];rfl
   show bu (iG cs [some e.d,some (.int t)])=_;simp only [iG,cB,cw,az,aF,og,hc,Rs.aj,hi,Rs.ar,aH,bU]
  ·exact absurd rfl hne
def cO:Gf
 | [d,r,.int t]=>if u9 d&&fm (mO d).length r then .ok (bq (fN (mO d) (iB r) t)) else .no
 | _=>.no
theorem nv {es:List Er} {rs:List Int} {t:Int} (h1:es.length<=100) (h:∀ e∈es,e.Sh) (hr:kG es.length rs):cO [aU es,bc rs,.int t]=.ok (bq (fN es rs t)):=by unfold cO;simp [xa h1 h,zg,mG hr,qT]
theorem p4 (es:List Er) (hsh:∀ e∈es,e.Sh) (R:PyData) (t:Int):∀ (rs:List Int) (k:Nat) (x3 x4:Option PyData),(∀ m∈rs,0<=m/\m<es.length) ->
   (∃ i,hts es rs k t=some i/\forL (kO [3,4]) (sIf (gT (ay cf (ae (g2 dIx (af 0) (af 4)) (ae (af 2) ao)))) (bR (af 3)) bO) ((rs.map PyData.int).mapIdx fun i d=>.tuple [.int ((k+i:Nat):Int),d]) [some (aU es),some R,some (.int t),x3,x4]=.rt (.int i))
  \/(hts es rs k t=none/\∃ δ,forL (kO [3,4]) (sIf (gT (ay cf (ae (g2 dIx (af 0) (af 4)) (ae (af 2) ao)))) (bR (af 3)) bO) ((rs.map PyData.int).mapIdx fun i d=>.tuple [.int ((k+i:Nat):Int),d]) [some (aU es),some R,some (.int t),x3,x4]=.nx δ)
 | [],k,x3,x4,_=>.inr ⟨rfl,_,rfl⟩
 | m::r,k,x3,x4,hm=>by
   have h0:=hm m K4;have a2:atI (es.map Er.d) m=some (jx es m).d:=vC h0.1 h0.2;have ht:=lh (t:=t) (hsh _ (mK h0.1 h0.2));rw [K1,List.mapIdx_cons];unfold forL;have e1:kO [3,4] (PyData.tuple [.int ((k+0:Nat):Int),.int m]) [some (aU es),some R,some (.int t),x3,x4]=some [some (aU es),some R,some (.int t),some (.int (k:Int)),some (.int m)]:=rfl;rw [e1];simp only [dA,eN,cu,aQ,aY,cw,az,aF,Rs.aj,aU,GG,a2,Rs.ar,ht,bH,aH,cB,eV];unfold hts;cases hh:(jx es m).has t with
   | true=>exact .inl ⟨k,rfl,rfl⟩
   | false =>
    simp only [L5,if_false];have ih:=p4 es hsh R t r (k+1) (some (.int (k:Int))) (some (.int m)) (fun x hx=>hm x (K0 _ hx));rw [show ((k+1:Nat):Int)=(k:Int)+1 by omega] at ih;have ef:(fun (i:Nat) (d:PyData)=>PyData.tuple [.int ((k+(i+1):Nat):Int),d])=fun i d=>.tuple [.int ((k+1+i:Nat):Int),d]:=by funext i d;rw [show k+(i+1)=k+1+i by omega]
    rw [ef];exact ih
theorem EX {f:PyData->PyData->Int->Rs PyData} {ds:List PyData} (h:(match ds with | [x0,x1,.int x2]=>f x0 x1 x2 | _=>.no)≠.no):∃ x0 x1 x2,ds=[x0,x1,.int x2]/\f x0 x1 x2≠.no:=by
 rcases ds with _ | ⟨x0,_ | ⟨x1,_ | ⟨x2,_ | ⟨y,ys⟩⟩⟩⟩
 ·exact absurd rfl h
 ·exact absurd rfl h
 ·exact absurd rfl h
 ·skip
  cases x2 with
  | int x2 =>exact ⟨_,_,_,rfl,h⟩
  | _=>exact absurd rfl h
 ·first | exact absurd rfl h | (cases x2 <;> exact absurd rfl h)
theorem CA (cs:Cs):∀ ds,ds.length=3->cO ds≠.no->bu (ll cs cf (ds.map some++List.replicate 2 none))=cO ds:=by
 intro ds hl hne;obtain ⟨d,r,t,ez,hz⟩:=EX hne;clear hne;subst ez;have hne:=hz;clear hz
 ·skip
  split at hne
  ·rename_i hc;simp only [K9] at hc;obtain ⟨c1,c2⟩:=hc;obtain ⟨e1,hlen,hsh⟩:=EC c1;obtain ⟨e2,hr⟩:=yv c2;rw [<-e1,<-e2];generalize mO d=es at *;generalize iB r=rs at *;rw [nv hlen hsh hr];have loop:=p4 es hsh (bc rs) t rs 0 none none hr.rng;show bu (ll cs cf [some (aU es),some (bc rs),some (.int t),none,none])=_;have src:ue (ae (af 1) ao) [some (aU es),some (bc rs),some (.int t),none,none]=.ok ((rs.map PyData.int).mapIdx fun i d=>.tuple [.int ((0+i:Nat):Int),d]):=by simp only [F5,aQ,aY,az,aF,Rs.aj,bc,FZ,kQ,Mh]
   simp only [ll];rw [br,vn,jB,src,aH];unfold fN;rcases loop with ⟨i,q1,q2⟩ | ⟨q1,δ,q2⟩
   ·rw [q2];have q1:hts es rs 0 t=some i:=q1;rw [q1];rfl
   ·rw [q2];have q1:hts es rs 0 t=none:=q1;rw [q1];rfl
  ·exact absurd rfl hne
def cn (es:List Er) (rs:List Int):PyData:=.list ((List.range 4).map fun (t:Nat)=>bq (fN es rs t))
def bG:Gf
 | [d,r]=>if u9 d&&fm (mO d).length r then .ok (cn (mO d) (iB r)) else .no
 | _=>.no
theorem jA {es:List Er} {rs:List Int} (h1:es.length<=100) (h:∀ e∈es,e.Sh) (hr:kG es.length rs):bG [aU es,bc rs]=.ok (cn es rs):=by unfold bG;simp [xa h1 h,zg,mG hr,qT]
theorem HE {f:PyData->PyData->Rs PyData} {ds:List PyData} (h:(match ds with | [x0,x1]=>f x0 x1 | _=>.no)≠.no):∃ x0 x1,ds=[x0,x1]/\f x0 x1≠.no:=by
 rcases ds with _ | ⟨x0,_ | ⟨x1,_ | ⟨y,ys⟩⟩⟩
 ·exact absurd rfl h
 ·exact absurd rfl h
 ·skip
  exact ⟨_,_,rfl,h⟩
 ·exact absurd rfl h
theorem vo (cs:Cs):∀ ds,ds.length=2->bG ds≠.no->bu (fG cs cO (ds.map some++List.replicate 0 none))=bG ds:=by
 intro ds hl hne;obtain ⟨d,r,ez,hz⟩:=HE hne;clear hne;subst ez;have hne:=hz;clear hz
 ·skip
  split at hne
  ·rename_i hc;simp only [K9] at hc;obtain ⟨c1,c2⟩:=hc;obtain ⟨e1,hlen,hsh⟩:=EC c1;obtain ⟨e2,hr⟩:=yv c2;rw [<-e1,<-e2];generalize mO d=es at *;generalize iB r=rs at *;rw [jA hlen hsh hr];have hh:∀ t:Int,cO [aU es,bc rs,.int t]=.ok (bq (fN es rs t)):=fun t=>nv hlen hsh hr
   have hcm:bM 2 (jm (ae (gC (.int 4)) ao)) bF (ay cO (ae (af 0) (ae (af 1) (ae (af 2) ao)))) aT [some (aU es),some (bc rs)]=.ok ((b8 0 (4:Int).toNat).map fun x=>bq (fN es rs (deI x))) :=
    cQ rfl (by simp only [mR,aQ,aY,dP,Rs.aj];exact m9 (by decide) (by decide)) (by rw [dR];decide) fun x hx=>by obtain ⟨i,hi⟩:=MB hx;obtain ⟨_,rfl⟩:=iJ hi;simp only [Lk,Ln,cu,aQ,aY,az,aF,Rs.aj,hh];rfl
   have hd:cn es rs=.list ((b8 0 (4:Int).toNat).map fun x=>bq (fN es rs (deI x))):=by
    unfold cn b8;rw [L3];congr 1
    try exact L8 fun k _=>by simp [deI]
   rw [hd];show bu (fG cs cO [some (aU es),some (bc rs)])=_;simp only [fG,cB,og,hcm,Rs.aj,aH,bU]
  ·exact absurd rfl hne
def eI (ns:List Int) (a:Int) (many:Nat):Nat->List Int×List Int
 | 0=>((List.range many).map fun (i:Nat)=>(i:Int),[])
 | i+1=>((eI ns a many i).1.eraseIdx (mixed ns (a+(i:Int)) ((eI ns a many i).1.length:Int)).toNat,(eI ns a many i).2++[(eI ns a many i).1.getD (mixed ns (a+(i:Int)) ((eI ns a many i).1.length:Int)).toNat 0])
def qt (ns:List Int) (a:Int) (many:Nat):List Int:=(eI ns a many many).2
theorem sX {α:Type}:∀ (l:List α) (j:Nat) (h:j<l.length),(l[j]::l.eraseIdx j).Perm l
 | [],j,h=>by simp at h
 | x::r,0,h=>by simp
 | x::r,j+1,h=>by
  simp only [List.getElem_cons_succ,List.eraseIdx_cons_succ];have h':j<r.length:=by simpa using h
  exact (List.Perm.swap _ _ _).trans ((sX r j h').cons x)
theorem um {α β:Type} (f:α->β):∀ (l:List α) (j:Nat),(l.map f).eraseIdx j=(l.eraseIdx j).map f
 | [],j=>by simp
 | x::r,0=>by simp
 | x::r,j+1=>by simp [um f r j]
theorem rM (ns:List Int) (a:Int) (many:Nat):∀ i,i<=many->(eI ns a many i).1.length=many-i/\(eI ns a many i).2.length=i/\((eI ns a many i).1++(eI ns a many i).2).Perm ((List.range many).map fun (i:Nat)=>(i:Int))
 | 0,_=>⟨by simp [eI],rfl,by simp [eI]⟩
 | i+1,h=>by
  obtain ⟨h1,h2,h3⟩:=rM ns a many i (by omega);simp only [eI];generalize (eI ns a many i).1=L at *;generalize (eI ns a many i).2=M at *;have hL:0<(L.length:Int):=by omega
  have m0:=dj ns (a+(i:Int)) hL;have m1:=dG ns (a+(i:Int)) hL;generalize mixed ns (a+(i:Int)) (L.length:Int)=z at *;have hz:z.toNat<L.length:=by omega
  refine ⟨by rw [List.length_eraseIdx_of_lt hz];omega,by simp [h2],?_⟩;refine List.Perm.trans ?_ h3;rw [Lh,K3 hz,Option.getD_some];have p1:(L[z.toNat]::L.eraseIdx z.toNat).Perm L:=sX L z.toNat hz;have p2:(L.eraseIdx z.toNat++(M++[L[z.toNat]])).Perm ((L[z.toNat]::L.eraseIdx z.toNat)++M):=by rw [<-Mf];exact (List.perm_append_singleton _ _)
  exact p2.trans (p1.append_right M)
theorem zT (ns:List Int) (a:Int) (many:Nat):kG many (qt ns a many):=by
 obtain ⟨h1,h2,h3⟩:=rM ns a many many (K8 _);unfold qt;have e:(eI ns a many many).1=[]:=M4.mp (by omega);rw [e,Ln] at h3;refine ⟨h2,fun r hr=>?_,h3.nodup_iff.mpr ?_⟩
 ·obtain ⟨k,hk,rfl⟩:=KS.mp (h3.mem_iff.mp hr);have:=LQ.mp hk;omega
 ·exact (List.nodup_range).map (f:=fun (i:Nat)=>(i:Int)) fun x y h=>by intro q;have q:(x:Int)=(y:Int):=q;exact h (by omega)
def bP:Gf
 | [s,.int a,.int many]=>(match fL s with
  | some ns=>if 0<=a/\0<=many/\many<=100 then .ok (bc (qt ns a many.toNat)) else .no
  | none=>.no)
 | _=>.no
theorem kl {ns:List Int} {a many:Int} (h1:0<=a) (h2:0<=many) (h3:many<=100):bP [au ns,.int a,.int many]=.ok (bc (qt ns a many.toNat)):=by unfold bP;simp [gj,h1,h2,h3]
theorem BC (ns:List Int) (a:Int) (n i:Nat) (L M:List Int) (ha:0<=a) (hL:0<(L.length:Int)) (hL2:L.length<=100) (hM:M.length<=100) :
   jM 4 3 (ay ak (ae (af 0) (ae (g2 bo (af 1) (af 5)) (ae (gF cZ (ae (af 3) ao)) ao)))) [some (au ns),some (.int a),some (.int (n:Int)),some (.list (L.map .int)),some (.list (M.map .int)),some (.int (0+(i:Int)))]
  =.nx [some (au ns),some (.int a),some (.int (n:Int)),some (.list ((L.eraseIdx (mixed ns (a+(i:Int)) (L.length:Int)).toNat).map .int)),some (.list ((M++[L.getD (mixed ns (a+(i:Int)) (L.length:Int)).toNat 0]).map .int)),some (.int (0+(i:Int)))]:=by
 have hm':=cT (ns:=ns) (k:=a+(0+(i:Int))) (many:=(L.length:Int)) (by omega) hL;have m0:=dj ns (a+(i:Int)) hL;have m1:=dG ns (a+(i:Int)) hL;rw [show a+(0+(i:Int))=a+(i:Int) by omega] at hm';generalize mixed ns (a+(i:Int)) (L.length:Int)=z at *;have hz:z.toNat<L.length:=by omega
 have hg:ay ak (ae (af 0) (ae (g2 bo (af 1) (af 5)) (ae (gF cZ (ae (af 3) ao)) ao))) [some (au ns),some (.int a),some (.int (n:Int)),some (.list (L.map .int)),some (.list (M.map .int)),some (.int (0+(i:Int)))]=.ok (.int z):=by simp only [cu,aQ,aY,cw,gW,az,aF,Rs.aj,fA,Rs.ar,l5,K5];rw [show a+(0+(i:Int))=a+(i:Int) by omega];exact hm'
 have hix:ixN (L.map PyData.int).length z=some z.toNat:=by unfold ixN;rw [if_pos m0,if_pos (by rw [K5];omega)]
 have hat:(L.map PyData.int)[z.toNat]?=some (.int (L.getD z.toNat 0)):=by rw [Lb,K3 hz,Lh,K3 hz];rfl
 unfold jM;simp only [M5,M6,hg,aH];rw [if_pos (by refine ⟨by omega,by omega,?_⟩;rw [K5];omega)];simp only [hix,hat,Mr,Ms,LG,K1,LS];rw [um]
theorem Bw (ns:List Int) (a:Int) (n i:Nat) (ha:0<=a) (hi:i<n) (hn:n<=100) :
   jM 4 3 (ay ak (ae (af 0) (ae (g2 bo (af 1) (af 5)) (ae (gF cZ (ae (af 3) ao)) ao)))) [some (au ns),some (.int a),some (.int (n:Int)),some (.list ((eI ns a n i).1.map .int)),some (.list ((eI ns a n i).2.map .int)),some (.int (0+(i:Int)))]
  =.nx [some (au ns),some (.int a),some (.int (n:Int)),some (.list ((eI ns a n (i+1)).1.map .int)),some (.list ((eI ns a n (i+1)).2.map .int)),some (.int (0+(i:Int)))]:=by
 obtain ⟨h1,h2,h3⟩:=rM ns a n i (by omega);simp only [eI];exact BC ns a n i _ _ ha (by omega) (by omega) (by omega)
theorem rk1 (ns:List Int) (a:Int) (n:Nat) (hm2:(n:Int)<=100):lI [3,4] 3 (gLR (ae (af 2) ao)) [some (au ns),some (.int a),some (.int (n:Int)),none,none,none]=.nx [some (au ns),some (.int a),some (.int (n:Int)),some (.list ((eI ns a n 0).1.map .int)),none,none]:=by
 have hg:gLR (ae (af 2) ao) (mask [3,4] [some (au ns),some (.int a),some (.int (n:Int)),none,none,none])=.ok (b8 0 n):=by simp only [Jf,aQ,aY,b0 (show 2∉[3,4] by decide),az,aF,Rs.aj];unfold wc;simp only;rw [if_pos (by omega),Ll]
 have he:(eI ns a n 0).1.map PyData.int=b8 0 n:=by
  simp only [eI,b8,L3];refine L8 fun k _=>?_
  simp
 rw [he];unfold lI;rw [hg,if_pos (by simp)];simp only [aH,Mr,Ms]
theorem rk2 (ns:List Int) (a:Int) (n:Nat):lI [3,4] 4 ao [some (au ns),some (.int a),some (.int (n:Int)),some (.list ((eI ns a n 0).1.map .int)),none,none]=.nx [some (au ns),some (.int a),some (.int (n:Int)),some (.list ((eI ns a n 0).1.map .int)),some (.list ((eI ns a n 0).2.map .int)),none]:=by unfold lI;rw [if_pos (by simp)];simp only [aY,aH,Mr,Ms];rfl
theorem rk3 (ns:List Int) (a:Int) (n:Nat) (hm2:(n:Int)<=100):jm (ae (af 2) ao) (mask [3,4] [some (au ns),some (.int a),some (.int (n:Int)),some (.list ((eI ns a n 0).1.map .int)),some (.list ((eI ns a n 0).2.map .int)),none])=.ok (b8 0 n):=by have hv:ae (af 2) ao (mask [3,4] [some (au ns),some (.int a),some (.int (n:Int)),some (.list ((eI ns a n 0).1.map .int)),some (.list ((eI ns a n 0).2.map .int)),none])=.ok [.int (n:Int)]:=rfl;have hr:=m9 (j:=(n:Int)) (Ma n) (by omega);rw [Ll] at hr;rw [mR,hv,Rs.aj,hr]
theorem yu (cs:Cs):∀ ds,ds.length=3->bP ds≠.no->bu (gy cs ak (ds.map some++List.replicate 3 none))=bP ds:=by
 intro ds hl hne;obtain ⟨s,a,many,ez,hz⟩:=qF hne;clear hne;subst ez;have hne:=hz;clear hz
 ·skip
  split at hne
  ·rename_i ns hs;have es:=iQ hs;subst es;split at hne
   ·rename_i hc;obtain ⟨ha,hm,hm2⟩:=hc;rw [kl ha hm hm2];obtain ⟨n,rfl⟩:∃ n:Nat,many=(n:Int):=⟨many.toNat,by omega⟩
    rw [Ll];show bu (gy cs ak [some (au ns),some (.int a),some (.int (n:Int)),none,none,none])=_;have s1:=rk1 ns a n hm2;have s2:=rk2 ns a n;have src:=rk3 ns a n hm2;obtain ⟨δ',e,x5,hδ⟩:=l0 (β:=Unit) (tgt:=cy 5) (body:=jM 4 3 (ay ak (ae (af 0) (ae (g2 bo (af 1) (af 5)) (ae (gF cZ (ae (af 3) ao)) ao)))))
     (fun i δ=>∃ x5,δ=[some (au ns),some (.int a),some (.int (n:Int)),some (.list ((eI ns a n i).1.map .int)),some (.list ((eI ns a n i).2.map .int)),x5])
     (b8 0 n) 0 (fun i d δ hi pz4=>by obtain ⟨x5,hx⟩:=pz4;subst hx;rw [Mh] at *;obtain ⟨hil,rfl⟩:=iJ hi;refine ⟨[some (au ns),some (.int a),some (.int (n:Int)),some (.list ((eI ns a n i).1.map .int)),some (.list ((eI ns a n i).2.map .int)),some (.int (0+(i:Int)))],_,rfl,?_,some (.int (0+(i:Int))),rfl⟩;exact Bw ns a n i ha hil (by omega)) [some (au ns),some (.int a),some (.int (n:Int)),some (.list ((eI ns a n 0).1.map .int)),some (.list ((eI ns a n 0).2.map .int)),none] ⟨none,rfl⟩
    subst hδ;rw [Mh,dR] at e;simp only [gy];rw [br,s1];simp only;rw [br,s2];simp only;rw [br,vn,src,aH,e];simp only;simp only [cB,gW,aQ,aY,az,aF,Rs.aj,CG,Rs.ar,aH,bU];rfl
   ·exact absurd rfl hne
  ·exact absurd rfl hne
def hvM (every late:Int):Int->List Int->Bool
 | _,[]=>true
 | m,c::r=>if c<(if c-late>m then c-late else m) then false else hvM every late ((if c-late>m then c-late else m)+every) r
def hvE (e:Er) (ns:List Int):Bool:=hvM e.every e.late (0-e.late) ns
def bQ:Gf
 | [d,.list xs]=>if wa d then (match gA xs with | some ns=>.ok (.bool (hvE (deE d) ns)) | none=>.no) else .no
 | _=>.no
theorem iu {e:Er} {ns:List Int} (h:e.Sh):bQ [e.d,.list (ns.map PyData.int)]=.ok (.bool (hvE e ns)):=by unfold bQ;simp only [mQ h,if_true,gp,nk]
def hvB:Ds->Sr:=(aK (aW [] 6 (gF jv (ae (af 4) (ae (g2 iP (af 5) (af 3)) ao))))
 (aK (sIf (gT (g2 dGt (af 6) (af 5))) (bR (gC (.bool false))) bO)
 (aW [] 4 (g2 bo (af 6) (af 2)))))
theorem AL (E L:PyData) (every late:Int):∀ (ns:List Int) (m:Int) (x5 x6:Option PyData),
   (hvM every late m ns=true/\∃ δ,forL (cy 5) hvB (ns.map PyData.int) [some E,some L,some (.int every),some (.int late),some (.int m),x5,x6]=.nx δ)
  \/(hvM every late m ns=false/\forL (cy 5) hvB (ns.map PyData.int) [some E,some L,some (.int every),some (.int late),some (.int m),x5,x6]=.rt (.bool false))
 | [],m,x5,x6=>.inl ⟨rfl,_,rfl⟩
 | c::r,m,x5,x6=>by
   have h1:cy 5 (.int c) [some E,some L,some (.int every),some (.int late),some (.int m),x5,x6]=some [some E,some L,some (.int every),some (.int late),some (.int m),some (.int c),x6]:=rfl;rw [K1];unfold forL;rw [h1];unfold hvM;by_cases hc:c<(if c-late>m then c-late else m)
   ·have hb:hvB [some E,some L,some (.int every),some (.int late),some (.int m),some (.int c),x6]=.rt (.bool false):=by simp [hvB,hc]
    refine .inr ⟨if_pos hc,?_⟩;simp only [hb]
   ·have hb:hvB [some E,some L,some (.int every),some (.int late),some (.int m),some (.int c),x6]=.nx [some E,some L,some (.int every),some (.int late),some (.int ((if c-late>m then c-late else m)+every)),some (.int c),some (.int (if c-late>m then c-late else m))]:=by simp [hvB,hc]
    rw [if_neg hc];simp only [hb];exact AL E L every late r _ _ _
theorem CZ {f:PyData->List PyData->Rs PyData} {ds:List PyData} (h:(match ds with | [x0,.list x1]=>f x0 x1 | _=>.no)≠.no):∃ x0 x1,ds=[x0,.list x1]/\f x0 x1≠.no:=by
 rcases ds with _ | ⟨x0,_ | ⟨x1,_ | ⟨y,ys⟩⟩⟩
 ·exact absurd rfl h
 ·exact absurd rfl h
 ·skip
  cases x1 with
  | list x1 =>exact ⟨_,_,rfl,h⟩
  | _=>exact absurd rfl h
 ·first | exact absurd rfl h | (cases x1 <;> exact absurd rfl h)
theorem sv (cs:Cs):∀ ds,ds.length=2->bQ ds≠.no->bu (eO cs (ds.map some++List.replicate 5 none))=bQ ds:=by
 intro ds hl hne;obtain ⟨d,xs,ez,hz⟩:=CZ hne;clear hne;subst ez;have hne:=hz;clear hz
 ·skip
  split at hne
  ·rename_i hd;split at hne
   ·rename_i ns hx;have hx':=fq hx;subst hx';obtain ⟨e1,sh⟩:=uc hd;rw [<-e1,iu sh];generalize deE d=e at *;show bu (eO cs [some e.d,some (.list (ns.map PyData.int)),none,none,none,none,none])=_;unfold eO;have a0:dIx e.d (.int 0)=some (.int e.every):=rfl;have a2:dIx e.d (.int 2)=some (.int e.late):=rfl;simp only [br,lH,cw,az,aF,dP,Rs.aj,a0,a2,Rs.ar,aH,xD];have hf:=AL e.d (.list (ns.map PyData.int)) e.every e.late ns (0-e.late) none none;have hs:ju [] (cC (af 1)) (cy 5) hvB [some e.d,some (.list (ns.map PyData.int)),some (.int e.every),some (.int e.late),some (.int (0-e.late)),none,none]=forL (cy 5) hvB (ns.map PyData.int) [some e.d,some (.list (ns.map PyData.int)),some (.int e.every),some (.int e.late),some (.int (0-e.late)),none,none]:=rfl;show bu (match ju [] (cC (af 1)) (cy 5) hvB [some e.d,some (.list (ns.map PyData.int)),some (.int e.every),some (.int e.late),some (.int (0-e.late)),none,none] with | .nx δ'=>bR (gC (.bool true)) δ' | r=>r)=_;rw [hs];rcases hf with ⟨h1,δ,h2⟩ | ⟨h1,h2⟩
    ·rw [h2];show Rs.ok _=_;unfold hvE;rw [h1]
    ·rw [h2];show Rs.ok _=_;unfold hvE;rw [h1]
   ·exact absurd rfl hne
  ·exact absurd rfl hne
structure pW (ns:List Int):Prop where
 few:ns.length<=60
 lo:∀ c∈ns,0<=c
 hi:∀ c∈ns,c<=9999
def uI (ns:List Int):Bool:=decide (ns.length<=60)&&ns.all fun c=>decide (0<=c)&&decide (c<=9999)
theorem uV {ns:List Int}:uI ns=true↔pW ns:=by
 unfold uI;rw [K9,decide_eq_true_eq,L4];constructor
 ·rintro ⟨h1,h2⟩
  refine ⟨h1,fun c hc=>?_,fun c hc=>?_⟩
  ·have:=h2 c hc;rw [K9,decide_eq_true_eq,decide_eq_true_eq] at this;exact this.1
  ·have:=h2 c hc;rw [K9,decide_eq_true_eq,decide_eq_true_eq] at this;exact this.2
 ·rintro ⟨h1,h2,h3⟩
  refine ⟨h1,fun c hc=>?_⟩;rw [K9,decide_eq_true_eq,decide_eq_true_eq];exact ⟨h2 c hc,h3 c hc⟩
def cG:Gf
 | [d,.list xs]=>if wa d then (match gA xs with | some ns=>if uI ns then .ok (.bool (hvE (deE d) ns)) else .no | none=>.no) else .no
 | _=>.no
theorem nH {e:Er} {ns:List Int} (h:e.Sh) (hr:pW ns):cG [e.d,.list (ns.map PyData.int)]=.ok (.bool (hvE e ns)):=by unfold cG;simp only [mQ h,if_true,gp,nk,uV.mpr hr]
theorem kW (ns:List Int):aP (.list (ns.map PyData.int))=true:=by
 induction ns with
 | nil=>rfl
 | cons a r ih =>
  have:aP (.list (PyData.int a::r.map PyData.int))=aP (.list (r.map PyData.int)):=by simp [aP,d8]
  rw [K1,this];exact ih
theorem Dp (cs:Cs):∀ ds,ds.length=2->cG ds≠.no->bu (k9 cs aC bQ (ds.map some++List.replicate 0 none))=cG ds:=by
 intro ds hl hne;obtain ⟨d,xs,ez,hz⟩:=CZ hne;clear hne;subst ez;have hne:=hz;clear hz
 ·skip
  split at hne
  ·rename_i hd;split at hne
   ·rename_i ns hx;split at hne
    ·rename_i hr;have hx':=fq hx;subst hx';obtain ⟨e1,sh⟩:=uc hd;have R:=uV.mp hr;rw [<-e1,nH sh R];generalize deE d=e at *;show bu (k9 cs aC bQ [some e.d,some (.list (ns.map PyData.int))])=_;have hI:mr "list" (.list (ns.map PyData.int))=some (.bool true):=by unfold mr;rw [if_pos (kW ns)];rfl
     have hc:bM 2 (cC (af 1)) bF (ay aC (ae (af 2) (ae (gC (.int 0)) (ae (gC (.int 9999)) ao)))) aT [some e.d,some (.list (ns.map PyData.int))]=.ok ((ns.map PyData.int).map fun d=>.bool (isWhole d 0 9999)) :=
      cQ rfl rfl (by have:=R.few;rw [K5];omega) fun d hd'=>by obtain ⟨c,hc,rfl⟩:=KS.mp hd';simp only [cu,aQ,aY,Lk,Ln,az,aF,dP,Rs.aj];exact xX rfl
     have hf:=jo (fun d=>isWhole d 0 9999) (ns.map PyData.int);have ha:(ns.map PyData.int).all (fun d=>isWhole d 0 9999)=true:=by rw [L4];intro d hd';obtain ⟨c,hc,rfl⟩:=KS.mp hd';have h1:=R.lo c hc;have h2:=R.hi c hc;simp [isWhole,h1,h2]
     rw [ha] at hf;have hn:¬ ((60:Int)<((ns.map PyData.int).length:Int)):=by have:=R.few;rw [K5];omega
     unfold k9;simp only [br,dA,wK,vj,eN,gr,cw,gW,aQ,aY,az,aF,dP,Rs.aj,hI,Rs.ar,bH,l5,yN,MM,L5,if_false,decide_eq_false hn,aH,eV,cB,vG,og,hc,hf,cu,iu sh,if_true,bU]
    ·exact absurd rfl hne
   ·exact absurd rfl hne
  ·exact absurd rfl hne
def cq (B:Nat) (p:Int->Bool):Option Int:=((List.range B).map fun (i:Nat)=>(1+(i:Int))).find? p
theorem vH (B:Nat) (p:Int->Bool):cq (B+1) p=(cq B p).or (if p (1+(B:Int)) then some (1+(B:Int)) else none):=by unfold cq;rw [List.range_succ,LG,List.find?_append];congr 1;simp only [K1,LS,LH,List.find?_nil];cases p (1+(B:Int)) <;> rfl
theorem d6 {p:Int->Bool}:∀ {B:Nat} {t:Int},cq B p=some t->1<=t/\t<=B/\p t=true/\∀ s,1<=s->s<t->p s=false
 | 0,t,h=>by cases h
 | B+1,t,h=>by
  rw [vH] at h;cases q:cq B p with
  | some u =>rw [q] at h;cases h;obtain ⟨h1,h2,h3,h4⟩:=d6 q;exact ⟨h1,by omega,h3,h4⟩
  | none =>
   rw [q,Option.none_or] at h;split at h
   ·rename_i hp;cases h;refine ⟨by omega,by omega,hp,fun s h1 h2=>?_⟩;unfold cq at q;have:=MK.mp q s (KS.mpr ⟨(s-1).toNat,LQ.mpr (by omega),by omega⟩);simpa using this
   ·cases h
theorem jS {B:Nat} {p:Int->Bool} (h:cq B p=none):∀ s:Int,1<=s->s<=(B:Int)->p s=false:=fun s h1 h2=>by unfold cq at h;have:=MK.mp h s (KS.mpr ⟨(s-1).toNat,LQ.mpr (by omega),by omega⟩);simpa using this
theorem yY {B:Nat} {p:Int->Bool} {t:Int} (h1:1<=t) (h2:t<=B) (h3:p t=true) (h4:∀ s,1<=s->s<t->p s=false):cq B p=some t:=by
 cases q:cq B p with
 | none=>rw [jS q t h1 h2] at h3;cases h3
 | some u =>
  obtain ⟨u1,u2,u3,u4⟩:=d6 q;by_cases z:u<t
  ·rw [h4 u u1 z] at u3;cases u3
  ·by_cases z2:t<u
   ·rw [u4 t h1 z2] at h3;cases h3
   ·rw [show u=t by omega]
theorem rD {α:Type} (f:α->Int):∀ l:List α,(∀ x∈l,0<=f x)->0<=(l.map f).sum
 | [],_=>LD _
 | x::r,h=>by
  have h1:=h x K4;have h2:=rD f r fun y hy=>h y (K0 _ hy)
  simp only [K1,Li];omega
inductive Fa2 {α β:Type} (R:α->β->Prop):List α->List β->Prop where
 | nil:Fa2 R [] []
 | cons {a:α} {b:β} {l:List α} {m:List β} (h:R a b) (t:Fa2 R l m):Fa2 R (a::l) (b::m)
theorem pN:∀ (ps:List (Int×Option Int)),(∀ p∈ps,0<=p.1)->∀ p∈ps,p.1<=(ps.map (·.1)).sum
 | [],_,p,hp=>by cases hp
 | q::r,h,p,hp=>by
  have h0:=h q K4;have h1:=rD (fun p:Int×Option Int=>p.1) r fun p hp=>h p (K0 _ hp)
  simp only [K1,Li];rcases K6.mp hp with rfl | hp
  ·omega
  ·have:=pN r (fun p hp=>h p (K0 _ hp)) p hp;omega
theorem Er.Sh.part_le {e:Er} (h:e.Sh) {p:Int×Option Int} (hp:p∈e.parts):p.1<=e.work:=pN e.parts (fun p hp=>(h.pl p hp).1) p hp
section
variable {es:List Er} {A B:List Int} {x y:Int}
end
section
variable {es:List Er} {rs ot:List Int} {n:Int}
end
theorem oZ:∀ {ds:List PyData},(∀ d∈ds,aP d=true)->d8 ds=true
 | [],_=>by unfold d8;rfl
 | d::r,h=>by unfold d8;rw [h d K4,oZ fun e he=>h e (K0 _ he)];rfl
theorem iy {ds:List PyData} (h:∀ d∈ds,aP d=true):aP (.tuple ds)=true:=by unfold aP;exact oZ h
theorem fZ {ds:List PyData} (h:∀ d∈ds,aP d=true):aP (.list ds)=true:=by unfold aP;exact oZ h
theorem jn (i:Int):aP (.int i)=true:=by unfold aP;rfl
theorem tY (o:Option Int):aP (bq o)=true:=by cases o <;> (unfold bq aP;rfl)
theorem yz (p:Int×Option Int):aP (bt p)=true:=iy fun d hd=>by
 rcases K6.mp hd with rfl | hd
 ·exact jn _
 ·cases KW.mp hd;exact tY _
theorem Dw (e:Er):aP e.d=true:=iy fun d hd=>by
 rcases K6.mp hd with rfl | hd
 ·exact jn _
 ·rcases K6.mp hd with rfl | hd
  ·exact jn _
  ·rcases K6.mp hd with rfl | hd
   ·exact jn _
   ·cases KW.mp hd;exact iy fun d hd=>by obtain ⟨p,_,rfl⟩:=KS.mp hd;exact yz p
theorem ug (es:List Er):aP (aU es)=true:=iy fun d hd=>by obtain ⟨p,_,rfl⟩:=KS.mp hd;exact Dw p
theorem me (rs:List Int):∀ d∈rs.map PyData.int,aP d=true:=fun d hd=>by obtain ⟨p,_,rfl⟩:=KS.mp hd;exact jn p
theorem rj (rs:List Int):aP (bc rs)=true:=iy (me rs)
end RS
namespace RS
open PySem PySem.Spec PyProof.Rows L2
section
variable {P:Program} {w:World} {K:PySem.W.Frag} {mg:Str->Option Value} {base:Heap}
theorem vt {α:Type} {xs:List α} {k:Int} {v:α} (h0:0<=k) (h:xs[k.toNat]?=some v):atI xs k=some v:=by
 have:=qv h
 rwa [LP h0] at this
theorem depthAll_ints:∀ ns:List Int,PyData.depthAll (ns.map PyData.int)<=1
 | []=>by simp [PyData.depthAll]
 | n::r=>by have:=depthAll_ints r;simp only [K1,PyData.depthAll,PyData.depth];omega
theorem pX:∀ ns:List Int,PyData.canLayAll0 (ns.map PyData.int)=true
 | []=>by simp [PyData.canLayAll0]
 | n::r=>by simp [PyData.canLayAll0,PyData.canLay0,pX r]
theorem shaped_ints (ns:List Int):SeqAt.shaped (.list (ns.map PyData.int))=true:=by
 have:=depthAll_ints ns;have h2:(PyData.list (ns.map PyData.int)).depth<=64:=by simp only [PyData.depth];omega
 simp [SeqAt.shaped,PyData.canLay0,pX,h2]
theorem yQ:SeqAt.shaped (.list [])=true:=shaped_ints []
theorem CW:∀ ns:List Int,PyData.eqv (.list (ns.map PyData.int)) (.list [])=decide (ns=[])
 | []=>by simp [PyData.eqv,PyData.eqvAll]
 | _::_=>by simp [PyData.eqv,PyData.eqvAll]
def Ck (K:PySem.W.Frag):Sp:=fun vs H Q _=>∃ (a:Addr) (ns:List Int) (k:Int),vs=[.ref a,.int k]/\SqL K H a (ns.map V.int)/\0<=k/\∀ H',aA H H'->Q (.int (cellAt ns k)) H'
def GH (K:PySem.W.Frag):Sp:=fun vs H Q _=>∃ (a:Addr) (ns:List Int) (k many:Int),vs=[.ref a,.int k,.int many]/\SqL K H a (ns.map V.int)/\0<=k/\0<many/\∀ H',aA H H'->Q (.int (mixed ns k many)) H'
theorem Fi (ds:List PyData) (hl:ds.length=3) (hne:ak ds≠.no):∃ d,ak ds=.ok d/\hV d=true/\∀ vs H Q,Iss K H ds vs->(∀ v H',aA H H'->IsD K H' d v->Q v H')->GH K vs H Q E0:=by
 obtain ⟨s,k,many,ez,hz⟩:=qF hne;clear hne;subst ez;have hne:=hz;clear hz
 ·skip
  split at hne
  ·rename_i ns hs;have es:=iQ hs;subst es;split at hne
   ·rename_i hc;refine ⟨_,cT hc.1 hc.2,rfl,fun vs H Q hi ho=>?_⟩;obtain ⟨v0,r0,rfl,h0,v1,r1,rfl,h1,v2,r2,rfl,h2,rfl⟩:=hi;obtain ⟨a,rfl,hS⟩:=h0.ofScript;rw [h1.ofInt,h2.ofInt];exact ⟨a,ns,k,many,rfl,hS,hc.1,hc.2,fun H' s'=>ho _ _ s' wz⟩
   ·exact absurd rfl hne
  ·exact absurd rfl hne
end
end RS
namespace RS
open PySem L2
section
variable {es:List Er} {rs:List Int} {n:Int}
end
theorem HZ (o:Option Int):dNe (bq o) (bq o)=some (.bool false):=by
 cases o with
 | none =>
  have h:PySem.SeqAt.shaped .none=true:=by simp [PySem.SeqAt.shaped,PyData.canLay0,PyData.depth]
  show dNe .none .none=_;unfold dNe;rw [h];simp [aP,PyData.eqv]
 | some i=>show dNe (.int i) (.int i)=_;simp
theorem pR {cond:Ds->Rs Bool} {elt:Ds->Rs PyData} {δ:Ds} {p:PyData->Bool}:∀ (ds:List PyData),(∀ d∈ds,cond (δ++[some d])=.ok (p d)/\elt (δ++[some d])=.ok d)->fu cond elt aT δ ds=.ok (ds.filter p)
 | [],_=>rfl
 | d::r,h=>by
  obtain ⟨h1,h2⟩:=h d K4;have ih:=pR r fun e he=>h e (K0 _ he)
  unfold fu;cases hp:p d with
  | true=>simp only [aT,h1,hp,Rs.dZ,Rs.aj,if_true,h2,ih,LK]
  | false=>simp only [aT,h1,hp,Rs.dZ,Rs.aj,if_false,L5,ih,LK]
theorem nh {n0:Nat} {src:Ds->Rs (List PyData)} {cond:Ds->Rs Bool} {elt:Ds->Rs PyData} {δ:Ds} {p:PyData->Bool} {ds:List PyData} (hn:δ.length=n0) (hs:src δ=.ok ds) (hl:ds.length<=1000000) (h:∀ d∈ds,cond (δ++[some d])=.ok (p d)/\elt (δ++[some d])=.ok d) :
  bM n0 src cond elt aT δ=.ok (ds.filter p):=by
 unfold bM;rw [if_pos hn,hs];simp only [Rs.aj,if_pos hl];exact pR ds h
theorem C8 (ns:List Int) (a top:Int) (ha:0<=a) (ht:0<top) (ht2:top<=58):∃ es rs,qb ns a 4 top true=es/\1<=es.length/\es.length<=4/\(∀ e∈es,e.Ok)/\kG es.length rs/\bp [au ns,.int a,.int 4,.int top,.bool true]=.ok (aU es)/\bP [au ns,.int 0,.int (es.length:Int)]=.ok (bc rs):=by have hl:=DS ns a 4 top true (by decide);have hok:=Fo ns a 4 top true ht ht2;have hes:bp [au ns,.int a,.int 4,.int top,.bool true]=.ok (aU (qb ns a 4 top true)):=iR ha (by decide) (by decide) ht ht2;generalize qb ns a 4 top true=es at *;have hrs:=kl (ns:=ns) (a:=0) (many:=(es.length:Int)) (by decide) (by omega) (by omega);rw [Ll] at hrs;exact ⟨es,_,rfl,hl.1,by omega,hok,zT ns 0 es.length,hes,hrs⟩
theorem JI (es:List Er):cZ [aU es]=some (.int (es.length:Int)):=by unfold aU;rw [DH,K5]
theorem lawT_of {n:Nat} {G:Ds->Sr} {k:Nat} (h:∀ ns:List Int,G (some (au ns)::List.replicate k none)=.rt (.bool true)):∀ ds,ds.length=1->gx n ds≠.no->bu (G (ds.map some++List.replicate k none))=gx n ds:=by
 intro ds hl hne
 match ds,hl with
 | [s],_ =>
  unfold gx at hne ⊢;simp only at hne ⊢;split at hne
  ·rename_i ns hs;have es:=iQ hs;subst es;split at hne
   ·rename_i hc;simp only [gj,if_pos hc];show bu (G (some (au ns)::List.replicate k none))=_;rw [h];rfl
   ·exact absurd rfl hne
  ·exact absurd rfl hne
theorem BN (cs:Cs):∀ ds,ds.length=1->c8 ds≠.no->bu (pH cs (ds.map some++List.replicate 0 none))=c8 ds:=yH cs
theorem i8 {es:List Er} (cs:Cs) (h1:1<=es.length) (h2:es.length<=6) (h:∀ e∈es,e.Ok):aM cs [aU es]=.ok (aU es):=by unfold aM;simp [ug,vR h1 h2 h]
theorem lM {es:List Er} {rs:List Int} (cs:Cs) (h2:es.length<=6) (hr:kG es.length rs):bz cs [aU es,bc rs]=.ok (bc rs):=by unfold aU bz;simp only [K5,rj,mG hr,Mv,if_true];rw [if_pos (by simp;omega)]
def dw (r:List Int):PyData:=.list (r.map PyData.int)
def cmD (rows:List (List Int)):PyData:=.list (rows.map dw)
inductive Cms:List Er->List (List Int)->Prop
 | nil:Cms [] []
 | cons {e:Er} {r:List Int} {es:List Er} {rows:List (List Int)}:pW r->hvE e r=true->Cms es rows->Cms (e::es) (r::rows)
theorem Cms.len {es:List Er} {rows:List (List Int)} (h:Cms es rows):rows.length=es.length:=by
 induction h with
 | nil=>rfl
 | cons _ _ _ ih=>simp [ih]
theorem Cms.uI {es:List Er} {rows:List (List Int)} (h:Cms es rows):∀ r∈rows,pW r:=by
 induction h with
 | nil=>intro r hr;cases hr
 | cons hr _ _ ih =>
  intro r' h';rcases K6.mp h' with rfl | h'
  ·exact hr
  ·exact ih r' h'
structure zY (es:List Er):Prop where
 l1:1<=es.length
 l6:es.length<=6
 ok:∀ e∈es,e.Ok
open Classical in
def bh (cs:Cs):Gf:=fun ds=>if ∃ es rows,zY es/\Cms es rows/\ds=[aU es,cmD rows] then .ok (ds.getD 1 .none) else .no
theorem fR {cs:Cs} {es:List Er} {rows:List (List Int)} (h:zY es) (c:Cms es rows):bh cs [aU es,cmD rows]=.ok (cmD rows):=by unfold bh;rw [if_pos ⟨es,rows,h,c,rfl⟩];rfl
theorem Cf {δ:Ds} (hδ:δ.length=2):∀ {es:List Er} {rows:List (List Int)},Cms es rows->(∀ e∈es,e.Sh)->fu bF (ay cG (ae (af 2) (ae (af 3) ao))) kq δ (tX (es.map Er.d) (rows.map dw))=.ok (rows.map fun _=>.bool true)
 | _,_,.nil,_=>rfl
 | _,_,.cons (e:=e) (r:=r) (es:=es) (rows:=rows) hr hv c,hs=>by
  obtain ⟨a,b,rfl⟩:∃ a b,δ=[a,b]:=by
   match δ,hδ with
   | [a,b],_=>exact ⟨a,b,rfl⟩
  have ih:=Cf hδ c fun x hx=>hs x (K0 _ hx)
  show fu _ _ _ _ (PyData.tuple [e.d,dw r]::tX (es.map Er.d) (rows.map dw))=_;unfold fu;rw [show kq (PyData.tuple [e.d,dw r])=some [some e.d,some (dw r)] from rfl];have hg:ay cG (ae (af 2) (ae (af 3) ao)) ([a,b]++[some e.d,some (dw r)])=.ok (.bool true):=by simp only [cu,aQ,aY,Lk,Ln,az,aF,Rs.aj];rw [show dw r=.list (r.map PyData.int) from rfl,nH (hs e K4) hr,hv]
  simp only [bF,Rs.dZ,Rs.aj,if_true,hg,ih,K1]
theorem sR (rows:List (List Int)):aP (cmD rows)=true:=by
 unfold cmD
 induction rows with
 | nil=>rfl
 | cons a r ih =>
  have h1:=kW a;have:aP (.list (dw a::r.map dw))=(aP (dw a)&&aP (.list (r.map dw))):=by simp [aP,d8]
  rw [K1,this,ih];simp only [M8];exact h1
theorem mL (cs:Cs):∀ ds,ds.length=2->bh cs ds≠.no->bu (dF cs cG (aM cs) (ds.map some++List.replicate 0 none))=bh cs ds:=by
 intro ds hl hne;by_cases h:∃ es rows,zY es/\Cms es rows/\ds=[aU es,cmD rows]
 ·obtain ⟨es,rows,ok,c,rfl⟩:=h;rw [fR ok c];have k1:=i8 cs ok.l1 ok.l6 ok.ok;have hI:mr "list" (cmD rows)=some (.bool true):=by unfold mr;rw [if_pos (sR rows)];rfl
  have hn:dNe (.int ((rows.map dw).length:Int)) (.int ((es.map Er.d).length:Int))=some (.bool false):=by have:=c.len;rw [K5,K5,this,JO];simp
  have hz:bM 2 (Fl (ae (af 0) (ae (af 1) ao))) bF (ay cG (ae (af 2) (ae (af 3) ao))) kq [some (aU es),some (cmD rows)]=.ok (rows.map fun _=>.bool true):=by
   unfold bM;rw [if_pos (show [some (aU es),some (cmD rows)].length=2 from rfl)];have hs:Fl (ae (af 0) (ae (af 1) ao)) [some (aU es),some (cmD rows)]=.ok (tX (es.map Er.d) (rows.map dw)):=by show (if (rows.map dw).length=(es.map Er.d).length then Rs.ok (tX (es.map Er.d) (rows.map dw)) else Rs.no)=_;exact if_pos (by rw [K5,K5];exact c.len)
   rw [hs];simp only [Rs.aj];rw [if_pos (by unfold tX;rw [List.length_zipWith,K5,K5];have:=ok.l6;omega)];exact Cf rfl c fun e he=>(ok.ok e he).sh
  have hf:=jo (fun _:List Int=>true) rows;have ha:rows.all (fun _=>true)=true:=by rw [L4];intros;rfl
  rw [ha] at hf;have hl2:bM 2 (cC (af 1)) bF (gF ya (ae (af 2) ao)) aT [some (aU es),some (cmD rows)]=.ok ((rows.map dw).map id) :=
   cQ rfl rfl (by have:=c.len;have:=ok.l6;rw [K5];omega) fun d hd'=>by obtain ⟨r,hr,rfl⟩:=KS.mp hd';rfl
  show bu (dF cs cG (aM cs) [some (aU es),some (cmD rows)])=_;unfold dF;have hln:cZ [cmD rows]=some (.int ((rows.map dw).length:Int)):=rfl;have hle:cZ [aU es]=some (.int ((es.map Er.d).length:Int)):=rfl;simp only [br,vL,cu,aQ,aY,az,aF,Rs.aj,k1,aH,dA,wK,vj,eN,gr,cw,gW,hI,Rs.ar,bH,hln,hle,hn,MM,L5,if_false,eV,og,hz,hf,cB,hl2,LJ,bU];rfl
 ·exfalso;apply hne;unfold bh;rw [if_neg h]
structure Jb where
 num:Int
 parts:List (Int×Option Int)
 rank:Int
 row:List Int
 job:Nat
 part:Nat
 spent:Nat
def Jb.fds (j:Jb):List (Str×PyData):=[("number",.int j.num),("parts",.tuple (j.parts.map bt)),("rank",.int j.rank),("row",dw j.row),("job",.int j.job),("part",.int j.part),("spent",.int j.spent)]
def Jb.d (C a:Addr) (j:Jb):PyData:=cY C a j.fds
theorem l7 {C a:Addr} {f:Str} {r:List (Str×PyData)} (h:("@":Str)≠f):b9 C f (cY C a r)=kN f (r.map fun p=>(.str p.1,p.2)):=by show (if ("":Str)=""/\(C:Int)=(C:Int) then (if ("@":Str)=f then some (PyData.int (a:Int)) else kN f (r.map fun p=>(.str p.1,p.2))) else none)=_;rw [if_pos ⟨rfl,rfl⟩,if_neg h]
section
variable {C a:Addr} {j:Jb}
theorem zy:b9 C "number" (j.d C a)=some (.int j.num):=by unfold Jb.d;rw [l7 (by decide)];rfl
theorem mP:b9 C "parts" (j.d C a)=some (.tuple (j.parts.map bt)):=by unfold Jb.d;rw [l7 (by decide)];rfl
theorem qz:b9 C "rank" (j.d C a)=some (.int j.rank):=by unfold Jb.d;rw [l7 (by decide)];rfl
theorem zm:b9 C "row" (j.d C a)=some (dw j.row):=by unfold Jb.d;rw [l7 (by decide)];rfl
theorem vF:b9 C "job" (j.d C a)=some (.int j.job):=by unfold Jb.d;rw [l7 (by decide)];rfl
theorem qG:b9 C "part" (j.d C a)=some (.int j.part):=by unfold Jb.d;rw [l7 (by decide)];rfl
theorem ky:b9 C "spent" (j.d C a)=some (.int j.spent):=by unfold Jb.d;rw [l7 (by decide)];rfl
end
def gfG (n k:Nat) (G:Ds->Sr):Gf:=fun ds=>if ds.length=n then bu (G (ds.map some++List.replicate k none)) else .no
theorem iY {n k:Nat} {G:Ds->Sr}:∀ ds,ds.length=n->gfG n k G ds≠.no->bu (G (ds.map some++List.replicate k none))=gfG n k G ds:=by intro ds hl _;unfold gfG;rw [if_pos hl]
def bB (cs:Cs):Gf:=gfG 1 0 (eh cs)
def aE (cs:Cs):Gf:=gfG 1 0 (fh cs)
def aJ (cs:Cs):Gf:=gfG 1 0 (gJ cs)
def aS (cs:Cs):Gf:=gfG 2 0 (ee cs)
theorem xP {cs:Cs} {a:Addr} {j:Jb}:bB cs [j.d cs.Jobs a]=.ok (.bool ((j.job:Int)==(j.row.length:Int))):=by
 have hl:cZ [dw j.row]=some (.int (j.row.length:Int)):=by unfold dw;rw [l5,K5]
 show bu (eh cs [some (j.d cs.Jobs a)])=_;unfold eh;simp only [cB,cw,gr,az,Rs.aj,vF,zm,Rs.ar,gW,aQ,aY,hl,kD,aH,bU]
def Jb.tool (j:Jb):Option Int:=(j.parts[j.part]?.map (·.2)).getD none
theorem vz {j:Jb} {p:Int×Option Int} (h:j.parts[j.part]?=some p):dIx (.tuple (j.parts.map bt)) (.int (j.part:Int))=some (bt p):=by rw [GG];exact qv (by rw [Lb,h];rfl)
theorem part1 (p:Int×Option Int):dIx (bt p) (.int 1)=some (bq p.2):=rfl
theorem ux {cs:Cs} {a:Addr} {j:Jb} (h:j.part<j.parts.length):aE cs [j.d cs.Jobs a]=.ok (bq (if j.spent=0 then j.tool else none)):=by
 show bu (fh cs [some (j.d cs.Jobs a)])=_;unfold fh;have hp:j.parts[j.part]?=some j.parts[j.part]:=K3 h;have ht:j.tool=j.parts[j.part].2:=by unfold Jb.tool;rw [hp];rfl
 by_cases z:j.spent=0
 ·have e:((j.spent:Int)==0)=true:=by rw [z];rfl
  rw [if_pos z,ht];simp only [cB,gIf,eN,cw,gr,az,dP,Rs.aj,ky,mP,qG,Rs.ar,kD,e,bH,if_true,vz hp,part1,aH,bU]
 ·have e:((j.spent:Int)==0)=false:=by rw [beq_eq_false_iff_ne];omega
  rw [if_neg z];simp only [cB,gIf,eN,cw,gr,az,dP,Rs.aj,ky,Rs.ar,kD,e,bH,L5,if_false,aH,bU];rfl
theorem AY {cs:Cs} {a:Addr} {j:Jb} (h:j.part<j.parts.length):aJ cs [j.d cs.Jobs a]=.ok (bq (if j.spent=0 then none else j.tool)):=by
 show bu (gJ cs [some (j.d cs.Jobs a)])=_;unfold gJ;have hp:j.parts[j.part]?=some j.parts[j.part]:=K3 h;have ht:j.tool=j.parts[j.part].2:=by unfold Jb.tool;rw [hp];rfl
 by_cases z:j.spent=0
 ·have e:decide ((0:Int)<(j.spent:Int))=false:=by rw [z];rfl
  rw [if_pos z];simp only [cB,gIf,eN,cw,gr,az,dP,Rs.aj,ky,Rs.ar,yN,e,bH,L5,if_false,aH,bU];rfl
 ·have e:decide ((0:Int)<(j.spent:Int))=true:=by rw [decide_eq_true_eq];omega
  rw [if_neg z,ht];simp only [cB,gIf,eN,cw,gr,az,dP,Rs.aj,ky,mP,qG,Rs.ar,yN,e,bH,if_true,vz hp,part1,aH,bU]
def Jb.there (j:Jb) (t:Int):Bool:=match j.row[j.job]? with
 | some c=>decide (c<=t)
 | none=>false
theorem xy {cs:Cs} {a:Addr} {j:Jb} {t:Int} (h:j.job<=j.row.length):aS cs [j.d cs.Jobs a,.int t]=.ok (.bool (j.there t)):=by
 have hl:cZ [dw j.row]=some (.int (j.row.length:Int)):=by unfold dw;rw [l5,K5]
 show bu (ee cs [some (j.d cs.Jobs a),some (.int t)])=_;unfold ee Jb.there;by_cases z:j.job<j.row.length
 ·have hp:j.row[j.job]?=some j.row[j.job]:=K3 z;have e:decide ((j.job:Int)<(j.row.length:Int))=true:=by rw [decide_eq_true_eq];omega
  have hx:dIx (dw j.row) (.int (j.job:Int))=some (.int j.row[j.job]):=by show atI (j.row.map PyData.int) _=_;exact qv (by rw [Lb,hp];rfl)
  rw [hp];simp only [cB,vG,cw,gr,az,aF,Rs.aj,vF,zm,Rs.ar,gW,aQ,aY,hl,G9,e,bH,if_true,hx,Ga,aH,bU]
 ·have hp:j.row[j.job]?=none:=Mg (by omega);have e:decide ((j.job:Int)<(j.row.length:Int))=false:=by rw [decide_eq_false_iff_not];omega
  rw [hp];simp only [cB,vG,cw,gr,az,aF,Rs.aj,vF,zm,Rs.ar,gW,aQ,aY,hl,G9,e,bH,L5,if_false,aH,bU]
def jD (C:Addr) (p:Addr×Jb):PyData:=p.2.d C p.1
def Jb.held (j:Jb):Option Int:=if j.spent=0 then none else j.tool
def Jb.wanted (j:Jb):Option Int:=if j.spent=0 then j.tool else none
def holdsT (t:Int) (p:Addr×Jb):Bool:=p.2.held==some t
theorem eq_none_int (x:Int):dEq .none (.int x)=some (.bool false):=by
 have h:PySem.SeqAt.shaped (.int x)=true:=by simp [PySem.SeqAt.shaped,PyData.canLay0,PyData.depth]
 unfold dEq;rw [h];simp [aP,PyData.eqv]
 first | done | rfl | decide
theorem G5 (o:Option Int) (t:Int):dEq (bq o) (.int t)=some (.bool (o==some t)):=by
 cases o with
 | none=>exact eq_none_int t
 | some i=>rw [show bq (some i)=.int i from rfl,kD];simp
theorem v8 {C a:Addr} {j:Jb} {m:Str} (h1:("@":Str)≠m) (h:kh m (j.fds.map fun p=>(.str p.1,p.2))=true):isC C m (j.d C a)=true:=by
 show (decide (("":Str)="")&&decide ((C:Int)=(C:Int))&&kh m ((.str "@",.int (a:Int))::(j.fds.map fun p=>(.str p.1,p.2))))=true;have:kh m ((.str "@",.int (a:Int))::(j.fds.map fun p=>(PyData.str p.1,p.2)))=true:=by unfold kh;simp only [h,M8];simpa using h1
 rw [this];simp
theorem xB {C a:Addr} {j:Jb}:isC C "held" (j.d C a)=true:=v8 (by decide) rfl
theorem sS {C a:Addr} {j:Jb}:isC C "wanted" (j.d C a)=true:=v8 (by decide) rfl
theorem vK {C a:Addr} {j:Jb}:isC C "are_done" (j.d C a)=true:=v8 (by decide) rfl
theorem vI {C a:Addr} {j:Jb}:isC C "is_there" (j.d C a)=true:=v8 (by decide) rfl
def bA (cs:Cs):Gf:=gfG 2 1 (kE cs (aJ cs))
def k6 (C:Addr) (ts:List (Addr×Jb)) (tool:Option Int):PyData:=match tool with
 | none=>.none
 | some t=>match ts.find? (holdsT t) with
  | none=>.none
  | some p=>jD C p
theorem p9 {cs:Cs} {t:Int} {X:PyData}:∀ (ts:List (Addr×Jb)) (x2:Option PyData),(∀ p∈ts,p.2.part<p.2.parts.length) ->
   (∃ p,ts.find? (holdsT t)=some p/\forL (cy 2) (sIf (gT (g2 dEq (bS cs.Jobs "held" (aJ cs) (af 2) ao) (af 1))) (bR (af 2)) bO) (ts.map (jD cs.Jobs)) [some X,some (.int t),x2]=.rt (jD cs.Jobs p))
  \/(ts.find? (holdsT t)=none/\∃ δ,forL (cy 2) (sIf (gT (g2 dEq (bS cs.Jobs "held" (aJ cs) (af 2) ao) (af 1))) (bR (af 2)) bO) (ts.map (jD cs.Jobs)) [some X,some (.int t),x2]=.nx δ)
 | [],x2,_=>.inr ⟨rfl,_,rfl⟩
 | p::r,x2,h=>by
   have h1:cy 2 (jD cs.Jobs p) [some X,some (.int t),x2]=some [some X,some (.int t),some (jD cs.Jobs p)]:=rfl;have hm:bS cs.Jobs "held" (aJ cs) (af 2) ao [some X,some (.int t),some (jD cs.Jobs p)]=.ok (bq p.2.held):=by unfold bS;simp only [az,aF,Rs.aj];rw [if_pos (show isC cs.Jobs "held" (jD cs.Jobs p)=true from xB)];simp only [aY,Rs.aj];exact AY (h p K4)
   have hc:gT (g2 dEq (bS cs.Jobs "held" (aJ cs) (af 2) ao) (af 1)) [some X,some (.int t),some (jD cs.Jobs p)]=.ok (holdsT t p):=by simp only [eN,cw,hm,az,aF,Rs.aj,G5,Rs.ar,bH];rfl
   rw [K1];unfold forL;rw [h1];cases z:holdsT t p with
   | true =>refine .inl ⟨p,by rw [List.find?_cons_of_pos z],?_⟩;simp only [dA,hc,z,aH,if_true,cB,az,aF]
   | false =>simp only [dA,hc,z,aH,L5,if_false,eV];rw [List.find?_cons_of_neg (by rw [z];exact L9)];exact p9 r _ fun q hq=>h q (K0 _ hq)
theorem uM {cs:Cs} {ts:List (Addr×Jb)} {tool:Option Int} (h:∀ p∈ts,p.2.part<p.2.parts.length):bA cs [.list (ts.map (jD cs.Jobs)),bq tool]=.ok (k6 cs.Jobs ts tool):=by
 show bu (kE cs (aJ cs) [some (.list (ts.map (jD cs.Jobs))),some (bq tool),none])=_;unfold kE k6;cases tool with
 | none=>rfl
 | some t =>
  have hn:gT (g1 gR (af 1)) [some (.list (ts.map (jD cs.Jobs))),some (.int t),none]=.ok false:=rfl;show bu (aK (sIf (gT (g1 gR (af 1))) (bR (gC .none)) bO) (aK (ju [] (cC (af 0)) (cy 2) (sIf (gT (g2 dEq (bS cs.Jobs "held" (aJ cs) (af 2) ao) (af 1))) (bR (af 2)) bO)) (bR (gC .none))) [some (.list (ts.map (jD cs.Jobs))),some (.int t),none])=_;have hs:ju [] (cC (af 0)) (cy 2) (sIf (gT (g2 dEq (bS cs.Jobs "held" (aJ cs) (af 2) ao) (af 1))) (bR (af 2)) bO) [some (.list (ts.map (jD cs.Jobs))),some (.int t),none]=forL (cy 2) (sIf (gT (g2 dEq (bS cs.Jobs "held" (aJ cs) (af 2) ao) (af 1))) (bR (af 2)) bO) (ts.map (jD cs.Jobs)) [some (.list (ts.map (jD cs.Jobs))),some (.int t),none]:=rfl;simp only [br,dA,hn,aH,L5,if_false,eV,hs];rcases p9 (cs:=cs) (t:=t) (X:=.list (ts.map (jD cs.Jobs))) ts none h with ⟨p,f1,f2⟩ | ⟨f1,δ,f2⟩
  ·rw [f1,f2];rfl
  ·rw [f1,f2];rfl
def bY (cs:Cs):Gf:=gfG 1 3 (ie cs (aE cs) (bA cs))
theorem Gv {C:Addr} {q:Addr×Jb}:tE (jD C q)=some (.bool true):=rfl
def lrB (cs:Cs):Ds->Sr:=(aK (aW [1] 3 (ay (bA cs) (ae (af 0) (ae (bS cs.Jobs "wanted" (aE cs) (af 2) ao) ao))))
 (sIf (gT (g1 tE (af 3))) (rG 1 (g1 (b9 cs.Jobs "number") (af 3)) (gF lQ (ae (g1 (b9 cs.Jobs "rank") (af 2)) (ae (nM (af 1) (g1 (b9 cs.Jobs "number") (af 3)) (g1 (b9 cs.Jobs "rank") (af 3))) ao)))) bO))
theorem Gi (l:List (Int×Int)) (k v:Int):(zW l k v).length<=l.length+1:=by unfold zW;split <;> simp
def bK (cs:Cs):Gf:=gfG 2 1 (cH cs (aJ cs))
theorem uU {cs:Cs} {p:Addr×Jb} {x y:Option PyData} (h:p.2.part<p.2.parts.length):bS cs.Jobs "held" (aJ cs) (af 0) ao [some (jD cs.Jobs p),x,y]=.ok (bq p.2.held):=by unfold bS;simp only [az,Rs.aj];rw [if_pos (show isC cs.Jobs "held" (jD cs.Jobs p)=true from xB)];simp only [aY,Rs.aj];exact AY h
theorem C7 {ts:List (Addr×Jb)} (h:ts≠[]) {C:Addr}:∃ p∈ts,k6 C ts p.2.wanted=.none:=by
 by_cases z:∃ p∈ts,p.2.spent≠0
 ·obtain ⟨p,hp,hs⟩:=z;refine ⟨p,hp,?_⟩;unfold Jb.wanted;rw [if_neg hs];rfl
 ·have hz:∀ p∈ts,p.2.spent=0:=fun p hp=>by
   by_cases q:p.2.spent=0
   ·exact q
   ·exact absurd ⟨p,hp,q⟩ z
  obtain ⟨p,r,rfl⟩:=List.exists_cons_of_ne_nil h;refine ⟨p,K4,?_⟩;unfold k6;cases p.2.wanted with
  | none=>rfl
  | some t =>
   have:(p::r).find? (holdsT t)=none:=by rw [MK];intro q hq;unfold holdsT Jb.held;rw [if_pos (hz q hq)];exact L9
   simp only [this]
def dE (cs:Cs):Gf:=gfG 3 2 (kK cs (bY cs) (aE cs) (bA cs) (bK cs))
theorem eq_str {s t:Str} (h1:PySem.SeqAt.shaped (.str s)=true) (h2:PySem.SeqAt.shaped (.str t)=true):dEq (.str s) (.str t)=some (.bool (s==t)):=by unfold dEq;rw [h1,h2];simp [aP,PyData.eqv]
def CH (cs:Cs) (δ:Ds) (d:PyData):Bool:=match ay (bA cs) (ae (af 0) (ae (bS cs.Jobs "wanted" (aE cs) (af 5) ao) ao)) (δ++[some d]) with
 | .ok x=>bZ x
 | _=>false
theorem Ag {cs:Cs} {ts:List (Addr×Jb)} {q:Addr×Jb} {x1 x2 x3 x4:Option PyData} (h:∀ p∈ts,p.2.part<p.2.parts.length) (hq:q∈ts) :
  ay (bA cs) (ae (af 0) (ae (bS cs.Jobs "wanted" (aE cs) (af 5) ao) ao)) [some (.list (ts.map (jD cs.Jobs))),x1,x2,x3,x4,some (jD cs.Jobs q)]=.ok (k6 cs.Jobs ts q.2.wanted):=by
 have h2:bS cs.Jobs "wanted" (aE cs) (af 5) ao [some (.list (ts.map (jD cs.Jobs))),x1,x2,x3,x4,some (jD cs.Jobs q)]=.ok (bq q.2.wanted):=by unfold bS;simp only [az,aF,Rs.aj];rw [if_pos (show isC cs.Jobs "wanted" (jD cs.Jobs q)=true from sS)];simp only [aY,Rs.aj];exact ux (h q hq)
 simp only [cu,aQ,aY,az,h2,Rs.aj];exact uM h
structure rC (s:Str):Prop where
 sh:PySem.SeqAt.shaped (.str s)=true
theorem AS:PySem.SeqAt.shaped (.str "high")=true:=by decide +kernel
theorem wM:PySem.SeqAt.shaped (.str "asked")=true:=by decide +kernel
theorem we (ps:List (Int×Option Int)):aP (.tuple (ps.map bt))=true:=by
 induction ps with
 | nil=>rfl
 | cons a r ih =>
  have h1:aP (bt a)=true:=by obtain ⟨x,o⟩:=a;cases o <;> rfl
  have:aP (.tuple (bt a::r.map bt))=(aP (bt a)&&aP (.tuple (r.map bt))):=by simp [aP,d8]
  rw [K1,this,h1,ih];rfl
theorem Jb.flat (j:Jb):hZ j.fds=true:=by have h1:=we j.parts;have h2:aP (dw j.row)=true:=kW j.row;unfold hZ Jb.fds;simp only [K1,LS,lW,h1,h2,M8,Mv];rfl
theorem mU {C a:Addr} {j:Jb}:pM [a] C 0 [some (j.d C a)]=some (a,j.fds):=by
 unfold pM;have h1:ij [some (j.d C a)]=true:=by unfold ij Jb.d;simp only [LY,List.all_nil,M8,wV];exact j.flat
 show (match objOf (j.d C a) with | some (C',a',fds)=>if C'=C/\a'∈[a]/\ij [some (j.d C a)]=true/\hZ fds=true/\fds.length<1000 then some (a',fds) else none | none=>none)=_;unfold Jb.d at *;rw [uA];exact if_pos ⟨rfl,KW.mpr rfl,h1,j.flat,show 7<1000 by decide⟩
theorem k8 {C a:Addr} {fds:List (Str×PyData)} {nd:PyData} (hf:hZ fds=true):l9 a nd [some (cY C a fds)]=[some nd]:=by show [some (fP a nd (cY C a fds))]=_;unfold cY fP;refine congrArg (fun x=>[some x]) (if_pos ?_);unfold lr;unfold hZ at hf;simp [hf]
section
variable {C a:Addr} {j:Jb}
theorem uK:fk [a] C 0 "spent" (gC (.int 1)) [some (j.d C a)]=.nx [some (Jb.d C a { j with spent:=j.spent+1 })]:=by unfold fk;rw [mU];show Sr.nx (l9 a (cY C a (sI "spent" (.int ((j.spent:Int)+1)) j.fds)) [some (cY C a j.fds)])=_;rw [k8 j.flat];rfl
theorem Cv:fk [a] C 0 "part" (gC (.int 1)) [some (j.d C a)]=.nx [some (Jb.d C a { j with part:=j.part+1 })]:=by unfold fk;rw [mU];show Sr.nx (l9 a (cY C a (sI "part" (.int ((j.part:Int)+1)) j.fds)) [some (cY C a j.fds)])=_;rw [k8 j.flat];rfl
theorem FP:fk [a] C 0 "job" (gC (.int 1)) [some (j.d C a)]=.nx [some (Jb.d C a { j with job:=j.job+1 })]:=by unfold fk;rw [mU];show Sr.nx (l9 a (cY C a (sI "job" (.int ((j.job:Int)+1)) j.fds)) [some (cY C a j.fds)])=_;rw [k8 j.flat];rfl
theorem Bv:nF [a] C 0 "spent" (gC (.int 0)) [some (j.d C a)]=.nx [some (Jb.d C a { j with spent:=0 })]:=by unfold nF;rw [mU];show Sr.nx (l9 a (cY C a (sI "spent" (.int 0) j.fds)) [some (cY C a j.fds)])=_;rw [k8 j.flat];rfl
theorem CP:nF [a] C 0 "part" (gC (.int 0)) [some (j.d C a)]=.nx [some (Jb.d C a { j with part:=0 })]:=by unfold nF;rw [mU];show Sr.nx (l9 a (cY C a (sI "part" (.int 0) j.fds)) [some (cY C a j.fds)])=_;rw [k8 j.flat];rfl
end
def Jb.step1 (j:Jb) (n:Int):Jb:=if (j.spent:Int)+1=n then { j with spent:=0,part:=j.part+1 } else { j with spent:=j.spent+1 }
def Jb.step2 (j:Jb):Jb:=if j.part=j.parts.length then { j with part:=0,job:=j.job+1 } else j
def Jb.len (j:Jb):Int:=(j.parts[j.part]?.map (·.1)).getD 0
def Jb.next (j:Jb):Jb:=(j.step1 j.len).step2
theorem FQ {cs:Cs} {a:Addr} {j:Jb} (h:j.part<j.parts.length):fH cs [a] [some (j.d cs.Jobs a)]=.nx [some (j.next.d cs.Jobs a)]:=by
 have hp:j.parts[j.part]?=some j.parts[j.part]:=K3 h;have hn:j.len=j.parts[j.part].1:=by unfold Jb.len;rw [hp];rfl
 have second:∀ k:Jb,sIf (gT (g2 dEq (g1 (b9 cs.Jobs "part") (af 0)) (gF cZ (ae (g1 (b9 cs.Jobs "parts") (af 0)) ao)))) (aK (nF [a] cs.Jobs 0 "part" (gC (.int 0))) (fk [a] cs.Jobs 0 "job" (gC (.int 1)))) bO [some (k.d cs.Jobs a)]=.nx [some (k.step2.d cs.Jobs a)]:=by
  intro k;have hc:gT (g2 dEq (g1 (b9 cs.Jobs "part") (af 0)) (gF cZ (ae (g1 (b9 cs.Jobs "parts") (af 0)) ao))) [some (k.d cs.Jobs a)]=.ok ((k.part:Int)==(k.parts.length:Int)):=by simp only [eN,cw,gr,gW,aQ,aY,az,Rs.aj,qG,mP,Rs.ar,DH,K5,kD,bH]
  unfold Jb.step2;by_cases z:k.part=k.parts.length
  ·have e:((k.part:Int)==(k.parts.length:Int))=true:=by rw [z];exact beq_self_eq_true _
   rw [if_pos z];simp only [dA,hc,e,aH,if_true,br,CP,FP]
  ·have e:((k.part:Int)==(k.parts.length:Int))=false:=by rw [beq_eq_false_iff_ne];omega
   rw [if_neg z];simp only [dA,hc,e,aH,L5,if_false,eV]
 have hc:gT (g2 dEq (g1 (b9 cs.Jobs "spent") (af 0)) (g2 dIx (g2 dIx (g1 (b9 cs.Jobs "parts") (af 0)) (g1 (b9 cs.Jobs "part") (af 0))) (gC (.int 0)))) [some (Jb.d cs.Jobs a { j with spent:=j.spent+1 })]=.ok (((j.spent:Int)+1)==j.len):=by have q:=vz (j:={ j with spent:=j.spent+1 }) hp;have q0:dIx (bt j.parts[j.part]) (.int 0)=some (.int j.parts[j.part].1):=rfl;simp only [eN,cw,gr,az,dP,Rs.aj,ky,mP,qG,Rs.ar,q,q0,kD,bH,hn];rfl
 unfold fH Jb.next Jb.step1;by_cases z:(j.spent:Int)+1=j.len
 ·have e:(((j.spent:Int)+1)==j.len)=true:=by rw [z];exact beq_self_eq_true _
  rw [if_pos z];simp only [br,uK];rw [dA,hc];simp only [e,aH,if_true,br,Bv,Cv];exact second _
 ·have e:(((j.spent:Int)+1)==j.len)=false:=by rw [beq_eq_false_iff_ne];exact z
  rw [if_neg z];simp only [br,uK];rw [dA,hc];simp only [e,aH,L5,if_false,eV];exact second _
theorem D0 {a b:Option Int} (h:bq a=bq b):a=b:=by cases a <;> cases b <;> first | rfl | (injection h with h;rw [h]) | cases h
theorem Be {p q:Int×Option Int} (h:bt p=bt q):p=q:=by
 obtain ⟨a,o⟩:=p;obtain ⟨b,u⟩:=q;unfold bt at h;injection h with h
 injection h with h1 h2
 injection h1 with h1
 injection h2 with h2 _
 have h3:=D0 h2;exact Prod.ext h1 h3
theorem rg {α β:Type} {f:α->β} (hf:∀ x y,f x=f y->x=y):∀ {l m:List α},l.map f=m.map f->l=m
 | [],[],_=>rfl
 | [],_::_,h=>by cases h
 | _::_,[],h=>by cases h
 | a::l,b::m,h=>by
  rw [K1,K1] at h;injection h with h1 h2
  rw [hf a b h1,rg hf h2]
theorem FE {j k:Jb} (h:j.fds=k.fds):j=k:=by
 obtain ⟨a1,a2,a3,a4,a5,a6,a7⟩:=j;obtain ⟨b1,b2,b3,b4,b5,b6,b7⟩:=k;unfold Jb.fds dw at h;simp only [List.cons.injEq,Prod.mk.injEq,true_and,and_true,PyData.int.injEq,PyData.tuple.injEq,PyData.list.injEq] at h;obtain ⟨h1,h2,h3,h4,h5,h6,h7⟩:=h;have e2:=rg (fun x y=>Be) h2;have e4:=rg (fun x y (q:PyData.int x=PyData.int y)=>by injection q) h4;have e5:a5=b5:=by omega
 have e6:a6=b6:=by omega
 have e7:a7=b7:=by omega
 subst h1 h3 e2 e4 e5 e6 e7;rfl
open Classical in
def gG:List (Str×PyData)->Option (List (Str×PyData)):=fun fds=>if h:∃ j:Jb,j.part<j.parts.length/\fds=j.fds then some (Classical.choose h).next.fds else none
theorem GQ {j:Jb} (h:j.part<j.parts.length):gG j.fds=some j.next.fds:=by
 have hx:∃ k:Jb,k.part<k.parts.length/\j.fds=k.fds:=⟨j,h,rfl⟩
 unfold gG;rw [dif_pos hx];have:=FE (Classical.choose_spec hx).2;rw [<-this]
theorem Du (cs:Cs):∀ a fds fds',hZ fds=true->fds.length<1000->gG fds=some fds'->∃ δ,fH cs [a] (some (cY cs.Jobs a fds)::List.replicate 0 none)=.nx δ/\δ[0]?=some (some (cY cs.Jobs a fds')):=by
 intro a fds fds' _ _ e;by_cases hx:∃ k:Jb,k.part<k.parts.length/\fds=k.fds
 ·obtain ⟨k,hk,rfl⟩:=hx;rw [GQ hk] at e;cases e;exact ⟨_,FQ hk,rfl⟩
 ·unfold gG at e;rw [dif_neg hx] at e;cases e
instance:Inhabited Jb:=⟨⟨0,[],0,[],0,0,0⟩⟩
def rX (ks:List PyData):Nat:=bst (fun i j=>ltD (ks.getD i .none) (ks.getD j .none)) (ks.length-1)
def uN (key:Jb->PyData) (js:List Jb):Jb:=js.getD (rX (js.map key)) default
theorem rm {C:Addr} {g:PyData->Rs PyData} {key:Jb->PyData}:∀ {ts:List (Addr×Jb)},(∀ p∈ts,g (jD C p)=.ok (key p.2))->allR g (ts.map (jD C))=.ok ((ts.map (·.2)).map key)
 | [],_=>rfl
 | p::r,h=>by
  have ih:=rm (ts:=r) fun x hx=>h x (K0 _ hx)
  rw [K1];unfold allR;rw [h p K4,Rs.aj,ih,Rs.aj];rfl
theorem mJ {C:Addr} {cap:List Nat} {ga gb:Ds->Rs PyData} {δ:Ds} {ts:List (Addr×Jb)} {key:Jb->PyData} (hd:ga δ=.ok (.list (ts.map (jD C)))) (h0:ts≠[]) (hk:∀ p∈ts,gb (some (jD C p)::vD cap δ)=.ok (key p.2))
  (hK:(∀ p∈ts,∃ n:Int,key p.2=.int n)\/(∀ p∈ts,∃ a b:Int,key p.2=.tuple [.int a,.int b])):∃ q∈ts,q.2=uN key (ts.map (·.2))/\j6 cap ga gb δ=.ok (jD C q):=by
 have hlen:0<ts.length:=LO.mpr h0;have e:=rm (C:=C) (g:=fun x=>gb (some x::vD cap δ)) (key:=key) hk;have q:keysOk ((ts.map (·.2)).map key)=true:=by
  unfold keysOk;rw [Bool.or_eq_true];rcases hK with hK | hK
  ·refine .inl (L4.mpr fun k hk=>?_);obtain ⟨j,hj,rfl⟩:=KS.mp hk;obtain ⟨p,hp,rfl⟩:=KS.mp hj;obtain ⟨n,hn⟩:=hK p hp;rw [hn];rfl
  ·refine .inr (L4.mpr fun k hk=>?_);obtain ⟨j,hj,rfl⟩:=KS.mp hk;obtain ⟨p,hp,rfl⟩:=KS.mp hj;obtain ⟨a,b,hn⟩:=hK p hp;rw [hn];rfl
 have hb:=yD (fun i j=>ltD (((ts.map (·.2)).map key).getD i .none) (((ts.map (·.2)).map key).getD j .none)) (ts.length-1);have hI:rX ((ts.map (·.2)).map key)=bst (fun i j=>ltD (((ts.map (·.2)).map key).getD i .none) (((ts.map (·.2)).map key).getD j .none)) (ts.length-1):=by unfold rX;rw [K5,K5]
 have hlt:rX ((ts.map (·.2)).map key)<ts.length:=by rw [hI];omega
 refine ⟨ts[rX ((ts.map (·.2)).map key)],LC hlt,?_,?_⟩
 ·unfold uN;rw [Lh,Lb,K3 hlt];rfl
 ·unfold j6;rw [hd];simp only [Rs.aj,K5,if_pos hlen,e];show (if keysOk _=true then Rs.eP _ else Rs.no)=_;rw [if_pos q,<-hI,Lb,K3 hlt];rfl
def uO (js:List Jb) (tool:Option Int):Option Jb:=tool.bind fun t=>js.find? fun j=>j.held==some t
theorem Ap {C:Addr} {ts:List (Addr×Jb)} {tool:Option Int}:(uO (ts.map (·.2)) tool=none/\k6 C ts tool=.none)\/∃ q∈ts,uO (ts.map (·.2)) tool=some q.2/\k6 C ts tool=jD C q:=by
 unfold uO k6;cases tool with
 | none=>exact .inl ⟨rfl,rfl⟩
 | some t =>
  have hm:(ts.map (·.2)).find? (fun j=>j.held==some t)=(ts.find? (holdsT t)).map (·.2):=by rw [List.find?_map];rfl
  simp only [Mi,hm];cases h:ts.find? (holdsT t) with
  | none=>exact .inl ⟨rfl,rfl⟩
  | some p=>exact .inr ⟨p,List.mem_of_find?_eq_some h,rfl,rfl⟩
def uL (js:List Jb) (l:List (Int×Int)) (j:Jb):List (Int×Int):=match uO js j.wanted with
 | none=>l
 | some o=>zW l o.num (if (nK l o.num).getD o.rank<j.rank then (nK l o.num).getD o.rank else j.rank)
def A6 (js:List Jb):List (Int×Int):=js.foldl (uL js) []
theorem Dk {cs:Cs} {ts:List (Addr×Jb)} (h:∀ p∈ts,p.2.part<p.2.parts.length) {p:Addr×Jb} (hp:p∈ts) {l:List (Int×Int)} (hl:l.length<1000000) (x3:Option PyData) :
  ∃ x,lrB cs [some (.list (ts.map (jD cs.Jobs))),some (dB l),some (jD cs.Jobs p),x3]=.nx [some (.list (ts.map (jD cs.Jobs))),some (dB (uL (ts.map (·.2)) l p.2)),some (jD cs.Jobs p),x]:=by
 have hm:ay (bA cs) (ae (af 0) (ae (bS cs.Jobs "wanted" (aE cs) (af 2) ao) ao)) [some (.list (ts.map (jD cs.Jobs))),none,some (jD cs.Jobs p),x3]=.ok (k6 cs.Jobs ts p.2.wanted):=by
  have h2:bS cs.Jobs "wanted" (aE cs) (af 2) ao [some (.list (ts.map (jD cs.Jobs))),none,some (jD cs.Jobs p),x3]=.ok (bq p.2.wanted):=by unfold bS;simp only [az,aF,Rs.aj];rw [if_pos (show isC cs.Jobs "wanted" (jD cs.Jobs p)=true from sS)];simp only [aY,Rs.aj];exact ux (h p hp)
  simp only [cu,aQ,aY,az,h2,Rs.aj];exact uM h
 have hset:aW [1] 3 (ay (bA cs) (ae (af 0) (ae (bS cs.Jobs "wanted" (aE cs) (af 2) ao) ao))) [some (.list (ts.map (jD cs.Jobs))),some (dB l),some (jD cs.Jobs p),x3]=.nx [some (.list (ts.map (jD cs.Jobs))),some (dB l),some (jD cs.Jobs p),some (k6 cs.Jobs ts p.2.wanted)]:=by show (if 3<4 then ofR (ay (bA cs) (ae (af 0) (ae (bS cs.Jobs "wanted" (aE cs) (af 2) ao) ao)) [some (.list (ts.map (jD cs.Jobs))),none,some (jD cs.Jobs p),x3]) _ else _)=_;rw [if_pos (by decide),hm];rfl
 unfold lrB uL;simp only [br,hset];rcases Ap (C:=cs.Jobs) (ts:=ts) (tool:=p.2.wanted) with ⟨e0,e⟩ | ⟨q,hq,e0,e⟩
 ·rw [e,e0];exact ⟨_,rfl⟩
 ·rw [e,e0];simp only [dA,eN,gr,az,aF,Rs.aj,Gv,Rs.ar,bH,aH,if_true];have f1:b9 cs.Jobs "number" (jD cs.Jobs q)=some (.int q.2.num):=zy;have f2:b9 cs.Jobs "rank" (jD cs.Jobs q)=some (.int q.2.rank):=qz;have f3:b9 cs.Jobs "rank" (jD cs.Jobs p)=some (.int p.2.rank):=qz;refine ⟨some (jD cs.Jobs q),?_⟩;unfold rG;simp only [M5,M6,uq,gW,aQ,aY,gr,az,aF,Rs.aj,f1,f2,f3,Rs.ar,nM,zJ,aH,if_pos hl];rfl
theorem Cc (js:List Jb) (l:List (Int×Int)) (j:Jb):(uL js l j).length<=l.length+1:=by
 unfold uL;split
 ·exact Ml _
 ·exact Gi _ _ _
theorem wI {cs:Cs} {ts:List (Addr×Jb)} (h:∀ p∈ts,p.2.part<p.2.parts.length):∀ (us:List (Addr×Jb)) (l:List (Int×Int)) (x2 x3:Option PyData),(∀ p∈us,p∈ts)->l.length+us.length<1000000 ->
  ∃ y2 y3,forL (cy 2) (lrB cs) (us.map (jD cs.Jobs)) [some (.list (ts.map (jD cs.Jobs))),some (dB l),x2,x3]=.nx [some (.list (ts.map (jD cs.Jobs))),some (dB ((us.map (·.2)).foldl (uL (ts.map (·.2))) l)),y2,y3]
 | [],l,x2,x3,_,_=>⟨x2,x3,rfl⟩
 | p::r,l,x2,x3,hu,hl=>by have h1:cy 2 (jD cs.Jobs p) [some (.list (ts.map (jD cs.Jobs))),some (dB l),x2,x3]=some [some (.list (ts.map (jD cs.Jobs))),some (dB l),some (jD cs.Jobs p),x3]:=rfl;rw [L6] at hl;obtain ⟨x,e1⟩:=Dk (cs:=cs) h (hu p K4) (l:=l) (by omega) x3;have hl1:=Cc (ts.map (·.2)) l p.2;rw [K1];unfold forL;rw [h1];simp only [e1];exact wI h r _ _ _ (fun q hq=>hu q (K0 _ hq)) (by omega)
theorem EI {cs:Cs} {ts:List (Addr×Jb)} (h:∀ p∈ts,p.2.part<p.2.parts.length) (hl:ts.length<=1000):bY cs [.list (ts.map (jD cs.Jobs))]=.ok (dB (A6 (ts.map (·.2)))):=by obtain ⟨y2,y3,e⟩:=wI (cs:=cs) h ts [] none none (fun p hp=>hp) (by rw [LM];omega);show bu (ie cs (aE cs) (bA cs) [some (.list (ts.map (jD cs.Jobs))),none,none,none])=_;have ho:xQ 1 [some (.list (ts.map (jD cs.Jobs))),none,none,none]=.nx [some (.list (ts.map (jD cs.Jobs))),some (dB []),none,none]:=rfl;have hs:ju [1] (cC (af 0)) (cy 2) (lrB cs) [some (.list (ts.map (jD cs.Jobs))),some (dB []),none,none]=forL (cy 2) (lrB cs) (ts.map (jD cs.Jobs)) [some (.list (ts.map (jD cs.Jobs))),some (dB []),none,none]:=rfl;show bu (aK (xQ 1) (aK (ju [1] (cC (af 0)) (cy 2) (lrB cs)) (bR (af 1))) [some (.list (ts.map (jD cs.Jobs))),none,none,none])=_;simp only [br,ho,hs,e];rfl
def FY (tops:PyData) (t:Int):Int:=match dIx tops (.int t) with
 | some (.int n)=>n
 | _=>0
def ze (tops:PyData) (j:Jb):PyData:=match j.held with
 | none=>.tuple [.int j.rank,.int 1]
 | some t=>.tuple [.int (if FY tops t<j.rank then FY tops t else j.rank),.int 0]
theorem Gs {cs:Cs} {p:Addr×Jb} {tops:PyData} (h:p.2.part<p.2.parts.length) (ht:∀ t,p.2.held=some t->∃ n:Int,dIx tops (.int t)=some (.int n)):bK cs [jD cs.Jobs p,tops]=.ok (ze tops p.2):=by
 have fr:b9 cs.Jobs "rank" (jD cs.Jobs p)=some (.int p.2.rank):=qz;unfold ze;cases z:p.2.held with
 | none =>
  show bu (cH cs (aJ cs) [some (jD cs.Jobs p),some tops,none])=_;unfold cH;have hm:=uU (cs:=cs) (p:=p) (x:=some tops) (y:=none) h;rw [z] at hm;have hs:aW [] 2 (bS cs.Jobs "held" (aJ cs) (af 0) ao) [some (jD cs.Jobs p),some tops,none]=.nx [some (jD cs.Jobs p),some tops,some .none]:=by rw [lH,hm];rfl
  simp only [br,hs,dA,eN,gr,az,aF,Rs.aj,pY,mT,Rs.ar,bH,aH,if_true,cB,nP,aQ,aY,fr,dP,bU]
 | some t =>
  obtain ⟨n,hn⟩:=ht t z;have hT:FY tops t=n:=by unfold FY;rw [hn]
  show bu (cH cs (aJ cs) [some (jD cs.Jobs p),some tops,none])=_;unfold cH;have hm:=uU (cs:=cs) (p:=p) (x:=some tops) (y:=none) h;rw [z] at hm;have hs:aW [] 2 (bS cs.Jobs "held" (aJ cs) (af 0) ao) [some (jD cs.Jobs p),some tops,none]=.nx [some (jD cs.Jobs p),some tops,some (.int t)]:=by rw [lH,hm];rfl
  simp only [br,hs,dA,eN,gr,cw,az,aF,Rs.aj,pY,jr,Rs.ar,bH,aH,L5,if_false,eV,cB,nP,aQ,aY,fr,hn,gW,zJ,dP,bU,hT]
def lR (js:List Jb) (j:Jb):Bool:=(uO js j.wanted).isNone
def JS (l:List (Int×Int)) (j:Jb):PyData:=.int ((nK l j.num).getD j.rank)
def qP (tops:PyData) (len:Str) (js:List Jb):Jb:=if (len==("high":Str))=true then uN (ze tops) js else uN (JS (if (len==("asked":Str))=true then A6 js else [])) (js.filter (lR js))
theorem yk {C:Addr} {ts:List (Addr×Jb)} {tool:Option Int}:bZ (k6 C ts tool)=(uO (ts.map (·.2)) tool).isNone:=by
 rcases Ap (C:=C) (ts:=ts) (tool:=tool) with ⟨e0,e⟩ | ⟨q,_,e0,e⟩
 ·rw [e,e0];rfl
 ·rw [e,e0];rfl
theorem wQ {ts:List (Addr×Jb)} (h:ts≠[]):ts.filter (fun p=>lR (ts.map (·.2)) p.2)≠[]:=by obtain ⟨p,hp,e⟩:=C7 h (C:=0);refine List.ne_nil_of_mem (a:=p) (Lq.mpr ⟨hp,?_⟩);unfold lR;rw [<-yk (C:=0),e];rfl
theorem nu {C:Addr} {ts:List (Addr×Jb)} {f:PyData->Bool} {g:Jb->Bool}:∀ {us:List (Addr×Jb)},(∀ p∈us,f (jD C p)=g p.2)->(us.map (jD C)).filter f=(us.filter fun p=>g p.2).map (jD C)
 | [],_=>rfl
 | p::r,h=>by
  have ih:=nu (ts:=ts) (us:=r) fun x hx=>h x (K0 _ hx)
  rw [K1,LK,LK,h p K4,ih];cases g p.2 <;> rfl
theorem B7 {cs:Cs} {ts:List (Addr×Jb)} {tops:PyData} {len:Str} (h0:ts≠[]) (hl:ts.length<=1000) (h:∀ p∈ts,p.2.part<p.2.parts.length) (ht:∀ p∈ts,∀ t,p.2.held=some t->∃ n:Int,dIx tops (.int t)=some (.int n)) (hs:rC len) :
  ∃ q∈ts,q.2=qP tops len (ts.map (·.2))/\dE cs [.list (ts.map (jD cs.Jobs)),tops,.str len]=.ok (jD cs.Jobs q):=by
 have q1:gT (g2 dEq (af 2) (gC (.str "high"))) [some (.list (ts.map (jD cs.Jobs))),some tops,some (.str len),none,none]=.ok (len=="high"):=by simp only [eN,cw,az,aF,dP,Rs.aj,eq_str hs.sh AS,Rs.ar,bH]
 show ∃ q∈ts,q.2=_/\bu (kK cs (bY cs) (aE cs) (bA cs) (bK cs) [some (.list (ts.map (jD cs.Jobs))),some tops,some (.str len),none,none])=.ok _;unfold kK qP;cases z:(len==("high":Str)) with
 | true =>
  obtain ⟨q,hq,e2,e⟩:=mJ (C:=cs.Jobs) (cap:=[1]) (ga:=af 0) (gb:=ay (bK cs) (ae (af 0) (ae (af 1) ao))) (δ:=[some (.list (ts.map (jD cs.Jobs))),some tops,some (.str len),none,none]) (key:=ze tops) rfl h0 (fun p hp=>Gs (h p hp) (ht p hp)) (.inr fun p hp=>by unfold ze;cases p.2.held <;> exact ⟨_,_,rfl⟩)
  refine ⟨q,hq,by rw [if_pos rfl];exact e2,?_⟩;simp only [br,dA,q1,z,aH,if_true,cB,e,bU]
 | false =>
  have hc:bM 5 (cC (af 0)) (gT (g1 gR (ay (bA cs) (ae (af 0) (ae (bS cs.Jobs "wanted" (aE cs) (af 5) ao) ao))))) (af 5) aT [some (.list (ts.map (jD cs.Jobs))),some tops,some (.str len),none,none]=.ok ((ts.filter fun p=>lR (ts.map (·.2)) p.2).map (jD cs.Jobs)):=by
   rw [<-nu (ts:=ts) (f:=CH cs [some (.list (ts.map (jD cs.Jobs))),some tops,some (.str len),none,none]) (fun p hp=>by have hh:=Ag (cs:=cs) (x1:=some tops) (x2:=some (.str len)) (x3:=none) (x4:=none) h hp;unfold CH;simp only [Lk,Ln,hh];exact yk)]
   refine nh rfl rfl (by rw [K5];omega) fun d hd=>?_
   obtain ⟨p,hp,rfl⟩:=KS.mp hd;refine ⟨?_,rfl⟩;have hh:=Ag (cs:=cs) (x1:=some tops) (x2:=some (.str len)) (x3:=none) (x4:=none) h hp;unfold CH;simp only [Lk,Ln,hh];simp only [eN,gr,hh,Rs.aj,pY,Rs.ar,bH]
  have hn:=wQ h0;have hj:(ts.map (·.2)).filter (lR (ts.map (·.2)))=(ts.filter fun p=>lR (ts.map (·.2)) p.2).map (·.2):=by rw [List.filter_map];rfl
  have hfr:∀ p∈ts.filter (fun p=>lR (ts.map (·.2)) p.2),p∈ts:=fun p hp=>(Lq.mp hp).1
  rw [hj];generalize (ts.filter fun p=>lR (ts.map (·.2)) p.2)=fr at hc hn hfr;have hlent:gIf (gT (g2 dEq (af 2) (gC (.str "asked")))) (ay (bY cs) (ae (af 0) ao)) (gC (dB [])) [some (.list (ts.map (jD cs.Jobs))),some tops,some (.str len),some (.list (fr.map (jD cs.Jobs))),none]=.ok (dB (if (len==("asked":Str))=true then A6 (ts.map (·.2)) else [])):=by
   have q2:gT (g2 dEq (af 2) (gC (.str "asked"))) [some (.list (ts.map (jD cs.Jobs))),some tops,some (.str len),some (.list (fr.map (jD cs.Jobs))),none]=.ok (len=="asked"):=by simp only [eN,cw,az,aF,dP,Rs.aj,eq_str hs.sh wM,Rs.ar,bH]
   unfold gIf;rw [q2];simp only [Rs.aj];cases (len==("asked":Str)) with
   | true=>simp only [if_true,cu,aQ,aY,az,Rs.aj,EI h hl]
   | false=>simp
  generalize (if (len==("asked":Str))=true then A6 (ts.map (·.2)) else [])=l at hlent;obtain ⟨q,hq,e2,e⟩:=mJ (C:=cs.Jobs) (cap:=[4]) (ga:=af 3) (gb:=nM (af 1) (g1 (b9 cs.Jobs "number") (af 0)) (g1 (b9 cs.Jobs "rank") (af 0))) (δ:=[some (.list (ts.map (jD cs.Jobs))),some tops,some (.str len),some (.list (fr.map (jD cs.Jobs))),some (dB l)]) (key:=JS l) rfl hn (fun p hp=>by have f1:b9 cs.Jobs "number" (jD cs.Jobs p)=some (.int p.2.num):=zy;have f2:b9 cs.Jobs "rank" (jD cs.Jobs p)=some (.int p.2.rank):=qz;show nM (af 1) (g1 (b9 cs.Jobs "number") (af 0)) (g1 (b9 cs.Jobs "rank") (af 0)) [some (jD cs.Jobs p),some (dB l)]=_;unfold nM;simp only [az,aF,Rs.aj,uq,gr,f1,f2,Rs.ar];rfl) (.inl fun p hp=>⟨_,rfl⟩)
  refine ⟨q,hfr q hq,by rw [if_neg L9];exact e2,?_⟩;have s3:aW [] 3 (gL (bM 5 (cC (af 0)) (gT (g1 gR (ay (bA cs) (ae (af 0) (ae (bS cs.Jobs "wanted" (aE cs) (af 5) ao) ao))))) (af 5) aT)) [some (.list (ts.map (jD cs.Jobs))),some tops,some (.str len),none,none]=.nx [some (.list (ts.map (jD cs.Jobs))),some tops,some (.str len),some (.list (fr.map (jD cs.Jobs))),none]:=by rw [lH,og,hc];rfl
  have s4:aW [] 4 (gIf (gT (g2 dEq (af 2) (gC (.str "asked")))) (ay (bY cs) (ae (af 0) ao)) (gC (dB []))) [some (.list (ts.map (jD cs.Jobs))),some tops,some (.str len),some (.list (fr.map (jD cs.Jobs))),none]=.nx [some (.list (ts.map (jD cs.Jobs))),some tops,some (.str len),some (.list (fr.map (jD cs.Jobs))),some (dB l)]:=by rw [lH,hlent];rfl
  simp only [br,dA,q1,z,aH,L5,if_false,eV,s3,s4,cB,e,bU]
theorem xm {C:Addr} {p:Addr×Jb} {nd:PyData} {a:Addr}:fP a nd (jD C p)=if p.1=a then nd else jD C p:=by
 have hf:=p.2.flat;have hp:lr ((PyData.str "",PyData.int (C:Int))::(PyData.str "@",PyData.int (p.1:Int))::p.2.fds.map fun x=>(PyData.str x.1,x.2))=some (p.1:Int):=by unfold lr;unfold hZ at hf;simp [hf]
 unfold jD Jb.d cY fP;rw [hp];by_cases z:p.1=a
 ·rw [if_pos z,if_pos (by rw [z])]
 ·have hz:¬ (some (p.1:Int)=some (a:Int)):=fun e=>z (Int.ofNat.inj (Option.some.inj e))
  rw [if_neg z,if_neg hz]
theorem AO {C a:Addr} {j:Jb}:∀ ts:List (Addr×Jb),kj a (jD C (a,j)) (ts.map (jD C))=(ts.map fun p=>if p.1=a then (a,j) else p).map (jD C)
 | []=>rfl
 | p::r=>by
  rw [K1,K1,K1];unfold kj;rw [AO r,xm];by_cases z:p.1=a
  ·rw [if_pos z,if_pos z]
  ·rw [if_neg z,if_neg z]
theorem B5 {C a:Addr} {j:Jb} {ts:List (Addr×Jb)}:fP a (jD C (a,j)) (.list (ts.map (jD C)))=.list ((ts.map fun p=>if p.1=a then (a,j) else p).map (jD C)):=by unfold fP;rw [AO]
mutual
theorem nY {a:Addr} {nd:PyData}:∀ d:PyData,aP d=true->fP a nd d=d
 | .none,_=>by unfold fP;rfl
 | .bool _,_=>by unfold fP;rfl
 | .int _,_=>by unfold fP;rfl
 | .str _,_=>by unfold fP;rfl
 | .list ds,h=>by unfold fP;rw [vk ds (by simpa [aP] using h)]
 | .tuple ds,h=>by unfold fP;rw [vk ds (by simpa [aP] using h)]
 | .dict _,h=>by simp [aP] at h
theorem vk {a:Addr} {nd:PyData}:∀ ds:List PyData,d8 ds=true->kj a nd ds=ds
 | [],_=>by unfold kj;rfl
 | d::r,h=>by unfold d8 at h;rw [K9] at h;unfold kj;rw [nY d h.1,vk r h.2]
end
theorem rN {C:Addr} {elt:Ds->Rs PyData} {δ:Ds} {k:Jb->PyData}:∀ (ts:List (Addr×Jb)),(∀ p∈ts,elt (δ++[some (jD C p)])=.ok (k p.2))->fu bF elt aT δ (ts.map (jD C))=.ok ((ts.map (·.2)).map k)
 | [],_=>rfl
 | p::r,h=>by
  have ih:=rN r fun e he=>h e (K0 _ he)
  rw [K1];unfold fu;simp only [aT,bF,Rs.dZ,Rs.aj,if_true,h p K4];rw [ih];rfl
def Jb.done (j:Jb):Bool:=(j.job:Int)==(j.row.length:Int)
def rnD (C:Addr) (E R W tops:PyData) (len:Str) (qs:List (Addr×Jb)) (told:List PyData) (x7 x8:Option PyData):Ds:=[some E,some R,some W,some (.str len),some tops,some (.list (qs.map (jD C))),some (.list told),x7,x8]
section
variable {cs:Cs} {E R W tops:PyData} {len:Str} {qs:List (Addr×Jb)} {told:List PyData} {x7 x8:Option PyData}
theorem cond_of (hl:qs.length<=1000):iO (gT (gF qe (ae (gL (bM 9 (cC (af 5)) bF (bS cs.Jobs "are_done" (bB cs) (af 9) ao) aT)) ao))) (rnD cs.Jobs E R W tops len qs told x7 x8)=.ok (!((qs.map (·.2)).all Jb.done)):=by
 have hc:bM 9 (cC (af 5)) bF (bS cs.Jobs "are_done" (bB cs) (af 9) ao) aT (rnD cs.Jobs E R W tops len qs told x7 x8)=.ok ((qs.map (·.2)).map fun j=>.bool j.done):=by
  unfold bM;rw [if_pos (show (rnD cs.Jobs E R W tops len qs told x7 x8).length=9 from rfl)];rw [show cC (af 5) (rnD cs.Jobs E R W tops len qs told x7 x8)=.ok (qs.map (jD cs.Jobs)) from rfl];simp only [Rs.aj];rw [if_pos (by rw [K5];omega)];refine rN qs fun p hp=>?_
  show bS cs.Jobs "are_done" (bB cs) (af 9) ao [some E,some R,some W,some (.str len),some tops,some (.list (qs.map (jD cs.Jobs))),some (.list told),x7,x8,some (jD cs.Jobs p)]=_;unfold bS;simp only [az,aF,Rs.aj];rw [if_pos (show isC cs.Jobs "are_done" (jD cs.Jobs p)=true from vK)];simp only [aY,Rs.aj];exact xP
 have hf:=jo Jb.done (qs.map (·.2));simp only [vj,eN,gW,aQ,aY,og,hc,Rs.aj,hf,Rs.ar,bH]
def dC (told:List PyData) (p:Addr×Jb):Bool:=p.2.there (told.length:Int)
theorem qa (h:∀ p∈qs,p.2.job<=p.2.row.length) {x6:Option PyData}:∀ (us:List (Addr×Jb)),(∀ p∈us,p∈qs) ->
  f6 (gT (bS cs.Jobs "is_there" (aS cs) (af 9) (ae (gF cZ (ae (af 6) ao)) ao))) (af 9) aT [some E,some R,some W,some (.str len),some tops,some (.list (qs.map (jD cs.Jobs))),x6,x7,x8] (rnD cs.Jobs E R W tops len qs told x7 x8) (us.map (jD cs.Jobs))=.ok ((us.filter (dC told)).map (jD cs.Jobs))
 | [],_=>rfl
 | p::r,hu=>by
  have ih:=qa h (x6:=x6) r fun q hq=>hu q (K0 _ hq)
  have hc:gT (bS cs.Jobs "is_there" (aS cs) (af 9) (ae (gF cZ (ae (af 6) ao)) ao)) (rnD cs.Jobs E R W tops len qs told x7 x8++[some (jD cs.Jobs p)])=.ok (dC told p):=by show gT (bS cs.Jobs "is_there" (aS cs) (af 9) (ae (gF cZ (ae (af 6) ao)) ao)) [some E,some R,some W,some (.str len),some tops,some (.list (qs.map (jD cs.Jobs))),some (.list told),x7,x8,some (jD cs.Jobs p)]=_;rw [eN];unfold bS;simp only [az,aF,Rs.aj];rw [if_pos (show isC cs.Jobs "is_there" (jD cs.Jobs p)=true from vI)];simp only [aQ,aY,gW,az,aF,l5,Rs.ar,Rs.aj];rw [show aS cs [jD cs.Jobs p,.int (told.length:Int)]=_ from xy (h p (hu p K4))];rfl
  rw [K1];unfold f6;rw [show aT (jD cs.Jobs p)=some [some (jD cs.Jobs p)] from rfl];simp only [hc,Rs.dZ,Rs.aj];rw [LK];cases dC told p with
  | true =>simp only [if_true];rw [show af 9 ([some E,some R,some W,some (.str len),some tops,some (.list (qs.map (jD cs.Jobs))),x6,x7,x8]++[some (jD cs.Jobs p)])=.ok (jD cs.Jobs p) from rfl];simp only [Rs.dZ,Rs.aj,ih];rfl
  | false=>simp only [L5,if_false,ih]
end
mutual
theorem lA:∀ d:PyData,aP d=true->objs d=true
 | .none,_=>by unfold objs;rfl
 | .bool _,_=>by unfold objs;rfl
 | .int _,_=>by unfold objs;rfl
 | .str _,_=>by unfold objs;rfl
 | .list ds,h=>by unfold objs;exact sH ds (by simpa [aP] using h)
 | .tuple ds,h=>by unfold objs;exact sH ds (by simpa [aP] using h)
 | .dict _,h=>by simp [aP] at h
theorem sH:∀ ds:List PyData,d8 ds=true->kR ds=true
 | [],_=>by unfold kR;rfl
 | d::r,h=>by unfold d8 at h;rw [K9] at h;unfold kR;rw [lA d h.1,sH r h.2];rfl
end
theorem Av {C:Addr} {p:Addr×Jb}:objs (jD C p)=true:=by unfold jD Jb.d;rw [wV];exact p.2.flat
theorem uy {C:Addr}:∀ ts:List (Addr×Jb),kR (ts.map (jD C))=true
 | []=>by unfold kR;rfl
 | p::r=>by rw [K1];unfold kR;rw [Av,uy r];rfl
theorem z0 {C:Addr} {ts:List (Addr×Jb)}:objs (.list (ts.map (jD C)))=true:=by unfold objs;exact uy ts
section
variable {cs:Cs} {E R W tops:PyData} {len:Str} {qs ts:List (Addr×Jb)} {told:List PyData} {q:Addr×Jb} {as:List Addr}
structure NoD (E R W tops:PyData) (told:List PyData):Prop where
 e:aP E=true
 r:aP R=true
 w:aP W=true
 t:aP tops=true
 o:aP (.list told)=true
theorem Bs (n:NoD E R W tops told) (ha:q.1∈as):pM as cs.Jobs 8 (rnD cs.Jobs E R W tops len qs told (some (.list (ts.map (jD cs.Jobs)))) (some (jD cs.Jobs q)))=some (q.1,q.2.fds):=by
 have h1:ij (rnD cs.Jobs E R W tops len qs told (some (.list (ts.map (jD cs.Jobs)))) (some (jD cs.Jobs q)))=true:=by
  unfold ij rnD;have hs:objs (.str len)=true:=by unfold objs;rfl
  simp only [LY,List.all_nil,M8,lA _ n.e,lA _ n.r,lA _ n.w,lA _ n.t,lA _ n.o,hs,z0,Av,Bool.and_self]
 show (match objOf (jD cs.Jobs q) with | some (C',a',fds)=>if C'=cs.Jobs/\a'∈as/\ij (rnD cs.Jobs E R W tops len qs told (some (.list (ts.map (jD cs.Jobs)))) (some (jD cs.Jobs q)))=true/\hZ fds=true/\fds.length<1000 then some (a',fds) else none | none=>none)=_;rw [show objOf (jD cs.Jobs q)=some (cs.Jobs,q.1,q.2.fds) from uA _ _ _];exact if_pos ⟨rfl,ha,h1,q.2.flat,show 7<1000 by decide⟩
end
def vX (a:Addr) (j:Jb) (qs:List (Addr×Jb)):List (Addr×Jb):=qs.map fun p=>if p.1=a then (a,j) else p
section
variable {cs:Cs} {E R W tops:PyData} {len:Str} {qs ts:List (Addr×Jb)} {told:List PyData} {q:Addr×Jb} {as:List Addr}
theorem Hf (n:NoD E R W tops told) {j:Jb}:l9 q.1 (jD cs.Jobs (q.1,j)) (rnD cs.Jobs E R W tops len qs told (some (.list (ts.map (jD cs.Jobs)))) (some (jD cs.Jobs q)))=rnD cs.Jobs E R W tops len (vX q.1 j qs) told (some (.list ((vX q.1 j ts).map (jD cs.Jobs)))) (some (jD cs.Jobs (q.1,j))):=by
 have hs:fP q.1 (jD cs.Jobs (q.1,j)) (.str len)=.str len:=by unfold fP;rfl
 have hb:fP q.1 (jD cs.Jobs (q.1,j)) (jD cs.Jobs q)=jD cs.Jobs (q.1,j):=by rw [xm,if_pos rfl]
 unfold l9 rnD vX;simp only [K1,LS,M9,nY _ n.e,nY _ n.r,nY _ n.w,nY _ n.t,nY _ n.o,hs,B5,hb]
theorem Ff (n:NoD E R W tops told) (ha:q.1∈as) (hp:q.2.part<q.2.parts.length):pf as cs.Jobs "go_on" 8 gG (rnD cs.Jobs E R W tops len qs told (some (.list (ts.map (jD cs.Jobs)))) (some (jD cs.Jobs q)))=.nx (rnD cs.Jobs E R W tops len (vX q.1 q.2.next qs) told (some (.list ((vX q.1 q.2.next ts).map (jD cs.Jobs)))) (some (jD cs.Jobs (q.1,q.2.next)))):=by unfold pf;rw [Bs n ha];have hk:p7 "go_on" q.2.fds=none:=rfl;simp only [hk,if_true,GQ hp];exact congrArg Sr.nx (Hf (cs:=cs) (len:=len) (qs:=qs) (ts:=ts) (q:=q) (j:=q.2.next) n)
end
section
variable {cs:Cs} {E R W tops:PyData} {len:Str} {qs:List (Addr×Jb)} {told:List PyData} {x7 x8:Option PyData}
theorem Es (hl:qs.length<=1000) (h:∀ p∈qs,p.2.job<=p.2.row.length):uT [6] 7 9 (cC (af 5)) (gT (bS cs.Jobs "is_there" (aS cs) (af 9) (ae (gF cZ (ae (af 6) ao)) ao))) (af 9) aT (rnD cs.Jobs E R W tops len qs told x7 x8)=.nx (rnD cs.Jobs E R W tops len qs told (some (.list ((qs.filter (dC told)).map (jD cs.Jobs)))) x8):=by
 have hm:mask [6] (rnD cs.Jobs E R W tops len qs told x7 x8)=[some E,some R,some W,some (.str len),some tops,some (.list (qs.map (jD cs.Jobs))),none,x7,x8]:=rfl;have hc:nW 9 (cC (af 5)) (gT (bS cs.Jobs "is_there" (aS cs) (af 9) (ae (gF cZ (ae (af 6) ao)) ao))) (af 9) aT (mask [6] (rnD cs.Jobs E R W tops len qs told x7 x8)) (rnD cs.Jobs E R W tops len qs told x7 x8)=.ok ((qs.filter (dC told)).map (jD cs.Jobs)):=by rw [hm];unfold nW;rw [if_pos (show [some E,some R,some W,some (.str len),some tops,some (.list (qs.map (jD cs.Jobs))),none,x7,x8].length=9 from rfl)];rw [show cC (af 5) [some E,some R,some W,some (.str len),some tops,some (.list (qs.map (jD cs.Jobs))),none,x7,x8]=.ok (qs.map (jD cs.Jobs)) from rfl];simp only [Rs.aj];rw [if_pos (by rw [K5];omega)];exact qa h qs fun p hp=>hp
 unfold uT;rw [if_pos (show 7<(rnD cs.Jobs E R W tops len qs told x7 x8).length from (by decide:7<9)),hc];rfl
end
def eE (told:List PyData) (js:List Jb):List Jb:=js.filter fun j=>j.there (told.length:Int)
def fM (b:Jb) (js:List Jb):List Jb:=js.map fun j=>if j.num=b.num then b.next else j
def ib (b:Jb):PyData:=.tuple [.int b.num,.int (b.job:Int)]
def hU (tops:PyData) (len:Str) (s:List Jb×List PyData):List Jb×List PyData :=
 if eE s.2 s.1=[] then (s.1,s.2++[.none]) else (fM (qP tops len (eE s.2 s.1)) s.1,s.2++[ib (qP tops len (eE s.2 s.1))])
structure QOk (as:List Addr) (qs:List (Addr×Jb)):Prop where
 few:qs.length<=1000
 pl:qs.map (·.1)=as
 nda:as.Nodup
 ndn:(qs.map (·.2.num)).Nodup
 pt:∀ p∈qs,p.2.part<p.2.parts.length
 jb:∀ p∈qs,p.2.job<=p.2.row.length
theorem oU {α β:Type} {f:α->β}:∀ {l:List α},(l.map f).Nodup->∀ x∈l,∀ y∈l,f x=f y->x=y
 | [],_,x,hx,_,_,_=>by cases hx
 | a::r,h,x,hx,y,hy,e=>by
  rw [K1,Lr] at h;rcases K6.mp hx with rfl | hx
  ·rcases K6.mp hy with rfl | hy
   ·rfl
   ·exact (h.1 (KS.mpr ⟨y,by assumption,e.symm⟩)).elim
  ·rcases K6.mp hy with rfl | hy
   ·exact (h.1 (KS.mpr ⟨x,by assumption,e⟩)).elim
   ·exact oU h.2 x hx y hy e
def rnB (cs:Cs) (as:List Addr):Ds->Sr:=(aK (uT [6] 7 9 (cC (af 5)) (gT (bS cs.Jobs "is_there" (aS cs) (af 9) (ae (gF cZ (ae (af 6) ao)) ao))) (af 9) aT)
 (sIf (gT (g2 dEq (gF cZ (ae (af 7) ao)) (gC (.int 0)))) (md [6] 6 (gC .none)) (aK (aW [6] 8 (ay (dE cs) (ae (af 7) (ae (af 4) (ae (af 3) ao)))))
 (aK (md [6] 6 (jU (ae (g1 (b9 cs.Jobs "number") (af 8)) (ae (g1 (b9 cs.Jobs "job") (af 8)) ao))))
 (pf as cs.Jobs "go_on" 8 gG)))))
section
variable {cs:Cs} {E R W tops:PyData} {len:Str} {qs:List (Addr×Jb)} {told:List PyData} {as:List Addr}
theorem wJ:(qs.filter (dC told)).map (·.2)=eE told (qs.map (·.2)):=by unfold eE;rw [List.filter_map];rfl
theorem Gj (K:QOk as qs) {q:Addr×Jb} (hq:q∈qs) {j:Jb} (hj:j=q.2.next):(vX q.1 j qs).map (·.2)=fM q.2 (qs.map (·.2)):=by
 unfold vX fM;rw [L3,L3];refine L8 fun p hp=>?_
 show (if p.1=q.1 then (q.1,j) else p).2=if p.2.num=q.2.num then q.2.next else p.2
 by_cases z:p.1=q.1
 ·have:p=q:=oU (f:=(·.1)) (by rw [K.pl];exact K.nda) p hp q hq z;rw [if_pos z,if_pos (by rw [this]),hj]
 ·have:p.2.num≠q.2.num:=fun e=>z (by rw [oU (f:=fun x:Addr×Jb=>x.2.num) K.ndn p hp q hq e])
  rw [if_neg z,if_neg this]
theorem Gp {a:Addr} {j:Jb}:(vX a j qs).map (·.1)=qs.map (·.1):=by
 unfold vX;rw [L3];refine L8 fun p hp=>?_
 show (if p.1=a then (a,j) else p).1=p.1;by_cases z:p.1=a
 ·rw [if_pos z,z]
 ·rw [if_neg z]
theorem Fu (K:QOk as qs) (n:NoD E R W tops told) (hs:rC len) (ht:∀ p∈qs,∀ t,p.2.held=some t->∃ n:Int,dIx tops (.int t)=some (.int n)) (hl:told.length<1000000) (x7 x8:Option PyData) :
  ∃ qs' y7 y8,rnB cs as (rnD cs.Jobs E R W tops len qs told x7 x8)=.nx (rnD cs.Jobs E R W tops len qs' (hU tops len (qs.map (·.2),told)).2 y7 y8)/\qs'.map (·.1)=qs.map (·.1)/\qs'.map (·.2)=(hU tops len (qs.map (·.2),told)).1:=by
 have hset:=Es (cs:=cs) (E:=E) (R:=R) (W:=W) (tops:=tops) (len:=len) (told:=told) (x7:=x7) (x8:=x8) K.few K.jb;have hc:gT (g2 dEq (gF cZ (ae (af 7) ao)) (gC (.int 0))) (rnD cs.Jobs E R W tops len qs told (some (.list ((qs.filter (dC told)).map (jD cs.Jobs)))) x8)=.ok (((qs.filter (dC told)).length:Int)==0):=by unfold rnD;simp only [eN,cw,gW,aQ,aY,az,aF,dP,Rs.aj,l5,K5,Rs.ar,kD,bH]
 unfold rnB hU;simp only [br,hset];have hth:=wJ (qs:=qs) (told:=told);by_cases z:qs.filter (dC told)=[]
 ·have ez:(((qs.filter (dC told)).length:Int)==0)=true:=by rw [z];rfl
  have hz:eE told (qs.map (·.2))=[]:=by rw [<-hth,z];rfl
  rw [if_pos hz,dA,hc];simp only [ez,aH,if_true];refine ⟨qs,some (.list ((qs.filter (dC told)).map (jD cs.Jobs))),x8,?_,rfl,rfl⟩;show (if told.length<1000000 then Sr.nx _ else Sr.no)=_;rw [if_pos hl];rfl
 ·have ez:(((qs.filter (dC told)).length:Int)==0)=false:=by rw [beq_eq_false_iff_ne];have:=LO.mpr z;omega
  have hz:¬ eE told (qs.map (·.2))=[]:=fun e=>z (by rw [<-hth] at e;exact List.map_eq_nil_iff.mp e)
  have hsub:∀ p∈qs.filter (dC told),p∈qs:=fun p hp=>(Lq.mp hp).1
  obtain ⟨q,hq,e2,e⟩:=B7 (cs:=cs) (tops:=tops) z (Lz (Mz _ _) K.few) (fun p hp=>K.pt p (hsub p hp)) (fun p hp=>ht p (hsub p hp)) hs;rw [hth] at e2;rw [if_neg hz,dA,hc];simp only [ez,aH,L5,if_false];have s8:aW [6] 8 (ay (dE cs) (ae (af 7) (ae (af 4) (ae (af 3) ao)))) (rnD cs.Jobs E R W tops len qs told (some (.list ((qs.filter (dC told)).map (jD cs.Jobs)))) x8)=.nx (rnD cs.Jobs E R W tops len qs told (some (.list ((qs.filter (dC told)).map (jD cs.Jobs)))) (some (jD cs.Jobs q))):=by have hg:ay (dE cs) (ae (af 7) (ae (af 4) (ae (af 3) ao))) (mask [6] (rnD cs.Jobs E R W tops len qs told (some (.list ((qs.filter (dC told)).map (jD cs.Jobs)))) x8))=.ok (jD cs.Jobs q):=e;unfold aW;rw [if_pos (show 8<(rnD cs.Jobs E R W tops len qs told (some (.list ((qs.filter (dC told)).map (jD cs.Jobs)))) x8).length from (by decide:8<9)),hg];rfl
  have f1:b9 cs.Jobs "number" (jD cs.Jobs q)=some (.int q.2.num):=zy;have f2:b9 cs.Jobs "job" (jD cs.Jobs q)=some (.int (q.2.job:Int)):=vF;have s6:md [6] 6 (jU (ae (g1 (b9 cs.Jobs "number") (af 8)) (ae (g1 (b9 cs.Jobs "job") (af 8)) ao))) (rnD cs.Jobs E R W tops len qs told (some (.list ((qs.filter (dC told)).map (jD cs.Jobs)))) (some (jD cs.Jobs q)))=.nx (rnD cs.Jobs E R W tops len qs (told++[ib q.2]) (some (.list ((qs.filter (dC told)).map (jD cs.Jobs)))) (some (jD cs.Jobs q))):=by
   have hg:jU (ae (g1 (b9 cs.Jobs "number") (af 8)) (ae (g1 (b9 cs.Jobs "job") (af 8)) ao)) (mask [6] (rnD cs.Jobs E R W tops len qs told (some (.list ((qs.filter (dC told)).map (jD cs.Jobs)))) (some (jD cs.Jobs q))))=.ok (ib q.2):=by show jU _ [some E,some R,some W,some (.str len),some tops,some (.list (qs.map (jD cs.Jobs))),none,some (.list ((qs.filter (dC told)).map (jD cs.Jobs))),some (jD cs.Jobs q)]=_;simp only [nP,aQ,aY,gr,az,aF,Rs.aj,f1,f2,Rs.ar];rfl
   show ofR (jU _ (mask [6] _)) (fun d=>if told.length<1000000 then Sr.nx _ else Sr.no)=_;rw [hg];show (if told.length<1000000 then Sr.nx _ else Sr.no)=_;rw [if_pos hl];rfl
  have n':NoD E R W tops (told++[ib q.2]):=⟨n.e,n.r,n.w,n.t,by
   have h1:=n.o;refine fZ fun d hd=>?_
   rcases Lg.mp hd with hd | hd
   ·exact jX (by simpa [aP] using h1) d hd
   ·rw [KW.mp hd];rfl⟩
  have ha:q.1∈as:=by rw [<-K.pl];exact KS.mpr ⟨q,hsub q hq,rfl⟩
  have s9:=Ff (cs:=cs) (len:=len) (qs:=qs) (ts:=qs.filter (dC told)) n' ha (K.pt q (hsub q hq));simp only [br,s8,s6,s9];rw [<-e2];exact ⟨_,_,_,rfl,Gp,Gj K (hsub q hq) rfl⟩
end
structure JOk (tops:PyData) (j:Jb):Prop where
 pt:j.part<j.parts.length
 jb:j.job<=j.row.length
 ln:∀ p∈j.parts,1<=p.1
 sp:(j.spent:Int)<j.len
 tl:∀ p∈j.parts,∀ t,p.2=some t->∃ n:Int,dIx tops (.int t)=some (.int n)
theorem JOk.held {tops:PyData} {j:Jb} (h:JOk tops j):∀ t,j.held=some t->∃ n:Int,dIx tops (.int t)=some (.int n):=by
 intro t e;have hpt:=h.pt;have hp:j.parts[j.part]?=some j.parts[j.part]:=K3 h.pt;unfold Jb.held Jb.tool at e;rw [hp] at e;by_cases z:j.spent=0
 ·rw [if_pos z] at e;cases e
 ·rw [if_neg z] at e;exact h.tl _ (LC h.pt) t e
theorem len_pos {tops:PyData} {j:Jb} (h:∀ p∈j.parts,1<=p.1) (hp:j.part<j.parts.length):1<=j.len:=by unfold Jb.len;rw [K3 hp];exact h _ (LC hp)
theorem Fc {tops:PyData} {j:Jb} (h:JOk tops j) (hj:j.job<j.row.length):JOk tops j.next:=by
 have hpos:0<j.parts.length:=Nat.lt_of_le_of_lt (Lw _) h.pt;have hsp:=h.sp;unfold Jb.next Jb.step1;by_cases z:(j.spent:Int)+1=j.len
 ·rw [if_pos z];unfold Jb.step2;by_cases y:j.part+1=j.parts.length
  ·rw [if_pos (show ({ j with spent:=0,part:=j.part+1 }:Jb).part=({ j with spent:=0,part:=j.part+1 }:Jb).parts.length from y)];refine ⟨hpos,hj,h.ln,?_,h.tl⟩;have:=len_pos (tops:=tops) (j:={ j with spent:=0,part:=0,job:=j.job+1 }) h.ln hpos;show (0:Int)<_;exact ML (by decide) this
  ·rw [if_neg (show ¬ ({ j with spent:=0,part:=j.part+1 }:Jb).part=({ j with spent:=0,part:=j.part+1 }:Jb).parts.length from y)];have hlt:j.part+1<j.parts.length:=by have:=h.pt;omega
   refine ⟨hlt,h.jb,h.ln,?_,h.tl⟩;have:=len_pos (tops:=tops) (j:={ j with spent:=0,part:=j.part+1 }) h.ln hlt;show (0:Int)<_;exact ML (by decide) this
 ·rw [if_neg z];unfold Jb.step2;rw [if_neg (show ¬ ({ j with spent:=j.spent+1 }:Jb).part=({ j with spent:=j.spent+1 }:Jb).parts.length from KY h.pt)];refine ⟨h.pt,h.jb,h.ln,?_,h.tl⟩;show ((j.spent+1:Nat):Int)<j.len;omega
theorem uG {key:Jb->PyData} {js:List Jb} (h:js≠[]):uN key js∈js:=by
 have hl:0<js.length:=LO.mpr h;have hb:=yD (fun i j=>ltD ((js.map key).getD i .none) ((js.map key).getD j .none)) (js.length-1);have hlt:rX (js.map key)<js.length:=by unfold rX;rw [K5];omega
 unfold uN;rw [Lh,K3 hlt];exact LC hlt
theorem uB {tops:PyData} {len:Str} {js:List Jb} (h:js≠[]):qP tops len js∈js:=by
 unfold qP;split
 ·exact uG h
 ·have hn:=wQ (ts:=js.map fun j=>((0:Addr),j)) (by simpa using h);have hm:(js.map fun j=>((0:Addr),j)).map (·.2)=js:=by rw [L3];exact LJ js
  rw [hm] at hn;have hf:js.filter (lR js)≠[]:=by
   obtain ⟨p,r,e⟩:=List.exists_cons_of_ne_nil hn;have hp:p∈(js.map fun j=>((0:Addr),j)).filter (fun p=>lR js p.2):=by rw [e];exact K4
   obtain ⟨h1,h2⟩:=Lq.mp hp;obtain ⟨j,hj,rfl⟩:=KS.mp h1;exact List.ne_nil_of_mem (Lq.mpr ⟨hj,h2⟩)
  exact (Lq.mp (uG hf)).1
theorem rF {j:Jb} {t:Int} (h:j.there t=true):j.job<j.row.length:=by
 unfold Jb.there at h;by_cases z:j.job<j.row.length
 ·exact z
 ·rw [Mg (by omega)] at h;cases h
theorem xY (j:Jb):j.next.num=j.num:=by unfold Jb.next Jb.step1 Jb.step2;split <;> split <;> rfl
structure zv (tops:PyData) (js:List Jb):Prop where
 ok:∀ j∈js,JOk tops j
 nd:(js.map (·.num)).Nodup
theorem BA {b:Jb} {js:List Jb}:(fM b js).map (·.num)=js.map (·.num):=by
 unfold fM;rw [L3];refine L8 fun j hj=>?_
 show (if j.num=b.num then b.next else j).num=j.num;by_cases z:j.num=b.num
 ·rw [if_pos z,xY,z]
 ·rw [if_neg z]
theorem vf {tops:PyData} {len:Str} {js:List Jb} {told:List PyData} (h:zv tops js):zv tops (hU tops len (js,told)).1:=by
 unfold hU;by_cases z:eE told js=[]
 ·rw [if_pos z];exact h
 ·rw [if_neg z];have hb:=uB (tops:=tops) (len:=len) z;obtain ⟨hm,ht⟩:=Lq.mp hb;refine ⟨fun j hj=>?_,by rw [BA];exact h.nd⟩;obtain ⟨k,hk,rfl⟩:=KS.mp hj;by_cases y:k.num=(qP tops len (eE told js)).num
  ·simp only [y,if_true];exact Fc (h.ok _ hm) (rF ht)
  ·simp only [if_neg y];exact h.ok k hk
def tK (tops:PyData) (len:Str):Nat->List Jb×List PyData->Option (List PyData)
 | 0,_=>none
 | n+1,s=>if s.1.all Jb.done=true then some s.2 else tK tops len n (hU tops len s)
def rnC (cs:Cs):Ds->Rs Bool:=iO (gT (gF qe (ae (gL (bM 9 (cC (af 5)) bF (bS cs.Jobs "are_done" (bB cs) (af 9) ao) aT)) ao)))
theorem Df {tops:PyData} {len:Str} {s:List Jb×List PyData}:(hU tops len s).2.length=s.2.length+1:=by unfold hU;split <;> simp
theorem yW {tops:PyData} {len:Str} {s:List Jb×List PyData} (h:aP (.list s.2)=true):aP (.list (hU tops len s).2)=true:=by
 have h1:∀ d∈s.2,aP d=true:=jX (by simpa [aP] using h);refine fZ fun d hd=>?_
 unfold hU at hd;split at hd
 ·rcases Lg.mp hd with hd | hd
  ·exact h1 d hd
  ·rw [KW.mp hd];rfl
 ·rcases Lg.mp hd with hd | hd
  ·exact h1 d hd
  ·rw [KW.mp hd];rfl
section
variable {cs:Cs} {E R W tops:PyData} {len:Str} {as:List Addr}
theorem Ic {qs:List (Addr×Jb)} (hl:qs.length<=1000) (hp:qs.map (·.1)=as) (nd:as.Nodup) (h:zv tops (qs.map (·.2))):QOk as qs:=by
 have hm:∀ p∈qs,JOk tops p.2:=fun p hp=>h.ok _ (KS.mpr ⟨p,hp,rfl⟩)
 refine ⟨hl,hp,nd,?_,fun p hp=>(hm p hp).pt,fun p hp=>(hm p hp).jb⟩;have:=h.nd;rw [L3] at this;exact this
theorem xJ (hs:rC len) (nd:as.Nodup):∀ (n:Nat) (qs:List (Addr×Jb)) (told t:List PyData) (x7 x8:Option PyData),qs.length<=1000->qs.map (·.1)=as->zv tops (qs.map (·.2))->NoD E R W tops told->told.length+n<=1000000->tK tops len n (qs.map (·.2),told)=some t ->
  ∃ qs' y7 y8,cg (rnC cs) (rnB cs as) n (rnD cs.Jobs E R W tops len qs told x7 x8)=.nx (rnD cs.Jobs E R W tops len qs' t y7 y8)
 | 0,_,_,_,_,_,_,_,_,_,_,h=>by cases h
 | n+1,qs,told,t,x7,x8,hl,hp,hj,no,hn,h=>by
  have K:=Ic hl hp nd hj;have hc:rnC cs (rnD cs.Jobs E R W tops len qs told x7 x8)=.ok (!((qs.map (·.2)).all Jb.done)):=cond_of hl;unfold tK at h;unfold cg;rw [hc];simp only [aH];cases z:(qs.map (·.2)).all Jb.done with
  | true =>rw [if_pos z] at h;cases h;simp only [MM,L5,if_false];exact ⟨qs,x7,x8,rfl⟩
  | false =>
   rw [if_neg (by rw [z];exact L9)] at h;simp only [MG,if_true];obtain ⟨qs',y7,y8,e,f1,f2⟩:=Fu (cs:=cs) K no hs (fun p hp=>(hj.ok _ (KS.mpr ⟨p,hp,rfl⟩)).held) (by omega) x7 x8;rw [e];have hl':qs'.length<=1000:=by have:=congrArg List.length f1;rw [K5,K5] at this;omega
   refine xJ hs nd n qs' _ t y7 y8 hl' (by rw [f1];exact hp) (by rw [f2];exact vf hj) ⟨no.e,no.r,no.w,no.t,yW (s:=(qs.map (·.2),told)) no.o⟩ (by rw [Df];show told.length+1+n<=_;omega) ?_;rw [f2];exact h
end
def dO (ps:List (Int×Option Int)):Int:=(ps.map (·.1)).sum
theorem fV (p:Int×Option Int) (r:List (Int×Option Int)):dO (p::r)=p.1+dO r:=by unfold dO;rw [K1,Li]
def Jb.work (j:Jb):Int:=dO j.parts
def Jb.cur (j:Jb):Int:=dO (j.parts.take j.part)+j.spent
def Jb.tot (j:Jb):Int:=j.job*j.work+j.cur
theorem oY:∀ {ps:List (Int×Option Int)} {k:Nat} (h:k<ps.length),dO (ps.take (k+1))=dO (ps.take k)+ps[k].1
 | [],k,h=>by cases h
 | p::r,0,_=>by rw [MF,List.take_zero,fV];show p.1+dO []=dO []+p.1;omega
 | p::r,k+1,h=>by
  have hk:k<r.length:=by simpa using h
  have ih:=oY (ps:=r) (k:=k) hk;rw [MF,MF,fV,fV,ih];show p.1+(dO (r.take k)+r[k].1)=p.1+dO (r.take k)+r[k].1;omega
theorem mS {tops:PyData} {j:Jb} (h:JOk tops j):j.next.tot=j.tot+1:=by
 have hpt:=h.pt;have hlen:j.len=j.parts[j.part].1:=by unfold Jb.len;rw [K3 h.pt];rfl
 have ht:=oY h.pt;unfold Jb.next Jb.step1;by_cases z:(j.spent:Int)+1=j.len
 ·rw [if_pos z];unfold Jb.step2;by_cases y:j.part+1=j.parts.length
  ·rw [if_pos (show ({ j with spent:=0,part:=j.part+1 }:Jb).part=({ j with spent:=0,part:=j.part+1 }:Jb).parts.length from y)];have hw:dO (j.parts.take (j.part+1))=dO j.parts:=by rw [y,List.take_length]
   show ((j.job+1:Nat):Int)*dO j.parts+(dO (j.parts.take 0)+((0:Nat):Int))=(j.job:Int)*dO j.parts+(dO (j.parts.take j.part)+(j.spent:Int))+1;have e0:dO (j.parts.take 0)=0:=rfl;have e1:((j.job+1:Nat):Int)*dO j.parts=(j.job:Int)*dO j.parts+dO j.parts:=by rw [Int.natCast_add,MH];simp
   rw [e0,e1];omega
  ·rw [if_neg (show ¬ ({ j with spent:=0,part:=j.part+1 }:Jb).part=({ j with spent:=0,part:=j.part+1 }:Jb).parts.length from y)];show (j.job:Int)*dO j.parts+(dO (j.parts.take (j.part+1))+((0:Nat):Int))=(j.job:Int)*dO j.parts+(dO (j.parts.take j.part)+(j.spent:Int))+1;omega
 ·rw [if_neg z];unfold Jb.step2;rw [if_neg (show ¬ ({ j with spent:=j.spent+1 }:Jb).part=({ j with spent:=j.spent+1 }:Jb).parts.length from KY h.pt)];show (j.job:Int)*dO j.parts+(dO (j.parts.take j.part)+((j.spent+1:Nat):Int))=(j.job:Int)*dO j.parts+(dO (j.parts.take j.part)+(j.spent:Int))+1;omega
theorem pQ:∀ (a b:List (Int×Option Int)),dO (a++b)=dO a+dO b
 | [],b=>by show dO b=0+dO b;omega
 | p::r,b=>by rw [Lk,fV,fV,pQ r b];omega
theorem qA:∀ {ps:List (Int×Option Int)},(∀ p∈ps,1<=p.1)->0<=dO ps
 | [],_=>LD 0
 | p::r,h=>by
  have:=h p K4;have ih:=qA (ps:=r) fun q hq=>h q (K0 _ hq)
  rw [fV];omega
theorem vQ {ps:List (Int×Option Int)} (h:∀ p∈ps,1<=p.1) (k:Nat):dO (ps.take k)<=dO ps:=by
 have e:=pQ (ps.take k) (ps.drop k);rw [List.take_append_drop] at e;have:=qA (ps:=ps.drop k) fun q hq=>h q (List.mem_of_mem_drop hq)
 omega
theorem tq {tops:PyData} {j:Jb} (h:JOk tops j):0<=j.cur/\j.cur<j.work:=by
 have hpt:=h.pt;have hlen:j.len=j.parts[j.part].1:=by unfold Jb.len;rw [K3 h.pt];rfl
 have ht:=oY h.pt;have h1:=vQ h.ln (j.part+1);have h2:=qA (ps:=j.parts.take j.part) fun q hq=>h.ln q (List.mem_of_mem_take hq)
 have h3:=h.sp;unfold Jb.cur Jb.work;omega
theorem C9 {tops:PyData} {j:Jb} (h:JOk tops j) {k:Nat} (hj:j.job<k):j.tot<(k:Int)*j.work:=by obtain ⟨c0,c1⟩:=tq h;have:=Lo (a:=(j.job:Int)+1) (b:=(k:Int)) (c:=j.work) (by omega) (by omega);rw [MH,MI] at this;unfold Jb.tot;omega
theorem kA (j:Jb):j.next.row=j.row:=by unfold Jb.next Jb.step1 Jb.step2;split <;> split <;> rfl
theorem sE (j:Jb):j.next.parts=j.parts:=by unfold Jb.next Jb.step1 Jb.step2;split <;> split <;> rfl
def Jb.left (j:Jb):Nat:=((j.row.length:Int)*j.work-j.tot).toNat
theorem uZ (j:Jb):j.next.work=j.work:=by unfold Jb.work;rw [sE]
theorem Bm {tops:PyData} {j:Jb} (h:JOk tops j) (hj:j.job<j.row.length):j.next.left+1=j.left:=by have h1:=mS h;have h2:=C9 h hj;unfold Jb.left;rw [kA,uZ,h1];omega
theorem Ac {b:Jb}:∀ {r:List Jb},(∀ k∈r,k.num≠b.num)->fM b r=r
 | [],_=>rfl
 | k::t,h=>by show (if k.num=b.num then b.next else k)::fM b t=_;rw [if_neg (h k K4),Ac fun x hx=>h x (K0 _ hx)]
theorem pe {b:Jb} {j:Jb} {r:List Jb} (nd:((j::r).map (·.num)).Nodup) (hb:b∈j::r):(j=b/\fM b (j::r)=b.next::r)\/(j.num≠b.num/\b∈r/\fM b (j::r)=j::fM b r):=by
 rw [K1,Lr] at nd;have e:fM b (j::r)=(if j.num=b.num then b.next else j)::fM b r:=rfl;by_cases z:j.num=b.num
 ·left;have hj:j=b:=by
   rcases K6.mp hb with h | h
   ·exact h.symm
   ·exact (nd.1 (KS.mpr ⟨b,h,z.symm⟩)).elim
  refine ⟨hj,?_⟩;rw [e,if_pos z,Ac fun k hk q=>nd.1 (KS.mpr ⟨k,hk,q.trans z.symm⟩)]
 ·right;refine ⟨z,?_,by rw [e,if_neg z]⟩;rcases K6.mp hb with h | h
  ·exact (z (by rw [h])).elim
  ·exact h
theorem wX {f:Jb->Nat} {b:Jb}:∀ {js:List Jb},(js.map (·.num)).Nodup->b∈js->f b.next+1=f b->((fM b js).map f).sum+1=(js.map f).sum
 | [],_,hb,_=>by cases hb
 | j::r,nd,hb,hf=>by
  rcases pe nd hb with ⟨hj,e⟩ | ⟨_,hb',e⟩
  ·rw [e,K1,K1,Li,Li,hj];omega
  ·rw [K1,Lr] at nd;have:=wX nd.2 hb' hf;rw [e,K1,K1,Li,Li];omega
def Aj (js:List Jb):Nat:=(js.map Jb.left).sum
theorem rW {b k:Jb} {js:List Jb} (hb:b∈js) (hk:k∈fM b js):k∈js\/k=b.next:=by
 obtain ⟨j,hj,rfl⟩:=KS.mp hk;by_cases z:j.num=b.num
 ·right;exact if_pos z
 ·left;rw [if_neg z];exact hj
theorem pJ {tops:PyData} {len:Str} {js:List Jb} {told:List PyData} (z:eE told js=[]):hU tops len (js,told)=(js,told++[.none]):=by unfold hU;exact if_pos z
theorem lG {tops:PyData} {len:Str} {js:List Jb} {told:List PyData} (z:eE told js≠[]):∃ b,b∈js/\b.there (told.length:Int)=true/\hU tops len (js,told)=(fM b js,told++[ib b]):=by obtain ⟨hm,ht⟩:=Lq.mp (uB (tops:=tops) (len:=len) z);refine ⟨_,hm,ht,?_⟩;unfold hU;exact if_neg z
theorem Fg {tops:PyData} {j:Jb} (h:JOk tops j) (hd:j.done=false):j.job<j.row.length:=by have:=h.jb;unfold Jb.done at hd;rw [beq_eq_false_iff_ne] at hd;omega
theorem rf {tops:PyData} {len:Str} {B:Nat}:∀ (n:Nat) (js:List Jb) (told:List PyData),zv tops js->(∀ j∈js,∀ c∈j.row,c<(B:Int))->Aj js+(B-told.length)<n->∃ t,tK tops len n (js,told)=some t
 | 0,_,_,_,_,hn=>by omega
 | n+1,js,told,h,hr,hn=>by
  unfold tK;by_cases z:js.all Jb.done=true
  ·exact ⟨told,if_pos z⟩
  ·rw [if_neg (show ¬ ((js,told).1.all Jb.done=true) from z)];by_cases y:eE told js=[]
   ·rw [pJ y];refine rf n js _ h hr ?_;rw [L4] at z;obtain ⟨j,hj⟩:=Classical.not_forall.mp z;obtain ⟨hm,hd⟩:=Classical.not_imp.mp hj;have hlt:=Fg (h.ok j hm) (Bool.eq_false_iff.mpr hd);have hc:=hr j hm _ (LC hlt);have ht:¬ j.there (told.length:Int)=true:=fun e=>by have:j∈eE told js:=Lq.mpr ⟨hm,e⟩;rw [y] at this;cases this
    unfold Jb.there at ht;rw [K3 hlt] at ht;simp only [decide_eq_true_eq] at ht;rw [KU,Lc];omega
   ·obtain ⟨b,hb,ht,e⟩:=lG (tops:=tops) (len:=len) y;have ok':=vf (len:=len) (told:=told) h;rw [e] at ok' ⊢;have hs:=wX (f:=Jb.left) h.nd hb (Bm (h.ok _ hb) (rF ht));refine rf (B:=B) n _ _ ok' (fun k hk=>?_) ?_
    ·rcases rW hb hk with hk | rfl
     ·exact hr k hk
     ·rw [kA];exact hr b hb
    ·rw [KU,Lc];unfold Aj at hn ⊢;omega
def eY (r:List Int) (t:Int):Nat:=(r.filter fun c=>decide (c<=t)).length
theorem df (a:Int) (s:List Int) (t:Int):eY (a::s) t=(if a<=t then 1 else 0)+eY s t:=by
 unfold eY;rw [LK];by_cases z:a<=t
 ·rw [if_pos (decide_eq_true z),if_pos z,L6];omega
 ·rw [if_neg (by simpa using z),if_neg z];omega
theorem yd (r:List Int) (t:Int):eY r t<=r.length:=Mz _ _
theorem nO {t u:Int} (h:t<=u):∀ r:List Int,eY r t<=eY r u
 | []=>K8 _
 | a::s=>by
  have ih:=nO h s;rw [df,df];by_cases z:a<=t
  ·rw [if_pos z,if_pos (by omega)];omega
  ·rw [if_neg z];omega
theorem jE {t:Int}:∀ {r:List Int},(∀ c∈r,t<c)->eY r t=0
 | [],_=>rfl
 | a::s,h=>by have:=h a K4;rw [df,if_neg (by omega),jE fun c hc=>h c (K0 _ hc)]
theorem As {t:Int}:∀ {r:List Int} {k:Nat} (hk:k<r.length),r.Pairwise (· < ·)->t<r[k]->eY r t<=k
 | [],_,hk,_,_=>by cases hk
 | a::s,0,_,hp,h=>by rw [Mb] at hp;have h:t<a:=h;have:=hp.1;rw [df,if_neg (by omega),jE fun c hc=>Int.lt_trans h (this c hc)];exact K8 _
 | a::s,k+1,hk,hp,h=>by
  rw [Mb] at hp;have hk':k<s.length:=by simpa using hk
  have ih:=As hk' hp.2 (show t<s[k] from h);rw [df];split <;> omega
theorem Am {t:Int}:∀ {r:List Int} {k:Nat} (hk:k<r.length),r.Pairwise (· < ·)->r[k]<=t->k<eY r t
 | [],_,hk,_,_=>by cases hk
 | a::s,0,_,hp,h=>by have h:a<=t:=h;rw [df,if_pos h];omega
 | a::s,k+1,hk,hp,h=>by
  rw [Mb] at hp;have hk':k<s.length:=by simpa using hk
  have h:s[k]<=t:=h;have ih:=Am hk' hp.2 h;have:=hp.1 _ (LC hk');rw [df,if_pos (by omega)];omega
def eJ (t:Int) (j:Jb):Int:=(eY j.row t:Int)*j.work-j.tot
structure IvJ (tops:PyData) (t:Int) (js:List Jb):Prop where
 ok:zv tops js
 srt:∀ j∈js,j.row.Pairwise (· < ·)
 low:∀ j∈js,0<=eJ t j
theorem mH {tops:PyData} {t:Int} {j:Jb} (h:JOk tops j) (hs:j.row.Pairwise (· < ·)) (ht:j.there t=true):0<eJ t j:=by have hlt:=rF ht;unfold Jb.there at ht;rw [K3 hlt] at ht;have:=C9 h (Am hlt hs (of_decide_eq_true ht));unfold eJ;omega
theorem C3 {tops:PyData} {t:Int} {j:Jb} (h:JOk tops j) (hs:j.row.Pairwise (· < ·)) (hl:0<=eJ t j) (ht:j.there t=false):eJ t j=0:=by
 have hc:eY j.row t<=j.job:=by
  by_cases z:j.job<j.row.length
  ·unfold Jb.there at ht;rw [K3 z] at ht;have:=of_decide_eq_false ht;exact As z hs (by omega)
  ·have:=yd j.row t;omega
 obtain ⟨c0,c1⟩:=tq h;have:=Lo (a:=(eY j.row t:Int)) (b:=(j.job:Int)) (c:=j.work) (by omega) (by omega);unfold eJ Jb.tot at hl ⊢;omega
theorem wb {α:Type} (f:α->Int):∀ {l:List α},(∀ x∈l,0<=f x)->0<=(l.map f).sum
 | [],_=>LD 0
 | a::r,h=>by
  have h1:=h a K4;have ih:=wb f (l:=r) fun x hx=>h x (K0 _ hx)
  rw [K1,Li];omega
theorem zO {α:Type} (f:α->Int) {b:α}:∀ {l:List α},(∀ x∈l,0<=f x)->b∈l->f b<=(l.map f).sum
 | [],_,hb=>by cases hb
 | a::r,h,hb=>by
  have h1:=h a K4;have h2:=wb f (l:=r) fun x hx=>h x (K0 _ hx)
  rw [K1,Li];rcases K6.mp hb with e | hb
  ·rw [e];omega
  ·have:=zO f (fun x hx=>h x (K0 _ hx)) hb;omega
theorem ye {α:Type} (f:α->Int):∀ {l:List α},(∀ x∈l,f x=0)->(l.map f).sum=0
 | [],_=>rfl
 | a::r,h=>by rw [K1,Li,h a K4,ye f fun x hx=>h x (K0 _ hx)];rfl
theorem mB {tops:PyData} {told:List PyData} {js:List Jb} (h:IvJ tops (told.length:Int) js) (z:eE told js=[]):(js.map (eJ (told.length:Int))).sum=0:=by
 refine ye _ fun j hj=>C3 (h.ok.ok j hj) (h.srt j hj) (h.low j hj) ?_
 cases e:j.there (told.length:Int) with
 | false=>rfl
 | true =>have:j∈eE told js:=Lq.mpr ⟨hj,e⟩;rw [z] at this;cases this
theorem nX {tops:PyData} {t u:Int} (htu:t<=u) {j:Jb} (h:JOk tops j):eJ t j<=eJ u j:=by have h1:=nO htu j.row;have h2:=tq h;have:=Lo (a:=(eY j.row t:Int)) (b:=(eY j.row u:Int)) (c:=j.work) (by omega) (by omega);unfold eJ;omega
theorem AB {tops:PyData} {len:Str} {js:List Jb} {told:List PyData} (h:IvJ tops (told.length:Int) js):IvJ tops ((hU tops len (js,told)).2.length:Int) (hU tops len (js,told)).1:=by
 have ok':=vf (len:=len) (told:=told) h.ok;by_cases z:eE told js=[]
 ·rw [pJ z] at ok' ⊢;refine ⟨ok',h.srt,fun j hj=>?_⟩;have:=h.low j hj;have:=nX (u:=(((told++[PyData.none]).length:Nat):Int)) (t:=(told.length:Int)) (by rw [KU];omega) (h.ok.ok j hj);show 0<=eJ (((told++[PyData.none]).length:Nat):Int) j;omega
 ·obtain ⟨b,hb,ht,e⟩:=lG (tops:=tops) (len:=len) z;rw [e] at ok' ⊢;refine ⟨ok',fun j hj=>?_,fun j hj=>?_⟩
  ·rcases rW hb hj with hj | rfl
   ·exact h.srt j hj
   ·rw [kA];exact h.srt b hb
  ·show 0<=eJ (((told++[ib b]).length:Nat):Int) j;rcases rW hb hj with hj | rfl
   ·have:=h.low j hj;have:=nX (u:=(((told++[ib b]).length:Nat):Int)) (t:=(told.length:Int)) (by rw [KU];omega) (h.ok.ok j hj);omega
   ·have h2:=mH (h.ok.ok b hb) (h.srt b hb) ht;have h3:=nX (u:=(((told++[ib b]).length:Nat):Int)) (t:=(told.length:Int)) (by rw [KU];omega) (h.ok.ok b hb);have h4:=mS (h.ok.ok b hb);unfold eJ at h2 h3 ⊢;rw [kA,uZ,h4];omega
theorem CJ {tops:PyData} {t:Int} {j:Jb} (h:JOk tops j) (hl:0<=eJ t j) (hd:j.done=true):j.tot=(j.row.length:Int)*j.work:=by
 have e:(j.job:Int)=(j.row.length:Int):=by unfold Jb.done at hd;exact eq_of_beq hd
 have h1:=yd j.row t;obtain ⟨c0,c1⟩:=tq h;have:=Lo (a:=(eY j.row t:Int)) (b:=(j.row.length:Int)) (c:=j.work) (by omega) (by omega);unfold eJ at hl;have e2:j.tot=(j.row.length:Int)*j.work+j.cur:=by unfold Jb.tot;rw [e]
 omega
theorem Gy {tops:PyData} {j:Jb} (h:JOk tops j):j.tot / j.work=(j.job:Int):=by obtain ⟨c0,c1⟩:=tq h;unfold Jb.tot;rw [Int.add_comm,Md _ _ (by omega),Me c0 c1];omega
def qZ (j:Jb):Int×List (Int×Option Int)×List Int:=(j.num,j.parts,j.row)
theorem oh {b:Jb}:∀ {js:List Jb},(js.map (·.num)).Nodup->b∈js->(fM b js).map qZ=js.map qZ
 | [],_,hb=>by cases hb
 | j::r,nd,hb=>by
  rcases pe nd hb with ⟨hj,e⟩ | ⟨_,hb',e⟩
  ·rw [e,K1,K1,hj];unfold qZ;rw [xY,sE,kA]
  ·rw [K1,Lr] at nd;rw [e,K1,K1,oh nd.2 hb']
theorem c7 {O:List Nat} {i:Nat} {g:Ds->Rs PyData} {δ:Ds} {d:PyData} (hi:i<δ.length) (hg:g (mask O δ)=.ok d):aW O i g δ=.nx (δ.set i (some d)):=by unfold aW;rw [if_pos hi,hg];rfl
def mkJ (es:List Er) (rs:List Int) (k:Nat) (row:List Int):Jb:=⟨(k:Int),(jx es (k:Int)).parts,(placeOf rs (k:Int):Int),row,0,0,0⟩
def startJ (es:List Er) (rs:List Int) (rows:List (List Int)):List Jb:=rows.mapIdx (mkJ es rs)
section
variable {es:List Er} {rs:List Int} {rows:List (List Int)}
theorem n8 (i:Nat):(startJ es rs rows)[i]?=(rows[i]?).map (mkJ es rs i):=M1
theorem ir {j:Jb} (h:j∈startJ es rs rows):∃ (k:Nat) (row:List Int),k<rows.length/\row∈rows/\rows[k]?=some row/\j=mkJ es rs k row:=by obtain ⟨k,hk⟩:=List.mem_iff_getElem?.mp h;rw [n8] at hk;obtain ⟨row,hr,e⟩:=Mc.mp hk;exact ⟨k,row,(Lj.mp hr).1,Lu hr,hr,e.symm⟩
theorem gh:(startJ es rs rows).length=rows.length:=List.length_mapIdx
theorem zi:(startJ es rs rows).map (·.num)=(List.range rows.length).map fun (k:Nat)=>(k:Int) :=
 Mw (by simp [startJ]) (fun i h1 h2=>by simp [startJ,mkJ])
theorem rP:(startJ es rs rows).map (·.row)=rows :=
 Mw (by simp [startJ]) (fun i h1 h2=>by simp [startJ,mkJ])
theorem FD (n:Nat):((List.range n).map fun (k:Nat)=>(k:Int)).Nodup:=List.Pairwise.map _ (fun a b h e=>h (by omega)) List.nodup_range
theorem ph (k:Nat) (row:List Int):(mkJ es rs k row).tot=0:=by show ((0:Nat):Int)*_+(dO (List.take 0 _)+((0:Nat):Int))=0;rw [List.take_zero];have:dO []=0:=rfl;rw [this];simp
end
theorem wy:∀ {ps:List (Int×Option Int)},(∀ p∈ps,p.1<=20)->dO ps<=20*(ps.length:Int)
 | [],_=>LD 0
 | p::r,h=>by
  have:=h p K4;have ih:=wy (ps:=r) fun q hq=>h q (K0 _ hq)
  rw [fV,L6];omega
theorem AZ {α:Type} (f:α->Nat) {c:Nat}:∀ {l:List α},(∀ x∈l,f x<=c)->(l.map f).sum<=l.length*c
 | [],_=>Lw _
 | a::r,h=>by
  have h1:=h a K4;have ih:=AZ f (l:=r) fun x hx=>h x (K0 _ hx)
  rw [K1,Li,L6,Nat.add_mul];omega
theorem yR {es:List Er} {rs:List Int} {t n:Int} (t0:0<=t) (t3:t<=3) (h:fN es rs t=some n):dIx (cn es rs) (.int t)=some (.int n):=by
 obtain ⟨m,rfl⟩:∃ m:Nat,t=(m:Int):=⟨t.toNat,by omega⟩
 show atI ((List.range 4).map fun (t:Nat)=>bq (fN es rs t)) (m:Int)=_;refine qv ?_;rw [Lb,ME (by omega),M9,h];rfl
theorem tR (es:List Er) (rs:List Int):aP (cn es rs)=true:=fZ fun d hd=>by obtain ⟨t,_,rfl⟩:=KS.mp hd;exact tY _
structure Ran (es:List Er) (rs:List Int) (rows:List (List Int)) (len:Str):Prop where
 eok:zY es
 rok:kG es.length rs
 ln:rows.length=es.length
 le:rC len
def pk (es:List Er) (rs:List Int) (rows:List (List Int)) (len:Str):Option (List PyData):=tK (cn es rs) len 1000000 (startJ es rs rows,[])
section
variable {es:List Er} {rs:List Int} {rows:List (List Int)} {len:Str} {t:List PyData}
theorem nC (h:zY es) (hr:kG es.length rs) (hl:rows.length=es.length):zv (cn es rs) (startJ es rs rows):=by
 refine ⟨fun j hj=>?_,by rw [zi];exact FD _⟩;obtain ⟨k,row,hk,_,_,rfl⟩:=ir hj;have h0:(0:Int)<=(k:Int):=by omega
 have h1:(k:Int)<es.length:=by omega
 have ok:=h.ok _ (mK h0 h1);have hpos:0<(jx es (k:Int)).parts.length:=LO.mpr ok.p1;refine ⟨hpos,Lw _,fun p hp=>(ok.pl p hp).1,?_,fun p hp u hu=>?_⟩
 ·have:=len_pos (tops:=.none) (j:=mkJ es rs k row) (fun p hp=>(ok.pl p hp).1) hpos;show (0:Int)<_;exact ML (by decide) this
 ·obtain ⟨t0,t3⟩:=(ok.pl p hp).2.2 u hu;have hh:(jx es (k:Int)).has u=true:=by unfold Er.has;rw [MR];exact ⟨p,hp,by rw [hu];exact beq_self_eq_true _⟩
  obtain ⟨n,hn⟩:=xj es u rs 0 (k:Int) (hr.mem h0 h1) hh;exact ⟨n,yR t0 t3 hn⟩
theorem wW (R:Ran es rs rows len) (C:Cms es rows):∃ t,pk es rs rows len=some t:=by
 have hri:=C.uI;refine rf (B:=10000) 1000000 _ [] (nC R.eok R.rok R.ln) (fun j hj c hc=>?_) ?_
 ·obtain ⟨k,row,_,hm,_,rfl⟩:=ir hj;have:=(hri row hm).hi c hc;omega
 ·have hs:Aj (startJ es rs rows)<=(startJ es rs rows).length*4800:=AZ Jb.left fun j hj=>by
   obtain ⟨k,row,hk,hm,_,rfl⟩:=ir hj;have ok:=R.eok.ok _ (mK (n:=(k:Int)) (by omega) (by have:=R.ln;omega));have h1:=wy fun p hp=>(ok.pl p hp).2.1
   have h2:=ok.p2;have h3:=(hri row hm).few;have h4:=qA fun p hp=>(ok.pl p hp).1
   unfold Jb.left;rw [ph];have h5:((mkJ es rs k row).row.length:Int)*(mkJ es rs k row).work<=60*80:=Int.mul_le_mul (by show (row.length:Int)<=60;omega) (by show dO (jx es (k:Int)).parts<=80;omega) h4 (by decide);omega
  rw [gh] at hs;have h6:=R.eok.l6;have h7:=R.ln;show Aj (startJ es rs rows)+(10000-0)<1000000;have h8:rows.length*4800<=6*4800:=Nat.mul_le_mul_right _ (by omega);omega
end
def fsJ (j:Jb):List PyData:=[.int j.num,.tuple (j.parts.map bt),.int j.rank,dw j.row]
theorem yT {C:Addr} {as:List Addr} {js:List Jb} (h:∀ j∈js,j.job=0/\j.part=0/\j.spent=0):lT C JN JT as (js.map fsJ)=(as.zip js).map (jD C):=by
 unfold lT;rw [List.zip_map_right,L3];refine L8 fun p hp=>?_
 obtain ⟨h1,h2,h3⟩:=h p.2 (Mn (a:=p.1) (b:=p.2) hp).2;show cY C p.1 (JN.zip (fsJ p.2)++tlD JT)=cY C p.1 p.2.fds;unfold Jb.fds;rw [h1,h2,h3];rfl
section
variable {cs:Cs} {es:List Er} {rs:List Int} {rows:List (List Int)} {len:Str} {t:List PyData}
theorem FT (R:Ran es rs rows len) (hr:pk es rs rows len=some t) {as:List Addr} (hl:as.length=rows.length) (nd:as.Nodup) :
  ml cs bG (bB cs) (dE cs) (aS cs) gG as [some (aU es),some (bc rs),some (cmD rows),some (.str len),some (cn es rs),some (.list ((as.zip (startJ es rs rows)).map (jD cs.Jobs))),none,none,none]=.rt (.list t):=by
 have hz1:(as.zip (startJ es rs rows)).map (·.1)=as:=List.map_fst_zip (by rw [gh,hl];exact K8 _);have hz2:(as.zip (startJ es rs rows)).map (·.2)=startJ es rs rows:=List.map_snd_zip (by rw [gh,hl];exact K8 _);obtain ⟨qs',y7,y8,e⟩:=xJ (cs:=cs) (E:=aU es) (R:=bc rs) (W:=cmD rows) (tops:=cn es rs) (len:=len) (as:=as) R.le nd 1000000 (as.zip (startJ es rs rows)) [] t none none
  (by rw [List.length_zip,gh];have:=R.eok.l6;have:=R.ln;omega) hz1 (by rw [hz2];exact nC R.eok R.rok R.ln) ⟨ug es,rj rs,sR rows,tR es rs,fZ fun d hd=>by cases hd⟩ (by rw [LM];omega) (by rw [hz2];exact hr)
 have s1:lI [6] 6 ao [some (aU es),some (bc rs),some (cmD rows),some (.str len),some (cn es rs),some (.list ((as.zip (startJ es rs rows)).map (jD cs.Jobs))),none,none,none]=.nx (rnD cs.Jobs (aU es) (bc rs) (cmD rows) (cn es rs) len (as.zip (startJ es rs rows)) [] none none):=rfl;show aK (lI [6] 6 ao) (aK (fun δ=>cg (rnC cs) (rnB cs as) 1000000 δ) (bR (af 6))) _=_;rw [br,s1];show (match cg (rnC cs) (rnB cs as) 1000000 (rnD cs.Jobs (aU es) (bc rs) (cmD rows) (cn es rs) len (as.zip (startJ es rs rows)) [] none none) with
  | .nx δ'=>bR (af 6) δ'
  | r=>r)=_
 rw [e];rfl
end
def Dq:PyData->List Int
 | .list xs=>(gA xs).getD []
 | _=>[]
def D3:PyData->List (List Int)
 | .list l=>l.map Dq
 | _=>[]
theorem Cp (rows:List (List Int)):D3 (cmD rows)=rows:=by
 show (rows.map dw).map Dq=rows;rw [L3];have:∀ r∈rows,(Dq∘dw) r=id r:=fun r _=>by show (gA (r.map PyData.int)).getD []=r;rw [gp];rfl
 rw [L8 this,LJ]
def lenOf:PyData->Str
 | .str s=>s
 | _=>""
def Ez (d r c l:PyData):PyData:=match pk (mO d) (iB r) (D3 c) (lenOf l) with
 | some t=>.list t
 | none=>.none
theorem vc {es:List Er} {rs:List Int} {rows:List (List Int)} {len:Str} {t:List PyData} (hr:pk es rs rows len=some t):Ez (aU es) (bc rs) (cmD rows) (.str len)=.list t:=by unfold Ez;rw [zg,qT,Cp,show lenOf (.str len)=len from rfl,hr]
def atD (δ:Ds) (i:Nat):PyData:=((δ[i]?).getD none).getD .none
open Classical in
def mw:Ds->Sr:=fun δ=>if ∃ es rs rows len t,Ran es rs rows len/\pk es rs rows len=some t/\δ=[some (aU es),some (bc rs),some (cmD rows),some (.str len),some (cn es rs),none,none,none,none] then .rt (Ez (atD δ 0) (atD δ 1) (atD δ 2) (atD δ 3)) else .no
theorem GS {es:List Er} {rs:List Int} {rows:List (List Int)} {len:Str} {t:List PyData} (R:Ran es rs rows len) (hr:pk es rs rows len=some t):mw [some (aU es),some (bc rs),some (cmD rows),some (.str len),some (cn es rs),none,none,none,none]=.rt (.list t):=by unfold mw;rw [if_pos ⟨es,rs,rows,len,t,R,hr,rfl⟩];exact congrArg Sr.rt (vc hr)
theorem EK (cs:Cs):∀ δ,mw δ≠.no->∃ d ds fss,mw δ=.rt d/\5<δ.length/\δ.length=9/\(ue (ae (af 2) ao)) (mask [6] δ)=.ok ds/\ds.length<=1000000/\fss.length=ds.length/\(∀ (i:Nat) d,ds[i]?=some d->∃ ow fs,kq d=some ow/\fss[i]?=some fs/\(ae (af 9) (ae (g2 dIx (g2 dIx (af 0) (af 9)) (gC (.int 3))) (ae (zZ (af 1) (af 9)) (ae (af 10) ao)))) (mask [6] δ++ow)=.ok fs/\fs.length=JN.length) /\
   ∀ as:List Addr,as.length=ds.length->as.Nodup->ml cs bG (bB cs) (dE cs) (aS cs) gG as (δ.set 5 (some (.list (lT cs.Jobs JN JT as fss))))=.rt d:=by
 intro δ hne;by_cases hx:∃ es rs rows len t,Ran es rs rows len/\pk es rs rows len=some t/\δ=[some (aU es),some (bc rs),some (cmD rows),some (.str len),some (cn es rs),none,none,none,none]
 ·obtain ⟨es,rs,rows,len,t,R,hr,rfl⟩:=hx;have hln:=R.ln;refine ⟨.list t,kQ (rows.map dw),(startJ es rs rows).map fsJ,GS R hr,(by decide:5<9),rfl,rfl,?_,?_,?_,?_⟩
  ·rw [lC,K5];have:=R.eok.l6;omega
  ·rw [lC,K5,K5,gh]
  ·intro i d hd;unfold kQ at hd;rw [M1,Lb] at hd;cases q:rows[i]? with
   | none=>rw [q] at hd;cases hd
   | some row =>
    rw [q] at hd;have hd':some (PyData.tuple [.int (i:Int),dw row])=some d:=hd;cases hd';have hi:=(Lj.mp q).1;have h0:(0:Int)<=(i:Int):=by omega
    have h1:(i:Int)<es.length:=by omega
    refine ⟨[some (.int (i:Int)),some (dw row)],fsJ (mkJ es rs i row),rfl,?_,?_,rfl⟩
    ·rw [Lb,n8,q];rfl
    ·have a1:dIx (aU es) (.int (i:Int))=some (jx es (i:Int)).d:=vC h0 h1;have a2:=G0 (jx es (i:Int));have a3:=xN (R.rok.mem h0 h1);show (ae (af 9) (ae (g2 dIx (g2 dIx (af 0) (af 9)) (gC (.int 3))) (ae (zZ (af 1) (af 9)) (ae (af 10) ao)))) [some (aU es),some (bc rs),some (cmD rows),some (.str len),some (cn es rs),none,none,none,none,some (.int (i:Int)),some (dw row)]=_;simp only [aQ,aY,cw,az,aF,dP,IB,Rs.aj,a1,a2,Rs.ar,bc,a3];rfl
  ·intro as hal nd;rw [lC,K5] at hal;rw [yT fun j hj=>by obtain ⟨k,row,_,_,_,rfl⟩:=ir hj;exact ⟨rfl,rfl,rfl⟩];exact FT R hr hal nd
 ·unfold mw at hne;rw [if_neg hx] at hne;exact absurd rfl hne
open Classical in
def de (cs:Cs):Gf:=fun ds=>if ∃ es rs rows len t,Ran es rs rows len/\pk es rs rows len=some t/\ds=[aU es,bc rs,cmD rows,.str len] then .ok (Ez (ds.getD 0 .none) (ds.getD 1 .none) (ds.getD 2 .none) (ds.getD 3 .none)) else .no
theorem ng {cs:Cs} {es:List Er} {rs:List Int} {rows:List (List Int)} {len:Str} {t:List PyData} (R:Ran es rs rows len) (hr:pk es rs rows len=some t):de cs [aU es,bc rs,cmD rows,.str len]=.ok (.list t):=by unfold de;rw [if_pos ⟨es,rs,rows,len,t,R,hr,rfl⟩];exact congrArg Rs.ok (vc hr)
theorem DB (cs:Cs):∀ ds,ds.length=4->de cs ds≠.no->bu (aK (aW [6] 4 (ay bG (ae (af 0) (ae (af 1) ao)))) mw (ds.map some++List.replicate 5 none))=de cs ds:=by
 intro ds hl hne;by_cases hx:∃ es rs rows len t,Ran es rs rows len/\pk es rs rows len=some t/\ds=[aU es,bc rs,cmD rows,.str len]
 ·obtain ⟨es,rs,rows,len,t,R,hr,rfl⟩:=hx;rw [ng R hr];have hh:=jA (es:=es) (rs:=rs) (by have:=R.eok.l6;omega) (fun e he=>(R.eok.ok e he).sh) R.rok;have s1:aW [6] 4 (ay bG (ae (af 0) (ae (af 1) ao))) [some (aU es),some (bc rs),some (cmD rows),some (.str len),none,none,none,none,none]=.nx [some (aU es),some (bc rs),some (cmD rows),some (.str len),some (cn es rs),none,none,none,none]:=by have hg:ay bG (ae (af 0) (ae (af 1) ao)) (mask [6] [some (aU es),some (bc rs),some (cmD rows),some (.str len),none,none,none,none,none])=.ok (cn es rs):=hh;exact c7 (by decide:4<9) hg
  show bu (aK (aW [6] 4 (ay bG (ae (af 0) (ae (af 1) ao)))) mw [some (aU es),some (bc rs),some (cmD rows),some (.str len),none,none,none,none,none])=_;rw [br,s1];simp only;rw [GS R hr];rfl
 ·exfalso;apply hne;unfold de;rw [if_neg hx]
open Classical in
def dg (cs:Cs):Gf:=fun ds=>if ∃ es rs rows len t,Ran es rs rows len/\Cms es rows/\pk es rs rows len=some t/\ds=[aU es,bc rs,cmD rows,.str len] then .ok (Ez (ds.getD 0 .none) (ds.getD 1 .none) (ds.getD 2 .none) (ds.getD 3 .none)) else .no
theorem oQ {cs:Cs} {es:List Er} {rs:List Int} {rows:List (List Int)} {len:Str} {t:List PyData} (R:Ran es rs rows len) (C:Cms es rows) (hr:pk es rs rows len=some t):dg cs [aU es,bc rs,cmD rows,.str len]=.ok (.list t):=by unfold dg;rw [if_pos ⟨es,rs,rows,len,t,R,C,hr,rfl⟩];exact congrArg Rs.ok (vc hr)
theorem Jo (cs:Cs):∀ ds,ds.length=4->dg cs ds≠.no->bu (xS cs (bh cs) (de cs) (bz cs) (aM cs) (ds.map some++List.replicate 0 none))=dg cs ds:=by
 intro ds hl hne;by_cases hx:∃ es rs rows len t,Ran es rs rows len/\Cms es rows/\pk es rs rows len=some t/\ds=[aU es,bc rs,cmD rows,.str len]
 ·obtain ⟨es,rs,rows,len,t,R,C,hr,rfl⟩:=hx;rw [oQ R C hr];have k1:=i8 cs R.eok.l1 R.eok.l6 R.eok.ok;have k2:=lM cs R.eok.l6 R.rok;have k3:=fR (cs:=cs) R.eok C;have k4:=ng (cs:=cs) R hr;show bu (xS cs (bh cs) (de cs) (bz cs) (aM cs) [some (aU es),some (bc rs),some (cmD rows),some (.str len)])=_;unfold xS;simp only [br,vL,cu,aQ,aY,az,aF,Rs.aj,k1,k2,k3,k4,aH,cB,bU]
 ·exfalso;apply hne;unfold dg;rw [if_neg hx]
end RS
namespace L2
open PySem PySem.Spec PyProof.Rows
end L2
namespace RS
open PySem L2
theorem xv:∀ a b:List Int,PyData.eqvAll (a.map PyData.int) (b.map PyData.int)=decide (a=b)
 | [],[]=>by simp [PyData.eqvAll]
 | [],_::_=>by simp [PyData.eqvAll]
 | _::_,[]=>by simp [PyData.eqvAll]
 | x::a,y::b=>by
  have h:(x==y)=decide (x=y):=by by_cases z:x=y <;> simp [z]
  simp [PyData.eqvAll,PyData.eqv,xv a b,h]
theorem FH (a b:List Int):dNe (.list (a.map PyData.int)) (.list (b.map PyData.int))=some (.bool (!decide (a=b))):=by unfold dNe;rw [fZ (me a),fZ (me b),shaped_ints,shaped_ints];simp [PyData.eqv,xv]
def hvS (every late m:Int) (row:List Int):Int:=row.foldl (fun m c=>(if c-late>m then c-late else m)+every) m
theorem Ar (every late:Int):∀ (row:List Int) (m c:Int),hvM every late m row=true->¬ c<(if c-late>hvS every late m row then c-late else hvS every late m row)->hvM every late m (row++[c])=true
 | [],m,c,_,h=>by show (if c<(if c-late>m then c-late else m) then false else true)=true;exact if_neg h
 | a::r,m,c,h1,h=>by
  rw [Lk];unfold hvM at h1 ⊢;by_cases z:a<(if a-late>m then a-late else m)
  ·rw [if_pos z] at h1;cases h1
  ·rw [if_neg z] at h1 ⊢;exact Ar every late r _ c h1 h
structure CrI (every late span:Int) (made:List Int) (moment:Int):Prop where
 lo:-late<=moment
 hv:hvM every late (0-late) made=true
 ea:hvS every late (0-late) made<=moment
 la:∀ c,made.getLast?=some c->c+1<=moment+late
 c0:∀ c∈made,0<=c
 c1:∀ c∈made,c<span
theorem Fs {every late span moment moment' c:Int} {made:List Int} (h:CrI every late span made moment) (hs:moment+late<span) (h0:0<=c) (h1:moment<=c) (h2:c<=moment+late) (he:1<=every) (hl:0<=late) (hx:moment+every<=moment'):CrI every late span (made++[c]) moment':=by
 have hea:=h.ea;have hlo:=h.lo;refine ⟨by omega,Ar every late made _ c h.hv (by split <;> omega),?_,fun d hd=>?_,fun d hd=>?_,fun d hd=>?_⟩
 ·unfold hvS at hea ⊢;rw [List.foldl_append];show (if c-late>List.foldl _ _ made then c-late else List.foldl _ _ made)+every<=moment';split <;> omega
 ·rw [List.getLast?_concat] at hd;cases hd;omega
 ·rcases Lg.mp hd with hd | hd
  ·exact h.c0 d hd
  ·rw [KW.mp hd];exact h0
 ·rcases Lg.mp hd with hd | hd
  ·exact h.c1 d hd
  ·rw [KW.mp hd];omega
theorem DK {every late span:Int} {moment:Int} (h:-late<=moment):CrI every late span [] moment:=⟨h,rfl,by show 0-late<=moment;omega,fun c hc=>(by cases hc),fun c hc=>(by cases hc),fun c hc=>(by cases hc)⟩
theorem uP {every late:Int} (hl:late<every) (h0:0<=late):∀ (row:List Int) (m:Int),hvM every late m row=true->(∀ c∈row,m<=c)/\row.Pairwise (· < ·)
 | [],_,_=>⟨fun c hc=>(by cases hc),List.Pairwise.nil⟩
 | a::r,m,h=>by
  unfold hvM at h;by_cases z:a<(if a-late>m then a-late else m)
  ·rw [if_pos z] at h;cases h
  ·rw [if_neg z] at h;obtain ⟨h1,h2⟩:=uP hl h0 r _ h;have hm:m<=a:=by split at z <;> omega
   have hlt:∀ c∈r,a<c:=fun c hc=>by have:=h1 c hc;split at this <;> omega
   refine ⟨fun c hc=>?_,Mb.mpr ⟨hlt,h2⟩⟩;rcases K6.mp hc with e | hc
   ·rw [e];exact hm
   ·have:=hlt c hc;omega
theorem FL {i:Nat} {g:Ds->Rs PyData} {δ:Ds} {d:PyData} (hi:i<δ.length) (hg:g δ=.ok d) (hn:fQ d=true):si i g δ=.nx (δ.set i (some d)):=by unfold si;rw [if_pos hi,hg,aH,if_pos hn]
theorem JK (k:Int):eM (.int 104729) (.int k)=some (.int (104729*k)):=rS (by decide) (by decide)
theorem IV (k:Int):eM (.int 7919) (.int k)=some (.int (7919*k)):=rS (by decide) (by decide)
theorem JL (a:Int):eM (.int a) (.int 48271)=some (.int (a*48271)):=zc (by decide) (by decide)
theorem IU (a:Int):fi (.int a) (.int 2147483647)=some (.int (a % 2147483647)):=by rw [ua,if_pos (by decide)]
theorem Jc {a k:Int} (h0:0<=k) (h1:k<=60):eM (.int a) (.int k)=some (.int (a*k)):=zc (by omega) (by omega)
theorem En {δ:Ds} {seed k:Int} (h4:af 4 δ=.ok (.int seed)) (h7:af 7 δ=.ok (.int k)) (h0:0<=k) (h1:k<=60) :
  ∃ dr:Int,g2 fi (g2 eM (g2 bo (g2 bo (af 4) (g2 eM (g2 eM (gC (.int 104729)) (af 7)) (af 7))) (g2 eM (gC (.int 7919)) (af 7))) (gC (.int 48271))) (gC (.int 2147483647)) δ=.ok (.int dr):=by
 generalize hA:(seed+104729*k*k+7919*k)*48271 % 2147483647=A;refine ⟨A,?_⟩;rw [cw,cw,cw,cw,cw,cw,cw];rw [h4,h7];simp only [dP,Rs.aj,JK,Jc h0 h1,IV,JL,IU,fA,Rs.ar,hA]
def crC:Ds->Rs Bool:=(Bd (gT (g2 dLt (g2 bo (af 5) (g2 dIx (af 2) (gC (.int 2)))) (af 3))) (gT (g2 dLt (gF cZ (ae (af 6) ao)) (gC (.int 60)))))
def crB:Ds->Sr:=(aK (aW [6] 8 (g2 fi (g2 eM (g2 bo (g2 bo (af 4) (g2 eM (g2 eM (gC (.int 104729)) (af 7)) (af 7))) (g2 eM (gC (.int 7919)) (af 7))) (gC (.int 48271))) (gC (.int 2147483647))))
 (aK (aW [6] 9 (gF jv (ae (gC (.int 0)) (ae (g2 bo (af 5) (g2 fi (g2 gB (af 8) (gC (.int 7))) (g2 bo (g2 dIx (af 2) (gC (.int 2))) (gC (.int 1))))) ao))))
 (aK (sIf (gT (g2 dNe (af 6) (gQ ao))) (si 9 (gF jv (ae (af 9) (ae (g2 bo (g2 dIx (af 6) (g1 qi (gC (.int 1)))) (gC (.int 1))) ao)))) bO)
 (aK (md [6] 6 (af 9))
 (aK (aW [6] 5 (g2 bo (af 5) (g2 dIx (af 2) (gC (.int 0)))))
 (aK (sIf (gT (g2 dEq (g2 fi (g2 gB (af 8) (gC (.int 61))) (gC (.int 3))) (gC (.int 0)))) (aW [6] 5 (g2 bo (af 5) (g2 fi (g2 gB (af 8) (gC (.int 997))) (g2 dIx (af 2) (gC (.int 0)))))) bO)
 (aW [6] 7 (g2 bo (af 7) (gC (.int 1))))))))))
section
variable {e:Er} {S A:PyData} {span seed moment:Int} {made:List Int}
def crD (e:Er) (S A:PyData) (span seed moment:Int) (made:List Int) (k:Int) (x8 x9:Option PyData):Ds:=[some S,some A,some e.d,some (.int span),some (.int seed),some (.int moment),some (.list (made.map PyData.int)),some (.int k),x8,x9]
theorem JP (e:Er):dIx e.d (.int 0)=some (.int e.every):=rfl
theorem HX (e:Er):dIx e.d (.int 2)=some (.int e.late):=rfl
theorem Ax {k:Int} {x8 x9:Option PyData}:crC (crD e S A span seed moment made k x8 x9)=.ok (decide (moment+e.late<span)&&decide (made.length<60)):=by
 have hl:decide (((made.map PyData.int).length:Int)<60)=decide (made.length<60):=by rw [K5];exact decide_eq_decide.mpr (by omega)
 unfold crC crD;simp only [Aa,eN,cw,gW,aQ,aY,az,aF,dP,Rs.aj,HX,fA,G9,l5,Rs.ar,bH,hl];cases decide (moment+e.late<span) <;> simp
theorem E6 (ok:e.Ok) (h:CrI e.every e.late span made moment) (hs:moment+e.late<span) (hm:made.length<60) (x8 x9:Option PyData) :
  ∃ c moment' y8 y9,crB (crD e S A span seed moment made (made.length:Int) x8 x9)=.nx (crD e S A span seed moment' (made++[c]) ((made++[c]).length:Int) y8 y9)/\CrI e.every e.late span (made++[c]) moment':=by
 have e1:=ok.e1;have e2:=ok.e2;have l1:=ok.l1;have l2:=ok.l2;have hlo:=h.lo;obtain ⟨dr,hdr⟩:=En (δ:=mask [6] (crD e S A span seed moment made (made.length:Int) x8 x9)) (seed:=seed) (k:=(made.length:Int)) rfl rfl (by omega) (by omega);have s8:aW [6] 8 (g2 fi (g2 eM (g2 bo (g2 bo (af 4) (g2 eM (g2 eM (gC (.int 104729)) (af 7)) (af 7))) (g2 eM (gC (.int 7919)) (af 7))) (gC (.int 48271))) (gC (.int 2147483647))) (crD e S A span seed moment made (made.length:Int) x8 x9)=.nx (crD e S A span seed moment made (made.length:Int) (some (.int dr)) x9):=c7 (by decide:8<10) hdr
 -- the first reckoning of the coming
 have hq:0<=dr / 7 % (e.late+1)/\dr / 7 % (e.late+1)<e.late+1:=⟨LN _ (by omega),LU _ (by omega)⟩
 have v7:gB (.int dr) (.int 7)=some (.int (dr / 7)):=by rw [uo,if_pos (by decide)]
 have v1:fi (.int (dr / 7)) (.int (e.late+1))=some (.int (dr / 7 % (e.late+1))):=by rw [ua,if_pos (by omega)]
 generalize dr / 7 % (e.late+1)=q at hq v1;have s9:∃ c:Int,aW [6] 9 (gF jv (ae (gC (.int 0)) (ae (g2 bo (af 5) (g2 fi (g2 gB (af 8) (gC (.int 7))) (g2 bo (g2 dIx (af 2) (gC (.int 2))) (gC (.int 1))))) ao))) (crD e S A span seed moment made (made.length:Int) (some (.int dr)) x9)=.nx (crD e S A span seed moment made (made.length:Int) (some (.int dr)) (some (.int c)))/\0<=c/\moment<=c/\c<=moment+e.late:=by refine ⟨if moment+q>0 then moment+q else 0,?_,by split <;> omega,by split <;> omega,by split <;> omega⟩;refine c7 (by decide:9<10) ?_;show gF jv _ [some S,some A,some e.d,some (.int span),some (.int seed),some (.int moment),none,some (.int (made.length:Int)),some (.int dr),x9]=_;simp only [gW,aQ,aY,cw,az,aF,dP,Rs.aj,HX,v7,fA,v1,Rs.ar,Ey]
 obtain ⟨c,s9,c0,c1,c2⟩:=s9
 -- behind the one ahead
 have s9c:∃ c':Int,sIf (gT (g2 dNe (af 6) (gQ ao))) (si 9 (gF jv (ae (af 9) (ae (g2 bo (g2 dIx (af 6) (g1 qi (gC (.int 1)))) (gC (.int 1))) ao)))) bO (crD e S A span seed moment made (made.length:Int) (some (.int dr)) (some (.int c)))=.nx (crD e S A span seed moment made (made.length:Int) (some (.int dr)) (some (.int c')))/\0<=c'/\moment<=c'/\c'<=moment+e.late:=by
  have hne:dNe (.list (made.map PyData.int)) (.list [])=some (.bool (!decide (made=[]))):=FH made [];unfold crD;rw [dA];simp only [eN,cw,az,aF,vA,aY,Rs.aj,hne,Rs.ar,bH,aH];cases hk:made.getLast? with
  | none =>have hz:made=[]:=List.getLast?_eq_none_iff.mp hk;rw [hz];exact ⟨c,rfl,c0,c1,c2⟩
  | some l =>
   have hz:made≠[]:=fun z=>by rw [z] at hk;cases hk
   have hla:=h.la l hk;have hix:dIx (.list (made.map PyData.int)) (.int (-1))=some (.int l):=by rw [D6,n9,List.getLast?_map,hk];rfl
   rw [decide_eq_false hz];simp only [MG,if_true];refine ⟨if l+1>c then l+1 else c,?_,by split <;> omega,by split <;> omega,by split <;> omega⟩;refine FL (by decide:9<10) ?_ rfl;simp only [gW,aQ,aY,cw,gr,az,aF,dP,GU,Rs.aj,hix,fA,Rs.ar,Ey]
 obtain ⟨c',s9c,c0',c1',c2'⟩:=s9c;have s6:md [6] 6 (af 9) (crD e S A span seed moment made (made.length:Int) (some (.int dr)) (some (.int c')))=.nx (crD e S A span seed moment (made++[c']) (made.length:Int) (some (.int dr)) (some (.int c'))):=by show (if (made.map PyData.int).length<1000000 then Sr.nx _ else Sr.no)=_;rw [if_pos (by rw [K5];omega)];unfold crD;rw [LG];rfl
 have s5:aW [6] 5 (g2 bo (af 5) (g2 dIx (af 2) (gC (.int 0)))) (crD e S A span seed moment (made++[c']) (made.length:Int) (some (.int dr)) (some (.int c')))=.nx (crD e S A span seed (moment+e.every) (made++[c']) (made.length:Int) (some (.int dr)) (some (.int c'))):=c7 (by decide:5<10) rfl;have s5b:∃ m',sIf (gT (g2 dEq (g2 fi (g2 gB (af 8) (gC (.int 61))) (gC (.int 3))) (gC (.int 0)))) (aW [6] 5 (g2 bo (af 5) (g2 fi (g2 gB (af 8) (gC (.int 997))) (g2 dIx (af 2) (gC (.int 0)))))) bO (crD e S A span seed (moment+e.every) (made++[c']) (made.length:Int) (some (.int dr)) (some (.int c')))=.nx (crD e S A span seed m' (made++[c']) (made.length:Int) (some (.int dr)) (some (.int c')))/\moment+e.every<=m':=by
  have v61:gB (.int dr) (.int 61)=some (.int (dr / 61)):=by rw [uo,if_pos (by decide)]
  have v3:fi (.int (dr / 61)) (.int 3)=some (.int (dr / 61 % 3)):=by rw [ua,if_pos (by decide)]
  have v997:gB (.int dr) (.int 997)=some (.int (dr / 997)):=by rw [uo,if_pos (by decide)]
  have ve:fi (.int (dr / 997)) (.int e.every)=some (.int (dr / 997 % e.every)):=by rw [ua,if_pos (by omega)]
  have hx:0<=dr / 997 % e.every:=LN _ (by omega);have hc:gT (g2 dEq (g2 fi (g2 gB (af 8) (gC (.int 61))) (gC (.int 3))) (gC (.int 0))) (crD e S A span seed (moment+e.every) (made++[c']) (made.length:Int) (some (.int dr)) (some (.int c')))=.ok (dr / 61 % 3==0):=by unfold crD;simp only [eN,cw,az,aF,dP,Rs.aj,v61,v3,Rs.ar,kD,bH]
  rw [dA,hc,aH];cases (dr / 61 % 3==0) with
  | false=>exact ⟨_,rfl,LD _⟩
  | true =>rw [if_pos rfl];refine ⟨moment+e.every+dr / 997 % e.every,c7 (by decide:5<10) ?_,by omega⟩;show g2 bo _ _ [some S,some A,some e.d,some (.int span),some (.int seed),some (.int (moment+e.every)),none,some (.int (made.length:Int)),some (.int dr),some (.int c')]=_;simp only [cw,az,aF,dP,Rs.aj,JP,v997,ve,fA,Rs.ar]
 obtain ⟨m',s5b,hm'⟩:=s5b;have s7:aW [6] 7 (g2 bo (af 7) (gC (.int 1))) (crD e S A span seed m' (made++[c']) (made.length:Int) (some (.int dr)) (some (.int c')))=.nx (crD e S A span seed m' (made++[c']) ((made++[c']).length:Int) (some (.int dr)) (some (.int c'))):=by
  have hl:((made++[c']).length:Int)=(made.length:Int)+1:=by rw [KU,Lc];omega
  rw [hl];exact c7 (by decide:7<10) rfl
 refine ⟨c',m',some (.int dr),some (.int c'),?_,Fs h hs c0' c1' c2' (by omega) l1 hm'⟩;unfold crB;rw [br,s8];simp only;rw [br,s9];simp only;rw [br,s9c];simp only;rw [br,s6];simp only;rw [br,s5];simp only;rw [br,s5b];simp only;rw [s7]
end
theorem sZ {c:Ds->Rs Bool} {b:Ds->Sr} {I:Nat->Ds->Prop} {J:Ds->Prop} (h:∀ k δ,I k δ->(c δ=.ok false/\J δ)\/(c δ=.ok true/\∃ k',k' < k/\∃ δ',b δ=.nx δ'/\I k' δ')):∀ (n k:Nat) (δ:Ds),I k δ->k<n->∃ δ',cg c b n δ=.nx δ'/\J δ'
 | 0,_,_,_,hn=>by cases hn
 | n+1,k,δ,i,hn=>by
  unfold cg;rcases h k δ i with ⟨e,j⟩ | ⟨e,k',hk,δ',e2,i'⟩
  ·rw [e,aH,if_neg L9];exact ⟨δ,rfl,j⟩
  ·rw [e,aH,if_pos rfl,e2];exact sZ h n k' δ' i' (L1 hk (Nat.le_of_lt_succ hn))
section
variable {e:Er} {S A:PyData} {span seed moment:Int} {made:List Int}
theorem E7 (ok:e.Ok) (h:CrI e.every e.late span made moment) (hl:made.length<=60) {n:Nat} (hn:60<n) (x8 x9:Option PyData) :
  ∃ made' moment' y8 y9,cg crC crB n (crD e S A span seed moment made (made.length:Int) x8 x9)=.nx (crD e S A span seed moment' made' (made'.length:Int) y8 y9)/\CrI e.every e.late span made' moment'/\made'.length<=60:=by
 obtain ⟨δ',e1,made',moment',y8,y9,rfl,h1,h2⟩:=sZ (c:=crC) (b:=crB) (I:=fun k δ=>∃ made moment x8 x9,δ=crD e S A span seed moment made (made.length:Int) x8 x9/\CrI e.every e.late span made moment/\made.length<=60/\k=60-made.length)
  (J:=fun δ=>∃ made' moment' y8 y9,δ=crD e S A span seed moment' made' (made'.length:Int) y8 y9/\CrI e.every e.late span made' moment'/\made'.length<=60) (fun k δ pz2=>by
   obtain ⟨made,moment,x8,x9,hd,h,hl,hk⟩:=pz2;subst hd;by_cases z:moment+e.late<span/\made.length<60
   ·right;refine ⟨by rw [Ax,decide_eq_true z.1,decide_eq_true z.2];rfl,?_⟩;obtain ⟨c,m',y8,y9,eb,h'⟩:=E6 (S:=S) (A:=A) (seed:=seed) ok h z.1 z.2 x8 x9;have hl2:(made++[c]).length=made.length+1:=by rw [KU,Lc]
    exact ⟨60-(made++[c]).length,by omega,_,eb,made++[c],m',y8,y9,rfl,h',by omega,rfl⟩
   ·left;refine ⟨?_,made,moment,x8,x9,rfl,h,hl⟩;rw [Ax];refine congrArg Rs.ok (Bool.eq_false_iff.mpr ?_);rw [Ne,K9,decide_eq_true_eq,decide_eq_true_eq];exact z) n (60-made.length) _ ⟨made,moment,x8,x9,rfl,h,hl,rfl⟩ (by omega)
 exact ⟨made',moment',y8,y9,e1,h1,h2⟩
end
def bf (cs:Cs):Gf:=gfG 4 6 (c9 cs ak)
theorem pB (cs:Cs):∀ ds,ds.length=4->bf cs ds≠.no->bu (c9 cs ak (ds.map some++List.replicate 6 none))=bf cs ds:=iY
theorem tG {cs:Cs} {e:Er} (ok:e.Ok) {ns:List Int} {a span:Int} (ha:0<=a) (hs:span<=10000):∃ row,bf cs [au ns,.int a,e.d,.int span]=.ok (dw row)/\pW row/\hvE e row=true:=by
 have e1:=ok.e1;have e2:=ok.e2;have hpw:Ci (.int 10) (.int 9)=some (.int 1000000000):=rfl;have hmx:=cT (ns:=ns) (k:=a) (many:=1000000000) ha (by decide);have hv2:fi (.int (mixed ns a 1000000000)) (.int (e.every+2))=some (.int (mixed ns a 1000000000 % (e.every+2))):=by rw [ua,if_pos (by omega)]
 have hm0:0<=mixed ns a 1000000000 % (e.every+2):=LN _ (by omega);generalize mixed ns a 1000000000=seed at *;generalize seed % (e.every+2)=m0 at *;obtain ⟨row,m',y8,y9,ew,hc,hl⟩:=E7 (e:=e) (S:=au ns) (A:=.int a) (span:=span) (seed:=seed) (made:=[]) (moment:=m0-e.late) ok (DK (by omega)) (by decide) (n:=1000000) (by decide) none none;refine ⟨row,?_,⟨hl,hc.c0,fun c hcm=>by have:=hc.c1 c hcm;omega⟩,hc.hv⟩;have s4:aW [6] 4 (ay ak (ae (af 0) (ae (af 1) (ae (g2 Ci (gC (.int 10)) (gC (.int 9))) ao)))) [some (au ns),some (.int a),some e.d,some (.int span),none,none,none,none,none,none]=.nx [some (au ns),some (.int a),some e.d,some (.int span),some (.int seed),none,none,none,none,none]:=by refine c7 (by decide:4<10) ?_;show ay ak _ [some (au ns),some (.int a),some e.d,some (.int span),none,none,none,none,none,none]=_;simp only [cu,aQ,aY,cw,az,aF,dP,Rs.aj,hpw,Rs.ar,hmx]
 have s5:aW [6] 5 (g2 iP (g2 fi (af 4) (g2 bo (g2 dIx (af 2) (gC (.int 0))) (gC (.int 2)))) (g2 dIx (af 2) (gC (.int 2)))) [some (au ns),some (.int a),some e.d,some (.int span),some (.int seed),none,none,none,none,none]=.nx [some (au ns),some (.int a),some e.d,some (.int span),some (.int seed),some (.int (m0-e.late)),none,none,none,none]:=by refine c7 (by decide:5<10) ?_;show g2 iP _ _ [some (au ns),some (.int a),some e.d,some (.int span),some (.int seed),none,none,none,none,none]=_;simp only [cw,az,aF,dP,Rs.aj,JP,HX,fA,hv2,xD,Rs.ar]
 have s6:lI [6] 6 ao [some (au ns),some (.int a),some e.d,some (.int span),some (.int seed),some (.int (m0-e.late)),none,none,none,none]=.nx [some (au ns),some (.int a),some e.d,some (.int span),some (.int seed),some (.int (m0-e.late)),some (.list []),none,none,none]:=rfl;have s7:aW [6] 7 (gC (.int 0)) [some (au ns),some (.int a),some e.d,some (.int span),some (.int seed),some (.int (m0-e.late)),some (.list []),none,none,none]=.nx (crD e (au ns) (.int a) span seed (m0-e.late) [] (([]:List Int).length:Int) none none):=c7 (by decide:7<10) rfl;show bu (c9 cs ak [some (au ns),some (.int a),some e.d,some (.int span),none,none,none,none,none,none])=_;have hG:c9 cs ak=aK (aW [6] 4 (ay ak (ae (af 0) (ae (af 1) (ae (g2 Ci (gC (.int 10)) (gC (.int 9))) ao)))))
  (aK (aW [6] 5 (g2 iP (g2 fi (af 4) (g2 bo (g2 dIx (af 2) (gC (.int 0))) (gC (.int 2)))) (g2 dIx (af 2) (gC (.int 2)))))
  (aK (lI [6] 6 ao) (aK (aW [6] 7 (gC (.int 0))) (aK (fun δ=>cg crC crB 1000000 δ) (bR (af 6)))))):=rfl
 rw [hG];rw [br,s4];simp only;rw [br,s5];simp only;rw [br,s6];simp only;rw [br,s7];simp only;rw [br,ew];rfl
def bI (cs:Cs):Gf:=gfG 4 0 (eu cs (bf cs))
theorem tN (cs:Cs):∀ ds,ds.length=4->bI cs ds≠.no->bu (eu cs (bf cs) (ds.map some++List.replicate 0 none))=bI cs ds:=iY
theorem D8:∀ {es:List Er} {rows:List (List Int)},rows.length=es.length->(∀ (i:Nat) (h:i<es.length) (h':i<rows.length),pW rows[i]/\hvE es[i] rows[i]=true)->Cms es rows
 | [],[],_,_=>.nil
 | [],_::_,h,_=>by cases h
 | _::_,[],h,_=>by cases h
 | e::es,r::rows,h,k=>by have k0:=k 0 (Nat.succ_pos _) (Nat.succ_pos _);refine .cons k0.1 k0.2 (D8 (by simpa using h) fun i h1 h2=>?_);exact k (i+1) (Nat.succ_lt_succ h1) (Nat.succ_lt_succ h2)
theorem Iv {es:List Er} (l6:es.length<=6) {x0 x1:Option PyData} {r:Ds}:jm (ae (gF cZ (ae (af 2) ao)) ao) (x0::x1::some (aU es)::r)=.ok (b8 0 es.length):=by
 have hr:=m9 (j:=(es.length:Int)) (by omega) (by omega);rw [Ll] at hr;have hv:(ae (gF cZ (ae (af 2) ao)) ao) (x0::x1::some (aU es)::r)=.ok [.int (es.length:Int)]:=by simp only [aQ,aY,gW,az,aF,Rs.aj,JI,Rs.ar]
 rw [mR,hv,Rs.aj,hr]
theorem yE {cs:Cs} {es:List Er} (h:zY es) {ns:List Int} {a span:Int} (ha:0<=a) (hs:span<=10000):∃ rows,bI cs [au ns,.int a,aU es,.int span]=.ok (cmD rows)/\Cms es rows:=by
 have hx:∀ i:Nat,∃ row,i<es.length->bf cs [au ns,.int (a+(i:Int)),(jx es (i:Int)).d,.int span]=.ok (dw row)/\pW row/\hvE (jx es (i:Int)) row=true:=fun i=>by
  by_cases z:i<es.length
  ·obtain ⟨row,h1⟩:=tG (cs:=cs) (h.ok _ (mK (n:=(i:Int)) (by omega) (by omega))) (ns:=ns) (a:=a+(i:Int)) (span:=span) (by omega) hs;exact ⟨row,fun _=>h1⟩
  ·exact ⟨[],fun y=>(z y).elim⟩
 obtain ⟨F,hF⟩:=Classical.axiomOfChoice hx;have l6:=h.l6;refine ⟨(List.range es.length).map F,?_,D8 (by simp) fun i h1 h2=>?_⟩
 ·have hg:bM 4 (jm (ae (gF cZ (ae (af 2) ao)) ao)) bF (ay (bf cs) (ae (af 0) (ae (g2 bo (af 1) (af 4)) (ae (g2 dIx (af 2) (af 4)) (ae (af 3) ao))))) aT [some (au ns),some (.int a),some (aU es),some (.int span)]=.ok ((b8 0 es.length).map fun d=>dw (F (deI d).toNat)):=by
   refine cQ rfl ?_ (by rw [dR];omega) fun d hd=>?_
   ·exact Iv l6
   ·obtain ⟨k,hk,rfl⟩:=KS.mp hd;have hk':=LQ.mp hk;have hn:(0:Int)+(k:Int)=(k:Int):=by omega
    have hd2:(deI (.int (k:Int))).toNat=k:=Ll k;have a2:dIx (aU es) (.int (k:Int))=some (jx es (k:Int)).d:=vC (by omega) (by omega);rw [hn,hd2];simp only [Lk,Ln,cu,aQ,aY,cw,az,aF,Rs.aj,fA,a2,Rs.ar,(hF k hk').1]
  show bu (eu cs (bf cs) [some (au ns),some (.int a),some (aU es),some (.int span)])=_;unfold eu;simp only [cB,og,hg,Rs.aj,aH,bU];unfold cmD b8;rw [L3,L3];refine congrArg (fun l=>Rs.ok (PyData.list l)) (L8 fun k hk=>?_);show dw (F (deI (.int (0+(k:Int)))).toNat)=dw (F k);rw [show (0:Int)+(k:Int)=(k:Int) by omega,show (deI (.int (k:Int))).toNat=k from Ll k]
 ·have e:=nE (es:=es) (n:=(i:Int)) (by omega) (by omega);rw [Ll,K3 h1] at e;have e':es[i]=jx es (i:Int):=Option.some.inj e;have:=(hF i h1).2;rw [Mj,List.getElem_range,e'];exact this
theorem Eh {α:Type} {xs:List α} {k:Nat} {v:α} (h:xs[k]?=some v):atI xs (k:Int)=some v:=vt (Ma k) (by rw [Ll];exact h)
section
variable {js:List Jb} {S E R D:PyData} {i:Nat}
theorem Hr {a b:Int} (h0:0<=b) (h1:b<=1000):eM (.int a) (.int b)=some (.int (a*b)):=zc (by omega) (by omega)
theorem jz {f:PyData->PyData->Option PyData} {a b:Ds->Rs PyData} {δ:Ds} {x y z:PyData} (ha:a δ=.ok x) (hb:b δ=.ok y) (hf:f x y=some z):g2 f a b δ=.ok z:=by rw [cw,ha,Rs.aj,hb,Rs.aj,hf];rfl
end
theorem uv {tgt:PyData->Ds->Option Ds} {body:Ds->Sr} {d:PyData} {r:List PyData} {δ δ1 δ2:Ds} (h1:tgt d δ=some δ1) (h2:body δ1=.nx δ2):forL tgt body (d::r) δ=forL tgt body r δ2:=by rw [forL,h1];simp only [h2]
theorem fI {f:Gf} {a:Ds->Rs (List PyData)} {δ:Ds} {ds:List PyData} {d:PyData} (ha:a δ=.ok ds) (hf:f ds=.ok d):ay f a δ=.ok d:=by rw [cu,ha,Rs.aj,hf]
theorem dY {a b:Ds->Sr} {δ δ':Ds} (h:a δ=.nx δ'):aK a b δ=b δ':=by rw [br,h]
theorem CV {O:List Nat} {src:Ds->Rs (List PyData)} {tgt:PyData->Ds->Option Ds} {body:Ds->Sr} {δ:Ds} {ds:List PyData} (h:src (mask O δ)=.ok ds):ju O src tgt body δ=forL tgt body ds δ:=by rw [vn,h,aH]
theorem Cms.sorted {es:List Er} {rows:List (List Int)} (h:Cms es rows) (ok:∀ e∈es,e.Ok):∀ r∈rows,r.Pairwise (· < ·):=by
 induction h with
 | nil=>intro r hr;cases hr
 | cons hr hv _ ih =>
  intro r' h';rcases K6.mp h' with rfl | h'
  ·have o:=ok _ K4;exact (uP o.l3 o.l1 _ _ hv).2
  ·exact ih (fun e he=>ok e (K0 _ he)) r' h'
section
variable {es:List Er} {rs:List Int} {rows:List (List Int)} {len:Str}
theorem Dh {i:Nat} (h:i<es.length):jx es (i:Int)=es[i]:=by have e:=nE (es:=es) (n:=(i:Int)) (by omega) (by omega);rw [Ll,K3 h] at e;exact (Option.some.inj e).symm
theorem xi {i:Nat} (h:i<(startJ es rs rows).length):∃ row,(startJ es rs rows)[i]=mkJ es rs i row:=by
 have e:=n8 (es:=es) (rs:=rs) (rows:=rows) i;rw [K3 h] at e;cases q:rows[i]? with
 | none=>rw [q] at e;cases e
 | some row=>rw [q] at e;exact ⟨row,Option.some.inj e⟩
theorem p6 (hl:rows.length=es.length):(startJ es rs rows).map Jb.work=es.map fun e=>dO e.parts :=
 Mw (by rw [K5,K5,gh,hl]) (fun i h1 h2=>by
  have hi:i<es.length:=by rwa [K5] at h2
  have h3:i<(startJ es rs rows).length:=by rwa [K5] at h1
  obtain ⟨row,e⟩:=xi h3;rw [Mj,Mj,<-Dh hi,e];rfl)
theorem sN (hl:rows.length=es.length):(startJ es rs rows).map Jb.tot=es.map fun _=>0 :=
 Mw (by rw [K5,K5,gh,hl]) (fun i h1 h2=>by
  have h3:i<(startJ es rs rows).length:=by rwa [K5] at h1
  obtain ⟨row,e⟩:=xi h3;rw [Mj,Mj,e];exact ph i _)
theorem xo (R:Ran es rs rows len) (C:Cms es rows):IvJ (cn es rs) ((([]:List PyData).length:Nat):Int) (startJ es rs rows):=by
 refine ⟨nC R.eok R.rok R.ln,fun j hj=>?_,fun j hj=>?_⟩
 ·obtain ⟨k,row,_,hm,_,rfl⟩:=ir hj;exact C.sorted R.eok.ok row hm
 ·have hw:=tq ((nC R.eok R.rok R.ln).ok j hj);obtain ⟨k,row,_,hm,_,rfl⟩:=ir hj;unfold eJ;rw [ph];have:=Int.mul_nonneg (Ma (eY (mkJ es rs k row).row ((([]:List PyData).length:Nat):Int))) (show 0<=(mkJ es rs k row).work by omega);omega
end
theorem F7:PySem.SeqAt.shaped (.str "none")=true:=by decide +kernel
theorem Fp (ns:List Int):∃ len,dIx (.list [.str "high",.str "asked",.str "none"]) (.int (mixed ns 10 3))=some (.str len)/\rC len:=by
 have h0:=dj ns 10 (many:=3) (by decide);have h1:=dG ns 10 (many:=3) (by decide);generalize mixed ns 10 3=m at *;have:m=0\/m=1\/m=2:=by omega
 rcases this with rfl | rfl | rfl
 ·exact ⟨"high",rfl,⟨AS⟩⟩
 ·exact ⟨"asked",rfl,⟨wM⟩⟩
 ·exact ⟨"none",rfl,⟨F7⟩⟩
structure Er.Wk (e:Er):Prop where
 sh:e.Sh
 e2:e.every<=60
 l1:0<=e.late
 p2:e.parts.length<=4
 pl:∀ p∈e.parts,1<=p.1/\p.1<=1000000
 p1:e.parts≠[]
theorem Er.Ok.wk {e:Er} (h:e.Ok):e.Wk:=⟨h.sh,h.e2,h.l1,h.p2,fun p hp=>by have:=h.pl p hp;exact ⟨this.1,by omega⟩,h.p1⟩
theorem Er.Wk.work1 {e:Er} (h:e.Wk):1<=e.work:=by obtain ⟨p,hp⟩:=List.exists_mem_of_ne_nil _ h.p1;have h1:=h.sh.part_le hp;have h2:=(h.pl p hp).1;omega
def jq (es:List Er) (t:Int):Int:=(es.map fun e=>e.work*((t+e.late) / e.every+1)).sum
theorem Ea {ev la:Int} (h0:0<ev) {t:Int}:∀ {row:List Int} {m:Int},hvM ev la m row=true->eY row t=0\/((eY row t:Int)-1)*ev<=t-m
 | [],m,_=>.inl rfl
 | c::r,m,h=>by
  unfold hvM at h;have hm:m<=(if c-la>m then c-la else m):=by split <;> omega
  generalize (if c-la>m then c-la else m)=mo at h hm;split at h
  ·cases h
  ·rename_i hc;rw [df];have ih:=Ea h0 (t:=t) h;by_cases hct:c<=t
   ·rw [if_pos hct];right;rcases ih with ih | ih
    ·rw [ih];show (1-1)*ev<=t-m;rw [show (1:Int)-1=0 from rfl,Int.zero_mul];omega
    ·rw [show ((1+eY r t:Nat):Int)-1=(eY r t:Int)-1+1 by omega,MH,MI];omega
   ·rw [if_neg hct,Mh];rcases ih with ih | ih
    ·exact .inl ih
    ·right;omega
theorem DO {ev la:Int} (h0:0<ev) (hl:0<=la) {u t:Int} (hut:u<t):∀ {row:List Int} {m:Int},hvM ev la m row=true->row.Pairwise (· < ·)->(eY row t:Int)-eY row u<=(t-u-1+la) / ev+1
 | [],m,_,_=>by have:=LW (a:=t-u-1+la) (b:=ev) (by omega) (by omega);show ((0:Nat):Int)-((0:Nat):Int)<=_;omega
 | c::r,m,h,hs=>by
  obtain ⟨hs1,hs2⟩:=Mb.mp hs;unfold hvM at h;have hm:c-la<=(if c-la>m then c-la else m):=by split <;> omega
  generalize (if c-la>m then c-la else m)=mo at h hm;split at h
  ·cases h
  ·rename_i hc;rw [df,df];by_cases hcu:c<=u
   ·rw [if_pos hcu,if_pos (by omega)];have ih:=DO h0 hl hut h hs2;omega
   ·rw [if_neg hcu];have z:eY r u=0:=jE fun x hx=>by have:=hs1 x hx;omega
    rw [z];have nn:=LW (a:=t-u-1+la) (b:=ev) (by omega) (by omega);by_cases hct:c<=t
    ·rw [if_pos hct];rcases Ea h0 (t:=t) h with q | q
     ·rw [q];omega
     ·have:(eY r t:Int)<=(t-u-1+la) / ev:=by refine Int.le_ediv_of_mul_le h0 ?_;rw [Int.sub_mul,MI] at q;omega
      omega
    ·rw [if_neg hct];have z2:eY r t=0:=jE fun x hx=>by have:=hs1 x hx;omega
     rw [z2];omega
def CC (ws:List Int) (rows:List (List Int)) (t:Int):Int:=((ws.zip rows).map fun x=>(eY x.2 t:Int)*x.1).sum
theorem iV (w:Int) (ws:List Int) (r:List Int) (rows:List (List Int)) (t:Int):CC (w::ws) (r::rows) t=(eY r t:Int)*w+CC ws rows t:=rfl
theorem IA {es:List Er} {rows:List (List Int)} (C:Cms es rows) {u t:Int} (hut:u<t) (ok:∀ e∈es,e.Ok) (srt:∀ r∈rows,r.Pairwise (· < ·)):CC (es.map Er.work) rows t-CC (es.map Er.work) rows u<=jq es (t-u-1):=by
 induction C with
 | nil=>exact LD _
 | @cons e r es rows h1 h2 C ih =>
  have oe:=ok e K4;have e1:=oe.e1;have ih:=ih (fun x hx=>ok x (K0 _ hx)) fun x hx=>srt x (K0 _ hx)
  have hw:=DO (by omega) oe.l1 hut h2 (srt r K4);have w1:=oe.wk.work1;have hm:=Lo hw (show 0<=e.work by omega);rw [Int.sub_mul,Int.mul_comm (_+1) e.work] at hm;rw [K1,iV,iV];show _<=e.work*((t-u-1+e.late) / e.every+1)+jq es (t-u-1);omega
theorem D7 (t:Int):∀ js:List Jb,(js.map (eJ t)).sum=CC (js.map Jb.work) (js.map (·.row)) t-(js.map Jb.tot).sum
 | []=>rfl
 | j::r=>by have ih:=D7 t r;rw [K1,K1,K1,K1,Li,Li,iV,ih];unfold eJ;omega
theorem pw {f:Jb->Int} {b:Jb}:∀ {js:List Jb},(js.map (·.num)).Nodup->b∈js->f b.next=f b+1->((fM b js).map f).sum=(js.map f).sum+1
 | [],_,hb,_=>(nomatch hb)
 | j::r,nd,hb,hf=>by
  rcases pe nd hb with ⟨rfl,e⟩ | ⟨_,hb',e⟩
  ·rw [e,K1,K1,Li,Li,hf];omega
  ·have nd':=(Lr.mp (by rw [<-K1];exact nd)).2;rw [e,K1,K1,Li,Li,pw nd' hb' hf];omega
theorem Ao {js ks:List Jb} (h:ks.map qZ=js.map qZ):ks.map Jb.work=js.map Jb.work:=by have:=congrArg (List.map fun x=>dO x.2.1) h;rw [L3,L3] at this;exact this
theorem AH {js ks:List Jb} (h:ks.map qZ=js.map qZ):ks.map (·.row)=js.map (·.row):=by have:=congrArg (List.map fun x=>x.2.2) h;rw [L3,L3] at this;exact this
def szs:Int->List PyData->List Int
 | _,[]=>[]
 | s,d::r=>(if bZ d=true then 0 else s+1)::szs (if bZ d=true then 0 else s+1) r
theorem zL {tops:PyData} {len:Str} {es:List Er} {rows:List (List Int)} {D:Int} (C:Cms es rows) (ok:∀ e∈es,e.Ok) (hD:0<=D) (hW:jq es D<=D):∀ (n:Nat) (js:List Jb) (told out:List PyData) (s:Int),tK tops len n (js,told)=some out->IvJ tops (told.length:Int) js->js.map Jb.work=es.map Er.work->js.map (·.row)=rows->(js.map Jb.tot).sum=CC (es.map Er.work) rows ((told.length:Int)-s-1)+s->0<=s->s<=D ->
  ∃ rest,out=told++rest/\(∀ d∈rest,d=.none\/∃ b,d=ib b)/\∀ x∈szs s rest,x<=D
 | 0,_,_,_,_,h,_,_,_,_,_,_=>by cases h
 | n+1,js,told,out,s,h,iv,hwk,hrw,hT,s0,s1=>by
  unfold tK at h;by_cases z:js.all Jb.done=true
  ·rw [if_pos (show (js,told).1.all Jb.done=true from z)] at h;cases h;exact ⟨[],(LL _).symm,fun d hd=>(nomatch hd),fun x hx=>(nomatch hx)⟩
  ·rw [if_neg (show ¬ ((js,told).1.all Jb.done=true) from z)] at h;have iv':=AB (len:=len) iv;have hcc:=D7 (told.length:Int) js;rw [hwk,hrw] at hcc;by_cases y:eE told js=[]
   ·rw [pJ y] at h iv';rw [mB iv y] at hcc;obtain ⟨rest,e1,e2,e3⟩:=zL C ok hD hW n js (told++[.none]) out 0 h iv' hwk hrw (by rw [KU,Lc,show (((told.length+1:Nat):Int))-0-1=(told.length:Int) by omega];omega) (LD _) hD;refine ⟨.none::rest,by rw [e1,Mf];rfl,fun d hd=>?_,fun x hx=>?_⟩
    ·rcases K6.mp hd with rfl | hd
     ·exact .inl rfl
     ·exact e2 d hd
    ·rcases K6.mp hx with rfl | hx
     ·exact hD
     ·exact e3 x hx
   ·obtain ⟨b,hb,ht,es'⟩:=lG (tops:=tops) (len:=len) y;rw [es'] at h iv';have hst:=oh iv.ok.nd hb;have hk:=iv.ok.ok b hb;have hsum:=pw (f:=Jb.tot) iv.ok.nd hb (mS hk);have hpos:1<=(js.map (eJ (told.length:Int))).sum:=by have h1:=zO (eJ (told.length:Int)) iv.low hb;have h2:=mH hk (iv.srt b hb) ht;omega
    have hw:=IA C (u:=(told.length:Int)-s-1) (t:=(told.length:Int)) (by omega) ok (by rw [<-hrw];intro r hr;obtain ⟨j,hj,rfl⟩:=KS.mp hr;exact iv.srt j hj);rw [show (told.length:Int)-((told.length:Int)-s-1)-1=s by omega] at hw;have s2:s+1<=D:=by
     by_cases q:s=D
     ·subst q;omega
     ·omega
    obtain ⟨rest,e1,e2,e3⟩:=zL C ok hD hW n (fM b js) (told++[ib b]) out (s+1) h iv' ((Ao hst).trans hwk) ((AH hst).trans hrw) (by rw [hsum,KU,Lc,show (((told.length+1:Nat):Int))-(s+1)-1=(told.length:Int)-s-1 by omega];omega) (by omega) s2;refine ⟨ib b::rest,by rw [e1,Mf];rfl,fun d hd=>?_,fun x hx=>?_⟩
    ·rcases K6.mp hd with rfl | hd
     ·exact .inr ⟨b,rfl⟩
     ·exact e2 d hd
    ·rcases K6.mp hx with rfl | hx
     ·exact s2
     ·exact e3 x hx
theorem AM {t u:Int} (h:t<=u):∀ {ws:List Int} {rows:List (List Int)},(∀ w∈ws,0<=w)->CC ws rows t<=CC ws rows u
 | [],_,_=>LD _
 | _::_,[],_=>LD _
 | w::ws,r::rows,hw=>by
  rw [iV,iV];have h1:=nO h r;have h2:=Lo (a:=(eY r t:Int)) (b:=(eY r u:Int)) (c:=w) (by omega) (hw w K4);have h3:=AM h (ws:=ws) (rows:=rows) fun x hx=>hw x (K0 _ hx)
  omega
theorem vU {t:Int}:∀ {r:List Int},(∀ c∈r,c<=t)->eY r t=r.length
 | [],_=>rfl
 | c::r,h=>by rw [df,if_pos (h c K4),vU fun x hx=>h x (K0 _ hx),L6];omega
theorem AW {D:Int}:∀ {js:List Jb},(∀ j∈js,j.tot=(eY j.row D:Int)*j.work)->(js.map Jb.tot).sum=CC (js.map Jb.work) (js.map (·.row)) D
 | [],_=>rfl
 | j::r,h=>by rw [K1,K1,K1,Li,iV,AW fun x hx=>h x (K0 _ hx),h j K4]
theorem mZ {f:Jb->Int}:∀ {js:List Jb},(∀ j∈js,0<=f j)->(js.map f).sum=0->∀ j∈js,f j=0
 | [],_,_,j,hj=>(nomatch hj)
 | k::r,h,hs,j,hj=>by
  rw [K1,Li] at hs;have h1:=h k K4;have h2:=wb f (l:=r) fun x hx=>h x (K0 _ hx)
  rcases K6.mp hj with rfl | hj
  ·omega
  ·exact mZ (fun x hx=>h x (K0 _ hx)) (by omega) j hj
theorem wZ {tops:PyData} {len:Str} {ws:List Int} {rows:List (List Int)} {D:Nat} (hw:∀ w∈ws,0<=w) (lt:∀ t:Int,0<=t->t<D->t<CC ws rows t) (hi:CC ws rows D<=D) (all:∀ r∈rows,∀ c∈r,c<=(D:Int)):∀ (n:Nat) (js:List Jb) (told out:List PyData),tK tops len n (js,told)=some out->IvJ tops (told.length:Int) js->js.map Jb.work=ws->js.map (·.row)=rows->(js.map Jb.tot).sum=(told.length:Int)->told.length<=D->(∀ d∈told,∃ b,d=ib b)->out.length=D/\∀ d∈out,∃ b,d=ib b
 | 0,_,_,_,h,_,_,_,_,_,_=>by cases h
 | n+1,js,told,out,h,iv,hwk,hrw,hT,hl,hto=>by
  unfold tK at h;have hcc:=D7 (told.length:Int) js;rw [hwk,hrw] at hcc;by_cases z:js.all Jb.done=true
  ·rw [if_pos (show (js,told).1.all Jb.done=true from z)] at h;cases h;refine ⟨?_,hto⟩;by_cases q:told.length=D
   ·exact q
   ·exfalso;have h1:=lt (told.length:Int) (by omega) (by omega);have h2:=AW (D:=(D:Int)) (js:=js) fun j hj=>by
     have hr:j.row∈rows:=by rw [<-hrw];exact KS.mpr ⟨j,hj,rfl⟩
     rw [vU (all _ hr)];exact CJ (iv.ok.ok j hj) (iv.low j hj) (L4.mp z j hj)
    rw [hwk,hrw] at h2;have h3:=AM (t:=(told.length:Int)) (u:=(D:Int)) (by omega) (rows:=rows) hw;omega
  ·rw [if_neg (show ¬ ((js,told).1.all Jb.done=true) from z)] at h;have iv':=AB (len:=len) iv;have nn:=wb (eJ (told.length:Int)) iv.low;by_cases y:eE told js=[]
   ·exfalso;rw [mB iv y] at hcc;by_cases q:told.length<D
    ·have h1:=lt (told.length:Int) (by omega) (by omega);omega
    ·have e:told.length=D:=by omega
     refine z (L4.mpr fun j hj=>?_);have h0:=mZ iv.low (mB iv y) j hj;have hr:j.row∈rows:=by rw [<-hrw];exact KS.mpr ⟨j,hj,rfl⟩
     have hk:=iv.ok.ok j hj;unfold eJ at h0;rw [vU (by rw [e];exact all _ hr)] at h0;have hd:=Gy hk;have hc:=tq hk;rw [show j.tot=(j.row.length:Int)*j.work by omega,Int.mul_ediv_cancel _ (by omega)] at hd;unfold Jb.done;rw [hd];exact beq_self_eq_true _
   ·obtain ⟨b,hb,ht,es'⟩:=lG (tops:=tops) (len:=len) y;rw [es'] at h iv';have hst:=oh iv.ok.nd hb;have hk:=iv.ok.ok b hb;have hsum:=pw (f:=Jb.tot) iv.ok.nd hb (mS hk);have hpos:1<=(js.map (eJ (told.length:Int))).sum:=by have h1:=zO (eJ (told.length:Int)) iv.low hb;have h2:=mH hk (iv.srt b hb) ht;omega
    have hlt:told.length<D:=by
     by_cases q:told.length<D
     ·exact q
     ·have e:told.length=D:=by omega
      rw [e] at hcc hT;rw [e] at hpos;omega
    refine wZ hw lt hi all n (fM b js) (told++[ib b]) out h iv' ((Ao hst).trans hwk) ((AH hst).trans hrw) (by rw [hsum,KU,Lc];omega) (by rw [KU,Lc];omega) fun d hd=>?_
    rcases Lg.mp hd with hd | hd
    ·exact hto d hd
    ·exact ⟨b,KW.mp hd⟩
end RS
set_option maxHeartbeats 4000000
namespace L2
open PySem PySem.Spec PyProof.Rows
open SeqAt (EqAt)
def Iy:V->Bool
 | .non=>true
 | _=>false
def J5:Value->Bool
 | .none=>true
 | _=>false
section
variable {X:Cx} {E:XK} {a o e:Expr} {ga go:Ds->Rs PyData} {pos:Pos} {es:List Expr} {gs:Ds->Rs (List PyData)}
def Gu:V->List V->Hp->VK->Prop:=fun x vs H Q=>∃ l xs j,x=.ref l/\vs=[.non]/\H l=some (.lst xs)/\(∀ z∈xs,z=.non\/∃ p ys,z=.ref p/\H p=some (.tup ys))/\xs.findIdx? Iy=some j/\(j:Int)<1000000/\Q (.int j) H
def Kr (to:TE) (t:TA):TE:=fun σ H Q=>to σ H fun x H1=>(∃ l xs,x=.ref l/\H1 l=some (.lst xs))/\t σ H1 fun vs H2=>Gu x vs H2 Q
theorem Bz {to:TE} {t:TA} {apos cpos:Pos} (hu:X.A.units+64<cLine) (ho:PE X o to) (ha:PA X [e] t) (hbase:attributeBase o "index" X.env (eval o X.env)=eval o X.env:=by rfl)
  (hfew:((backTo cpos (starEach [e] X.env)).all (fun x=>!x.1)&&(backToKw cpos (keywordEach [] X.env)).all (fun x=>x.1.isSome)&&decide (([e]:List Expr).length+([]:List Keyword).length+(if ([]:List Keyword).isEmpty then 0 else 1)<30))=true:=by rfl)
  (hline:(apos.endLine==cpos.line)=true:=by rfl) (hs:starEach [e] X.env=(false,eval e X.env)::starEach [] X.env:=by rfl) (hplain:(backTo cpos (starEach [] X.env)).any (·.1)=false:=by rfl) :
  PE X (.Call (.Attribute o "index" apos) [e] [] cpos) (Kr to t):=by
 intro pins s σ H Q I h;refine wpAny_Call_method_late hbase hfew hline rfl (thn (ho pins s σ H _ I h) fun v s1 rz2=>?_);obtain ⟨x,H1,I1,r1,⟨l,xs,hx,hl⟩,q1⟩:=rz2;subst hx;cases r1;obtain ⟨_,its,n,rv,_,ge⟩:=I1.lstM hl;refine ⟨"list", "list.index",PySem.F.plainAttrs_list,PySem.F.slot_list_index,PySem.F.type_list_index,⟨_,ge,rfl⟩,fun a ea=>by cases ea;exact ⟨_,ge,rfl⟩,?_⟩;have hA:=ha cpos pins s1 σ H1 _ I1 q1;rw [hs] at hA ⊢;refine Calls.callWith_builtin (by show (false || (backTo cpos (starEach [] X.env)).any (·.1))=false;rw [hplain];rfl) (Calls.evalArgs_plain ?_);refine thn hA fun us s2 rz2=>?_
 obtain ⟨vs,H2,I2,r2,q2⟩:=rz2;obtain ⟨l',xs',j,e1,e2,hl',hz,hj,hj1,q⟩:=q2;cases e1;subst e2;obtain ⟨_,its',n',rv',hlen,ge'⟩:=I2.lstM hl';obtain ⟨u,rfl,ru⟩:=vals1 r2;cases ru;obtain ⟨hjl,hjt,hjn⟩:=M3.mp hj;have at':∀ (m:Nat) (hm:m<xs'.length),J5 (its'[m]'(by omega))=Iy xs'[m]:=fun m hm=>by
  obtain ⟨w',hw,rw'⟩:=rv'.get (K3 hm);have:its'[m]'(by omega)=w':=by have h2:=K3 (show m<its'.length by omega);rw [h2] at hw;exact Option.some.inj hw
  rw [this];rcases hz _ (LC hm) with e | ⟨p,ys,e,_⟩
  ·rw [e] at rw' ⊢;cases rw';rfl
  ·rw [e] at rw' ⊢;cases rw';rfl
 refine call_meets PySem.F.slot_list_index ⟨_,ge',rfl⟩ PySem.F.entry_list_index (PySem.F.args_list_index_2 _ _) (SeqAt.list_indexAt l its'.toArray n' none #[] .none J5 j (by simp;omega) (by omega) (by simpa [at' j hjl] using hjt) (fun m hm hmj=>?_)) ⟨ge',fun z hz'=>?_,⟨.int j,H2,I2.tok _,⟨_,rfl⟩,q⟩⟩
 ·have hm':m<xs'.length:=by simp at hm;omega
  have:=hjn m hmj;simpa [at' m hm'] using this
 ·have hz2:z∈its':=by simpa using hz'
  obtain ⟨m,hm,rfl⟩:=List.getElem_of_mem hz2;have hm':m<xs'.length:=by omega
  obtain ⟨w',hw,rw'⟩:=rv'.get (K3 hm');have h2:=K3 hm;rw [h2] at hw;have hw:=Option.some.inj hw;rw [hw];rcases hz _ (LC hm') with e | ⟨p,ys,e,hp⟩
  ·rw [e] at rw';cases rw';exact EqAt.same _
  ·rw [e] at rw';cases rw';obtain ⟨_,its2,_,ob,ge2,gc2,_,n2,gq2⟩:=I2.hok p _ hp;exact EqAt.tuple_none ⟨ob,ge2,gc2,n2,gq2⟩ (by show X.A.units+1<cLine;omega)
def tnD:PyData->Bool
 | .none=>true
 | .tuple _=>true
 | _=>false
def lu (xs:List PyData) (y:PyData):Option PyData:=if bZ y&&xs.all tnD&&decide (xs.length<=1000000) then (xs.findIdx? bZ).map fun j=>.int j else none
def qU (go ga:Ds->Rs PyData):Ds->Rs PyData:=fun δ=>(go δ).bind fun d=>match d with
 | .list xs=>(ga δ).bind fun y=>Rs.eP (lu xs y)
 | _=>.no
theorem Ae {K:PySem.W.Frag} {H:Hp}:∀ {ds:List PyData} {vs:List V},ds.all tnD=true->Iss K H ds vs->(∀ z∈vs,z=.non\/∃ p ys,z=.ref p/\H p=some (.tup ys))/\vs.findIdx? Iy=ds.findIdx? bZ
 | [],_,_,h=>by rw [h.nil_of];exact ⟨fun z hz=>(nomatch hz),rfl⟩
 | d::r,_,ha,h=>by
  obtain ⟨v,vs,rfl,h1,h2⟩:=h.cons_of;rw [LY,K9] at ha;obtain ⟨i1,i2⟩:=Ae ha.2 h2;cases d with
  | none =>
   rw [h1.ofNone];refine ⟨fun z hz=>?_,?_⟩
   ·rcases K6.mp hz with rfl | hz
    ·exact .inl rfl
    ·exact i1 z hz
   ·rw [LV,LV];rfl
  | tuple ds =>
   obtain ⟨p,xs,rfl,hp,_⟩:=h1.ofTup;refine ⟨fun z hz=>?_,?_⟩
   ·rcases K6.mp hz with rfl | hz
    ·exact .inr ⟨p,xs,rfl,hp⟩
    ·exact i1 z hz
   ·rw [LV,LV,i2];rfl
  | _=>cases ha.1
theorem Bt {apos cpos:Pos} (hu:X.A.units+64<cLine) (ho:PD X E o go) (ha:PD X E e ga) (hbase:attributeBase o "index" X.env (eval o X.env)=eval o X.env:=by rfl)
  (hfew:((backTo cpos (starEach [e] X.env)).all (fun x=>!x.1)&&(backToKw cpos (keywordEach [] X.env)).all (fun x=>x.1.isSome)&&decide (([e]:List Expr).length+([]:List Keyword).length+(if ([]:List Keyword).isEmpty then 0 else 1)<30))=true:=by rfl)
  (hline:(apos.endLine==cpos.line)=true:=by rfl) (hs:starEach [e] X.env=(false,eval e X.env)::starEach [] X.env:=by rfl) (hplain:(backTo cpos (starEach [] X.env)).any (·.1)=false:=by rfl) :
  PD X E (.Call (.Attribute o "index" apos) [e] [] cpos) (qU go ga):=(Bz hu ho (eX ha gM hs) hbase hfew hline hs hplain).imp fun σ H Q pz3=>by
 obtain ⟨A,δ,R,oo⟩:=pz3;unfold qU at oo;refine eD.run R (fun d1 e1 v H1 s1 R1 h1=>?_) (fun C et H' s'=>by rw [et] at oo;exact oo H' s') (fun et=>by rw [et] at oo;exact oo);simp only [e1,Rs.aj] at oo;cases d1 with
 | list xs =>
  obtain ⟨p,vs,rfl,hp,hx⟩:=h1.ofLst;refine ⟨⟨p,vs,rfl,aI _ _ hp⟩,?_⟩;have oo:iK X.K E A H ((ga δ).bind fun y=>Rs.eP (lu xs y)) Q:=oo;refine eD.run R1 (fun d2 e2 u H2 s2 R2 h2=>?_) (fun C et H' s'=>by rw [et] at oo;exact oo H' (s1.trans s')) (fun et=>by rw [et] at oo;exact oo);simp only [e2,Rs.aj] at oo;unfold lu at oo;split at oo
  ·rename_i z;rw [K9,K9] at z;obtain ⟨⟨z1,z2⟩,z3⟩:=z;cases d2 with
   | none =>
    cases h2.ofNone;obtain ⟨f3,f4⟩:=Ae z2 hx;cases q:xs.findIdx? bZ with
    | none=>rw [q] at oo;exact oo.elim
    | some j =>rw [q] at oo;have hj:=(M3.mp q).1;have z3:=of_decide_eq_true z3;exact ⟨p,vs,j,rfl,rfl,s2 _ _ (aI _ _ hp),fun z hz=>(f3 z hz).imp id fun qz0=>(by obtain ⟨a,ys,e,h⟩:=qz0;exact ⟨a,ys,e,s2 _ _ (aI _ _ h)⟩),by rw [f4];exact q,by omega,oo _ H2 (s1.trans s2) ck⟩
   | _=>cases z1
  ·exact oo.elim
 | _=>exact oo.elim
end
end L2
namespace RS
open PySem L2
def eB (cs:Cs) (gf_work_of:Gf):Ds->Sr :=
 (bR (gF tH (ae (gL (bM 2 (cC (af 0)) bF (g2 eM (ay gf_work_of (ae (af 2) ao)) (g2 bo (g2 gB (g2 bo (af 1) (g2 dIx (af 2) (gC (.int 2)))) (g2 dIx (af 2) (gC (.int 0)))) (gC (.int 1)))) aT)) ao)))
def ip (cs:Cs) (a8 aM:Gf):Ds->Sr :=
 (aK (mM (ay aM (ae (af 0) ao)))
  (aK (aW [] 1 (gC (.int 1)))
  (aK (fun δ=>cg (gT (g2 dLe (af 1) (gC (.int 9999)))) (aK (aW [] 2 (ay a8 (ae (af 0) (ae (af 1) ao))))
  (aK (sIf (gT (g2 dLe (af 2) (af 1))) (bR (af 1)) bO)
  (aW [] 1 (af 2)))) 1000000 δ)
  (bR (gC .none)))))
def dD (cs:Cs):Ds->Sr :=
 (aK (aW [] 2 (gC (.int 0)))
  (aK (ju [] (cC (af 0)) (kO [3,4,5,6]) (aK (aW [] 7 (g2 bo (g2 gB (g2 bo (af 1) (af 5)) (af 3)) (gC (.int 1))))
  (aW [] 2 (g2 bo (af 2) (g2 eM (af 7) (gF tH (ae (gL (bM 8 (cC (af 6)) bF (g2 dIx (af 8) (gC (.int 0))) aT)) ao)))))))
  (bR (af 2))))
def eo (cs:Cs):Ds->Sr :=
 (aK (EN [] (kO [2,3,4,5]) (af 0))
  (bR (g2 bo (gQ (ae (gC (.int 0)) ao)) (gL (bM 6 (Bb (ae (g2 iP (af 2) (af 4)) (ae (g2 bo (af 1) (gC (.int 1))) (ae (af 2) ao)))) bF (af 6) aT)))))
def xl (cs:Cs) (dg bE ak bI aO cA bP bp:Gf):Ds->Sr :=
 (aK (aW [] 1 (ay bp (ae (af 0) (ae (gC (.int 12)) (ae (gC (.int 4)) (ae (gC (.int 28)) (ae (gC (.bool true)) ao)))))))
  (aK (aW [] 2 (ay bP (ae (af 0) (ae (gC (.int 0)) (ae (gF cZ (ae (af 1) ao)) ao)))))
  (aK (aW [] 3 (ay cA (ae (af 1) ao)))
  (aK (aW [] 4 (g2 dIx (g2 bo (gL (bM 10 (tj (ae (gC (.int 1)) (ae (gC (.int 401)) ao))) (gT (g2 dLe (ay aO (ae (af 1) (ae (af 10) ao))) (af 10))) (af 10) aT)) (gQ (ae (gC .none) ao))) (gC (.int 0))))
  (aK (sIf (gT (g2 dNe (af 3) (af 4))) (bR (wd (g1 gR (af 4)) (gOr (g1 gR (af 3)) (g2 dGt (af 3) (gC (.int 400)))))) bO)
  (aK (aW [] 5 (ay bI (ae (af 0) (ae (gC (.int 5)) (ae (af 1) (ae (gC (.int 80)) ao))))))
  (aK (aW [] 6 (g2 dIx (gQ (ae (gC (.str "high")) (ae (gC (.str "asked")) (ae (gC (.str "none")) ao)))) (ay ak (ae (af 0) (ae (gC (.int 10)) (ae (gC (.int 3)) ao))))))
  (aK (aW [] 7 (gC (.int 0)))
  (aK (ju [] (cC (ay dg (ae (af 1) (ae (af 2) (ae (af 5) (ae (af 6) ao)))))) (cy 8) (aK (aW [] 7 (g2 dIx (gQ (ae (g2 bo (af 7) (gC (.int 1))) (ae (gC (.int 0)) ao))) (gF vp (ae (g1 gR (af 8)) ao))))
  (sIf (Bd (gT (g1 tE (af 4))) (gT (g2 dGt (af 7) (af 4)))) (bR (gC (.bool false))) bO)))
  (aK (sIf (cOr (gT (g1 gR (af 4))) (gT (g2 dGt (af 4) (gC (.int 60))))) (bR (gC (.bool true))) bO)
  (aK (aW [] 9 (gL (bM 10 (cC (af 1)) bF (ay bE (ae (af 10) (ae (af 4) ao))) aT)))
  (bR (g2 dEq (qU (g2 bo (ay dg (ae (af 1) (ae (af 2) (ae (af 9) (ae (af 6) ao))))) (gQ (ae (gC .none) ao))) (gC .none)) (af 4))))))))))))))
end RS
set_option maxHeartbeats 1000000
namespace RS
open PySem L2
def prg (c a:Int) (n:Nat):List Int:=(List.range n).map fun (k:Nat)=>a+(k:Int)*c
theorem wO (c a:Int) (n:Nat):prg c a (n+1)=a::prg c (a+c) n:=by
 unfold prg;rw [List.range_succ_eq_map,K1,L3];have e:((fun (k:Nat)=>a+(k:Int)*c)∘Nat.succ)=fun (k:Nat)=>a+c+(k:Int)*c:=by funext k;show a+((k+1:Nat):Int)*c=_;rw [show ((k+1:Nat):Int)=(k:Int)+1 by omega,MH,MI];omega
 rw [e];show (a+(0:Int)*c)::_=_;rw [Int.zero_mul,Int.add_zero]
theorem AF {c la:Int} (h0:0<c) (hl:0<=la):∀ (n:Nat) (a m:Int),m<=a->hvM c la m (prg c a n)=true
 | 0,a,m,_=>rfl
 | n+1,a,m,h=>by
  rw [wO];unfold hvM;have hm:(if a-la>m then a-la else m)<=a:=by split <;> omega
  generalize (if a-la>m then a-la else m)=mo at hm;rw [if_neg (by omega)];exact AF h0 hl n (a+c) (mo+c) (by omega)
theorem Aw {c:Int} (h0:0<c) {t:Int}:∀ (n:Nat) (a:Int),((t-a) / c+1<=n->a<=t->(eY (prg c a n) t:Int)=(t-a) / c+1)/\(t<a->eY (prg c a n) t=0)
 | 0,a=>⟨fun h ha=>by have:=LW (a:=t-a) (b:=c) (by omega) (by omega);omega,fun _=>rfl⟩
 | n+1,a=>by
  obtain ⟨i1,i2⟩:=Aw h0 (t:=t) n (a+c);rw [wO,df];have hd:(t-(a+c)) / c=(t-a) / c-1:=by rw [show t-(a+c)=t-a+(-1)*c by omega,Md _ _ (by omega)];omega
  refine ⟨fun h ha=>?_,fun ha=>by rw [if_neg (by omega),i2 (by omega)]⟩;rw [if_pos ha];by_cases q:a+c<=t
  ·rw [hd] at i1;have:=i1 (by omega) q;omega
  ·rw [i2 (by omega),Me (by omega) (by omega)];rfl
def iU (e:Er) (D:Int):Nat:=((D+e.late) / e.every).toNat
def eR (e:Er) (D:Int):List Int:=0::prg e.every (e.every-e.late) (iU e D)
section
variable {e:Er} {D:Int}
theorem k7 (ok:e.Ok) (h:0<=D):((iU e D:Nat):Int)=(D+e.late) / e.every:=by have l1:=ok.l1;have e1:=ok.e1;exact LP (LW (by omega) (by omega))
theorem vg (ok:e.Ok) (h:0<=D):∀ c∈eR e D,0<=c/\c<=D:=fun c hc=>by
 have l1:=ok.l1;have e1:=ok.e1;have l3:=ok.l3;rcases K6.mp hc with rfl | hc
 ·omega
 ·obtain ⟨k,hk,rfl⟩:=KS.mp hc;have hk:=LQ.mp hk;have hn:=k7 ok h;have h1:=Int.ediv_mul_le (D+e.late) (b:=e.every) (by omega);rw [<-hn] at h1;have h2:=Lo (a:=(k:Int)+1) (b:=(iU e D:Int)) (c:=e.every) (by omega) (by omega);rw [MH,MI] at h2;have h3:=Int.mul_nonneg (a:=(k:Int)) (b:=e.every) (by omega) (by omega);omega
theorem Di (ok:e.Ok) (h:0<=D) {t:Int} (t0:0<=t) (t1:t<=D):(eY (eR e D) t:Int)=(t+e.late) / e.every+1:=by
 have l1:=ok.l1;have e1:=ok.e1;have l3:=ok.l3;have hn:=k7 ok h;have hm:(t+e.late) / e.every<=(D+e.late) / e.every:=Int.ediv_le_ediv (by omega) (by omega);unfold eR;rw [df,if_pos t0];obtain ⟨i1,i2⟩:=Aw (c:=e.every) (by omega) (t:=t) (iU e D) (e.every-e.late);have hd:(t-(e.every-e.late)) / e.every=(t+e.late) / e.every-1:=by rw [show t-(e.every-e.late)=t+e.late+(-1)*e.every by omega,Md _ _ (by omega)];omega
 by_cases q:e.every-e.late<=t
 ·have:=i1 (by omega) q;omega
 ·rw [i2 (by omega),Me (by omega) (by omega)];rfl
theorem yy (ok:e.Ok) (h:0<=D) (h6:D<=60):pW (eR e D)/\hvE e (eR e D)=true:=by
 have l1:=ok.l1;have e1:=ok.e1;have l3:=ok.l3;have hn:=k7 ok h;refine ⟨⟨?_,fun c hc=>(vg ok h c hc).1,fun c hc=>by have:=(vg ok h c hc).2;omega⟩,?_⟩
 ·have:(D+e.late) / e.every<32:=MA (by omega) (by omega);show (prg _ _ _).length+1<=60;unfold prg;rw [K5,M0];omega
 ·unfold hvE eR hvM;have hm:(if 0-e.late>0-e.late then 0-e.late else 0-e.late)=0-e.late:=by split <;> rfl
  rw [hm,if_neg (by omega)];exact AF (by omega) l1 _ _ _ (by omega)
end
theorem xR {D:Int} (h:0<=D) (h6:D<=60):∀ {es:List Er},(∀ e∈es,e.Ok)->Cms es (es.map fun e=>eR e D)
 | [],_=>.nil
 | e::r,ok=>.cons (yy (ok e K4) h h6).1 (yy (ok e K4) h h6).2 (xR h h6 fun x hx=>ok x (K0 _ hx))
theorem wo {D:Int} (h:0<=D) {t:Int} (t0:0<=t) (t1:t<=D):∀ {es:List Er},(∀ e∈es,e.Ok)->CC (es.map Er.work) (es.map fun e=>eR e D) t=jq es t
 | [],_=>rfl
 | e::r,ok=>by rw [K1,K1,iV,Di (ok e K4) h t0 t1,wo h t0 t1 fun x hx=>ok x (K0 _ hx),Int.mul_comm];rfl
theorem tZ {t u:Int} (h:t<=u):∀ {es:List Er},(∀ e∈es,e.Ok)->jq es t<=jq es u
 | [],_=>LD _
 | e::r,ok=>by
  have oe:=ok e K4;have e1:=oe.e1;have w1:=oe.wk.work1;have ih:=tZ h (es:=r) fun x hx=>ok x (K0 _ hx)
  have h1:(t+e.late) / e.every+1<=(u+e.late) / e.every+1:=by have:=Int.ediv_le_ediv (a:=t+e.late) (b:=u+e.late) (c:=e.every) (by omega) (by omega);omega
  have h2:=MC (c:=e.work) h1 (by omega);show e.work*((t+e.late) / e.every+1)+jq r t<=e.work*((u+e.late) / e.every+1)+jq r u;omega
theorem wL {t:Int} (h:0<=t):∀ {es:List Er},es≠[]->(∀ e∈es,e.Ok)->1<=jq es t
 | [],h,_=>absurd rfl h
 | e::r,_,ok=>by
  have oe:=ok e K4;have e1:=oe.e1;have l1:=oe.l1;have w1:=oe.wk.work1;have h0:=LW (a:=t+e.late) (b:=e.every) (by omega) (by omega);have h2:=MC (a:=1) (b:=(t+e.late) / e.every+1) (c:=e.work) (by omega) (by omega);rw [Int.mul_one] at h2;have h3:0<=jq r t:=by
   by_cases q:r=[]
   ·subst q;exact LD _
   ·have:=wL h q fun x hx=>ok x (K0 _ hx);omega
  show 1<=e.work*((t+e.late) / e.every+1)+jq r t;omega
def stP (es:List Er) (t:Int):Bool:=decide (jq es t<=t)
def a8 (cs:Cs):Gf:=gfG 2 0 (eB cs c8)
theorem tW (cs:Cs):∀ ds,ds.length=2->a8 cs ds≠.no->bu (eB cs c8 (ds.map some++List.replicate 0 none))=a8 cs ds:=iY
theorem vb {e:Er} (ok:e.Ok):0<=e.work/\e.work<=1000:=by
 have h1:=wy fun p hp=>(ok.pl p hp).2.1
 have h2:=ok.p2;have h3:=ok.wk.work1;refine ⟨by omega,?_⟩;show dO e.parts<=1000;omega
theorem qL {cs:Cs} {es:List Er} {t:Int} (hl:es.length<=6) (ok:∀ e∈es,e.Ok):a8 cs [aU es,.int t]=.ok (.int (jq es t)):=by
 have hc:bM 2 (cC (af 0)) bF (g2 eM (ay c8 (ae (af 2) ao)) (g2 bo (g2 gB (g2 bo (af 1) (g2 dIx (af 2) (gC (.int 2)))) (g2 dIx (af 2) (gC (.int 0)))) (gC (.int 1)))) aT [some (aU es),some (.int t)]=.ok ((es.map Er.d).map fun d=>.int ((deE d).work*((t+(deE d).late) / (deE d).every+1))):=by
  refine cQ rfl rfl (by rw [K5];omega) fun d hd=>?_
  obtain ⟨e,he,rfl⟩:=KS.mp hd;have oe:=ok e he;have e1:=oe.e1;have e2:=oe.e2;have hw:=vb oe;have i2:dIx e.d (.int 2)=some (.int e.late):=rfl;have i0:dIx e.d (.int 0)=some (.int e.every):=rfl;have hg:=kU oe.sh;have hdv:gB (.int (t+e.late)) (.int e.every)=some (.int ((t+e.late) / e.every)):=by rw [uo,if_pos ⟨by omega,by omega⟩]
  have hm:eM (.int e.work) (.int ((t+e.late) / e.every+1))=some (.int (e.work*((t+e.late) / e.every+1))):=rS (by omega) (by omega);rw [nk];simp only [Lk,Ln,cw,cu,aQ,aY,dP,az,aF,Rs.aj,hg,i2,i0,Rs.ar,fA,hdv,hm]
 have h3:=qS (fun d=>(deE d).work*((t+(deE d).late) / (deE d).every+1)) (es.map Er.d);have h4:((es.map Er.d).map fun d=>(deE d).work*((t+(deE d).late) / (deE d).every+1)).sum=jq es t:=by unfold jq;rw [L3];refine congrArg List.sum (L8 fun e _=>?_);show (deE e.d).work*((t+(deE e.d).late) / (deE e.d).every+1)=_;rw [nk]
 rw [h4] at h3;show bu (eB cs c8 [some (aU es),some (.int t)])=_;unfold eB;simp only [cB,gW,aQ,aY,og,hc,Rs.aj,h3,Rs.ar,aH,bU]
def cA (cs:Cs):Gf:=gfG 1 2 (ip cs (a8 cs) (aM cs))
theorem Bu (cs:Cs):∀ ds,ds.length=1->cA cs ds≠.no->bu (ip cs (a8 cs) (aM cs) (ds.map some++List.replicate 2 none))=cA cs ds:=iY
def stC (cs:Cs):Ds->Sr:=(aK (aW [] 2 (ay (a8 cs) (ae (af 0) (ae (af 1) ao))))
 (aK (sIf (gT (g2 dLe (af 2) (af 1))) (bR (af 1)) bO)
 (aW [] 1 (af 2))))
section
variable {cs:Cs} {E:PyData} {f:Int->Int}
theorem wx (gfn:∀ t,a8 cs [E,.int t]=.ok (.int (f t))) (t:Int) (x2:Option PyData):stC cs [some E,some (.int t),x2]=if f t<=t then .rt (.int t) else .nx [some E,some (.int (f t)),some (.int (f t))]:=by
 have s1:aW [] 2 (ay (a8 cs) (ae (af 0) (ae (af 1) ao))) [some E,some (.int t),x2]=.nx [some E,some (.int t),some (.int (f t))]:=c7 (by decide:2<3) (fI rfl (gfn t));have s3:aW [] 1 (af 2) [some E,some (.int t),some (.int (f t))]=.nx [some E,some (.int (f t)),some (.int (f t))]:=c7 (by decide:1<3) rfl;unfold stC;rw [dY s1,br];by_cases z:f t<=t
 ·rw [if_pos z];simp only [dA,eN,cw,az,aF,Rs.aj,Ga,decide_eq_true z,Rs.ar,bH,if_true,aH,cB]
 ·rw [if_neg z];simp only [dA,eN,cw,az,aF,Rs.aj,Ga,decide_eq_false z,Rs.ar,bH,if_false,L5,aH,eV,s3]
theorem qk (t:Int) (x2:Option PyData):gT (g2 dLe (af 1) (gC (.int 9999))) [some E,some (.int t),x2]=.ok (decide (t<=9999)):=by simp only [eN,cw,az,aF,dP,Rs.aj,Ga,Rs.ar,bH]
theorem AD (gfn:∀ t,a8 cs [E,.int t]=.ok (.int (f t))) (mono:∀ t u,t<=u->f t<=f u) {T:Int} (hT:T<=9999) (hf:f T<=T) (low:∀ s,1<=s->s<T->¬ f s<=s):∀ (j fuel:Nat) (t:Int) (x2:Option PyData),1<=t->t<=T->T-t<=j->j<fuel ->
  cg (gT (g2 dLe (af 1) (gC (.int 9999)))) (stC cs) fuel [some E,some (.int t),x2]=.rt (.int T)
 | j,0,t,x2,_,_,_,hf=>absurd hf (Nat.not_lt_zero _)
 | 0,fuel+1,t,x2,h1,h2,h3,hj=>by
  have e:t=T:=by omega
  subst e;unfold cg;rw [qk,aH,decide_eq_true hT,if_pos rfl,wx gfn,if_pos hf]
 | j+1,fuel+1,t,x2,h1,h2,h3,hj=>by
  unfold cg;rw [qk,aH,decide_eq_true (show t<=9999 by omega),if_pos rfl,wx gfn];by_cases z:f t<=t
  ·have e:t=T:=by
    by_cases q:t<T
    ·exact absurd z (low t h1 q)
    ·omega
   rw [if_pos z,e]
  ·rw [if_neg z];have hm:=mono t T h2;exact AD gfn mono hT hf low j fuel (f t) _ (by omega) (by omega) (by omega) (by omega)
theorem AE (gfn:∀ t,a8 cs [E,.int t]=.ok (.int (f t))) (no:∀ s,1<=s->s<=9999->¬ f s<=s):∀ (j fuel:Nat) (t:Int) (x2:Option PyData),1<=t->9999-t<j->j<fuel ->
  ∃ δ,cg (gT (g2 dLe (af 1) (gC (.int 9999)))) (stC cs) fuel [some E,some (.int t),x2]=.nx δ
 | j,0,t,x2,_,_,hf=>absurd hf (Nat.not_lt_zero _)
 | 0,fuel+1,t,x2,h1,h3,hf=>by unfold cg;rw [qk,aH,decide_eq_false (show ¬ t<=9999 by omega),if_neg (by decide)];exact ⟨_,rfl⟩
 | j+1,fuel+1,t,x2,h1,h3,hf=>by
  unfold cg;rw [qk,aH];by_cases e:t<=9999
  ·rw [decide_eq_true e,if_pos rfl,wx gfn];have hl:=no t h1 e;rw [if_neg hl];exact AE gfn no j fuel (f t) _ (by omega) (by omega) (by omega)
  ·rw [decide_eq_false e,if_neg (by decide)];exact ⟨_,rfl⟩
end
theorem zp {cs:Cs} {es:List Er} (l1:1<=es.length) (l6:es.length<=6) (ok:∀ e∈es,e.Ok):cA cs [aU es]=.ok (bq (cq 9999 (stP es))):=by
 have gfn:∀ t,a8 cs [aU es,.int t]=.ok (.int (jq es t)):=fun t=>qL l6 ok
 have s1:mM (ay (aM cs) (ae (af 0) ao)) [some (aU es),none,none]=.nx [some (aU es),none,none]:=by rw [vL,fI (ds:=[aU es]) rfl (i8 cs l1 l6 ok),aH]
 have s2:aW [] 1 (gC (.int 1)) [some (aU es),none,none]=.nx [some (aU es),some (.int 1),none]:=c7 (by decide:1<3) rfl;have hG:ip cs (a8 cs) (aM cs)=aK (mM (ay (aM cs) (ae (af 0) ao))) (aK (aW [] 1 (gC (.int 1))) (aK (fun δ=>cg (gT (g2 dLe (af 1) (gC (.int 9999)))) (stC cs) 1000000 δ) (bR (gC .none)))):=rfl;show bu (ip cs (a8 cs) (aM cs) [some (aU es),none,none])=_;rw [hG,dY s1,dY s2];cases q:cq 9999 (stP es) with
 | some T =>obtain ⟨t1,t2,t3,t4⟩:=d6 q;have w:=AD gfn (fun t u h=>tZ h ok) (T:=T) (by omega) (of_decide_eq_true t3) (fun s a b=>of_decide_eq_false (t4 s a b)) 9999 1000000 1 none (by decide) t1 (by omega) (by decide);rw [br,w];rfl
 | none =>obtain ⟨δ,w⟩:=AE gfn (fun s a b=>of_decide_eq_false (jS q s a (by omega))) 10000 1000000 1 none (by decide) (by decide) (by decide);rw [br,w];rfl
def aO (cs:Cs):Gf:=gfG 2 6 (dD cs)
theorem qd (cs:Cs):∀ ds,ds.length=2->aO cs ds≠.no->bu (dD cs (ds.map some++List.replicate 6 none))=aO cs ds:=iY
def awB:Ds->Sr:=(aK (aW [] 7 (g2 bo (g2 gB (g2 bo (af 1) (af 5)) (af 3)) (gC (.int 1))))
 (aW [] 2 (g2 bo (af 2) (g2 eM (af 7) (gF tH (ae (gL (bM 8 (cC (af 6)) bF (g2 dIx (af 8) (gC (.int 0))) aT)) ao))))))
section
variable {E:PyData} {t:Int}
theorem EM {e:Er} (ok:e.Ok) {acc:Int} {x7:Option PyData}:awB [some E,some (.int t),some (.int acc),some (.int e.every),some (.int e.due),some (.int e.late),some (.tuple (e.parts.map bt)),x7]=.nx [some E,some (.int t),some (.int (acc+e.work*((t+e.late) / e.every+1))),some (.int e.every),some (.int e.due),some (.int e.late),some (.tuple (e.parts.map bt)),some (.int ((t+e.late) / e.every+1))]:=by
 have e1:=ok.e1;have e2:=ok.e2;have p2:=ok.p2;have hw:=vb ok;have hdv:gB (.int (t+e.late)) (.int e.every)=some (.int ((t+e.late) / e.every)):=by rw [uo,if_pos ⟨by omega,by omega⟩]
 have s1:aW [] 7 (g2 bo (g2 gB (g2 bo (af 1) (af 5)) (af 3)) (gC (.int 1))) [some E,some (.int t),some (.int acc),some (.int e.every),some (.int e.due),some (.int e.late),some (.tuple (e.parts.map bt)),x7]=.nx [some E,some (.int t),some (.int acc),some (.int e.every),some (.int e.due),some (.int e.late),some (.tuple (e.parts.map bt)),some (.int ((t+e.late) / e.every+1))] :=
  c7 (by decide:7<8) (jz (jz (jz (x:=.int t) (y:=.int e.late) rfl rfl rfl) (y:=.int e.every) rfl hdv) (y:=.int 1) rfl rfl)
 have hc:bM 8 (cC (af 6)) bF (g2 dIx (af 8) (gC (.int 0))) aT [some E,some (.int t),some (.int acc),some (.int e.every),some (.int e.due),some (.int e.late),some (.tuple (e.parts.map bt)),some (.int ((t+e.late) / e.every+1))]=.ok ((e.parts.map bt).map fun d=>.int (dQ d).1):=by
  refine cQ rfl rfl (by rw [K5];omega) fun d hd=>?_
  obtain ⟨p,_,rfl⟩:=KS.mp hd;rw [ix];rfl
 have h3:=qS (fun d=>(dQ d).1) (e.parts.map bt);have h4:((e.parts.map bt).map fun d=>(dQ d).1).sum=e.work:=by unfold Er.work;rw [L3];refine congrArg List.sum (L8 fun p _=>?_);show (dQ (bt p)).1=p.1;rw [ix]
 rw [h4] at h3;have hs:gF tH (ae (gL (bM 8 (cC (af 6)) bF (g2 dIx (af 8) (gC (.int 0))) aT)) ao) [some E,some (.int t),some (.int acc),some (.int e.every),some (.int e.due),some (.int e.late),some (.tuple (e.parts.map bt)),some (.int ((t+e.late) / e.every+1))]=.ok (.int e.work):=by simp only [gW,aQ,aY,og,hc,Rs.aj,h3,Rs.ar]
 have hm:eM (.int ((t+e.late) / e.every+1)) (.int e.work)=some (.int (((t+e.late) / e.every+1)*e.work)):=Hr hw.1 hw.2;unfold awB;rw [dY s1,Int.mul_comm e.work];exact c7 (by decide:2<8) (jz (x:=.int acc) rfl (jz (x:=.int ((t+e.late) / e.every+1)) rfl hs hm) rfl)
theorem AQ:∀ (es:List Er) (acc:Int) (x3 x4 x5 x6 x7:Option PyData),(∀ e∈es,e.Ok) ->
  ∃ y3 y4 y5 y6 y7,forL (kO [3,4,5,6]) awB (es.map Er.d) [some E,some (.int t),some (.int acc),x3,x4,x5,x6,x7]=.nx [some E,some (.int t),some (.int (acc+jq es t)),y3,y4,y5,y6,y7]
 | [],acc,x3,x4,x5,x6,x7,_=>⟨x3,x4,x5,x6,x7,by show _=Sr.nx [some E,some (.int t),some (.int (acc+0)),x3,x4,x5,x6,x7];rw [Int.add_zero];rfl⟩
 | e::r,acc,x3,x4,x5,x6,x7,ok=>by
  obtain ⟨y3,y4,y5,y6,y7,ih⟩:=AQ r (acc+e.work*((t+e.late) / e.every+1)) (some (.int e.every)) (some (.int e.due)) (some (.int e.late)) (some (.tuple (e.parts.map bt))) (some (.int ((t+e.late) / e.every+1))) fun x hx=>ok x (K0 _ hx)
  refine ⟨y3,y4,y5,y6,y7,?_⟩;rw [K1];refine (uv rfl (EM (ok e K4))).trans (ih.trans ?_);rw [Int.add_assoc];rfl
end
theorem vS {cs:Cs} {es:List Er} {t:Int} (ok:∀ e∈es,e.Ok):aO cs [aU es,.int t]=.ok (.int (jq es t)):=by obtain ⟨y3,y4,y5,y6,y7,e⟩:=AQ (E:=aU es) (t:=t) es 0 none none none none none ok;show bu (dD cs [some (aU es),some (.int t),none,none,none,none,none,none])=_;have s1:aW [] 2 (gC (.int 0)) [some (aU es),some (.int t),none,none,none,none,none,none]=.nx [some (aU es),some (.int t),some (.int 0),none,none,none,none,none]:=c7 (by decide:2<8) rfl;have src:cC (af 0) (mask [] [some (aU es),some (.int t),some (.int 0),none,none,none,none,none])=.ok (es.map Er.d):=rfl;have hG:dD cs=aK (aW [] 2 (gC (.int 0))) (aK (ju [] (cC (af 0)) (kO [3,4,5,6]) awB) (bR (af 2))):=rfl;rw [hG,dY s1,dY ((CV src).trans e),Int.zero_add];rfl
def bE (cs:Cs):Gf:=gfG 2 4 (eo cs)
theorem tT (cs:Cs):∀ ds,ds.length=2->bE cs ds≠.no->bu (eo cs (ds.map some++List.replicate 4 none))=bE cs ds:=iY
theorem ET {e:Er} (ok:e.Ok) {D:Int} (h:0<=D) (h6:D<=1000):Ek [.int (e.every-e.late),.int (D+1),.int e.every]=.ok (jH (e.every-e.late) e.every (iU e D)):=by
 have e1:=ok.e1;have e2:=ok.e2;have l1:=ok.l1;have l3:=ok.l3;have hn:=k7 ok h;have hd:(D+1-(e.every-e.late)-1) / e.every+1=(D+e.late) / e.every:=by rw [show D+1-(e.every-e.late)-1=D+e.late+(-1)*e.every by omega,Md _ _ (by omega)];omega
 have hs:Builtin.Range.rangeSize (e.every-e.late) (D+1) e.every=(iU e D:Int):=by
  unfold Builtin.Range.rangeSize;rw [if_pos (by omega)];by_cases q:e.every-e.late<D+1
  ·rw [if_pos q,hd,hn]
  ·rw [if_neg q,hn,Me (by omega) (by omega)]
 have hb:(iU e D:Int)<=1000:=by have:(D+e.late) / e.every<1001:=MA (by omega) (by omega);omega
 have hsm:Builtin.Range.small (e.every-e.late) (D+1) e.every=true:=by unfold Builtin.Range.small;rw [hs];have:=Ma (iU e D);generalize (iU e D:Int)=z at *;simp [Builtin.Range.rangeFitsLong];refine ⟨by omega,.inr ?_⟩;rw [if_pos (by omega)];omega
 have ho:sr (e.every-e.late) (D+1) e.every=true:=by unfold sr;rw [hsm,M8];exact decide_eq_true (by omega)
 unfold Ek;simp only [ho,if_true];unfold zM;rw [hs];rfl
theorem yK {cs:Cs} {e:Er} (ok:e.Ok) {D:Int} (h:0<=D) (h6:D<=1000):bE cs [e.d,.int D]=.ok (dw (eR e D)):=by
 have e2:=ok.e2;have l1:=ok.l1;have hn:=k7 ok h;have hb:(iU e D:Int)<=1000:=by have e1:=ok.e1;have l3:=ok.l3;have:(D+e.late) / e.every<1001:=MA (by omega) (by omega);omega
 have hrg:=ET ok h h6;have hc:bM 6 (Bb (ae (g2 iP (af 2) (af 4)) (ae (g2 bo (af 1) (gC (.int 1))) (ae (af 2) ao)))) bF (af 6) aT [some e.d,some (.int D),some (.int e.every),some (.int e.due),some (.int e.late),some (.tuple (e.parts.map bt))]=.ok ((jH (e.every-e.late) e.every (iU e D)).map id):=by
  refine cQ rfl ?_ (by rw [jP];omega) fun d hd=>rfl
  have ha:(ae (g2 iP (af 2) (af 4)) (ae (g2 bo (af 1) (gC (.int 1))) (ae (af 2) ao))) [some e.d,some (.int D),some (.int e.every),some (.int e.due),some (.int e.late),some (.tuple (e.parts.map bt))]=.ok [.int (e.every-e.late),.int (D+1),.int e.every]:=rfl;rw [Fz,ha,Rs.aj,hrg]
 have s1:EN [] (kO [2,3,4,5]) (af 0) [some e.d,some (.int D),none,none,none,none]=.nx [some e.d,some (.int D),some (.int e.every),some (.int e.due),some (.int e.late),some (.tuple (e.parts.map bt))]:=rfl;have hr:(jH (e.every-e.late) e.every (iU e D)).map id=(prg e.every (e.every-e.late) (iU e D)).map PyData.int:=by unfold jH prg;rw [LJ,L3];rfl
 rw [hr] at hc;show bu (eo cs [some e.d,some (.int D),none,none,none,none])=_;unfold eo;rw [dY s1];have ad:bo (.list [.int 0]) (.list ((prg e.every (e.every-e.late) (iU e D)).map PyData.int))=some (dw (eR e D)):=by show (if _ then _ else _)=_;rw [if_pos (by rw [K5,Lc];unfold prg;rw [K5,M0];omega)];rfl
 simp only [cB,cw,vA,aQ,aY,dP,og,hc,Rs.aj,ad,Rs.ar,aH,bU]
theorem EG {j:Int} (h0:1<=j) (h1:j<1000000):DT [.int 1,.int j]=.ok (b8 1 (j-1).toNat):=by unfold DT;simp only;rw [if_pos (by omega)]
theorem HG (xs:List Int):dIx (.list (xs.map PyData.int++[.none])) (.int 0)=some (bq xs.head?):=by have h:=Eh (k:=0) (xs:=xs.map PyData.int++[PyData.none]) (v:=bq xs.head?) (by cases xs <;> rfl);exact h
theorem zF (p:Int->Bool):(b8 1 400).filter (fun d=>p (deI d))=((((List.range 400).map fun (i:Nat)=>(1+(i:Int))).filter p).map PyData.int):=by
 have e:b8 1 400=((List.range 400).map fun (i:Nat)=>(1+(i:Int))).map PyData.int:=by unfold b8;rw [L3];rfl
 rw [e,List.filter_map];rfl
theorem ne_int_none (a:Int):dNe (.int a) .none=some (.bool true):=by
 have h:PySem.SeqAt.shaped (.int a)=true:=by simp [PySem.SeqAt.shaped,PyData.canLay0,PyData.depth]
 have h2:PySem.SeqAt.shaped .none=true:=by simp [PySem.SeqAt.shaped,PyData.canLay0,PyData.depth]
 unfold dNe;rw [h,h2];simp [aP,PyData.eqv]
 first | done | rfl | decide
def slD (S E R A B C L:PyData) (x7 x8 x9:Option PyData):Ds:=[some S,some E,some R,some A,some B,some C,some L,x7,x8,x9]
def szB:Ds->Sr:=(aK (aW [] 7 (g2 dIx (gQ (ae (g2 bo (af 7) (gC (.int 1))) (ae (gC (.int 0)) ao))) (gF vp (ae (g1 gR (af 8)) ao))))
 (sIf (Bd (gT (g1 tE (af 4))) (gT (g2 dGt (af 7) (af 4)))) (bR (gC (.bool false))) bO))
section
variable {S E R A C L:PyData} {B:Option Int} {x9:Option PyData}
theorem Fe {s:Int} {d:PyData} (h:∀ D,B=some D->(if bZ d=true then 0 else s+1)<=D):szB (slD S E R A (bq B) C L (some (.int s)) (some d) x9)=.nx (slD S E R A (bq B) C L (some (.int (if bZ d=true then 0 else s+1))) (some d) x9):=by
 have hx:dIx (.list [.int (s+1),.int 0]) (.int (if bZ d=true then 1 else 0))=some (.int (if bZ d=true then 0 else s+1)):=by cases bZ d <;> rfl
 have s1:aW [] 7 (g2 dIx (gQ (ae (g2 bo (af 7) (gC (.int 1))) (ae (gC (.int 0)) ao))) (gF vp (ae (g1 gR (af 8)) ao))) (slD S E R A (bq B) C L (some (.int s)) (some d) x9)=.nx (slD S E R A (bq B) C L (some (.int (if bZ d=true then 0 else s+1))) (some d) x9):=by refine c7 (by decide:7<10) (jz (x:=.list [.int (s+1),.int 0]) (y:=.int (if bZ d=true then 1 else 0)) rfl ?_ hx);rw [jB];unfold slD;simp only [gW,aQ,aY,gr,az,aF,Rs.aj,pY,Rs.ar,DF]
 generalize (if bZ d=true then 0 else s+1)=s' at *;unfold szB;rw [dY s1];cases B with
 | none =>unfold slD;simp only [bq,dA,Aa,eN,gr,az,aF,Rs.aj,DI,mT,MM,Rs.ar,bH,L5,if_false,aH,eV]
 | some D =>have hD:=h D rfl;have d2:decide (D<s')=false:=decide_eq_false (by omega);unfold slD;simp only [bq,dA,Aa,eN,gr,cw,az,aF,Rs.aj,DI,jr,MG,Rs.ar,bH,if_true,yN,d2,L5,if_false,aH,eV]
theorem Au:∀ (rest:List PyData) (s:Int) (x8:Option PyData),(∀ D,B=some D->∀ x∈szs s rest,x<=D) ->
  ∃ y7 y8,forL (cy 8) szB rest (slD S E R A (bq B) C L (some (.int s)) x8 x9)=.nx (slD S E R A (bq B) C L y7 y8 x9)
 | [],s,x8,_=>⟨some (.int s),x8,rfl⟩
 | d::r,s,x8,h=>by
  obtain ⟨y7,y8,e⟩:=Au r (if bZ d=true then 0 else s+1) (some d) fun D hB x hx=>h D hB x (K0 _ hx)
  exact ⟨y7,y8,(uv rfl (Fe fun D hB=>h D hB _ K4)).trans e⟩
end
theorem CM {ws:List Int}:∀ {rows:List (List Int)},(∀ r∈rows,∀ c∈r,0<=c)->CC ws rows (-1)=0:=by
 induction ws with
 | nil=>intro rows _;rfl
 | cons w ws ih =>
  intro rows h;cases rows with
  | nil=>rfl
  | cons r rows =>rw [iV,ih fun x hx=>h x (K0 _ hx),jE fun c hc=>by have:=h r K4 c hc;omega];show (0:Int)*w+0=0;rw [Int.zero_mul];rfl
theorem ui (es:List Er):(es.map fun _=>(0:Int)).sum=0:=by
 induction es with
 | nil=>rfl
 | cons e r ih=>rw [K1,Li,ih];rfl
theorem lO:∀ {l:List PyData},(∀ d∈l,∃ b,d=ib b)->(l++[PyData.none]).findIdx? bZ=some l.length
 | [],_=>rfl
 | d::r,h=>by obtain ⟨b,rfl⟩:=h d K4;rw [Lk,LV,lO fun x hx=>h x (K0 _ hx)];rfl
theorem Eb:∀ {l:List PyData},(∀ d∈l,∃ b,d=ib b)->(l++[PyData.none]).all tnD=true
 | [],_=>rfl
 | d::r,h=>by obtain ⟨b,rfl⟩:=h d K4;rw [Lk,LY,Eb fun x hx=>h x (K0 _ hx)];rfl
theorem law_holds (cs:Cs) (ns:List Int):xl cs (dg cs) (bE cs) ak (bI cs) (aO cs) (cA cs) bP bp (some (au ns)::List.replicate 9 none)=.rt (.bool true):=by
 obtain ⟨es,rs,_,l1,l4,hok,hr,hes,hrs⟩:=C8 ns 12 28 (by decide) (by decide) (by decide);have l6:es.length<=6:=by omega
 have ok:zY es:=⟨l1,l6,hok⟩
 obtain ⟨rows,hcm,C⟩:=yE (cs:=cs) ok (ns:=ns) (a:=5) (span:=80) (by decide) (by decide);obtain ⟨len,hlen,le⟩:=Fp ns;have hmx:=cT (ns:=ns) (k:=10) (many:=3) (by decide) (by decide);have R:Ran es rs rows len:=⟨ok,hr,C.len,le⟩
 obtain ⟨t,ht⟩:=wW R C;have hrun:=oQ (cs:=cs) R C ht;have hst:=zp (cs:=cs) l1 l6 hok;have hB:cq 400 (stP es)=(((List.range 400).map fun (i:Nat)=>(1+(i:Int))).filter (stP es)).head?:=by rw [List.head?_filter];rfl
 have s1:aW [] 1 (ay bp (ae (af 0) (ae (gC (.int 12)) (ae (gC (.int 4)) (ae (gC (.int 28)) (ae (gC (.bool true)) ao)))))) [some (au ns),none,none,none,none,none,none,none,none,none]=.nx [some (au ns),some (aU es),none,none,none,none,none,none,none,none]:=c7 (by decide:1<10) (fI rfl hes);have s2:aW [] 2 (ay bP (ae (af 0) (ae (gC (.int 0)) (ae (gF cZ (ae (af 1) ao)) ao)))) [some (au ns),some (aU es),none,none,none,none,none,none,none,none]=.nx [some (au ns),some (aU es),some (bc rs),none,none,none,none,none,none,none]:=by refine c7 (by decide:2<10) (fI (ds:=[au ns,.int 0,.int (es.length:Int)]) ?_ hrs);show (ae (af 0) (ae (gC (.int 0)) (ae (gF cZ (ae (af 1) ao)) ao))) [some (au ns),some (aU es),none,none,none,none,none,none,none,none]=_;simp only [aQ,aY,gW,az,aF,dP,Rs.aj,JI,Rs.ar]
 have s3:aW [] 3 (ay (cA cs) (ae (af 1) ao)) [some (au ns),some (aU es),some (bc rs),none,none,none,none,none,none,none]=.nx [some (au ns),some (aU es),some (bc rs),some (bq (cq 9999 (stP es))),none,none,none,none,none,none]:=c7 (by decide:3<10) (fI rfl hst);have hc4:bM 10 (tj (ae (gC (.int 1)) (ae (gC (.int 401)) ao))) (gT (g2 dLe (ay (aO cs) (ae (af 1) (ae (af 10) ao))) (af 10))) (af 10) aT [some (au ns),some (aU es),some (bc rs),some (bq (cq 9999 (stP es))),none,none,none,none,none,none]=.ok ((b8 1 400).filter fun d=>stP es (deI d)):=by
  refine nh rfl ?_ (by rw [dR];decide) fun d hd=>?_
  ·have ha:(ae (gC (.int 1)) (ae (gC (.int 401)) ao)) [some (au ns),some (aU es),some (bc rs),some (bq (cq 9999 (stP es))),none,none,none,none,none,none]=.ok [.int 1,.int 401]:=rfl;rw [Gd,ha,Rs.aj,EG (by decide) (by decide)];rfl
  ·obtain ⟨i,hi⟩:=MB hd;obtain ⟨_,rfl⟩:=iJ hi;refine ⟨?_,rfl⟩;have hg:ay (aO cs) (ae (af 1) (ae (af 10) ao)) ([some (au ns),some (aU es),some (bc rs),some (bq (cq 9999 (stP es))),none,none,none,none,none,none]++[some (.int (1+(i:Int)))])=.ok (.int (jq es (1+(i:Int)))):=fI rfl (vS hok);have hl:g2 dLe (ay (aO cs) (ae (af 1) (ae (af 10) ao))) (af 10) ([some (au ns),some (aU es),some (bc rs),some (bq (cq 9999 (stP es))),none,none,none,none,none,none]++[some (.int (1+(i:Int)))])=.ok (.bool (decide (jq es (1+(i:Int))<=1+(i:Int)))):=jz hg rfl rfl;rw [eN,hl,Rs.aj,bH];rfl
 rw [zF] at hc4;have s4:aW [] 4 (g2 dIx (g2 bo (gL (bM 10 (tj (ae (gC (.int 1)) (ae (gC (.int 401)) ao))) (gT (g2 dLe (ay (aO cs) (ae (af 1) (ae (af 10) ao))) (af 10))) (af 10) aT)) (gQ (ae (gC .none) ao))) (gC (.int 0))) [some (au ns),some (aU es),some (bc rs),some (bq (cq 9999 (stP es))),none,none,none,none,none,none]=.nx [some (au ns),some (aU es),some (bc rs),some (bq (cq 9999 (stP es))),some (bq (cq 400 (stP es))),none,none,none,none,none]:=by
  have hlen4:(((List.range 400).map fun (i:Nat)=>(1+(i:Int))).filter (stP es)).length<=400:=Lz (Mz _ _) (by rw [K5,M0];exact K8 _);generalize (((List.range 400).map fun (i:Nat)=>(1+(i:Int))).filter (stP es))=xs at hc4 hB hlen4;have hl:gL (bM 10 (tj (ae (gC (.int 1)) (ae (gC (.int 401)) ao))) (gT (g2 dLe (ay (aO cs) (ae (af 1) (ae (af 10) ao))) (af 10))) (af 10) aT) [some (au ns),some (aU es),some (bc rs),some (bq (cq 9999 (stP es))),none,none,none,none,none,none]=.ok (.list (xs.map PyData.int)):=by rw [og,hc4];rfl
  have ad:bo (.list (xs.map PyData.int)) (.list [.none])=some (.list (xs.map PyData.int++[.none])):=by show (if _ then _ else _)=_;rw [if_pos (by rw [K5,Lc];omega)]
  rw [hB];refine c7 (by decide:4<10) ?_;rw [jB];exact jz (jz hl (y:=.list [.none]) rfl ad) (y:=.int 0) rfl (HG xs)
 have hG:xl cs (dg cs) (bE cs) ak (bI cs) (aO cs) (cA cs) bP bp=aK (aW [] 1 (ay bp (ae (af 0) (ae (gC (.int 12)) (ae (gC (.int 4)) (ae (gC (.int 28)) (ae (gC (.bool true)) ao)))))))
  (aK (aW [] 2 (ay bP (ae (af 0) (ae (gC (.int 0)) (ae (gF cZ (ae (af 1) ao)) ao)))))
  (aK (aW [] 3 (ay (cA cs) (ae (af 1) ao)))
  (aK (aW [] 4 (g2 dIx (g2 bo (gL (bM 10 (tj (ae (gC (.int 1)) (ae (gC (.int 401)) ao))) (gT (g2 dLe (ay (aO cs) (ae (af 1) (ae (af 10) ao))) (af 10))) (af 10) aT)) (gQ (ae (gC .none) ao))) (gC (.int 0))))
  (aK (sIf (gT (g2 dNe (af 3) (af 4))) (bR (wd (g1 gR (af 4)) (gOr (g1 gR (af 3)) (g2 dGt (af 3) (gC (.int 400)))))) bO)
  (aK (aW [] 5 (ay (bI cs) (ae (af 0) (ae (gC (.int 5)) (ae (af 1) (ae (gC (.int 80)) ao))))))
  (aK (aW [] 6 (g2 dIx (gQ (ae (gC (.str "high")) (ae (gC (.str "asked")) (ae (gC (.str "none")) ao)))) (ay ak (ae (af 0) (ae (gC (.int 10)) (ae (gC (.int 3)) ao))))))
  (aK (aW [] 7 (gC (.int 0)))
  (aK (ju [] (cC (ay (dg cs) (ae (af 1) (ae (af 2) (ae (af 5) (ae (af 6) ao)))))) (cy 8) szB)
  (aK (sIf (cOr (gT (g1 gR (af 4))) (gT (g2 dGt (af 4) (gC (.int 60))))) (bR (gC (.bool true))) bO)
  (aK (aW [] 9 (gL (bM 10 (cC (af 1)) bF (ay (bE cs) (ae (af 10) (ae (af 4) ao))) aT)))
  (bR (g2 dEq (qU (g2 bo (ay (dg cs) (ae (af 1) (ae (af 2) (ae (af 9) (ae (af 6) ao))))) (gQ (ae (gC .none) ao))) (gC .none)) (af 4))))))))))))):=rfl
 refine (congrFun hG _).trans ((dY s1).trans ((dY s2).trans ((dY s3).trans ((dY s4).trans ?_))));generalize hA9:cq 9999 (stP es)=A9;generalize hB4:cq 400 (stP es)=B4;by_cases hAB:A9=B4
 case neg =>
  have hb:B4=none:=by
   cases q:B4 with
   | none=>rfl
   | some b =>exfalso;rw [q] at hB4;obtain ⟨b1,b2,b3,b4⟩:=d6 hB4;rw [yY b1 (by omega) b3 b4] at hA9;exact hAB (by rw [q,hA9])
  subst hb;cases q:A9 with
  | none=>exact absurd q hAB
  | some a =>
   rw [q] at hA9;obtain ⟨a1,a2,a3,a4⟩:=d6 hA9;have a5:400<a:=by
    by_cases z:400<a
    ·exact z
    ·have:=jS hB4 a a1 (by omega);rw [a3] at this;cases this
   have d2:decide (400<a)=true:=decide_eq_true a5;show aK _ _ [some (au ns),some (aU es),some (bc rs),some (.int a),some .none,none,none,none,none,none]=_;rw [br];simp only [dA,eN,gr,cw,vG,IW,az,aF,dP,Rs.aj,ne_int_none,Rs.ar,bH,if_true,aH,cB,pY,mT,jr,L5,if_false,yN,d2]
 case pos =>
  subst hAB;have s5:sIf (gT (g2 dNe (af 3) (af 4))) (bR (wd (g1 gR (af 4)) (gOr (g1 gR (af 3)) (g2 dGt (af 3) (gC (.int 400)))))) bO [some (au ns),some (aU es),some (bc rs),some (bq A9),some (bq A9),none,none,none,none,none]=.nx [some (au ns),some (aU es),some (bc rs),some (bq A9),some (bq A9),none,none,none,none,none]:=by have g:g2 dNe (af 3) (af 4) [some (au ns),some (aU es),some (bc rs),some (bq A9),some (bq A9),none,none,none,none,none]=.ok (.bool false):=jz rfl rfl (HZ A9);rw [dA,eN,g,Rs.aj,bH,aH,if_neg L9];rfl
  have s6:aW [] 5 (ay (bI cs) (ae (af 0) (ae (gC (.int 5)) (ae (af 1) (ae (gC (.int 80)) ao))))) [some (au ns),some (aU es),some (bc rs),some (bq A9),some (bq A9),none,none,none,none,none]=.nx [some (au ns),some (aU es),some (bc rs),some (bq A9),some (bq A9),some (cmD rows),none,none,none,none]:=c7 (by decide:5<10) (fI rfl hcm);have s7:aW [] 6 (g2 dIx (gQ (ae (gC (.str "high")) (ae (gC (.str "asked")) (ae (gC (.str "none")) ao)))) (ay ak (ae (af 0) (ae (gC (.int 10)) (ae (gC (.int 3)) ao))))) [some (au ns),some (aU es),some (bc rs),some (bq A9),some (bq A9),some (cmD rows),none,none,none,none]=.nx [some (au ns),some (aU es),some (bc rs),some (bq A9),some (bq A9),some (cmD rows),some (.str len),none,none,none]:=c7 (by decide:6<10) (jz (x:=.list [.str "high",.str "asked",.str "none"]) rfl (fI rfl hmx) hlen);have s8:aW [] 7 (gC (.int 0)) [some (au ns),some (aU es),some (bc rs),some (bq A9),some (bq A9),some (cmD rows),some (.str len),none,none,none]=.nx (slD (au ns) (aU es) (bc rs) (bq A9) (bq A9) (cmD rows) (.str len) (some (.int 0)) none none):=c7 (by decide:7<10) rfl;have src:cC (ay (dg cs) (ae (af 1) (ae (af 2) (ae (af 5) (ae (af 6) ao))))) (mask [] (slD (au ns) (aU es) (bc rs) (bq A9) (bq A9) (cmD rows) (.str len) (some (.int 0)) none none))=.ok t:=by have g:ay (dg cs) (ae (af 1) (ae (af 2) (ae (af 5) (ae (af 6) ao)))) (slD (au ns) (aU es) (bc rs) (bq A9) (bq A9) (cmD rows) (.str len) (some (.int 0)) none none)=.ok (.list t):=fI rfl hrun;rw [jB,HP,g];rfl
  have hwk:=p6 (rs:=rs) R.ln;have hsz:∀ D,A9=some D->∀ x∈szs 0 t,x<=D:=fun D hD=>by
   rw [hD] at hA9;obtain ⟨d1,_,d3,_⟩:=d6 hA9;obtain ⟨rest,e1,_,e3⟩:=zL (D:=D) C hok (by omega) (of_decide_eq_true d3) 1000000 (startJ es rs rows) [] t 0 ht (xo R C) hwk rP (by rw [sN (rs:=rs) R.ln,ui];show (0:Int)=CC (es.map Er.work) rows (-1)+0;rw [CM fun r hr c hc=>(C.uI r hr).lo c hc];rfl) (LD _) (by omega)
   rw [Ln] at e1;subst e1;exact e3
  obtain ⟨y7,y8,ef⟩:=Au (S:=au ns) (E:=aU es) (R:=bc rs) (A:=bq A9) (C:=cmD rows) (L:=.str len) (B:=A9) (x9:=none) t 0 none hsz;refine (dY s5).trans ((dY s6).trans ((dY s7).trans ((dY s8).trans ((dY ((CV src).trans ef)).trans ?_))));cases q:A9 with
  | none =>rw [br];unfold slD;simp only [bq,dA,wK,eN,gr,az,aF,Rs.aj,pY,mT,Rs.ar,bH,if_true,aH,cB,dP]
  | some D =>
   rw [q] at hA9 hB4;obtain ⟨d1,d2,d3,d4⟩:=d6 hA9;have d3:=of_decide_eq_true d3;by_cases z:60<D
   ·have dz:decide (60<D)=true:=decide_eq_true z;rw [br];unfold slD;simp only [bq,dA,wK,eN,gr,cw,az,aF,dP,Rs.aj,pY,jr,Rs.ar,bH,L5,if_false,yN,dz,if_true,aH,cB]
   ·have dz:decide (60<D)=false:=decide_eq_false z;have s10:sIf (cOr (gT (g1 gR (af 4))) (gT (g2 dGt (af 4) (gC (.int 60))))) (bR (gC (.bool true))) bO (slD (au ns) (aU es) (bc rs) (bq (some D)) (bq (some D)) (cmD rows) (.str len) y7 y8 none)=.nx (slD (au ns) (aU es) (bc rs) (bq (some D)) (bq (some D)) (cmD rows) (.str len) y7 y8 none):=by unfold slD;simp only [bq,dA,wK,eN,gr,cw,az,aF,dP,Rs.aj,pY,jr,Rs.ar,bH,L5,if_false,yN,dz,aH,eV]
    have hc:bM 10 (cC (af 1)) bF (ay (bE cs) (ae (af 10) (ae (af 4) ao))) aT (slD (au ns) (aU es) (bc rs) (bq (some D)) (bq (some D)) (cmD rows) (.str len) y7 y8 none)=.ok ((es.map Er.d).map fun d=>dw (eR (deE d) D)):=by
     refine cQ rfl rfl (by rw [K5];omega) fun d hd=>?_
     obtain ⟨e,he,rfl⟩:=KS.mp hd;rw [nk];exact fI rfl (yK (hok e he) (by omega) (by omega))
    have hrw2:((es.map Er.d).map fun d=>dw (eR (deE d) D))=(es.map fun e=>eR e D).map dw:=by
     rw [L3,L3];refine L8 fun e _=>?_
     show dw (eR (deE e.d) D)=dw (eR e D);rw [nk]
    rw [hrw2] at hc;have s11:aW [] 9 (gL (bM 10 (cC (af 1)) bF (ay (bE cs) (ae (af 10) (ae (af 4) ao))) aT)) (slD (au ns) (aU es) (bc rs) (bq (some D)) (bq (some D)) (cmD rows) (.str len) y7 y8 none)=.nx (slD (au ns) (aU es) (bc rs) (bq (some D)) (bq (some D)) (cmD rows) (.str len) y7 y8 (some (cmD (es.map fun e=>eR e D)))):=by refine c7 (by decide:9<10) ?_;rw [jB,og,hc];rfl
    have C2:=xR (D:=D) (by omega) (by omega) hok;have R2:Ran es rs (es.map fun e=>eR e D) len:=⟨ok,hr,C2.len,le⟩
    obtain ⟨t2,ht2⟩:=wW R2 C2;have hrun2:=oQ (cs:=cs) R2 C2 ht2;have hDn:((D.toNat:Nat):Int)=D:=LP (by omega);obtain ⟨o1,o2⟩:=wZ (D:=D.toNat) (ws:=es.map Er.work) (rows:=es.map fun e=>eR e D) (fun w hw=>by obtain ⟨e,he,rfl⟩:=KS.mp hw;exact (vb (hok e he)).1)
     (fun u u0 u1=>by
      rw [wo (by omega) u0 (by omega) hok];by_cases z1:u=0
      ·subst z1;have:=wL (t:=0) (LD _) (es:=es) (fun q=>by rw [q] at l1;cases l1) hok;omega
      ·have:=of_decide_eq_false (d4 u (by omega) (by omega));omega)
     (by rw [wo (D:=D) (by omega) (by omega) (by omega) hok,hDn];exact d3)
     (fun r hr' c hc'=>by obtain ⟨e,he,rfl⟩:=KS.mp hr';have:=(vg (hok e he) (by omega) c hc').2;omega) 1000000 (startJ es rs (es.map fun e=>eR e D)) [] t2 ht2 (xo R2 C2) (p6 (rs:=rs) R2.ln) rP (by rw [sN (rs:=rs) R2.ln,ui];rfl) (Lw _) (fun d hd=>(nomatch hd))
    have ad:bo (.list t2) (.list [.none])=some (.list (t2++[.none])):=by show (if _ then _ else _)=_;rw [if_pos (by rw [Lc];omega)]
    have hix:lu (t2++[.none]) .none=some (.int D):=by
     unfold lu;rw [Eb o2,lO o2,if_pos (by rw [K9,K9];exact ⟨⟨rfl,rfl⟩,decide_eq_true (by rw [KU,Lc];omega)⟩)]
     show some (PyData.int ((t2.length:Nat):Int))=_;rw [o1,hDn]
    refine (dY s10).trans ((dY s11).trans ?_);have g1:ay (dg cs) (ae (af 1) (ae (af 2) (ae (af 9) (ae (af 6) ao)))) (slD (au ns) (aU es) (bc rs) (bq (some D)) (bq (some D)) (cmD rows) (.str len) y7 y8 (some (cmD (es.map fun e=>eR e D))))=.ok (.list t2):=fI rfl hrun2;have g2':g2 bo (ay (dg cs) (ae (af 1) (ae (af 2) (ae (af 9) (ae (af 6) ao))))) (gQ (ae (gC .none) ao)) (slD (au ns) (aU es) (bc rs) (bq (some D)) (bq (some D)) (cmD rows) (.str len) y7 y8 (some (cmD (es.map fun e=>eR e D))))=.ok (.list (t2++[.none])):=jz g1 (y:=.list [.none]) rfl ad;have g3:qU (g2 bo (ay (dg cs) (ae (af 1) (ae (af 2) (ae (af 9) (ae (af 6) ao))))) (gQ (ae (gC .none) ao))) (gC .none) (slD (au ns) (aU es) (bc rs) (bq (some D)) (bq (some D)) (cmD rows) (.str len) y7 y8 (some (cmD (es.map fun e=>eR e D))))=.ok (.int D):=by unfold qU;rw [g2',Rs.aj];show (Rs.ok PyData.none).bind (fun y=>Rs.eP (lu (t2++[.none]) y))=_;rw [Rs.aj,hix];rfl
    have g4:g2 dEq (qU (g2 bo (ay (dg cs) (ae (af 1) (ae (af 2) (ae (af 9) (ae (af 6) ao))))) (gQ (ae (gC .none) ao))) (gC .none)) (af 4) (slD (au ns) (aU es) (bc rs) (bq (some D)) (bq (some D)) (cmD rows) (.str len) y7 y8 (some (cmD (es.map fun e=>eR e D))))=.ok (.bool true):=jz g3 (y:=.int D) rfl (by rw [kD,beq_self_eq_true]);rw [cB,g4,aH]
theorem Ja (cs:Cs):∀ ds,ds.length=1->gx 63 ds≠.no->bu (xl cs (dg cs) (bE cs) ak (bI cs) (aO cs) (cA cs) bP bp (ds.map some++List.replicate 9 none))=gx 63 ds:=lawT_of (law_holds cs)
end RS
set_option maxHeartbeats 4000000
namespace RS
open PySem PySem.Spec PyProof.Rows L2
def top (i:Nat):Stmt:=PySem.Challenge.pw_ranksure_k28_whole_stretch.main.body.getD i (.Pass ⟨0,0,0,0⟩)
abbrev mj:Stmt:=top 13
abbrev mn:Stmt:=top 14
abbrev pz:Stmt:=top 15
abbrev kn:Stmt:=top 16
abbrev kz:Stmt:=top 17
abbrev oC:Stmt:=top 18
abbrev gY:Stmt:=top 19
abbrev oT:Stmt:=top 20
abbrev mx:Stmt:=top 21
abbrev sJ:Stmt:=top 22
abbrev jN:Stmt:=top 23
abbrev je:Stmt:=top 26
abbrev oP:Stmt:=top 27
abbrev iz:Stmt:=top 31
abbrev qN:Stmt:=top 32
abbrev fJ:Stmt:=top 33
abbrev fT:Stmt:=top 35
abbrev sL:Stmt:=top 36
abbrev jR:Stmt:=top 37
abbrev rl:Stmt:=top 38
abbrev rE:Stmt:=top 39
abbrev D9:Stmt:=top 40
abbrev fj:Stmt:=top 42
abbrev iT:Stmt:=top 43
abbrev j9:Stmt:=top 44
abbrev i3:Stmt:=top 45
abbrev ku:Stmt:=top 46
abbrev f9:Stmt:=top 47
abbrev i5:Stmt:=top 48
abbrev gP:Stmt:=top 49
abbrev jd:Stmt:=top 50
abbrev ur:Stmt:=top 51
abbrev g6:Stmt:=inClass (top 34) 1
abbrev gO:Stmt:=inClass (top 34) 2
abbrev kX:Stmt:=inClass (top 34) 3
abbrev i7:Stmt:=inClass (top 34) 4
abbrev jZ:Stmt:=inClass (top 34) 5
abbrev vq:Stmt:=inClass (top 34) 0
structure Tx (K:PySem.W.Frag) (mg:Str->Option Value) (cs:Cs):Prop where
 f_is_whole:bw K mg "is_whole" mj ["thing", "least", "most"]
 f_is_tuple:bw K mg "is_tuple" mn ["thing", "fewest", "most"]
 f_is_part:bw K mg "is_part" pz ["thing"]
 f_are_parts:bw K mg "are_parts" kn ["thing"]
 f_is_errand:bw K mg "is_errand" kz ["thing"]
 f_checked:bw K mg "checked" oC ["errands"]
 f_checked_ranks:bw K mg "checked_ranks" gY ["errands", "ranks"]
 f_work_of:bw K mg "work_of" oT ["errand"]
 f_has_tool:bw K mg "has_tool" mx ["errand", "tool"]
 f_height:bw K mg "height" sJ ["errands", "ranks", "tool"]
 f_heights_of:bw K mg "heights_of" jN ["errands", "ranks"]
 f_works_until:bw K mg "works_until" je ["errands", "times"]
 f_stretch:bw K mg "stretch" oP ["errands"]
 f_have_moments:bw K mg "have_moments" iz ["errand", "row"]
 f_is_row:bw K mg "is_row" qN ["errand", "thing"]
 f_checked_comings:bw K mg "checked_comings" fJ ["errands", "comings"]
 f_height_by_high:bw K mg "height_by_high" fT ["jobs", "tops"]
 f_holder:bw K mg "holder" sL ["there", "tool"]
 f_lent_ranks:bw K mg "lent_ranks" jR ["there"]
 f_picked:bw K mg "picked" rl ["there", "tops", "lending"]
 f_run_of:bw K mg "run_of" rE ["errands", "ranks", "rows", "lending"]
 f_run:bw K mg "run" D9 ["errands", "ranks", "comings", "lending"]
 f_law_cell_at:bw K mg "_law_cell_at" fj ["_law_script", "_law_k"]
 f_law_mixed:bw K mg "_law_mixed" iT ["_law_script", "_law_k", "_law_many"]
 f_law_errand:bw K mg "_law_errand" j9 ["_law_script", "_law_at", "_law_top", "_law_tools"]
 f_law_errands:bw K mg "_law_errands" i3 ["_law_script", "_law_at", "_law_most", "_law_top", "_law_tools"]
 f_law_ranks:bw K mg "_law_ranks" ku ["_law_script", "_law_at", "_law_many"]
 f_law_coming_row:bw K mg "_law_coming_row" f9 ["_law_script", "_law_at", "_law_errand_here", "_law_span"]
 f_law_comings:bw K mg "_law_comings" i5 ["_law_script", "_law_at", "_law_errands_here", "_law_span"]
 f_law_all_works:bw K mg "_law_all_works" gP ["_law_errands_here", "_law_time"]
 f_law_soonest:bw K mg "_law_soonest" jd ["_law_errand_here", "_law_last"]
 f_law:bw K mg "law" ur ["_law_script"]
 mt_Jobs_are_done:∃ f fd,Fun K "are_done" "Jobs.are_done" g6 f fd/\Binds K fd ["self"] []/\Meth K cs.Jobs "are_done" f
 mt_Jobs_is_there:∃ f fd,Fun K "is_there" "Jobs.is_there" gO f fd/\Binds K fd ["self", "time"] []/\Meth K cs.Jobs "is_there" f
 mt_Jobs_held:∃ f fd,Fun K "held" "Jobs.held" kX f fd/\Binds K fd ["self"] []/\Meth K cs.Jobs "held" f
 mt_Jobs_wanted:∃ f fd,Fun K "wanted" "Jobs.wanted" i7 f fd/\Binds K fd ["self"] []/\Meth K cs.Jobs "wanted" f
 mt_Jobs_go_on:∃ f fd,Fun K "go_on" "Jobs.go_on" jZ f fd/\Binds K fd ["self"] []/\Meth K cs.Jobs "go_on" f
 b_all:mg "all"=none
 b_bool:mg "bool"=none
 b_enumerate:mg "enumerate"=none
 b_int:mg "int"=none
 b_isinstance:mg "isinstance"=none
 b_len:mg "len"=none
 b_list:mg "list"=none
 b_max:mg "max"=none
 b_min:mg "min"=none
 b_range:mg "range"=none
 b_set:mg "set"=none
 b_sum:mg "sum"=none
 b_tuple:mg "tuple"=none
 b_zip:mg "zip"=none
 c_LAST_COMING:∃ t,mg "LAST_COMING"=some (.int 9999 t)
 c_LEAST_EVERY:∃ t,mg "LEAST_EVERY"=some (.int 2 t)
 c_LONGEST_STRETCH:∃ t,mg "LONGEST_STRETCH"=some (.int 9999 t)
 c_MOST_COMINGS:∃ t,mg "MOST_COMINGS"=some (.int 60 t)
 c_MOST_ERRANDS:∃ t,mg "MOST_ERRANDS"=some (.int 6 t)
 c_MOST_EVERY:∃ t,mg "MOST_EVERY"=some (.int 60 t)
 c_MOST_LATE:∃ t,mg "MOST_LATE"=some (.int 20 t)
 c_MOST_LENGTH:∃ t,mg "MOST_LENGTH"=some (.int 20 t)
 c_MOST_PARTS:∃ t,mg "MOST_PARTS"=some (.int 4 t)
 c_TOOLS:∃ t,mg "TOOLS"=some (.int 4 t)
 e_NoComings:yt K mg "NoComings" cs.NoComings
 e_NoErrands:yt K mg "NoErrands" cs.NoErrands
 e_NoRanks:yt K mg "NoRanks" cs.NoRanks
 cl_Jobs:Cls K cs.Jobs
 na_Jobs_number:eG K cs.Jobs "number"
 na_Jobs_parts:eG K cs.Jobs "parts"
 na_Jobs_rank:eG K cs.Jobs "rank"
 na_Jobs_row:eG K cs.Jobs "row"
 na_Jobs_job:eG K cs.Jobs "job"
 na_Jobs_part:eG K cs.Jobs "part"
 na_Jobs_spent:eG K cs.Jobs "spent"
 mk_Jobs:∃ f fd,Mk K cs.Jobs f/\Fun K "__init__" "Jobs.__init__" vq f fd/\Binds K fd ["self", "number", "parts", "rank", "row"] []
 m_Jobs:mg "Jobs"=some (.ref cs.Jobs)
 tb_picked:EY K "picked"
 nm_picked:∀ g,PySem.W.nsIn K mainGlobals "picked"=some (some (.ref g))->mg "picked"=some (.ref g)
section
variable {P:Program} {w:World} {K:PySem.W.Frag} {mg:Str->Option Value} {base:Heap} {cs:Cs}
theorem yB:aZ ["_law_script", "_law_k"] ["_law_script", "_law_k"] (ax fj):=⟨rfl,rfl,rfl,by decide +kernel,rfl,by decide +kernel,by decide +kernel⟩
theorem zA {f:Addr} {fd:FuncData} (F:Fun K "_law_cell_at" "_law_cell_at" fj f fd) (bl:mg "len"=none):iC P w K mg base CX0 1 f fd ["_law_script", "_law_k"] (Ck K):=by
 refine F.ok yB (fun vs H Q E h=>?_) (fun cdv A outer s H vs Q E hr h=>?_)
 ·obtain ⟨a,ns,k,rfl,_⟩:=h;rfl
 ·obtain ⟨a,ns,k,rfl,hS,hk,kk⟩:=h;refine ⟨_,ej (A8 (zN (IX (pv 1) (gH j7 rfl bl PySem.boot_len (eX (pv 0) gM)))) (jW (sY (CO vl (pv 0) (pv 1) (fun _ _=>rfl)))) vY)
   (ej (A8 (lz (zf hr.units) (pv 0) (zE gM) (jh _)) (jW (sY gZ)) vY)
   (jW (sY (fB pj (fB pG (CO vl (pv 0) (fB sx (pv 1) (gH j7 rfl bl PySem.boot_len (eX (pv 0) gM))) (fun _ _=>rfl)) gZ) (pv 1))))),?_⟩
  refine ⟨_,rfl,_,rfl,a,_,rfl,.inl hS,k,_,rfl,rfl,_,rfl,?_⟩;have hlen:(ns.map V.int).length=ns.length:=K5 ..;rw [hlen];refine Jy (fun hc=>?_) (fun hc=>?_)
  ·have hc:k<(ns.length:Int):=of_decide_eq_true hc;have hi:k.toNat<ns.length:=by omega
   refine ⟨_,rfl,_,rfl,a,_,k,.int (ns.getD k.toNat 0),rfl,rfl,hS,vt hk ?_,?_⟩
   ·rw [Lb,K3 hi,Lh,K3 hi];rfl
   ·have:=kk H (aA.refl H);rw [show cellAt ns k=ns.getD k.toNat 0 by unfold cellAt;rw [if_pos hc]] at this;exact this
  ·have hc:¬ k<(ns.length:Int):=fun z=>hc (decide_eq_true z)
   refine ⟨_,rfl,Lw _,fun p hp=>⟨.list (ns.map .int),.list [],(wm hS (uh ns)).same (iA hp),wm (SqL.of aV) jC,shaped_ints ns,yQ,_,rfl,?_⟩⟩;rw [CW];refine Jy (fun hz=>?_) (fun hz=>?_)
   ·have hz:ns=[]:=of_decide_eq_true hz;have:=kk _ (iA (o:=.lst []) hp);rw [show cellAt ns k=0 by unfold cellAt;rw [if_neg hc,if_pos hz]] at this;exact this
   ·have hz:¬ ns=[]:=fun z=>hz (decide_eq_true z)
    have hpos:0<(ns.length:Int):=by
     cases ns with
     | nil=>exact absurd rfl hz
     | cons _ _=>simp
    have h1:0<=k % (ns.length:Int):=LN _ (by omega);have h2:k % (ns.length:Int)<(ns.length:Int):=LU _ hpos;have hi:(k % (ns.length:Int)).toNat<ns.length:=by omega
    have s1:aA H (upd H p (.lst [])):=iA hp;refine ⟨_,rfl,_,rfl,_,rfl,a,_,rfl,.inl (s1.seq hS),_,_,rfl,rfl,by rw [hlen];exact hpos,a,_,_,.int (ns.getD (k % (ns.length:Int)).toNat 0),rfl,rfl,s1.seq hS,?_,_,_,rfl,rfl,.inr ⟨by decide,by decide⟩,_,rfl,_,_,rfl,rfl,?_⟩
    ·rw [hlen];refine vt h1 ?_;rw [Lb,K3 hi,Lh,K3 hi];rfl
    ·have:=kk _ s1;rw [show cellAt ns k=ns.getD (k % (ns.length:Int)).toNat 0*31+k by unfold cellAt;rw [if_neg hc,if_neg hz]] at this;exact this
theorem yh:aZ ["_law_script", "_law_k", "_law_many", "_law_drawn"] ["_law_script", "_law_k", "_law_many"] (ax iT):=⟨rfl,rfl,rfl,by decide +kernel,rfl,by decide +kernel,by decide +kernel⟩
theorem D4 {f fC:Addr} {fd fdC:FuncData} (F:Fun K "_law_mixed" "_law_mixed" iT f fd) (FC:Fun K "_law_cell_at" "_law_cell_at" fj fC fdC) (bC:Binds K fdC ["_law_script", "_law_k"] []) (mC:mg "_law_cell_at"=some (.ref fC)) (bl:mg "len"=none):iC P w K mg base CX0 2 f fd ["_law_script", "_law_k", "_law_many"] (GH K):=by
 have GC:iC P w K mg base CX0 1 fC fdC _ (Ck K):=zA FC bl;refine F.ok yh (fun vs H Q E h=>?_) (fun cdv A outer s H vs Q E hr h=>?_)
 ·obtain ⟨a,ns,k,many,rfl,_⟩:=h;rfl
 ·obtain ⟨a,ns,k,many,rfl,hS,hk,hm,kk⟩:=h;refine ⟨_,ej (rT (i:=3) yh.nd rfl (Or.inl rfl) (fB sx (fB pG (fB pj (fB pj (AA GC hr rfl mC FC.kp bC .nil IZ (eX (pv 0) (eX (pv 1) gM))) (fB pG gZ (pv 1))) gZ) gZ) gZ))
   (jW (sY (fB sx (fB sx (fB pj (fB pj (fB pG (pv 3) (pv 3)) (fB pG gZ (pv 3))) (pv 1)) gZ) (pv 2)))),?_⟩
  refine ⟨_,rfl,_,rfl,a,ns,k,rfl,hS,hk,fun H1 s1=>?_⟩;refine ⟨_,rfl,_,_,rfl,rfl,.inl ⟨by decide,by decide⟩,_,_,rfl,rfl,_,_,rfl,rfl,_,_,rfl,rfl,.inr ⟨by decide,by decide⟩,_,_,rfl,rfl,(by show (0:Int)<2147483647;decide),?_⟩;have b1:=F3 ns k;have b2:=E4 ns k;have eD:(cellAt ns k+7919*k+1)*48271 % 2147483647=BZ ns k:=rfl;refine ⟨_,rfl,_,rfl,_,_,rfl,rfl,.inl ⟨?_,?_⟩,_,rfl,_,_,rfl,rfl,.inl ⟨by decide,by decide⟩,_,_,rfl,rfl,_,rfl,_,_,rfl,rfl,_,_,rfl,rfl,(by show (0:Int)<2147483629;decide),_,rfl,_,_,rfl,rfl,hm,kk H1 s1⟩
  ·show -(2 ^ 64)<(cellAt ns k+7919*k+1)*48271 % 2147483647;rw [eD];omega
  ·show (cellAt ns k+7919*k+1)*48271 % 2147483647<2 ^ 64;rw [eD];omega
theorem bN (T:Tx K mg cs):bg P w K mg base 2 "_law_mixed" 3 ak:=by obtain ⟨f,fd,F,b,m⟩:=T.f_law_mixed;obtain ⟨fC,fdC,FC,bC,mC⟩:=T.f_law_cell_at;exact bg.old (D4 F FC bC mC T.b_len) m F.kp b Fi
theorem DU:aZ ["self", "number", "parts", "rank", "row"] ["self", "number", "parts", "rank", "row"] (ax vq):=⟨rfl,rfl,rfl,by decide +kernel,rfl,by decide +kernel,by decide +kernel⟩
theorem yC (T:Tx K mg cs):MkD P w K mg base 1 "Jobs" cs.Jobs JN JT:=by
 obtain ⟨f,fd,M,F,b⟩:=T.mk_Jobs;refine ⟨f,fd,_,M,qr (k:=0) F DU (fun vs H Q E h=>?_) (fun cdv A outer s H vs Q E hr h=>?_),b,T.m_Jobs⟩
 ·obtain ⟨x,dx,args,rfl,hl,_⟩:=h;rw [L6,hl];rfl
 ·obtain ⟨x,dx,args,rfl,hl,hx,k⟩:=h;obtain ⟨a0,a1,a2,a3,rfl⟩:∃ a0 a1 a2 a3,args=[a0,a1,a2,a3]:=by
   cases args with
   | nil=>cases hl
   | cons a0 r0 =>
    cases r0 with
    | nil=>cases hl
    | cons a1 r1 =>
     cases r1 with
     | nil=>cases hl
     | cons a2 r2 =>
      cases r2 with
      | nil=>cases hl
      | cons a3 r3 =>
       cases r3 with
       | nil=>exact ⟨a0,a1,a2,a3,rfl⟩
       | cons _ _=>exact absurd hl (by simp)
  refine ⟨_,(ej (lj (pv 0) (pv 1) rfl) (ej (lj (pv 0) (pv 2) rfl) (ej (lj (pv 0) (pv 3) rfl) (ej (lj (pv 0) (pv 4) rfl) (ej (lj (pv 0) gZ rfl) (ej (lj (pv 0) gZ rfl) (jW (lj (pv 0) gZ rfl)))))))),?_⟩;refine ⟨_,rfl,_,rfl,x,cs.Jobs,dx,_,rfl,hx,T.cl_Jobs,T.na_Jobs_number,(by show 0<1000;decide),_,rfl,_,rfl,x,cs.Jobs,dx,_,rfl,aV,T.cl_Jobs,T.na_Jobs_parts,(by show 1<1000;decide),_,rfl,_,rfl,x,cs.Jobs,dx,_,rfl,aV,T.cl_Jobs,T.na_Jobs_rank,(by show 2<1000;decide),_,rfl,_,rfl,x,cs.Jobs,dx,_,rfl,aV,T.cl_Jobs,T.na_Jobs_row,(by show 3<1000;decide),?_⟩;refine ⟨_,rfl,x,cs.Jobs,dx,_,rfl,aV,T.cl_Jobs,T.na_Jobs_job,(by show 4<1000;decide),_,rfl,x,cs.Jobs,dx,_,rfl,aV,T.cl_Jobs,T.na_Jobs_part,(by show 5<1000;decide),_,rfl,x,cs.Jobs,dx,_,rfl,aV,T.cl_Jobs,T.na_Jobs_spent,(by show 6<1000;decide),?_⟩;exact k _ (fun b hb=>by rw [aL hb,aL hb,aL hb,aL hb,aL hb,aL hb,aL hb]) (by rw [aV];rfl)
theorem xM:aZ ["thing", "least", "most"] ["thing", "least", "most"] (ax mj):=⟨rfl,rfl,rfl,by decide +kernel,rfl,by decide +kernel,by decide +kernel⟩
theorem cW (T:Tx K mg cs) { gf:Gf} (hL:∀ ds,ds.length=3->gf ds≠.no->bu (iL cs (ds.map some++List.replicate 0 none))=gf ds):bg P w K mg base 1 "is_whole" 3 gf:=by
 obtain ⟨f,fd,F,b,m⟩:=T.f_is_whole;exact bg.of (O:=[]) (G:=iL cs) F xM b m (by decide) (fun cdv A outer s H E hr=>(aw (cF (lN (lp (dJ (cN (jl T.b_isinstance T.b_int D5 (by simp) (ah 0)))) (iW (cN (jl T.b_isinstance T.b_bool EZ (by simp) (ah 0)))))) (aG (aR kf)) bW)
  (aG (aR (Af (ah 1) (ah 0) (ah 2)))))) hL
theorem cV:aZ ["errand", "row", "every", "late", "earliest", "came", "moment"] ["errand", "row"] (ax iz):=⟨rfl,rfl,rfl,by decide +kernel,rfl,by decide +kernel,by decide +kernel⟩
theorem iw (T:Tx K mg cs) { gf:Gf} (hL:∀ ds,ds.length=2->gf ds≠.no->bu (eO cs (ds.map some++List.replicate 5 none))=gf ds):bg P w K mg base 1 "have_moments" 2 gf:=by
 obtain ⟨f,fd,F,b,m⟩:=T.f_have_moments;exact bg.of (O:=[]) (G:=eO cs) F cV b m (by decide) (fun cdv A outer s H E hr=>(aw (bj (i:=2) (cj (ah 0) av) cV.nd)
  (aw (bj (i:=3) (cj (ah 0) av) cV.nd)
  (aw (bj (i:=4) (iM av (ah 3)) cV.nd)
  (aw (iS PassesOwn.leaving rfl (dq (ah 1)) (jj (i:=5) (by decide)) (bD (i:=5) cV.nd rfl (by first | exact Or.inl rfl | exact Or.inr rfl)) (aw (bj (i:=6) (vJ rfl T.b_max (ag (ah 4) (ag (iM (ah 5) (ah 3)) aq))) cV.nd)
  (aw (cF (sk (ah 6) (ah 5)) (aG (aR kf)) bW)
  (aG (bj (i:=4) (bT (ah 6) (ah 2)) cV.nd)))))
  (aG (aR kf))))))) hL
theorem Bi:aZ ["errand", "thing"] ["errand", "thing"] (ax qN):=⟨rfl,rfl,rfl,by decide +kernel,rfl,by decide +kernel,by decide +kernel⟩
theorem wC:(["errand", "thing", "came"]:List Str).Nodup:=by decide +kernel
theorem sU (T:Tx K mg cs) { aC bQ gf:Gf} (cW:bg P w K mg base 1 "is_whole" 3 aC) (iw:bg P w K mg base 1 "have_moments" 2 bQ) (hL:∀ ds,ds.length=2->gf ds≠.no->bu (k9 cs aC bQ (ds.map some++List.replicate 0 none))=gf ds):bg P w K mg base 2 "is_row" 2 gf:=by
 obtain ⟨f,fd,F,b,m⟩:=T.f_is_row;exact bg.of (O:=[]) (G:=k9 cs aC bQ) F Bi b m (by decide) (fun cdv A outer s H E hr=>(aw (cF (lN (lp (dJ (cN (jl T.b_isinstance T.b_list qm (by simp) (ah 1)))) (iW (sk (eS T.b_len (ag (ah 1) aq)) (fK T.c_MOST_COMINGS))))) (aG (aR kf)) bW)
  (aG (aR (rJ (pq rfl T.b_all (ag (e9 (cX (M:=["errand", "thing"]) (own:=["came"]) (n0:=2) (cond:=bF) rfl (dq (ah 1)) cE (fun _ _ _ _=>(bD (i:=2) wC rfl (Or.inl rfl) (.inr rfl))) (fun _ _ _ _=>.nil) (fun σ H Q qz3=>(by obtain ⟨A,δ,R,o⟩:=qz3;exact o H (aA.refl _))) (fun _ _ _ _=>(aN cW hr cM (ag (ah 2) (ag av (ag (fK T.c_LAST_COMING) aq))))))) aq)) (mD (aN iw hr a9 (ag (ah 0) (ag (ah 1) aq))))))))) hL
theorem xK:aZ ["thing", "fewest", "most"] ["thing", "fewest", "most"] (ax mn):=⟨rfl,rfl,rfl,by decide +kernel,rfl,by decide +kernel,by decide +kernel⟩
theorem dh (T:Tx K mg cs) { gf:Gf} (hL:∀ ds,ds.length=3->gf ds≠.no->bu (iE cs (ds.map some++List.replicate 0 none))=gf ds):bg P w K mg base 1 "is_tuple" 3 gf:=by obtain ⟨f,fd,F,b,m⟩:=T.f_is_tuple;exact bg.of (O:=[]) (G:=iE cs) F xK b m (by decide) (fun cdv A outer s H E hr=>(aG (aR (rJ (jl T.b_isinstance T.b_tuple xc (by simp) (ah 0)) (mD (Af (ah 1) (eS T.b_len (ag (ah 0) aq)) (ah 2))))))) hL
theorem yV:aZ ["thing"] ["thing"] (ax pz):=⟨rfl,rfl,rfl,by decide +kernel,rfl,by decide +kernel,by decide +kernel⟩
theorem oy (T:Tx K mg cs) { aC aB gf:Gf} (cW:bg P w K mg base 1 "is_whole" 3 aC) (dh:bg P w K mg base 1 "is_tuple" 3 aB) (hL:∀ ds,ds.length=1->gf ds≠.no->bu (fY cs aC aB (ds.map some++List.replicate 0 none))=gf ds):bg P w K mg base 2 "is_part" 1 gf:=by
 obtain ⟨f,fd,F,b,m⟩:=T.f_is_part;exact bg.of (O:=[]) (G:=fY cs aC aB) F yV b m (by decide) (fun cdv A outer s H E hr=>(aw (cF (lN (lp (dJ (cN (aN dh hr a9 (ag (ah 0) (ag av (ag av aq)))))) (iW (dJ (cN (aN cW hr a9 (ag (cj (ah 0) av) (ag av (ag (fK T.c_MOST_LENGTH) aq))))))))) (aG (aR kf)) bW)
  (aG (aR (GO (rY (cj (ah 0) av)) (mD (aN cW hr a9 (ag (cj (ah 0) av) (ag av (ag (iM (fK T.c_TOOLS) av) aq)))))))))) hL
theorem wA:aZ ["thing"] ["thing"] (ax kn):=⟨rfl,rfl,rfl,by decide +kernel,rfl,by decide +kernel,by decide +kernel⟩
theorem rn:(["thing", "part"]:List Str).Nodup:=by decide +kernel
theorem ko (T:Tx K mg cs) { aB gf_is_part gf:Gf} (dh:bg P w K mg base 1 "is_tuple" 3 aB) (oy:bg P w K mg base 2 "is_part" 1 gf_is_part) (hL:∀ ds,ds.length=1->gf ds≠.no->bu (fz cs aB gf_is_part (ds.map some++List.replicate 0 none))=gf ds):bg P w K mg base 3 "are_parts" 1 gf:=by
 obtain ⟨f,fd,F,b,m⟩:=T.f_are_parts;exact bg.of (O:=[]) (G:=fz cs aB gf_is_part) F wA b m (by decide) (fun cdv A outer s H E hr=>(aw (cF (lN (lp (dJ (cN (aN dh hr a9 (ag (ah 0) (ag av (ag (fK T.c_MOST_PARTS) aq)))))) (iW (dJ (cN (pq rfl T.b_all (ag (e9 (cX (M:=["thing"]) (own:=["part"]) (n0:=1) (cond:=bF) rfl (dq (ah 0)) cE (fun _ _ _ _=>(bD (i:=1) rn rfl (Or.inl rfl) (.inr rfl))) (fun _ _ _ _=>.nil) (fun σ H Q qz3=>(by obtain ⟨A,δ,R,o⟩:=qz3;exact o H (aA.refl _))) (fun _ _ _ _=>(aN oy hr cM (ag (ah 1) aq))))) aq))))))) (aG (aR kf)) bW)
  (aG (aR (rY (cj (cj (ah 0) (vT av)) av)))))) hL
theorem ic:aZ ["thing", "every", "due", "late"] ["thing"] (ax kz):=⟨rfl,rfl,rfl,by decide +kernel,rfl,by decide +kernel,by decide +kernel⟩
theorem kx (T:Tx K mg cs) { aC gf_are_parts aB gf:Gf} (cW:bg P w K mg base 1 "is_whole" 3 aC) (ko:bg P w K mg base 3 "are_parts" 1 gf_are_parts) (dh:bg P w K mg base 1 "is_tuple" 3 aB) (hL:∀ ds,ds.length=1->gf ds≠.no->bu (dS cs aC gf_are_parts aB (ds.map some++List.replicate 3 none))=gf ds):bg P w K mg base 4 "is_errand" 1 gf:=by
 obtain ⟨f,fd,F,b,m⟩:=T.f_is_errand;exact bg.of (O:=[]) (G:=dS cs aC gf_are_parts aB) F ic b m (by decide) (fun cdv A outer s H E hr=>(aw (cF (dJ (cN (aN dh hr a9 (ag (ah 0) (ag av (ag av aq)))))) (aG (aR kf)) bW)
  (aw (bj (i:=1) (cj (ah 0) av) ic.nd)
  (aw (bj (i:=2) (cj (ah 0) av) ic.nd)
  (aw (bj (i:=3) (cj (ah 0) av) ic.nd)
  (aw (cF (dJ (cN (aN cW hr a9 (ag (ah 1) (ag (fK T.c_LEAST_EVERY) (ag (fK T.c_MOST_EVERY) aq)))))) (aG (aR kf)) bW)
  (aw (cF (dJ (cN (aN cW hr a9 (ag (ah 3) (ag av (ag (qu rfl T.b_min (ag (fK T.c_MOST_LATE) (ag (iM (ah 1) av) aq))) aq)))))) (aG (aR kf)) bW)
  (aG (aR (rJ (aN cW hr a9 (ag (ah 2) (ag av (ag (iM (ah 1) (ah 3)) aq)))) (mD (aN ko hr a9 (ag (cj (ah 0) av) aq))))))))))))) hL
theorem zH:aZ ["errands"] ["errands"] (ax oC):=⟨rfl,rfl,rfl,by decide +kernel,rfl,by decide +kernel,by decide +kernel⟩
theorem vi:(["errands", "errand"]:List Str).Nodup:=by decide +kernel
theorem gm (T:Tx K mg cs) { aB gf_is_errand gf:Gf} (dh:bg P w K mg base 1 "is_tuple" 3 aB) (kx:bg P w K mg base 4 "is_errand" 1 gf_is_errand) (hL:∀ ds,ds.length=1->gf ds≠.no->bu (iq cs aB gf_is_errand (ds.map some++List.replicate 0 none))=gf ds):bg P w K mg base 5 "checked" 1 gf:=by
 obtain ⟨f,fd,F,b,m⟩:=T.f_checked;exact bg.of (O:=[]) (G:=iq cs aB gf_is_errand) F zH b m (by decide) (fun cdv A outer s H E hr=>(aw (cF (lN (lp (dJ (cN (aN dh hr a9 (ag (ah 0) (ag av (ag (fK T.c_MOST_ERRANDS) aq)))))) (iW (dJ (cN (pq rfl T.b_all (ag (e9 (cX (M:=["errands"]) (own:=["errand"]) (n0:=1) (cond:=bF) rfl (dq (ah 0)) cE (fun _ _ _ _=>(bD (i:=1) vi rfl (Or.inl rfl) (.inr rfl))) (fun _ _ _ _=>.nil) (fun σ H Q qz3=>(by obtain ⟨A,δ,R,o⟩:=qz3;exact o H (aA.refl _))) (fun _ _ _ _=>(aN kx hr cM (ag (ah 1) aq))))) aq))))))) (aG (jt rfl rV T.e_NoErrands (ag iZ aq))) bW)
  (aG (aR (ah 0))))) hL
theorem mz:aZ ["errands", "comings"] ["errands", "comings"] (ax fJ):=⟨rfl,rfl,rfl,by decide +kernel,rfl,by decide +kernel,by decide +kernel⟩
theorem kJ:(["errands", "comings", "row"]:List Str).Nodup:=by decide +kernel
theorem gD:(["errands", "comings", "errand", "row"]:List Str).Nodup:=by decide +kernel
theorem fE (T:Tx K mg cs) { cG aM gf:Gf} (sU:bg P w K mg base 2 "is_row" 2 cG) (gm:bg P w K mg base 5 "checked" 1 aM) (hL:∀ ds,ds.length=2->gf ds≠.no->bu (dF cs cG aM (ds.map some++List.replicate 0 none))=gf ds):bg P w K mg base 6 "checked_comings" 2 gf:=by
 obtain ⟨f,fd,F,b,m⟩:=T.f_checked_comings;exact bg.of (O:=[]) (G:=dF cs cG aM) F mz b m (by decide) (fun cdv A outer s H E hr=>(aw (nG (aN gm hr a9 (ag (ah 0) aq)))
  (aw (cF (lN (lp (dJ (cN (jl T.b_isinstance T.b_list qm (by simp) (ah 1)))) (iW (zr hr (eS T.b_len (ag (ah 1) aq)) (eS T.b_len (ag (ah 0) aq)))))) (aG (jt rfl rV T.e_NoComings (ag iZ aq))) bW)
  (aw (cF (dJ (cN (pq rfl T.b_all (ag (e9 (cX (M:=["errands", "comings"]) (own:=["errand", "row"]) (n0:=2) (cond:=bF) rfl (FN T.b_zip (ag (ah 0) (ag (ah 1) aq))) wG (fun _ _ _ _=>(rH rfl (dN (bD (i:=2) gD rfl (Or.inl rfl) (.inr rfl)) (dN (bD (i:=3) gD rfl (Or.inl rfl) (.inr rfl)) nz)))) (fun _ _ _ _=>.nil) (fun σ H Q qz3=>(by obtain ⟨A,δ,R,o⟩:=qz3;exact o H (aA.refl _))) (fun _ _ _ _=>(aN sU hr cM (ag (ah 2) (ag (ah 3) aq)))))) aq)))) (aG (jt rfl rV T.e_NoComings (ag iZ aq))) bW)
  (aG (aR (e9 (cX (M:=["errands", "comings"]) (own:=["row"]) (n0:=2) (cond:=bF) rfl (dq (ah 1)) cE (fun _ _ _ _=>(bD (i:=2) kJ rfl (Or.inl rfl) (.inr rfl))) (fun _ _ _ _=>.nil) (fun σ H Q qz3=>(by obtain ⟨A,δ,R,o⟩:=qz3;exact o H (aA.refl _))) (fun _ _ _ _=>(B8 T.b_list (ag (ah 2) aq))))))))))) hL
theorem xE:aZ ["errand", "tool"] ["errand", "tool"] (ax mx):=⟨rfl,rfl,rfl,by decide +kernel,rfl,by decide +kernel,by decide +kernel⟩
theorem tI:(["errand", "tool", "part"]:List Str).Nodup:=by decide +kernel
theorem mf (T:Tx K mg cs) { gf:Gf} (hL:∀ ds,ds.length=2->gf ds≠.no->bu (iG cs (ds.map some++List.replicate 0 none))=gf ds):bg P w K mg base 1 "has_tool" 2 gf:=by obtain ⟨f,fd,F,b,m⟩:=T.f_has_tool;exact bg.of (O:=[]) (G:=iG cs) F xE b m (by decide) (fun cdv A outer s H E hr=>(aG (aR (J6 (ah 1) (e9 (cX (M:=["errand", "tool"]) (own:=["part"]) (n0:=2) (cond:=bF) rfl (dq (cj (ah 0) av)) cE (fun _ _ _ _=>(bD (i:=2) tI rfl (Or.inl rfl) (.inr rfl))) (fun _ _ _ _=>.nil) (fun σ H Q qz3=>(by obtain ⟨A,δ,R,o⟩:=qz3;exact o H (aA.refl _))) (fun _ _ _ _=>(cj (ah 2) av)))))))) hL
theorem oR:aZ ["errands", "ranks", "tool", "place", "number"] ["errands", "ranks", "tool"] (ax sJ):=⟨rfl,rfl,rfl,by decide +kernel,rfl,by decide +kernel,by decide +kernel⟩
theorem sQ (T:Tx K mg cs) { cf gf:Gf} (mf:bg P w K mg base 1 "has_tool" 2 cf) (hL:∀ ds,ds.length=3->gf ds≠.no->bu (ll cs cf (ds.map some++List.replicate 2 none))=gf ds):bg P w K mg base 2 "height" 3 gf:=by
 obtain ⟨f,fd,F,b,m⟩:=T.f_height;exact bg.of (O:=[]) (G:=ll cs cf) F oR b m (by decide) (fun cdv A outer s H E hr=>(aw (iS PassesOwn.leaving rfl (xq T.b_enumerate (ag (ah 1) aq)) (vm (is:=[3,4]) (by decide)) (rH rfl (dN (bD (i:=3) oR.nd rfl (by first | exact Or.inl rfl | exact Or.inr rfl)) (dN (bD (i:=4) oR.nd rfl (by first | exact Or.inl rfl | exact Or.inr rfl)) nz))) (aG (cF (cN (aN mf hr a9 (ag (cj (ah 0) (ah 4)) (ag (ah 2) aq)))) (aG (aR (ah 3))) bW)))
  (aG (aR fW)))) hL
theorem tO:aZ ["errands", "ranks"] ["errands", "ranks"] (ax jN):=⟨rfl,rfl,rfl,by decide +kernel,rfl,by decide +kernel,by decide +kernel⟩
theorem qh:(["errands", "ranks", "tool"]:List Str).Nodup:=by decide +kernel
theorem jO (T:Tx K mg cs) { cO gf:Gf} (sQ:bg P w K mg base 2 "height" 3 cO) (hL:∀ ds,ds.length=2->gf ds≠.no->bu (fG cs cO (ds.map some++List.replicate 0 none))=gf ds):bg P w K mg base 3 "heights_of" 2 gf:=by obtain ⟨f,fd,F,b,m⟩:=T.f_heights_of;exact bg.of (O:=[]) (G:=fG cs cO) F tO b m (by decide) (fun cdv A outer s H E hr=>(aG (aR (e9 (cX (M:=["errands", "ranks"]) (own:=["tool"]) (n0:=2) (cond:=bF) rfl (iF T.b_range (ag (fK T.c_TOOLS) aq)) cE (fun _ _ _ _=>(bD (i:=2) qh rfl (Or.inl rfl) (.inr rfl))) (fun _ _ _ _=>.nil) (fun σ H Q qz3=>(by obtain ⟨A,δ,R,o⟩:=qz3;exact o H (aA.refl _))) (fun _ _ _ _=>(aN sQ hr cM (ag (ah 0) (ag (ah 1) (ag (ah 2) aq)))))))))) hL
theorem nR:aZ ["self"] ["self"] (ax g6):=⟨rfl,rfl,rfl,by decide +kernel,rfl,by decide +kernel,by decide +kernel⟩
theorem g9 (T:Tx K mg cs) { gf:Gf} (hL:∀ ds,ds.length=1->gf ds≠.no->bu (eh cs (ds.map some++List.replicate 0 none))=gf ds):fS P w K mg base 1 cs.Jobs "are_done" 1 gf:=by obtain ⟨f,fd,F,b,hm⟩:=T.mt_Jobs_are_done;exact fS.of (O:=[]) (G:=eh cs) F nR b T.cl_Jobs hm (by decide) (fun cdv A outer s H E hr=>(aG (aR (Ei hr (cJ T.cl_Jobs T.na_Jobs_job (ah 0)) (eS T.b_len (ag (cJ T.cl_Jobs T.na_Jobs_row (ah 0)) aq)))))) hL
theorem qW:aZ ["self"] ["self"] (ax i7):=⟨rfl,rfl,rfl,by decide +kernel,rfl,by decide +kernel,by decide +kernel⟩
theorem fc (T:Tx K mg cs) { gf:Gf} (hL:∀ ds,ds.length=1->gf ds≠.no->bu (fh cs (ds.map some++List.replicate 0 none))=gf ds):fS P w K mg base 1 cs.Jobs "wanted" 1 gf:=by obtain ⟨f,fd,F,b,hm⟩:=T.mt_Jobs_wanted;exact fS.of (O:=[]) (G:=fh cs) F qW b T.cl_Jobs hm (by decide) (fun cdv A outer s H E hr=>(aG (aR (EB (jQ hr (cJ T.cl_Jobs T.na_Jobs_spent (ah 0)) av) (cj (cj (cJ T.cl_Jobs T.na_Jobs_parts (ah 0)) (cJ T.cl_Jobs T.na_Jobs_part (ah 0))) av) fW)))) hL
theorem v5:aZ ["self"] ["self"] (ax kX):=⟨rfl,rfl,rfl,by decide +kernel,rfl,by decide +kernel,by decide +kernel⟩
theorem gK (T:Tx K mg cs) { gf:Gf} (hL:∀ ds,ds.length=1->gf ds≠.no->bu (gJ cs (ds.map some++List.replicate 0 none))=gf ds):fS P w K mg base 1 cs.Jobs "held" 1 gf:=by obtain ⟨f,fd,F,b,hm⟩:=T.mt_Jobs_held;exact fS.of (O:=[]) (G:=gJ cs) F v5 b T.cl_Jobs hm (by decide) (fun cdv A outer s H E hr=>(aG (aR (EB (sk (cJ T.cl_Jobs T.na_Jobs_spent (ah 0)) av) (cj (cj (cJ T.cl_Jobs T.na_Jobs_parts (ah 0)) (cJ T.cl_Jobs T.na_Jobs_part (ah 0))) av) fW)))) hL
theorem uQ:aZ ["there", "tool", "jobs"] ["there", "tool"] (ax sL):=⟨rfl,rfl,rfl,by decide +kernel,rfl,by decide +kernel,by decide +kernel⟩
theorem kL (T:Tx K mg cs) { aJ gf:Gf} (gK:fS P w K mg base 1 cs.Jobs "held" 1 aJ) (hL:∀ ds,ds.length=2->gf ds≠.no->bu (kE cs aJ (ds.map some++List.replicate 1 none))=gf ds):bg P w K mg base 2 "holder" 2 gf:=by
 obtain ⟨f,fd,F,b,m⟩:=T.f_holder;exact bg.of (O:=[]) (G:=kE cs aJ) F uQ b m (by decide) (fun cdv A outer s H E hr=>(aw (cF (qD (ah 1)) (aG (aR fW)) bW)
  (aw (iS PassesOwn.leaving rfl (dq (ah 0)) (jj (i:=2) (by decide)) (bD (i:=2) uQ.nd rfl (by first | exact Or.inl rfl | exact Or.inr rfl)) (aG (cF (jQ hr (kM gK hr a9 (ah 2)) (ah 1)) (aG (aR (ah 2))) bW)))
  (aG (aR fW))))) hL
theorem gu:aZ ["there", "lent", "jobs", "other"] ["there"] (ax jR):=⟨rfl,rfl,rfl,by decide +kernel,rfl,by decide +kernel,by decide +kernel⟩
theorem jK (T:Tx K mg cs) { aE bA gf:Gf} (fc:fS P w K mg base 1 cs.Jobs "wanted" 1 aE) (kL:bg P w K mg base 2 "holder" 2 bA) (hL:∀ ds,ds.length=1->gf ds≠.no->bu (ie cs aE bA (ds.map some++List.replicate 3 none))=gf ds):bg P w K mg base 3 "lent_ranks" 1 gf:=by
 obtain ⟨f,fd,F,b,m⟩:=T.f_lent_ranks;exact bg.of (O:=[1]) (G:=ie cs aE bA) F gu b m (by decide) (fun cdv A outer s H E hr=>(aw (Ec (i:=1) gu.nd)
  (aw (iS PassesOwn.leaving rfl (dq (ah 0)) (jj (i:=2) (by decide)) (bD (i:=2) gu.nd rfl (by first | exact Or.inl rfl | exact Or.inr rfl)) (aw (bj (i:=3) (aN kL hr a9 (ag (ah 0) (ag (kM fc hr a9 (ah 2)) aq))) gu.nd)
  (aG (cF (wF (ah 3)) (aG (Dm (i:=1) (cR.u1 hr) (qu rfl T.b_min (ag (cJ T.cl_Jobs T.na_Jobs_rank (ah 2)) (ag (Ay (cR.u1 hr) (ah 1) (cJ T.cl_Jobs T.na_Jobs_number (ah 3)) (cJ T.cl_Jobs T.na_Jobs_rank (ah 3)) ⟨rfl,rfl,rfl,rfl⟩) aq))) (cJ T.cl_Jobs T.na_Jobs_number (ah 3)))) bW))))
  (aG (aR (ah 1)))))) hL
theorem iX:aZ ["jobs", "tops", "tool"] ["jobs", "tops"] (ax fT):=⟨rfl,rfl,rfl,by decide +kernel,rfl,by decide +kernel,by decide +kernel⟩
theorem fU (T:Tx K mg cs) { aJ gf:Gf} (gK:fS P w K mg base 1 cs.Jobs "held" 1 aJ) (hL:∀ ds,ds.length=2->gf ds≠.no->bu (cH cs aJ (ds.map some++List.replicate 1 none))=gf ds):bg P w K mg base 2 "height_by_high" 2 gf:=by
 obtain ⟨f,fd,F,b,m⟩:=T.f_height_by_high;exact bg.of (O:=[]) (G:=cH cs aJ) F iX b m (by decide) (fun cdv A outer s H E hr=>(aw (bj (i:=2) (kM gK hr a9 (ah 0)) iX.nd)
  (aw (cF (qD (ah 2)) (aG (aR (lX (ag (cJ T.cl_Jobs T.na_Jobs_rank (ah 0)) (ag av aq))))) bW)
  (aG (aR (lX (ag (qu rfl T.b_min (ag (cJ T.cl_Jobs T.na_Jobs_rank (ah 0)) (ag (cj (ah 1) (ah 2)) aq))) (ag av aq)))))))) hL
theorem oG:aZ ["there", "tops", "lending", "free", "lent"] ["there", "tops", "lending"] (ax rl):=⟨rfl,rfl,rfl,by decide +kernel,rfl,by decide +kernel,by decide +kernel⟩
theorem wD:(["there", "tops", "lending", "free", "lent", "jobs"]:List Str).Nodup:=by decide +kernel
theorem rh (T:Tx K mg cs) (hB:pT mg base) (hK:K.In base) { bY aE bA bK gf:Gf} (jK:bg P w K mg base 3 "lent_ranks" 1 bY) (fc:fS P w K mg base 1 cs.Jobs "wanted" 1 aE) (kL:bg P w K mg base 2 "holder" 2 bA) (fU:bg P w K mg base 2 "height_by_high" 2 bK) (hL:∀ ds,ds.length=3->gf ds≠.no->bu (kK cs bY aE bA bK (ds.map some++List.replicate 2 none))=gf ds):bg P w K mg base 6 "picked" 3 gf:=by
 obtain ⟨f,fd,F,b,m⟩:=T.f_picked;exact bg.ofL (O:=[]) (G:=kK cs bY aE bA bK) F oG b m (by decide) (by decide) T.nm_picked T.tb_picked hB hK (fun L cdv=>rfl) (fun cdv A outer s H E hr c Pt TAB=>(aw (cF (jQ hr (ah 2) iZ) (aG (aR (rp (N:=["jobs", "tops"]) (p:="jobs") (cap:=[1]) T.b_min hr (ah 0) TAB (fun q c' s H=>(aN fU (hr.in1.deeper _) cM (ag (ah 0) (ag (ah 1) aq))))))) bW)
  (aw (xO (i:=3) (wB (i:=3) (M:=["there", "tops", "lending", "free", "lent"]) (own:=["jobs"]) (n0:=5) (cond:=(gT (g1 gR (ay bA (ae (af 0) (ae (bS cs.Jobs "wanted" aE (af 5) ao) ao)))))) rfl oG.nd (dq (ah 0)) cE (fun _ _ _ _=>(bD (i:=5) wD rfl (Or.inl rfl) (.inr rfl))) (fun _ _ _ _=>(wg (qD (aN kL hr cM (ag (ah 0) (ag (kM fc hr cM (ah 5)) aq)))))) (fun _ _ _ h=>h) (fun _ _ _ _=>(ah 5))))
  (aw (bj (i:=4) (EB (jQ hr (ah 2) iZ) (aN jK hr a9 (ag (ah 0) aq)) Ft) oG.nd)
  (aG (aR (rp (N:=["jobs", "lent"]) (p:="jobs") (cap:=[4]) T.b_min hr (ah 3) TAB (fun q c' s H=>(Ay (cR.u1 (hr.in1.deeper _)) (ah 1) (cJ T.cl_Jobs T.na_Jobs_number (ah 0)) (cJ T.cl_Jobs T.na_Jobs_rank (ah 0)) ⟨rfl,rfl,rfl,rfl⟩))))))))) hL
theorem oF:aZ ["self", "time"] ["self", "time"] (ax gO):=⟨rfl,rfl,rfl,by decide +kernel,rfl,by decide +kernel,by decide +kernel⟩
theorem gX (T:Tx K mg cs) { gf:Gf} (hL:∀ ds,ds.length=2->gf ds≠.no->bu (ee cs (ds.map some++List.replicate 0 none))=gf ds):fS P w K mg base 1 cs.Jobs "is_there" 2 gf:=by obtain ⟨f,fd,F,b,hm⟩:=T.mt_Jobs_is_there;exact fS.of (O:=[]) (G:=ee cs) F oF b T.cl_Jobs hm (by decide) (fun cdv A outer s H E hr=>(aG (aR (rJ (JG (cJ T.cl_Jobs T.na_Jobs_job (ah 0)) (eS T.b_len (ag (cJ T.cl_Jobs T.na_Jobs_row (ah 0)) aq))) (mD (IY (cj (cJ T.cl_Jobs T.na_Jobs_row (ah 0)) (cJ T.cl_Jobs T.na_Jobs_job (ah 0))) (ah 1))))))) hL
theorem tL:aZ ["self"] ["self"] (ax jZ):=⟨rfl,rfl,rfl,by decide +kernel,rfl,by decide +kernel,by decide +kernel⟩
theorem jY (T:Tx K mg cs) {g:List (Str×PyData)->Option (List (Str×PyData))} (hg:∀ a fds fds',hZ fds=true->fds.length<1000->g fds=some fds'->∃ δ,fH cs [a] (some (cY cs.Jobs a fds)::List.replicate 0 none)=.nx δ/\δ[0]?=some (some (cY cs.Jobs a fds'))):uJ P w K mg base 3 cs.Jobs "go_on" g:=by
 obtain ⟨f,fd,F,b,hm⟩:=T.mt_Jobs_go_on;exact uJ.of (G:=fH cs) F tL b T.cl_Jobs hm (fun as cdv A outer s H E hr=>(fD (mE (i:=0) (ah 0) av T.cl_Jobs T.na_Jobs_spent)
  (fD (zx (jQ hr (cJ T.cl_Jobs T.na_Jobs_spent (ah 0)) (cj (cj (cJ T.cl_Jobs T.na_Jobs_parts (ah 0)) (cJ T.cl_Jobs T.na_Jobs_part (ah 0))) av)) (fD (Ak (i:=0) (ah 0) av T.cl_Jobs T.na_Jobs_spent)
  (jT (mE (i:=0) (ah 0) av T.cl_Jobs T.na_Jobs_part))) AG)
  (jT (zx (jQ hr (cJ T.cl_Jobs T.na_Jobs_part (ah 0)) (eS T.b_len (ag (cJ T.cl_Jobs T.na_Jobs_parts (ah 0)) aq))) (fD (Ak (i:=0) (ah 0) av T.cl_Jobs T.na_Jobs_part)
  (jT (mE (i:=0) (ah 0) av T.cl_Jobs T.na_Jobs_job))) AG))))) hg
theorem ik:aZ ["errands", "ranks", "rows", "lending", "tops", "queues", "told", "there", "best"] ["errands", "ranks", "rows", "lending"] (ax rE):=⟨rfl,rfl,rfl,by decide +kernel,rfl,by decide +kernel,by decide +kernel⟩
theorem p5:(["errands", "ranks", "rows", "lending", "tops", "queues", "told", "there", "best", "number", "row"]:List Str).Nodup:=by decide +kernel
theorem pO:(["errands", "ranks", "rows", "lending", "tops", "queues", "told", "there", "best", "jobs"]:List Str).Nodup:=by decide +kernel
theorem qO (T:Tx K mg cs) { bG bB dE aS gf:Gf} {gm_Jobs_go_on:List (Str×PyData)->Option (List (Str×PyData))} (jO:bg P w K mg base 3 "heights_of" 2 bG) (g9:fS P w K mg base 1 cs.Jobs "are_done" 1 bB) (rh:bg P w K mg base 6 "picked" 3 dE) (gX:fS P w K mg base 1 cs.Jobs "is_there" 2 aS) (jY:uJ P w K mg base 3 cs.Jobs "go_on" gm_Jobs_go_on) (yC:MkD P w K mg base 1 "Jobs" cs.Jobs JN JT) {Gt:Ds->Sr}
  (hGt:∀ δ,Gt δ≠.no->∃ d ds fss,Gt δ=.rt d/\5<δ.length/\δ.length=9/\(ue (ae (af 2) ao)) (mask [6] δ)=.ok ds/\ds.length<=1000000/\fss.length=ds.length/\(∀ (i:Nat) d,ds[i]?=some d->∃ ow fs,kq d=some ow/\fss[i]?=some fs/\(ae (af 9) (ae (g2 dIx (g2 dIx (af 0) (af 9)) (gC (.int 3))) (ae (zZ (af 1) (af 9)) (ae (af 10) ao)))) (mask [6] δ++ow)=.ok fs/\fs.length=JN.length) /\
   ∀ as:List Addr,as.length=ds.length->as.Nodup->ml cs bG bB dE aS gm_Jobs_go_on as (δ.set 5 (some (.list (lT cs.Jobs JN JT as fss))))=.rt d)
  (hL:∀ ds,ds.length=4->gf ds≠.no->bu (aK (aW [6] 4 (ay bG (ae (af 0) (ae (af 1) ao)))) Gt (ds.map some++List.replicate 5 none))=gf ds):bg P w K mg base 7 "run_of" 4 gf:=by
 obtain ⟨f,fd,F,b,m⟩:=T.f_run_of;exact bg.of (O:=[6]) (G:=aK (aW [6] 4 (ay bG (ae (af 0) (ae (af 1) ao)))) Gt) F ik b m (by decide) (fun cdv A outer s H E hr=>(aw (bj (i:=4) (aN jO hr a9 (ag (ah 0) (ag (ah 1) aq))) ik.nd) (Fx (PS.imp (q9 (i:=5) (M:=["errands", "ranks", "rows", "lending", "tops", "queues", "told", "there", "best"]) (own:=["number", "row"]) (te:=eMk K E0 cs.Jobs JN JT (ae (af 9) (ae (g2 dIx (g2 dIx (af 0) (af 9)) (gC (.int 3))) (ae (zZ (af 1) (af 9)) (ae (af 10) ao))))) rfl ik.nd rfl (by first | exact Or.inl rfl | exact Or.inr rfl) rfl (xq T.b_enumerate (ag (ah 2) aq)) (fun _ _ _ _=>(rH rfl (dN (bD (i:=9) p5 rfl (Or.inl rfl) (.inr rfl)) (dN (bD (i:=10) p5 rfl (Or.inl rfl) (.inr rfl)) nz)))) (fun _ _ _ _=>.nil) (fun _ _ _ _=>Jr yC hr cM (ag (ah 9) (ag (cj (cj (ah 0) (ah 9)) av) (ag (DP (ah 1) (ah 9)) (ag (ah 10) aq)))))) (fun D σ H h=>Hi (n0:=9) wG σ H _ h)) (fun as=>(fD (oJ (ni (i:=6) (qp aq) ik.nd))
   (fD (BU 1000000 PassesOwn.leaving (dJ (cN (pq rfl T.b_all (ag (e9 (cX (M:=["errands", "ranks", "rows", "lending", "tops", "queues", "told", "there", "best"]) (own:=["jobs"]) (n0:=9) (cond:=bF) rfl (dq (ah 5)) cE (fun _ _ _ _=>(bD (i:=9) pO rfl (Or.inl rfl) (.inr rfl))) (fun _ _ _ _=>.nil) (fun σ H Q qz3=>(by obtain ⟨A,δ,R,o⟩:=qz3;exact o H (aA.refl _))) (fun _ _ _ _=>(kM g9 hr cM (ah 9))))) aq)))) (fD (oJ (Dy (i:=7) (M:=["errands", "ranks", "rows", "lending", "tops", "queues", "told", "there", "best"]) (own:=["jobs"]) (n0:=9) (cond:=(gT (bS cs.Jobs "is_there" aS (af 9) (ae (gF cZ (ae (af 6) ao)) ao)))) rfl ik.nd (dq (ah 5)) cE (fun _ _ _ _=>(bD (i:=9) pO rfl (Or.inl rfl) (.inr rfl))) (fun _ _ _ _=>(wg (cN (EJ gX hr cM (ah 9) (ag (eS T.b_len (ag (ah 6) aq)) aq))))) (fun _ _ _ h=>h) (fun _ _ _ _=>(ah 9))))
   (jT (zx (jQ hr (eS T.b_len (ag (ah 7) aq)) av) (jT (oJ (qw (i:=6) fW))) (fD (oJ (bj (i:=8) (aN rh hr a9 (ag (ah 7) (ag (ah 4) (ag (ah 3) aq)))) ik.nd))
   (fD (oJ (qw (i:=6) (lX (ag (cJ T.cl_Jobs T.na_Jobs_number (ah 8)) (ag (cJ T.cl_Jobs T.na_Jobs_job (ah 8)) aq)))))
   (jT (Dz jY hr a9 (ah 8)))))))))
   (jT (oJ (aR (ah 6))))))) (by decide) hGt))) hL
theorem jF:aZ ["errands", "ranks", "last"] ["errands", "ranks"] (ax gY):=⟨rfl,rfl,rfl,by decide +kernel,rfl,by decide +kernel,by decide +kernel⟩
theorem mi:(["errands", "ranks", "last", "number"]:List Str).Nodup:=by decide +kernel
theorem gN (T:Tx K mg cs) { aB aC gf:Gf} (dh:bg P w K mg base 1 "is_tuple" 3 aB) (cW:bg P w K mg base 1 "is_whole" 3 aC) (hL:∀ ds,ds.length=2->gf ds≠.no->bu (cU cs aB aC (ds.map some++List.replicate 1 none))=gf ds):bg P w K mg base 2 "checked_ranks" 2 gf:=by
 obtain ⟨f,fd,F,b,m⟩:=T.f_checked_ranks;exact bg.of (O:=[]) (G:=cU cs aB aC) F jF b m (by decide) (fun cdv A outer s H E hr=>(aw (bj (i:=2) (iM (eS T.b_len (ag (ah 0) aq)) av) jF.nd)
  (aw (cF (lN (lp (dJ (cN (aN dh hr a9 (ag (ah 1) (ag (eS T.b_len (ag (ah 0) aq)) (ag (eS T.b_len (ag (ah 0) aq)) aq)))))) (iW (dJ (cN (pq rfl T.b_all (ag (e9 (cX (M:=["errands", "ranks", "last"]) (own:=["number"]) (n0:=3) (cond:=bF) rfl (dq (ah 1)) cE (fun _ _ _ _=>(bD (i:=3) mi rfl (Or.inl rfl) (.inr rfl))) (fun _ _ _ _=>.nil) (fun σ H Q qz3=>(by obtain ⟨A,δ,R,o⟩:=qz3;exact o H (aA.refl _))) (fun _ _ _ _=>(aN cW hr cM (ag (ah 3) (ag av (ag (ah 2) aq))))))) aq))))))) (aG (jt rfl rV T.e_NoRanks (ag iZ aq))) bW)
  (aw (cF (zw (B2 rfl T.b_set T.b_len (ag (ah 1) aq)) (eS T.b_len (ag (ah 1) aq))) (aG (jt rfl rV T.e_NoRanks (ag iZ aq))) bW)
  (aG (aR (ah 1))))))) hL
theorem Hx:aZ ["errands", "ranks", "comings", "lending"] ["errands", "ranks", "comings", "lending"] (ax D9):=⟨rfl,rfl,rfl,by decide +kernel,rfl,by decide +kernel,by decide +kernel⟩
theorem AJ (T:Tx K mg cs) { bh de bz aM gf:Gf} (fE:bg P w K mg base 6 "checked_comings" 2 bh) (qO:bg P w K mg base 7 "run_of" 4 de) (gN:bg P w K mg base 2 "checked_ranks" 2 bz) (gm:bg P w K mg base 5 "checked" 1 aM) (hL:∀ ds,ds.length=4->gf ds≠.no->bu (xS cs bh de bz aM (ds.map some++List.replicate 0 none))=gf ds):bg P w K mg base 8 "run" 4 gf:=by
 obtain ⟨f,fd,F,b,m⟩:=T.f_run;exact bg.of (O:=[]) (G:=xS cs bh de bz aM) F Hx b m (by decide) (fun cdv A outer s H E hr=>(aw (nG (aN gm hr a9 (ag (ah 0) aq)))
  (aw (nG (aN gN hr a9 (ag (ah 0) (ag (ah 1) aq))))
  (aG (aR (aN qO hr a9 (ag (ah 0) (ag (ah 1) (ag (aN fE hr a9 (ag (ah 0) (ag (ah 2) aq))) (ag (ah 3) aq)))))))))) hL
theorem eQ:aZ ["_law_errand_here", "_law_last", "_law_every", "_law_due", "_law_late", "_law_parts"] ["_law_errand_here", "_law_last"] (ax jd):=⟨rfl,rfl,rfl,by decide +kernel,rfl,by decide +kernel,by decide +kernel⟩
theorem oB:(["_law_errand_here", "_law_last", "_law_every", "_law_due", "_law_late", "_law_parts", "_law_time"]:List Str).Nodup:=by decide +kernel
theorem jf (T:Tx K mg cs) { gf:Gf} (hL:∀ ds,ds.length=2->gf ds≠.no->bu (eo cs (ds.map some++List.replicate 4 none))=gf ds):bg P w K mg base 1 "_law_soonest" 2 gf:=by
 obtain ⟨f,fd,F,b,m⟩:=T.f_law_soonest;exact bg.of (O:=[]) (G:=eo cs) F eQ b m (by decide) (fun cdv A outer s H E hr=>(aw (FV (ah 0) (vm (is:=[2,3,4,5]) (by decide)) (rH rfl (dN (bD (i:=2) eQ.nd rfl (by first | exact Or.inl rfl | exact Or.inr rfl)) (dN (bD (i:=3) eQ.nd rfl (by first | exact Or.inl rfl | exact Or.inr rfl)) (dN (bD (i:=4) eQ.nd rfl (by first | exact Or.inl rfl | exact Or.inr rfl)) (dN (bD (i:=5) eQ.nd rfl (by first | exact Or.inl rfl | exact Or.inr rfl)) nz))))))
  (aG (aR (bT (kT (ag av aq)) (e9 (cX (M:=["_law_errand_here", "_law_last", "_law_every", "_law_due", "_law_late", "_law_parts"]) (own:=["_law_time"]) (n0:=6) (cond:=bF) rfl (zG T.b_range (ag (iM (ah 2) (ah 4)) (ag (bT (ah 1) av) (ag (ah 2) aq)))) cE (fun _ _ _ _=>(bD (i:=6) oB rfl (Or.inl rfl) (.inr rfl))) (fun _ _ _ _=>.nil) (fun σ H Q qz3=>(by obtain ⟨A,δ,R,o⟩:=qz3;exact o H (aA.refl _))) (fun _ _ _ _=>(ah 6))))))))) hL
theorem bJ:aZ ["_law_script", "_law_at", "_law_errand_here", "_law_span", "_law_seed", "_law_moment", "_law_made", "_law_k", "_law_drawn", "_law_come"] ["_law_script", "_law_at", "_law_errand_here", "_law_span"] (ax f9):=⟨rfl,rfl,rfl,by decide +kernel,rfl,by decide +kernel,by decide +kernel⟩
theorem f7 (T:Tx K mg cs) { ak gf:Gf} (bN:bg P w K mg base 2 "_law_mixed" 3 ak) (hL:∀ ds,ds.length=4->gf ds≠.no->bu (c9 cs ak (ds.map some++List.replicate 6 none))=gf ds):bg P w K mg base 3 "_law_coming_row" 4 gf:=by
 obtain ⟨f,fd,F,b,m⟩:=T.f_law_coming_row;exact bg.of (O:=[6]) (G:=c9 cs ak) F bJ b m (by decide) (fun cdv A outer s H E hr=>(aw (bj (i:=4) (aN bN hr a9 (ag (ah 0) (ag (ah 1) (ag (Ha av av) aq)))) bJ.nd)
  (aw (bj (i:=5) (iM (lZ (ah 4) (bT (cj (ah 2) av) av)) (cj (ah 2) av)) bJ.nd)
  (aw (ni (i:=6) (qp aq) bJ.nd)
  (aw (bj (i:=7) av bJ.nd)
  (aw (uu 1000000 PassesOwn.leaving (lN (AN (zw (bT (ah 5) (cj (ah 2) av)) (ah 3)) (w6 (zw (eS T.b_len (ag (ah 6) aq)) av)))) (aw (bj (i:=8) (lZ (km (bT (bT (ah 4) (km (km av (ah 7)) (ah 7))) (km av (ah 7))) av) av) bJ.nd)
  (aw (bj (i:=9) (vJ rfl T.b_max (ag av (ag (bT (ah 5) (lZ (nV (ah 8) av) (bT (cj (ah 2) av) av))) aq))) bJ.nd)
  (aw (cF (zr hr (ah 6) (kT aq)) (aG (CK (i:=9) (vJ rfl T.b_max (ag (ah 9) (ag (bT (cj (ah 6) (vT av)) av) aq))) bJ.nd)) bW)
  (aw (qw (i:=6) (ah 9))
  (aw (bj (i:=5) (bT (ah 5) (cj (ah 2) av)) bJ.nd)
  (aw (cF (jQ hr (lZ (nV (ah 8) av) av) av) (aG (bj (i:=5) (bT (ah 5) (lZ (nV (ah 8) av) (cj (ah 2) av))) bJ.nd)) bW)
  (aG (bj (i:=7) (bT (ah 7) av) bJ.nd)))))))))
  (aG (aR (ah 6))))))))) hL
theorem sT:aZ ["_law_script", "_law_at", "_law_errands_here", "_law_span"] ["_law_script", "_law_at", "_law_errands_here", "_law_span"] (ax i5):=⟨rfl,rfl,rfl,by decide +kernel,rfl,by decide +kernel,by decide +kernel⟩
theorem oX:(["_law_script", "_law_at", "_law_errands_here", "_law_span", "_law_k"]:List Str).Nodup:=by decide +kernel
theorem ja (T:Tx K mg cs) { bf gf:Gf} (f7:bg P w K mg base 3 "_law_coming_row" 4 bf) (hL:∀ ds,ds.length=4->gf ds≠.no->bu (eu cs bf (ds.map some++List.replicate 0 none))=gf ds):bg P w K mg base 4 "_law_comings" 4 gf:=by obtain ⟨f,fd,F,b,m⟩:=T.f_law_comings;exact bg.of (O:=[]) (G:=eu cs bf) F sT b m (by decide) (fun cdv A outer s H E hr=>(aG (aR (e9 (cX (M:=["_law_script", "_law_at", "_law_errands_here", "_law_span"]) (own:=["_law_k"]) (n0:=4) (cond:=bF) rfl (iF T.b_range (ag (eS T.b_len (ag (ah 2) aq)) aq)) cE (fun _ _ _ _=>(bD (i:=4) oX rfl (Or.inl rfl) (.inr rfl))) (fun _ _ _ _=>.nil) (fun σ H Q qz3=>(by obtain ⟨A,δ,R,o⟩:=qz3;exact o H (aA.refl _))) (fun _ _ _ _=>(aN f7 hr cM (ag (ah 0) (ag (bT (ah 1) (ah 4)) (ag (cj (ah 2) (ah 4)) (ag (ah 3) aq))))))))))) hL
theorem cp:aZ ["_law_errands_here", "_law_time", "_law_found", "_law_every", "_law_due", "_law_late", "_law_parts", "_law_times"] ["_law_errands_here", "_law_time"] (ax gP):=⟨rfl,rfl,rfl,by decide +kernel,rfl,by decide +kernel,by decide +kernel⟩
theorem mq:(["_law_errands_here", "_law_time", "_law_found", "_law_every", "_law_due", "_law_late", "_law_parts", "_law_times", "_law_part"]:List Str).Nodup:=by decide +kernel
theorem gU (T:Tx K mg cs) { gf:Gf} (hL:∀ ds,ds.length=2->gf ds≠.no->bu (dD cs (ds.map some++List.replicate 6 none))=gf ds):bg P w K mg base 1 "_law_all_works" 2 gf:=by
 obtain ⟨f,fd,F,b,m⟩:=T.f_law_all_works;exact bg.of (O:=[]) (G:=dD cs) F cp b m (by decide) (fun cdv A outer s H E hr=>(aw (bj (i:=2) av cp.nd)
  (aw (iS PassesOwn.leaving rfl (dq (ah 0)) (vm (is:=[3,4,5,6]) (by decide)) (rH rfl (dN (bD (i:=3) cp.nd rfl (by first | exact Or.inl rfl | exact Or.inr rfl)) (dN (bD (i:=4) cp.nd rfl (by first | exact Or.inl rfl | exact Or.inr rfl)) (dN (bD (i:=5) cp.nd rfl (by first | exact Or.inl rfl | exact Or.inr rfl)) (dN (bD (i:=6) cp.nd rfl (by first | exact Or.inl rfl | exact Or.inr rfl)) nz))))) (aw (bj (i:=7) (bT (nV (bT (ah 1) (ah 5)) (ah 3)) av) cp.nd)
  (aG (bj (i:=2) (bT (ah 2) (km (ah 7) (yF rfl T.b_sum (ag (e9 (cX (M:=["_law_errands_here", "_law_time", "_law_found", "_law_every", "_law_due", "_law_late", "_law_parts", "_law_times"]) (own:=["_law_part"]) (n0:=8) (cond:=bF) rfl (dq (ah 6)) cE (fun _ _ _ _=>(bD (i:=8) mq rfl (Or.inl rfl) (.inr rfl))) (fun _ _ _ _=>.nil) (fun σ H Q qz3=>(by obtain ⟨A,δ,R,o⟩:=qz3;exact o H (aA.refl _))) (fun _ _ _ _=>(cj (ah 8) av)))) aq)))) cp.nd))))
  (aG (aR (ah 2)))))) hL
theorem Ab:aZ ["errand"] ["errand"] (ax oT):=⟨rfl,rfl,rfl,by decide +kernel,rfl,by decide +kernel,by decide +kernel⟩
theorem vM:(["errand", "part"]:List Str).Nodup:=by decide +kernel
theorem pD (T:Tx K mg cs) { gf:Gf} (hL:∀ ds,ds.length=1->gf ds≠.no->bu (pH cs (ds.map some++List.replicate 0 none))=gf ds):bg P w K mg base 1 "work_of" 1 gf:=by obtain ⟨f,fd,F,b,m⟩:=T.f_work_of;exact bg.of (O:=[]) (G:=pH cs) F Ab b m (by decide) (fun cdv A outer s H E hr=>(aG (aR (yF rfl T.b_sum (ag (e9 (cX (M:=["errand"]) (own:=["part"]) (n0:=1) (cond:=bF) rfl (dq (cj (ah 0) av)) cE (fun _ _ _ _=>(bD (i:=1) vM rfl (Or.inl rfl) (.inr rfl))) (fun _ _ _ _=>.nil) (fun σ H Q qz3=>(by obtain ⟨A,δ,R,o⟩:=qz3;exact o H (aA.refl _))) (fun _ _ _ _=>(cj (ah 1) av)))) aq))))) hL
theorem sf:aZ ["errands", "times"] ["errands", "times"] (ax je):=⟨rfl,rfl,rfl,by decide +kernel,rfl,by decide +kernel,by decide +kernel⟩
theorem pK:(["errands", "times", "errand"]:List Str).Nodup:=by decide +kernel
theorem i9 (T:Tx K mg cs) { gf_work_of gf:Gf} (pD:bg P w K mg base 1 "work_of" 1 gf_work_of) (hL:∀ ds,ds.length=2->gf ds≠.no->bu (eB cs gf_work_of (ds.map some++List.replicate 0 none))=gf ds):bg P w K mg base 2 "works_until" 2 gf:=by obtain ⟨f,fd,F,b,m⟩:=T.f_works_until;exact bg.of (O:=[]) (G:=eB cs gf_work_of) F sf b m (by decide) (fun cdv A outer s H E hr=>(aG (aR (yF rfl T.b_sum (ag (e9 (cX (M:=["errands", "times"]) (own:=["errand"]) (n0:=2) (cond:=bF) rfl (dq (ah 0)) cE (fun _ _ _ _=>(bD (i:=2) pK rfl (Or.inl rfl) (.inr rfl))) (fun _ _ _ _=>.nil) (fun σ H Q qz3=>(by obtain ⟨A,δ,R,o⟩:=qz3;exact o H (aA.refl _))) (fun _ _ _ _=>(km (aN pD hr cM (ag (ah 2) aq)) (bT (nV (bT (ah 1) (cj (ah 2) av)) (cj (ah 2) av)) av))))) aq))))) hL
theorem jV:aZ ["errands", "times", "works"] ["errands"] (ax oP):=⟨rfl,rfl,rfl,by decide +kernel,rfl,by decide +kernel,by decide +kernel⟩
theorem pF (T:Tx K mg cs) { a8 aM gf:Gf} (i9:bg P w K mg base 2 "works_until" 2 a8) (gm:bg P w K mg base 5 "checked" 1 aM) (hL:∀ ds,ds.length=1->gf ds≠.no->bu (ip cs a8 aM (ds.map some++List.replicate 2 none))=gf ds):bg P w K mg base 6 "stretch" 1 gf:=by
 obtain ⟨f,fd,F,b,m⟩:=T.f_stretch;exact bg.of (O:=[]) (G:=ip cs a8 aM) F jV b m (by decide) (fun cdv A outer s H E hr=>(aw (nG (aN gm hr a9 (ag (ah 0) aq)))
  (aw (bj (i:=1) av jV.nd)
  (aw (uu 1000000 PassesOwn.leaving (yP (ah 1) (fK T.c_LONGEST_STRETCH)) (aw (bj (i:=2) (aN i9 hr a9 (ag (ah 0) (ag (ah 1) aq))) jV.nd)
  (aw (cF (yP (ah 2) (ah 1)) (aG (aR (ah 1))) bW)
  (aG (bj (i:=1) (ah 2) jV.nd)))))
  (aG (aR fW)))))) hL
theorem ig:aZ ["_law_script", "_law_at", "_law_many", "_law_left", "_law_made", "_law_k"] ["_law_script", "_law_at", "_law_many"] (ax ku):=⟨rfl,rfl,rfl,by decide +kernel,rfl,by decide +kernel,by decide +kernel⟩
theorem kZ (T:Tx K mg cs) { ak gf:Gf} (bN:bg P w K mg base 2 "_law_mixed" 3 ak) (hL:∀ ds,ds.length=3->gf ds≠.no->bu (gy cs ak (ds.map some++List.replicate 3 none))=gf ds):bg P w K mg base 3 "_law_ranks" 3 gf:=by
 obtain ⟨f,fd,F,b,m⟩:=T.f_law_ranks;exact bg.of (O:=[3,4]) (G:=gy cs ak) F ig b m (by decide) (fun cdv A outer s H E hr=>(aw (ni (i:=3) (BJ rfl T.b_range T.b_list (ag (ah 2) aq)) ig.nd)
  (aw (ni (i:=4) (qp aq) ig.nd)
  (aw (iS PassesOwn.leaving rfl (iF T.b_range (ag (ah 2) aq)) (jj (i:=5) (by decide)) (bD (i:=5) ig.nd rfl (by first | exact Or.inl rfl | exact Or.inr rfl)) (aG (yJ (y:=4) (x:=3) (aN bN hr a9 (ag (ah 0) (ag (bT (ah 1) (ah 5)) (ag (eS T.b_len (ag (ah 3) aq)) aq)))))))
  (aG (aR (lV T.b_tuple (ag (ah 4) aq)))))))) hL
theorem cK:aZ ["_law_script", "_law_at", "_law_top", "_law_tools", "_law_every", "_law_late", "_law_due", "_law_parts", "_law_k", "_law_cell"] ["_law_script", "_law_at", "_law_top", "_law_tools"] (ax j9):=⟨rfl,rfl,rfl,by decide +kernel,rfl,by decide +kernel,by decide +kernel⟩
theorem jG (T:Tx K mg cs) { ak gf:Gf} (bN:bg P w K mg base 2 "_law_mixed" 3 ak) (hL:∀ ds,ds.length=4->gf ds≠.no->bu (fO cs ak (ds.map some++List.replicate 6 none))=gf ds):bg P w K mg base 3 "_law_errand" 4 gf:=by
 obtain ⟨f,fd,F,b,m⟩:=T.f_law_errand;exact bg.of (O:=[7]) (G:=fO cs ak) F cK b m (by decide) (fun cdv A outer s H E hr=>(aw (bj (i:=4) (bT av (aN bN hr a9 (ag (ah 0) (ag (ah 1) (ag (ah 2) aq))))) cK.nd)
  (aw (bj (i:=5) (km (aN bN hr a9 (ag (ah 0) (ag (bT (ah 1) av) (ag av aq)))) (yb T.b_int (ag (Ei hr (aN bN hr a9 (ag (ah 0) (ag (bT (ah 1) av) (ag av aq)))) av) aq))) cK.nd)
  (aw (bj (i:=5) (qu rfl T.b_min (ag (ah 5) (ag (iM (ah 4) av) aq))) cK.nd)
  (aw (bj (i:=6) (iM (ah 4) (ah 5)) cK.nd)
  (aw (cF (jQ hr (aN bN hr a9 (ag (ah 0) (ag (bT (ah 1) av) (ag av aq)))) av) (aG (bj (i:=6) (iM (ah 6) (aN bN hr a9 (ag (ah 0) (ag (bT (ah 1) av) (ag (ah 6) aq))))) cK.nd)) bW)
  (aw (ni (i:=7) (qp aq) cK.nd)
  (aw (iS PassesOwn.leaving rfl (iF T.b_range (ag (aN bN hr a9 (ag (ah 0) (ag (bT (ah 1) av) (ag av aq)))) aq)) (jj (i:=8) (by decide)) (bD (i:=8) cK.nd rfl (by first | exact Or.inl rfl | exact Or.inr rfl)) (aw (bj (i:=9) (aN bN hr a9 (ag (ah 0) (ag (bT (bT (ah 1) av) (ah 8)) (ag av aq)))) cK.nd)
  (aw (qw (i:=7) (lX (ag (bT av (lZ (ah 9) av)) (ag (cj (kT (ag av (ag av (ag av (ag av (ag fW aq)))))) (lZ (nV (ah 9) av) av)) aq))))
  (aG (cF (dJ (cN (ah 3))) (aG (EU (i:=7) (lX (ag (cj (cj (ah 7) (vT av)) av) (ag fW aq))) (vT av))) bW)))))
  (aG (aR (lX (ag (ah 4) (ag (ah 6) (ag (ah 5) (ag (lV T.b_tuple (ag (bT (ah 7) (kT (ag (lX (ag (bT av (aN bN hr a9 (ag (ah 0) (ag (bT (ah 1) av) (ag av aq))))) (ag fW aq))) aq))) aq)) aq))))))))))))))) hL
theorem kC:aZ ["_law_script", "_law_at", "_law_most", "_law_top", "_law_tools", "_law_many"] ["_law_script", "_law_at", "_law_most", "_law_top", "_law_tools"] (ax i3):=⟨rfl,rfl,rfl,by decide +kernel,rfl,by decide +kernel,by decide +kernel⟩
theorem om:(["_law_script", "_law_at", "_law_most", "_law_top", "_law_tools", "_law_many", "_law_k"]:List Str).Nodup:=by decide +kernel
theorem ji (T:Tx K mg cs) { bV ak gf:Gf} (jG:bg P w K mg base 3 "_law_errand" 4 bV) (bN:bg P w K mg base 2 "_law_mixed" 3 ak) (hL:∀ ds,ds.length=5->gf ds≠.no->bu (fe cs bV ak (ds.map some++List.replicate 1 none))=gf ds):bg P w K mg base 4 "_law_errands" 5 gf:=by
 obtain ⟨f,fd,F,b,m⟩:=T.f_law_errands;exact bg.of (O:=[]) (G:=fe cs bV ak) F kC b m (by decide) (fun cdv A outer s H E hr=>(aw (bj (i:=5) (bT av (aN bN hr a9 (ag (ah 0) (ag (ah 1) (ag (ah 2) aq))))) kC.nd)
  (aG (aR (lV T.b_tuple (ag (e9 (cX (M:=["_law_script", "_law_at", "_law_most", "_law_top", "_law_tools", "_law_many"]) (own:=["_law_k"]) (n0:=6) (cond:=bF) rfl (iF T.b_range (ag (ah 5) aq)) cE (fun _ _ _ _=>(bD (i:=6) om rfl (Or.inl rfl) (.inr rfl))) (fun _ _ _ _=>.nil) (fun σ H Q qz3=>(by obtain ⟨A,δ,R,o⟩:=qz3;exact o H (aA.refl _))) (fun _ _ _ _=>(aN jG hr cM (ag (ah 0) (ag (bT (bT (ah 1) av) (km av (ah 6))) (ag (ah 3) (ag (ah 4) aq)))))))) aq)))))) hL
theorem iN:aZ ["_law_script", "_law_errands_here", "_law_ranks_here", "_law_answer", "_law_due", "_law_comings_here", "_law_lending", "_law_size", "_law_job", "_law_rows"] ["_law_script"] (ax ur):=⟨rfl,rfl,rfl,by decide +kernel,rfl,by decide +kernel,by decide +kernel⟩
theorem CI:(["_law_script", "_law_errands_here", "_law_ranks_here", "_law_answer", "_law_due", "_law_comings_here", "_law_lending", "_law_size", "_law_job", "_law_rows", "_law_errand_here"]:List Str).Nodup:=by decide +kernel
theorem Cw:(["_law_script", "_law_errands_here", "_law_ranks_here", "_law_answer", "_law_due", "_law_comings_here", "_law_lending", "_law_size", "_law_job", "_law_rows", "_law_time"]:List Str).Nodup:=by decide +kernel
theorem law_fn (T:Tx K mg cs) {f:Addr} {fd:FuncData} (F:Fun K "law" "law" ur f fd) { dg bE ak bI aO cA bP bp gf:Gf} (AJ:bg P w K mg base 8 "run" 4 dg) (jf:bg P w K mg base 1 "_law_soonest" 2 bE) (bN:bg P w K mg base 2 "_law_mixed" 3 ak) (ja:bg P w K mg base 4 "_law_comings" 4 bI) (gU:bg P w K mg base 1 "_law_all_works" 2 aO) (pF:bg P w K mg base 6 "stretch" 1 cA) (kZ:bg P w K mg base 3 "_law_ranks" 3 bP) (ji:bg P w K mg base 4 "_law_errands" 5 bp) (hL:∀ ds,ds.length=1->gf ds≠.no->bu (xl cs dg bE ak bI aO cA bP bp (ds.map some++List.replicate 9 none))=gf ds):iC P w K mg base (CXW P w) 9 f fd ["_law_script"] (spD K 1 gf) :=
 A5 (O:=[]) (G:=xl cs dg bE ak bI aO cA bP bp) F iN (by decide) (fun cdv A outer s H E hr=>(aw (bj (i:=1) (aN ji hr a9 (ag (ah 0) (ag av (ag av (ag av (ag kf aq)))))) iN.nd)
  (aw (bj (i:=2) (aN kZ hr a9 (ag (ah 0) (ag av (ag (eS T.b_len (ag (ah 1) aq)) aq)))) iN.nd)
  (aw (bj (i:=3) (aN pF hr a9 (ag (ah 1) aq)) iN.nd)
  (aw (bj (i:=4) (cj (bT (e9 (cX (M:=["_law_script", "_law_errands_here", "_law_ranks_here", "_law_answer", "_law_due", "_law_comings_here", "_law_lending", "_law_size", "_law_job", "_law_rows"]) (own:=["_law_time"]) (n0:=10) (cond:=(gT (g2 dLe (ay aO (ae (af 1) (ae (af 10) ao))) (af 10)))) rfl (zq T.b_range (ag av (ag av aq))) cE (fun _ _ _ _=>(bD (i:=10) Cw rfl (Or.inl rfl) (.inr rfl))) (fun _ _ _ _=>(wg (yP (aN gU hr cM (ag (ah 1) (ag (ah 10) aq))) (ah 10)))) (fun _ _ _ h=>h) (fun _ _ _ _=>(ah 10)))) (kT (ag fW aq))) av) iN.nd)
  (aw (cF (zr hr (ah 3) (ah 4)) (aG (aR (rJ (rY (ah 4)) (mD (GO (rY (ah 3)) (mD (Jl (ah 3) av))))))) bW)
  (aw (bj (i:=5) (aN ja hr a9 (ag (ah 0) (ag av (ag (ah 1) (ag av aq))))) iN.nd)
  (aw (bj (i:=6) (cj (kT (ag iZ (ag iZ (ag iZ aq)))) (aN bN hr a9 (ag (ah 0) (ag av (ag av aq))))) iN.nd)
  (aw (bj (i:=7) av iN.nd)
  (aw (iS PassesOwn.leaving rfl (dq (aN AJ hr a9 (ag (ah 1) (ag (ah 2) (ag (ah 5) (ag (ah 6) aq)))))) (jj (i:=8) (by decide)) (bD (i:=8) iN.nd rfl (by first | exact Or.inl rfl | exact Or.inr rfl)) (aw (bj (i:=7) (cj (kT (ag (bT (ah 7) av) (ag av aq))) (yb T.b_int (ag (rY (ah 8)) aq))) iN.nd)
  (aG (cF (lN (AN (wF (ah 4)) (w6 (sk (ah 7) (ah 4))))) (aG (aR kf)) bW))))
  (aw (cF (lN (lp (qD (ah 4)) (iW (sk (ah 4) av)))) (aG (aR kf)) bW)
  (aw (xO (i:=9) (wB (i:=9) (M:=["_law_script", "_law_errands_here", "_law_ranks_here", "_law_answer", "_law_due", "_law_comings_here", "_law_lending", "_law_size", "_law_job", "_law_rows"]) (own:=["_law_errand_here"]) (n0:=10) (cond:=bF) rfl iN.nd (dq (ah 1)) cE (fun _ _ _ _=>(bD (i:=10) CI rfl (Or.inl rfl) (.inr rfl))) (fun _ _ _ _=>.nil) (fun σ H Q qz3=>(by obtain ⟨A,δ,R,o⟩:=qz3;exact o H (aA.refl _))) (fun _ _ _ _=>(aN jf hr cM (ag (ah 10) (ag (ah 4) aq))))))
  (aG (aR (Ei hr (Bt hr.units (bT (aN AJ hr a9 (ag (ah 1) (ag (ah 2) (ag (ah 9) (ag (ah 6) aq))))) (kT (ag fW aq))) fW) (ah 4)))))))))))))))) hL
theorem law_ok (T:Tx K mg cs) (hB:pT mg base) (hK:K.In base) {f:Addr} {fd:FuncData} (F:Fun K "law" "law" ur f fd):iC P w K mg base (CXW P w) 9 f fd ["_law_script"] (spD K 1 (gx 63)):=by have d_is_whole:=cW (P:=P) (w:=w) (base:=base) T (zB cs);have d_have_moments:=iw (P:=P) (w:=w) (base:=base) T (sv cs);have d_is_row:=sU (P:=P) (w:=w) (base:=base) T d_is_whole d_have_moments (Dp cs);have d_is_tuple:=dh (P:=P) (w:=w) (base:=base) T (zC cs);have d_is_part:=oy (P:=P) (w:=w) (base:=base) T d_is_whole d_is_tuple (Bn cs);have d_are_parts:=ko (P:=P) (w:=w) (base:=base) T d_is_tuple d_is_part (wU cs);have d_is_errand:=kx (P:=P) (w:=w) (base:=base) T d_is_whole d_are_parts d_is_tuple (yn cs);have d_checked:=gm (P:=P) (w:=w) (base:=base) T d_is_tuple d_is_errand (BG cs);have d_checked_comings:=fE (P:=P) (w:=w) (base:=base) T d_is_row d_checked (mL cs);have d_has_tool:=mf (P:=P) (w:=w) (base:=base) T (za cs);have d_height:=sQ (P:=P) (w:=w) (base:=base) T d_has_tool (CA cs);have d_heights_of:=jO (P:=P) (w:=w) (base:=base) T d_height (vo cs);have d_Jobs_are_done:=g9 (P:=P) (w:=w) (base:=base) T (gf:=bB cs) iY;have d_Jobs_wanted:=fc (P:=P) (w:=w) (base:=base) T (gf:=aE cs) iY;have d_Jobs_held:=gK (P:=P) (w:=w) (base:=base) T (gf:=aJ cs) iY;have d_holder:=kL (P:=P) (w:=w) (base:=base) T (gf:=bA cs) d_Jobs_held iY;have d_lent_ranks:=jK (P:=P) (w:=w) (base:=base) T (gf:=bY cs) d_Jobs_wanted d_holder iY;have d_height_by_high:=fU (P:=P) (w:=w) (base:=base) T (gf:=bK cs) d_Jobs_held iY;have d_picked:=rh (P:=P) (w:=w) (base:=base) T hB hK (gf:=dE cs) d_lent_ranks d_Jobs_wanted d_holder d_height_by_high iY;have d_Jobs_is_there:=gX (P:=P) (w:=w) (base:=base) T (gf:=aS cs) iY;have d_Jobs_go_on:=jY (P:=P) (w:=w) (base:=base) T (Du cs);have d_run_of:=qO (P:=P) (w:=w) (base:=base) T d_heights_of d_Jobs_are_done d_picked d_Jobs_is_there d_Jobs_go_on (yC T) (EK cs) (DB cs);have d_checked_ranks:=gN (P:=P) (w:=w) (base:=base) T d_is_tuple d_is_whole (qc cs);have d_run:=AJ (P:=P) (w:=w) (base:=base) T d_checked_comings d_run_of d_checked_ranks d_checked (Jo cs);have d_law_soonest:=jf (P:=P) (w:=w) (base:=base) T (tT cs);have d_law_mixed:=bN (P:=P) (w:=w) (base:=base) T;have d_law_coming_row:=f7 (P:=P) (w:=w) (base:=base) T d_law_mixed (pB cs);have d_law_comings:=ja (P:=P) (w:=w) (base:=base) T d_law_coming_row (tN cs);have d_law_all_works:=gU (P:=P) (w:=w) (base:=base) T (qd cs);have d_work_of:=pD (P:=P) (w:=w) (base:=base) T (BN cs);have d_works_until:=i9 (P:=P) (w:=w) (base:=base) T d_work_of (tW cs);have d_stretch:=pF (P:=P) (w:=w) (base:=base) T d_works_until d_checked (Bu cs);have d_law_ranks:=kZ (P:=P) (w:=w) (base:=base) T d_law_mixed (yu cs);have d_law_errand:=jG (P:=P) (w:=w) (base:=base) T d_law_mixed (vh cs);have d_law_errands:=ji (P:=P) (w:=w) (base:=base) T d_law_errand d_law_mixed (tU cs);exact law_fn T F d_run d_law_soonest d_law_mixed d_law_comings d_law_all_works d_stretch d_law_ranks d_law_errands (Ja cs)
end
end RS
namespace L2
open PySem PySem.Spec PyProof.Rows
theorem nL {K:PySem.W.Frag} {m qual:Str} {st:Stmt} {ps:List Str} {f C:Addr} {oc:Value} {od an:Option Addr} {sl:Array (Option Value)} {kV dc pm cd ct:Value}
  (hb:∀ (kV doc pm:Value) (an:Option Addr) (cdv ct:Value) (us:List Value),us.length=ps.length->bindArgs (PySem.W.fnOf m qual (fF st) (dm st) (ax st) .none kV doc pm an cdv ct) ⟨us,[]⟩=pure (ps.zip us))
  (hm:Meth K C m f) (l:K.lookup f=some ⟨oc,od,.func (PySem.W.fnOf m qual (fF st) (dm st) (ax st) .none kV dc pm an cd ct),sl⟩)
  (c:PySem.W.codeIn K cd qual=true) (k:PySem.W.keepIn K (.ref f)=true):∃ f fd,Fun K m qual st f fd/\Binds K fd ps []/\Meth K C m f :=
 have F:=zk (st:=st) l c k
 ⟨f,_,F,F.binds hb,hm⟩
theorem DM {K:PySem.W.Frag} {x:Str} {f c P:Addr} {oc:Value} {od:Option Addr} {fd:FuncData} {sl:Array (Option Value)} {o:Obj} {vs:Array Value} (h1:PySem.W.nsIn K mainGlobals x=some (some (.ref f))) (h2:K.lookup f=some ⟨oc,od,.func fd,sl⟩) (h3:fd.code=.ref c) (h4:K.lookup c=some o) (h5:o.data=.fields vs) (h6:vs[11]?=some (.ref P)):PySem.W.tabIn K x=some (c,P):=by obtain ⟨cl,di,da,so⟩:=o;cases h5;unfold PySem.W.tabIn;rw [h1];simp only;rw [h2];simp only;rw [h3];simp only;rw [h4];simp only;rw [h6]
theorem Ce {x:Str} (hl:qC=[x]) {p:Program} {loose:List Str} {mean:ExcName->Option Value} {mg mb:Str->Option Value} {h:Heap} {K:PySem.W.Frag} {d:DefRec} (hr:(recsOf p).find? (fun e=>e.name==x)=some d) (hn:PySem.W.noTabs K=true) (T:Top p loose mean mg mb h) (X:K.In h):pA K h:=by
 refine ⟨fun P q ⟨x',hx,f,oc,od,fd,sl,c,h1,h2,h3,⟨o,vs,h4,h5,h6⟩,hq⟩=>?_,fun P q q' ⟨x1,hx1,_,_,_,_,_,_,_,_,_,_,e1⟩ ⟨x2,hx2,_,_,_,_,_,_,_,_,_,_,e2⟩=>?_⟩
 ·rw [hl] at hx;cases KW.mp hx;have ht:=DM h1 h2 h3 h4 h5 h6;obtain ⟨hc,hp⟩:=PySem.W.tab_of T X hr ht;refine ⟨hp,?_,?_⟩
  ·cases z:K.lookup P with
   | none=>rfl
   | some o' =>exfalso;have e:=X P o' z;rw [hp] at e;cases e;have h7:=L4.mp hn (P,_) (PySem.W.mem_of_lookupK z);exact absurd (show false=true from h7) L9
  ·obtain ⟨o2,vs2,_,_,_,_,_,_,_,g1,g2,g3,g4,_⟩:=hc;exact ⟨c,o2,vs2,g1,g2,g3,g4⟩
 ·rw [hl] at hx1 hx2;rw [e1,e2,KW.mp hx1,KW.mp hx2]
theorem BE {K:PySem.W.Frag} {c P:Addr} {od:Option Addr} {vs:Array Value} {sl:Array (Option Value)} {file:Str} {tf:Nat} {flags text:Int} {tg tt:Nat} {inF:Bool} (l:K.lookup c=some ⟨.type "code",od,.fields vs,sl⟩) (h11:vs[11]?=some (.ref P)) (h18:vs.getD 18 .none=.str file tf) (h7:vs.getD 7 .none=.int flags tg) (h9:vs.getD 9 .none=.bool inF) (h10:vs.getD 10 .none=.int text tt) (ne:(c != P)=true):PySem.W.codeHdIn K c P=true:=by unfold PySem.W.codeHdIn;rw [l];simp only;rw [h11,h18,h7,h9,h10,ne];simp
theorem E8 {K:PySem.W.Frag} {x:Str} {f c P:Addr} {oc:Value} {od od2:Option Addr} {fd:FuncData} {sl sl2:Array (Option Value)} {vs:Array Value} {file:Str} {tf:Nat} {flags text:Int} {tg tt:Nat} {inF:Bool} (h1:PySem.W.nsIn K mainGlobals x=some (some (.ref f))) (h2:K.lookup f=some ⟨oc,od,.func fd,sl⟩) (h3:fd.code=.ref c) (l:K.lookup c=some ⟨.type "code",od2,.fields vs,sl2⟩) (h11:vs[11]?=some (.ref P)) (h18:vs.getD 18 .none=.str file tf) (h7:vs.getD 7 .none=.int flags tg) (h9:vs.getD 9 .none=.bool inF) (h10:vs.getD 10 .none=.int text tt) (ne:(c != P)=true):EY K x :=
 ⟨f,oc,od,fd,sl,c,P,_,vs,h1,h2,h3,l,rfl,h11,BE l h11 h18 h7 h9 h10 ne⟩
theorem zj {x:Str} (hl:qC=[x]) {p:Program} (hr:((recsOf p).find? (fun e=>e.name==x)).isSome=true) {K:PySem.W.Frag} (hn:PySem.W.noTabs K=true) {loose:List Str} {mean:ExcName->Option Value} {mg mb:Str->Option Value} {h:Heap} (T:Top p loose mean mg mb h) (X:K.In h):pA K h:=by obtain ⟨d,hd⟩:=Option.isSome_iff_exists.mp hr;exact Ce hl hd hn T X
end L2
namespace RS
theorem l8 {n:Nat} {us:List PySem.Value} (h:us.length=n+1):∃ a t,us=a::t/\t.length=n:=by
 cases us with
 | nil=>cases h
 | cons a t=>exact ⟨a,t,rfl,Nat.succ.inj h⟩
theorem nQ {us:List PySem.Value} (h:us.length=1):∃ a0,us=[a0]:=by obtain ⟨a0,t0,e0,h0⟩:=l8 h;have e:=Ly h0;exact ⟨_,by rw [e0,e]⟩
theorem oV {us:List PySem.Value} (h:us.length=2):∃ a0 a1,us=[a0,a1]:=by obtain ⟨a0,t0,e0,h0⟩:=l8 h;obtain ⟨a1,t1,e1,h1⟩:=l8 h0;have e:=Ly h1;exact ⟨_,_,by rw [e0,e1,e]⟩
theorem Bo {us:List PySem.Value} (h:us.length=3):∃ a0 a1 a2,us=[a0,a1,a2]:=by obtain ⟨a0,t0,e0,h0⟩:=l8 h;obtain ⟨a1,t1,e1,h1⟩:=l8 h0;obtain ⟨a2,t2,e2,h2⟩:=l8 h1;have e:=Ly h2;exact ⟨_,_,_,by rw [e0,e1,e2,e]⟩
theorem Dr {us:List PySem.Value} (h:us.length=4):∃ a0 a1 a2 a3,us=[a0,a1,a2,a3]:=by obtain ⟨a0,t0,e0,h0⟩:=l8 h;obtain ⟨a1,t1,e1,h1⟩:=l8 h0;obtain ⟨a2,t2,e2,h2⟩:=l8 h1;obtain ⟨a3,t3,e3,h3⟩:=l8 h2;have e:=Ly h3;exact ⟨_,_,_,_,by rw [e0,e1,e2,e3,e]⟩
theorem JZ {us:List PySem.Value} (h:us.length=5):∃ a0 a1 a2 a3 a4,us=[a0,a1,a2,a3,a4]:=by obtain ⟨a0,t0,e0,h0⟩:=l8 h;obtain ⟨a1,t1,e1,h1⟩:=l8 h0;obtain ⟨a2,t2,e2,h2⟩:=l8 h1;obtain ⟨a3,t3,e3,h3⟩:=l8 h2;obtain ⟨a4,t4,e4,h4⟩:=l8 h3;have e:=Ly h4;exact ⟨_,_,_,_,_,by rw [e0,e1,e2,e3,e4,e]⟩
end RS
open PySem PySem.W PyProof.Rows
set_option maxRecDepth 100000 in
set_option maxHeartbeats 0 in
theorem PySem.Challenge.cw_ranksure_k28_whole_stretch_holds : PySem.Challenge.rw_ranksure_k28_whole_stretch.Holds := by
 refine RS.hdTop ?_
 k_fill
 refine RS.Jq (l:=PySem.Challenge.rw_ranksure_k28_whole_stretch) (n:=63) (k:=9) (x:="_law_script") (st:=RS.ur) rfl (by decide) rfl ⟨rfl,by decide,by decide⟩ (fun w h Y=>PySem.W.km_in_of Y) (fun _ _ _ _ _ _ us hl=>by obtain ⟨_,rfl⟩:=RS.nQ hl;rfl) ?F (fun w h l m mg mb T X=>L2.zj (x:="picked") rfl (by kernel_rfl) (by kernel_rfl) T X)
 case F =>
  intro w mg h KX G;have f_is_whole:RS.bw (L2.KOf KX) mg "is_whole" RS.mj ["thing", "least", "most"]:=by
   delta L2.KOf
   refine' RS.bx KX G (fun _ _ _ _ _ _ us hl=>by obtain ⟨_,_,_,rfl⟩:=RS.Bo hl;rfl) ?a_is_whole ?l_is_whole ?c_is_whole ?k_is_whole
   (case a_is_whole=>k_is);(case l_is_whole=>k_is);(case c_is_whole=>k_is);(case k_is_whole=>k_is)
  have f_is_tuple:RS.bw (L2.KOf KX) mg "is_tuple" RS.mn ["thing", "fewest", "most"]:=by
   delta L2.KOf
   refine' RS.bx KX G (fun _ _ _ _ _ _ us hl=>by obtain ⟨_,_,_,rfl⟩:=RS.Bo hl;rfl) ?a_is_tuple ?l_is_tuple ?c_is_tuple ?k_is_tuple
   (case a_is_tuple=>k_is);(case l_is_tuple=>k_is);(case c_is_tuple=>k_is);(case k_is_tuple=>k_is)
  have f_is_part:RS.bw (L2.KOf KX) mg "is_part" RS.pz ["thing"]:=by
   delta L2.KOf
   refine' RS.bx KX G (fun _ _ _ _ _ _ us hl=>by obtain ⟨_,rfl⟩:=RS.nQ hl;rfl) ?a_is_part ?l_is_part ?c_is_part ?k_is_part
   (case a_is_part=>k_is);(case l_is_part=>k_is);(case c_is_part=>k_is);(case k_is_part=>k_is)
  have f_are_parts:RS.bw (L2.KOf KX) mg "are_parts" RS.kn ["thing"]:=by
   delta L2.KOf
   refine' RS.bx KX G (fun _ _ _ _ _ _ us hl=>by obtain ⟨_,rfl⟩:=RS.nQ hl;rfl) ?a_are_parts ?l_are_parts ?c_are_parts ?k_are_parts
   (case a_are_parts=>k_is);(case l_are_parts=>k_is);(case c_are_parts=>k_is);(case k_are_parts=>k_is)
  have f_is_errand:RS.bw (L2.KOf KX) mg "is_errand" RS.kz ["thing"]:=by
   delta L2.KOf
   refine' RS.bx KX G (fun _ _ _ _ _ _ us hl=>by obtain ⟨_,rfl⟩:=RS.nQ hl;rfl) ?a_is_errand ?l_is_errand ?c_is_errand ?k_is_errand
   (case a_is_errand=>k_is);(case l_is_errand=>k_is);(case c_is_errand=>k_is);(case k_is_errand=>k_is)
  have f_checked:RS.bw (L2.KOf KX) mg "checked" RS.oC ["errands"]:=by
   delta L2.KOf
   refine' RS.bx KX G (fun _ _ _ _ _ _ us hl=>by obtain ⟨_,rfl⟩:=RS.nQ hl;rfl) ?a_checked ?l_checked ?c_checked ?k_checked
   (case a_checked=>k_is);(case l_checked=>k_is);(case c_checked=>k_is);(case k_checked=>k_is)
  have f_checked_ranks:RS.bw (L2.KOf KX) mg "checked_ranks" RS.gY ["errands", "ranks"]:=by
   delta L2.KOf
   refine' RS.bx KX G (fun _ _ _ _ _ _ us hl=>by obtain ⟨_,_,rfl⟩:=RS.oV hl;rfl) ?a_checked_ranks ?l_checked_ranks ?c_checked_ranks ?k_checked_ranks
   (case a_checked_ranks=>k_is);(case l_checked_ranks=>k_is);(case c_checked_ranks=>k_is);(case k_checked_ranks=>k_is)
  have f_work_of:RS.bw (L2.KOf KX) mg "work_of" RS.oT ["errand"]:=by
   delta L2.KOf
   refine' RS.bx KX G (fun _ _ _ _ _ _ us hl=>by obtain ⟨_,rfl⟩:=RS.nQ hl;rfl) ?a_work_of ?l_work_of ?c_work_of ?k_work_of
   (case a_work_of=>k_is);(case l_work_of=>k_is);(case c_work_of=>k_is);(case k_work_of=>k_is)
  have f_has_tool:RS.bw (L2.KOf KX) mg "has_tool" RS.mx ["errand", "tool"]:=by
   delta L2.KOf
   refine' RS.bx KX G (fun _ _ _ _ _ _ us hl=>by obtain ⟨_,_,rfl⟩:=RS.oV hl;rfl) ?a_has_tool ?l_has_tool ?c_has_tool ?k_has_tool
   (case a_has_tool=>k_is);(case l_has_tool=>k_is);(case c_has_tool=>k_is);(case k_has_tool=>k_is)
  have f_height:RS.bw (L2.KOf KX) mg "height" RS.sJ ["errands", "ranks", "tool"]:=by
   delta L2.KOf
   refine' RS.bx KX G (fun _ _ _ _ _ _ us hl=>by obtain ⟨_,_,_,rfl⟩:=RS.Bo hl;rfl) ?a_height ?l_height ?c_height ?k_height
   (case a_height=>k_is);(case l_height=>k_is);(case c_height=>k_is);(case k_height=>k_is)
  have f_heights_of:RS.bw (L2.KOf KX) mg "heights_of" RS.jN ["errands", "ranks"]:=by
   delta L2.KOf
   refine' RS.bx KX G (fun _ _ _ _ _ _ us hl=>by obtain ⟨_,_,rfl⟩:=RS.oV hl;rfl) ?a_heights_of ?l_heights_of ?c_heights_of ?k_heights_of
   (case a_heights_of=>k_is);(case l_heights_of=>k_is);(case c_heights_of=>k_is);(case k_heights_of=>k_is)
  have f_works_until:RS.bw (L2.KOf KX) mg "works_until" RS.je ["errands", "times"]:=by
   delta L2.KOf
   refine' RS.bx KX G (fun _ _ _ _ _ _ us hl=>by obtain ⟨_,_,rfl⟩:=RS.oV hl;rfl) ?a_works_until ?l_works_until ?c_works_until ?k_works_until
   (case a_works_until=>k_is);(case l_works_until=>k_is);(case c_works_until=>k_is);(case k_works_until=>k_is)
  have f_stretch:RS.bw (L2.KOf KX) mg "stretch" RS.oP ["errands"]:=by
   delta L2.KOf
   refine' RS.bx KX G (fun _ _ _ _ _ _ us hl=>by obtain ⟨_,rfl⟩:=RS.nQ hl;rfl) ?a_stretch ?l_stretch ?c_stretch ?k_stretch
   (case a_stretch=>k_is);(case l_stretch=>k_is);(case c_stretch=>k_is);(case k_stretch=>k_is)
  have f_have_moments:RS.bw (L2.KOf KX) mg "have_moments" RS.iz ["errand", "row"]:=by
   delta L2.KOf
   refine' RS.bx KX G (fun _ _ _ _ _ _ us hl=>by obtain ⟨_,_,rfl⟩:=RS.oV hl;rfl) ?a_have_moments ?l_have_moments ?c_have_moments ?k_have_moments
   (case a_have_moments=>k_is);(case l_have_moments=>k_is);(case c_have_moments=>k_is);(case k_have_moments=>k_is)
  have f_is_row:RS.bw (L2.KOf KX) mg "is_row" RS.qN ["errand", "thing"]:=by
   delta L2.KOf
   refine' RS.bx KX G (fun _ _ _ _ _ _ us hl=>by obtain ⟨_,_,rfl⟩:=RS.oV hl;rfl) ?a_is_row ?l_is_row ?c_is_row ?k_is_row
   (case a_is_row=>k_is);(case l_is_row=>k_is);(case c_is_row=>k_is);(case k_is_row=>k_is)
  have f_checked_comings:RS.bw (L2.KOf KX) mg "checked_comings" RS.fJ ["errands", "comings"]:=by
   delta L2.KOf
   refine' RS.bx KX G (fun _ _ _ _ _ _ us hl=>by obtain ⟨_,_,rfl⟩:=RS.oV hl;rfl) ?a_checked_comings ?l_checked_comings ?c_checked_comings ?k_checked_comings
   (case a_checked_comings=>k_is);(case l_checked_comings=>k_is);(case c_checked_comings=>k_is);(case k_checked_comings=>k_is)
  have f_height_by_high:RS.bw (L2.KOf KX) mg "height_by_high" RS.fT ["jobs", "tops"]:=by
   delta L2.KOf
   refine' RS.bx KX G (fun _ _ _ _ _ _ us hl=>by obtain ⟨_,_,rfl⟩:=RS.oV hl;rfl) ?a_height_by_high ?l_height_by_high ?c_height_by_high ?k_height_by_high
   (case a_height_by_high=>k_is);(case l_height_by_high=>k_is);(case c_height_by_high=>k_is);(case k_height_by_high=>k_is)
  have f_holder:RS.bw (L2.KOf KX) mg "holder" RS.sL ["there", "tool"]:=by
   delta L2.KOf
   refine' RS.bx KX G (fun _ _ _ _ _ _ us hl=>by obtain ⟨_,_,rfl⟩:=RS.oV hl;rfl) ?a_holder ?l_holder ?c_holder ?k_holder
   (case a_holder=>k_is);(case l_holder=>k_is);(case c_holder=>k_is);(case k_holder=>k_is)
  have f_lent_ranks:RS.bw (L2.KOf KX) mg "lent_ranks" RS.jR ["there"]:=by
   delta L2.KOf
   refine' RS.bx KX G (fun _ _ _ _ _ _ us hl=>by obtain ⟨_,rfl⟩:=RS.nQ hl;rfl) ?a_lent_ranks ?l_lent_ranks ?c_lent_ranks ?k_lent_ranks
   (case a_lent_ranks=>k_is);(case l_lent_ranks=>k_is);(case c_lent_ranks=>k_is);(case k_lent_ranks=>k_is)
  have f_picked:RS.bw (L2.KOf KX) mg "picked" RS.rl ["there", "tops", "lending"]:=by
   delta L2.KOf
   refine' RS.bx KX G (fun _ _ _ _ _ _ us hl=>by obtain ⟨_,_,_,rfl⟩:=RS.Bo hl;rfl) ?a_picked ?l_picked ?c_picked ?k_picked
   (case a_picked=>k_is);(case l_picked=>k_is);(case c_picked=>k_is);(case k_picked=>k_is)
  have f_run_of:RS.bw (L2.KOf KX) mg "run_of" RS.rE ["errands", "ranks", "rows", "lending"]:=by
   delta L2.KOf
   refine' RS.bx KX G (fun _ _ _ _ _ _ us hl=>by obtain ⟨_,_,_,_,rfl⟩:=RS.Dr hl;rfl) ?a_run_of ?l_run_of ?c_run_of ?k_run_of
   (case a_run_of=>k_is);(case l_run_of=>k_is);(case c_run_of=>k_is);(case k_run_of=>k_is)
  have f_run:RS.bw (L2.KOf KX) mg "run" RS.D9 ["errands", "ranks", "comings", "lending"]:=by
   delta L2.KOf
   refine' RS.bx KX G (fun _ _ _ _ _ _ us hl=>by obtain ⟨_,_,_,_,rfl⟩:=RS.Dr hl;rfl) ?a_run ?l_run ?c_run ?k_run
   (case a_run=>k_is);(case l_run=>k_is);(case c_run=>k_is);(case k_run=>k_is)
  have f_law_cell_at:RS.bw (L2.KOf KX) mg "_law_cell_at" RS.fj ["_law_script", "_law_k"]:=by
   delta L2.KOf
   refine' RS.bx KX G (fun _ _ _ _ _ _ us hl=>by obtain ⟨_,_,rfl⟩:=RS.oV hl;rfl) ?a_law_cell_at ?l_law_cell_at ?c_law_cell_at ?k_law_cell_at
   (case a_law_cell_at=>k_is);(case l_law_cell_at=>k_is);(case c_law_cell_at=>k_is);(case k_law_cell_at=>k_is)
  have f_law_mixed:RS.bw (L2.KOf KX) mg "_law_mixed" RS.iT ["_law_script", "_law_k", "_law_many"]:=by
   delta L2.KOf
   refine' RS.bx KX G (fun _ _ _ _ _ _ us hl=>by obtain ⟨_,_,_,rfl⟩:=RS.Bo hl;rfl) ?a_law_mixed ?l_law_mixed ?c_law_mixed ?k_law_mixed
   (case a_law_mixed=>k_is);(case l_law_mixed=>k_is);(case c_law_mixed=>k_is);(case k_law_mixed=>k_is)
  have f_law_errand:RS.bw (L2.KOf KX) mg "_law_errand" RS.j9 ["_law_script", "_law_at", "_law_top", "_law_tools"]:=by
   delta L2.KOf
   refine' RS.bx KX G (fun _ _ _ _ _ _ us hl=>by obtain ⟨_,_,_,_,rfl⟩:=RS.Dr hl;rfl) ?a_law_errand ?l_law_errand ?c_law_errand ?k_law_errand
   (case a_law_errand=>k_is);(case l_law_errand=>k_is);(case c_law_errand=>k_is);(case k_law_errand=>k_is)
  have f_law_errands:RS.bw (L2.KOf KX) mg "_law_errands" RS.i3 ["_law_script", "_law_at", "_law_most", "_law_top", "_law_tools"]:=by
   delta L2.KOf
   refine' RS.bx KX G (fun _ _ _ _ _ _ us hl=>by obtain ⟨_,_,_,_,_,rfl⟩:=RS.JZ hl;rfl) ?a_law_errands ?l_law_errands ?c_law_errands ?k_law_errands
   (case a_law_errands=>k_is);(case l_law_errands=>k_is);(case c_law_errands=>k_is);(case k_law_errands=>k_is)
  have f_law_ranks:RS.bw (L2.KOf KX) mg "_law_ranks" RS.ku ["_law_script", "_law_at", "_law_many"]:=by
   delta L2.KOf
   refine' RS.bx KX G (fun _ _ _ _ _ _ us hl=>by obtain ⟨_,_,_,rfl⟩:=RS.Bo hl;rfl) ?a_law_ranks ?l_law_ranks ?c_law_ranks ?k_law_ranks
   (case a_law_ranks=>k_is);(case l_law_ranks=>k_is);(case c_law_ranks=>k_is);(case k_law_ranks=>k_is)
  have f_law_coming_row:RS.bw (L2.KOf KX) mg "_law_coming_row" RS.f9 ["_law_script", "_law_at", "_law_errand_here", "_law_span"]:=by
   delta L2.KOf
   refine' RS.bx KX G (fun _ _ _ _ _ _ us hl=>by obtain ⟨_,_,_,_,rfl⟩:=RS.Dr hl;rfl) ?a_law_coming_row ?l_law_coming_row ?c_law_coming_row ?k_law_coming_row
   (case a_law_coming_row=>k_is);(case l_law_coming_row=>k_is);(case c_law_coming_row=>k_is);(case k_law_coming_row=>k_is)
  have f_law_comings:RS.bw (L2.KOf KX) mg "_law_comings" RS.i5 ["_law_script", "_law_at", "_law_errands_here", "_law_span"]:=by
   delta L2.KOf
   refine' RS.bx KX G (fun _ _ _ _ _ _ us hl=>by obtain ⟨_,_,_,_,rfl⟩:=RS.Dr hl;rfl) ?a_law_comings ?l_law_comings ?c_law_comings ?k_law_comings
   (case a_law_comings=>k_is);(case l_law_comings=>k_is);(case c_law_comings=>k_is);(case k_law_comings=>k_is)
  have f_law_all_works:RS.bw (L2.KOf KX) mg "_law_all_works" RS.gP ["_law_errands_here", "_law_time"]:=by
   delta L2.KOf
   refine' RS.bx KX G (fun _ _ _ _ _ _ us hl=>by obtain ⟨_,_,rfl⟩:=RS.oV hl;rfl) ?a_law_all_works ?l_law_all_works ?c_law_all_works ?k_law_all_works
   (case a_law_all_works=>k_is);(case l_law_all_works=>k_is);(case c_law_all_works=>k_is);(case k_law_all_works=>k_is)
  have f_law_soonest:RS.bw (L2.KOf KX) mg "_law_soonest" RS.jd ["_law_errand_here", "_law_last"]:=by
   delta L2.KOf
   refine' RS.bx KX G (fun _ _ _ _ _ _ us hl=>by obtain ⟨_,_,rfl⟩:=RS.oV hl;rfl) ?a_law_soonest ?l_law_soonest ?c_law_soonest ?k_law_soonest
   (case a_law_soonest=>k_is);(case l_law_soonest=>k_is);(case c_law_soonest=>k_is);(case k_law_soonest=>k_is)
  have f_law:RS.bw (L2.KOf KX) mg "law" RS.ur ["_law_script"]:=by
   delta L2.KOf
   refine' RS.bx KX G (fun _ _ _ _ _ _ us hl=>by obtain ⟨_,rfl⟩:=RS.nQ hl;rfl) ?a_law ?l_law ?c_law ?k_law
   (case a_law=>k_is);(case l_law=>k_is);(case c_law=>k_is);(case k_law=>k_is)
  have b_all:mg "all"=none:=by
   refine' PySem.W.mg_none_of KX G ?z_all
   (case z_all=>k_is)
  have b_bool:mg "bool"=none:=by
   refine' PySem.W.mg_none_of KX G ?z_bool
   (case z_bool=>k_is)
  have b_enumerate:mg "enumerate"=none:=by
   refine' PySem.W.mg_none_of KX G ?z_enumerate
   (case z_enumerate=>k_is)
  have b_int:mg "int"=none:=by
   refine' PySem.W.mg_none_of KX G ?z_int
   (case z_int=>k_is)
  have b_isinstance:mg "isinstance"=none:=by
   refine' PySem.W.mg_none_of KX G ?z_isinstance
   (case z_isinstance=>k_is)
  have b_len:mg "len"=none:=by
   refine' PySem.W.mg_none_of KX G ?z_len
   (case z_len=>k_is)
  have b_list:mg "list"=none:=by
   refine' PySem.W.mg_none_of KX G ?z_list
   (case z_list=>k_is)
  have b_max:mg "max"=none:=by
   refine' PySem.W.mg_none_of KX G ?z_max
   (case z_max=>k_is)
  have b_min:mg "min"=none:=by
   refine' PySem.W.mg_none_of KX G ?z_min
   (case z_min=>k_is)
  have b_range:mg "range"=none:=by
   refine' PySem.W.mg_none_of KX G ?z_range
   (case z_range=>k_is)
  have b_set:mg "set"=none:=by
   refine' PySem.W.mg_none_of KX G ?z_set
   (case z_set=>k_is)
  have b_sum:mg "sum"=none:=by
   refine' PySem.W.mg_none_of KX G ?z_sum
   (case z_sum=>k_is)
  have b_tuple:mg "tuple"=none:=by
   refine' PySem.W.mg_none_of KX G ?z_tuple
   (case z_tuple=>k_is)
  have b_zip:mg "zip"=none:=by
   refine' PySem.W.mg_none_of KX G ?z_zip
   (case z_zip=>k_is)
  have c_LAST_COMING:∃ t,mg "LAST_COMING"=some (.int 9999 t):=by
   refine' RS.gw KX G ?z_LAST_COMING
   (case z_LAST_COMING=>k_is)
  have c_LEAST_EVERY:∃ t,mg "LEAST_EVERY"=some (.int 2 t):=by
   refine' RS.gw KX G ?z_LEAST_EVERY
   (case z_LEAST_EVERY=>k_is)
  have c_LONGEST_STRETCH:∃ t,mg "LONGEST_STRETCH"=some (.int 9999 t):=by
   refine' RS.gw KX G ?z_LONGEST_STRETCH
   (case z_LONGEST_STRETCH=>k_is)
  have c_MOST_COMINGS:∃ t,mg "MOST_COMINGS"=some (.int 60 t):=by
   refine' RS.gw KX G ?z_MOST_COMINGS
   (case z_MOST_COMINGS=>k_is)
  have c_MOST_ERRANDS:∃ t,mg "MOST_ERRANDS"=some (.int 6 t):=by
   refine' RS.gw KX G ?z_MOST_ERRANDS
   (case z_MOST_ERRANDS=>k_is)
  have c_MOST_EVERY:∃ t,mg "MOST_EVERY"=some (.int 60 t):=by
   refine' RS.gw KX G ?z_MOST_EVERY
   (case z_MOST_EVERY=>k_is)
  have c_MOST_LATE:∃ t,mg "MOST_LATE"=some (.int 20 t):=by
   refine' RS.gw KX G ?z_MOST_LATE
   (case z_MOST_LATE=>k_is)
  have c_MOST_LENGTH:∃ t,mg "MOST_LENGTH"=some (.int 20 t):=by
   refine' RS.gw KX G ?z_MOST_LENGTH
   (case z_MOST_LENGTH=>k_is)
  have c_MOST_PARTS:∃ t,mg "MOST_PARTS"=some (.int 4 t):=by
   refine' RS.gw KX G ?z_MOST_PARTS
   (case z_MOST_PARTS=>k_is)
  have c_TOOLS:∃ t,mg "TOOLS"=some (.int 4 t):=by
   refine' RS.gw KX G ?z_TOOLS
   (case z_TOOLS=>k_is)
  obtain ⟨C_NoComings,C_NoErrands,C_NoRanks,e_NoComings,e_NoErrands,e_NoRanks⟩:∃ C_NoComings C_NoErrands C_NoRanks:Addr,L2.yt (L2.KOf KX) mg "NoComings" C_NoComings/\L2.yt (L2.KOf KX) mg "NoErrands" C_NoErrands/\L2.yt (L2.KOf KX) mg "NoRanks" C_NoRanks:=by
   delta L2.KOf
   refine' ⟨_,_,_,RS.wj KX G ?a_NoComings ?e_NoComings,RS.wj KX G ?a_NoErrands ?e_NoErrands,RS.wj KX G ?a_NoRanks ?e_NoRanks⟩
   (case a_NoComings=>k_is);(case e_NoComings=>k_exc)
   (case a_NoErrands=>k_is);(case e_NoErrands=>k_exc)
   (case a_NoRanks=>k_is);(case e_NoRanks=>k_exc)
  obtain ⟨C_Jobs,m_Jobs,cl_Jobs,na_Jobs_number,na_Jobs_parts,na_Jobs_rank,na_Jobs_row,na_Jobs_job,na_Jobs_part,na_Jobs_spent,mk_Jobs,mt_Jobs_are_done,mt_Jobs_is_there,mt_Jobs_held,mt_Jobs_wanted,mt_Jobs_go_on⟩:∃ C:Addr,mg "Jobs"=some (.ref C)/\L2.Cls (L2.KOf KX) C/\PySem.W.findIn (L2.KOf KX) (.ref C) "number"=some none/\PySem.W.findIn (L2.KOf KX) (.ref C) "parts"=some none/\PySem.W.findIn (L2.KOf KX) (.ref C) "rank"=some none/\PySem.W.findIn (L2.KOf KX) (.ref C) "row"=some none/\PySem.W.findIn (L2.KOf KX) (.ref C) "job"=some none/\PySem.W.findIn (L2.KOf KX) (.ref C) "part"=some none/\PySem.W.findIn (L2.KOf KX) (.ref C) "spent"=some none/\(∃ f fd,L2.Mk (L2.KOf KX) C f/\L2.Fun (L2.KOf KX) "__init__" "Jobs.__init__" RS.vq f fd/\L2.Binds (L2.KOf KX) fd ["self", "number", "parts", "rank", "row"] [])/\(∃ f fd,L2.Fun (L2.KOf KX) "are_done" "Jobs.are_done" RS.g6 f fd/\L2.Binds (L2.KOf KX) fd ["self"] []/\L2.Meth (L2.KOf KX) C "are_done" f)/\(∃ f fd,L2.Fun (L2.KOf KX) "is_there" "Jobs.is_there" RS.gO f fd/\L2.Binds (L2.KOf KX) fd ["self", "time"] []/\L2.Meth (L2.KOf KX) C "is_there" f)/\(∃ f fd,L2.Fun (L2.KOf KX) "held" "Jobs.held" RS.kX f fd/\L2.Binds (L2.KOf KX) fd ["self"] []/\L2.Meth (L2.KOf KX) C "held" f)/\(∃ f fd,L2.Fun (L2.KOf KX) "wanted" "Jobs.wanted" RS.i7 f fd/\L2.Binds (L2.KOf KX) fd ["self"] []/\L2.Meth (L2.KOf KX) C "wanted" f)/\(∃ f fd,L2.Fun (L2.KOf KX) "go_on" "Jobs.go_on" RS.jZ f fd/\L2.Binds (L2.KOf KX) fd ["self"] []/\L2.Meth (L2.KOf KX) C "go_on" f):=by
   delta L2.KOf
   refine' ⟨_,PySem.W.mg_of KX G ?ac,⟨?pg,?hd,?po,?sa⟩,?n0,?n1,?n2,?n3,?n4,?n5,?n6,L2.Gg (fun _ _ _ _ _ _ us hl=>by obtain ⟨_,_,_,_,_,rfl⟩:=RS.JZ hl;rfl) ?ai ?ii ?li ?ci ?ki ?mk ?kc,L2.nL (fun _ _ _ _ _ _ us hl=>by obtain ⟨_,rfl⟩:=RS.nQ hl;rfl) ⟨?ma_are_done,?mf_are_done,?mp_are_done⟩ ?ml_are_done ?mc_are_done ?mq_are_done,L2.nL (fun _ _ _ _ _ _ us hl=>by obtain ⟨_,_,rfl⟩:=RS.oV hl;rfl) ⟨?ma_is_there,?mf_is_there,?mp_is_there⟩ ?ml_is_there ?mc_is_there ?mq_is_there,L2.nL (fun _ _ _ _ _ _ us hl=>by obtain ⟨_,rfl⟩:=RS.nQ hl;rfl) ⟨?ma_held,?mf_held,?mp_held⟩ ?ml_held ?mc_held ?mq_held,L2.nL (fun _ _ _ _ _ _ us hl=>by obtain ⟨_,rfl⟩:=RS.nQ hl;rfl) ⟨?ma_wanted,?mf_wanted,?mp_wanted⟩ ?ml_wanted ?mc_wanted ?mq_wanted,L2.nL (fun _ _ _ _ _ _ us hl=>by obtain ⟨_,rfl⟩:=RS.nQ hl;rfl) ⟨?ma_go_on,?mf_go_on,?mp_go_on⟩ ?ml_go_on ?mc_go_on ?mq_go_on⟩
   (case ac=>k_is);(case pg=>k_is);(case hd=>k_is);(case po=>k_is);(case sa=>k_is);(case n0=>k_is);(case n1=>k_is);(case n2=>k_is);(case n3=>k_is);(case n4=>k_is);(case n5=>k_is);(case n6=>k_is);(case ai=>k_is);(case ii=>k_is);(case li=>k_is);(case ci=>k_is);(case ki=>k_is);(case mk=>k_is);(case kc=>k_is);(case ma_are_done=>k_is);(case mf_are_done=>k_is);(case mp_are_done=>k_is);(case ml_are_done=>k_is);(case mc_are_done=>k_is);(case mq_are_done=>k_is);(case ma_is_there=>k_is);(case mf_is_there=>k_is);(case mp_is_there=>k_is);(case ml_is_there=>k_is);(case mc_is_there=>k_is);(case mq_is_there=>k_is);(case ma_held=>k_is);(case mf_held=>k_is);(case mp_held=>k_is);(case ml_held=>k_is);(case mc_held=>k_is);(case mq_held=>k_is);(case ma_wanted=>k_is);(case mf_wanted=>k_is);(case mp_wanted=>k_is);(case ml_wanted=>k_is);(case mc_wanted=>k_is);(case mq_wanted=>k_is);(case ma_go_on=>k_is);(case mf_go_on=>k_is);(case mp_go_on=>k_is);(case ml_go_on=>k_is);(case mc_go_on=>k_is);(case mq_go_on=>k_is)
  have tb_picked:L2.EY (L2.KOf KX) "picked":=by
   delta L2.KOf
   refine' L2.E8 ?t1 ?t2 ?t3 ?t4 ?t5 ?t6 ?t7 ?t8 ?t9 ?t10
   (case t1=>k_is);(case t2=>k_is);(case t3=>exact rfl);(case t4=>k_is);(case t5=>exact rfl);(case t6=>exact rfl);(case t7=>exact rfl);(case t8=>exact rfl);(case t9=>exact rfl);(case t10=>decide)
  have T:RS.Tx (L2.KOf KX) mg ⟨0,C_NoErrands,C_NoRanks,C_NoComings,0,0,0,0,0,C_Jobs⟩:=⟨f_is_whole,f_is_tuple,f_is_part,f_are_parts,f_is_errand,f_checked,f_checked_ranks,f_work_of,f_has_tool,f_height,f_heights_of,f_works_until,f_stretch,f_have_moments,f_is_row,f_checked_comings,f_height_by_high,f_holder,f_lent_ranks,f_picked,f_run_of,f_run,f_law_cell_at,f_law_mixed,f_law_errand,f_law_errands,f_law_ranks,f_law_coming_row,f_law_comings,f_law_all_works,f_law_soonest,f_law,mt_Jobs_are_done,mt_Jobs_is_there,mt_Jobs_held,mt_Jobs_wanted,mt_Jobs_go_on,b_all,b_bool,b_enumerate,b_int,b_isinstance,b_len,b_list,b_max,b_min,b_range,b_set,b_sum,b_tuple,b_zip,c_LAST_COMING,c_LEAST_EVERY,c_LONGEST_STRETCH,c_MOST_COMINGS,c_MOST_ERRANDS,c_MOST_EVERY,c_MOST_LATE,c_MOST_LENGTH,c_MOST_PARTS,c_TOOLS,e_NoComings,e_NoErrands,e_NoRanks,cl_Jobs,na_Jobs_number,na_Jobs_parts,na_Jobs_rank,na_Jobs_row,na_Jobs_job,na_Jobs_part,na_Jobs_spent,mk_Jobs,m_Jobs,tb_picked,fun g e=>PySem.W.mg_of KX G e⟩
  exact ⟨f_law,fun f fd F base hb hn hB=>RS.law_ok T hB hb F⟩
end
