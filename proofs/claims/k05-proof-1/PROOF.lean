import PyProof.Rows.All
import OpenK.AllK
import PySem.Challenge.RW_ranksure_k05_answers
import KE.RegKIsAll
import Wide.All
import OpenK.KWalk
import OpenK.KMake
import OpenK.KDescr
import OpenK.KCall
import OpenK.KOwn
import KE.KIsAll
import KE.KItem
import KE.KxBytes
import Wide.FinOn
import Lean
import PyProof.EqAt
import PyProof.EqKinds
import PyProof.TupleCall
import KE.KLam
import KE.LcSums
import PyProof.Rows.EqDataRows
import PyProof.RulesAs
import PyProof.ZipIter
import PyProof.Draws
import KE.KMinKey
import PyProof.Rows.TupAdd
import PyProof.ListMulRoad
import PyProof.AutoListH
import PyProof.Rows.Range3
import PyProof.ListRange
import PyProof.EnumMake
import PyProof.EnumFor
import PyProof.Rows.SetFrom
import PyProof.WalksMore
import PyProof.StrOps2
import PyProof.Rows.MinMaxN
import PyProof.ConsumeWalk
import PyProof.Rows.SortWalk
import PyProof.ExcArgsOwn
import PyProof.StrBlock2
import PyProof.Rows.CallKwBuiltin
import KE.KDictLaws
import KE.KDictMeth
import KE.KDictObj
import KE.KDictLetter
import OpenK.KDict
import KE.KDictOf
import PyProof.Rows.RegDictMethods
import PySem.PyData
import KE.KNestM
noncomputable section
set_option genSizeOf false
set_option genSizeOfSpec false
set_option genInjectivity false
set_option compiler.extract_closed false
set_option bootstrap.genMatcherCode false
set_option Elab.async false
set_option linter.all false
abbrev J0:=@List.getElem?_eq_getElem
abbrev J1:=@PySem.Heap.get?_push_of_some
abbrev J5:=@List.map_cons
abbrev J6:=@List.length_map
abbrev J7:=@List.mem_cons
abbrev J8:=@List.mem_cons_of_mem
abbrev J9:=@List.mem_cons_self
abbrev JS:=@List.mem_append_right
abbrev JU:=@Nat.le_refl
abbrev JV:=@PySem.Heap.lt_size
abbrev JW:=@List.mem_singleton
abbrev JX:=@Nat.ne_of_lt
abbrev JY:=@List.getElem?_map
abbrev JZ:=@Bool.and_eq_true
abbrev K0:=@List.length_append
abbrev K1:=@List.mem_map
abbrev K2:=@PySem.Heap.get?_push_size
abbrev K3:=@List.size_toArray
abbrev K4:=@Nat.lt_of_lt_of_le
abbrev K5:=@List.getElem?_eq_some_iff
abbrev K6:=@List.getD_eq_getElem?_getD
abbrev K7:=@List.not_mem_nil
abbrev K8:=@List.getElem?_append_left
abbrev K9:=@List.all_eq_true
abbrev Ka:=@List.length_cons
abbrev Kb:=@List.map_map
abbrev Kc:=@List.getElem?_append_right
abbrev Kd:=@List.getElem?_mapIdx
abbrev Ke:=@List.map_congr_left
abbrev Kf:=@Bool.false_ne_true
abbrev Kg:=@List.getElem?_set_ne
abbrev Kh:=@Bool.false_eq_true
abbrev Ki:=@List.mem_append
abbrev Kj:=@List.lookup_cons
abbrev Kk:=@List.mem_filter
abbrev Kl:=@List.mem_append_left
abbrev Km:=@List.getElem?_set_self
abbrev Kn:=@List.mem_of_getElem?
abbrev Ko:=@List.find?_cons
abbrev Kp:=@List.nodup_cons
abbrev Kq:=@Int.toNat_natCast
abbrev Kr:=@List.getElem_mem
abbrev Ks:=@Nat.zero_le
abbrev Kt:=@List.nil_append
abbrev Ku:=@List.cons_append
abbrev Kv:=@List.length_singleton
abbrev Kw:=@Bool.and_eq_false_iff
abbrev Kx:=@Bool.and_eq_true_iff
abbrev Ky:=@Option.bind_some
abbrev Kz:=@List.map_append
abbrev KA:=@Nat.ne_of_gt
abbrev KC:=@Nat.le_add_right
abbrev KD:=@List.map_id
abbrev KG:=@Option.bind_eq_some_iff
abbrev KH:=@Nat.lt_succ_of_lt
abbrev KI:=@List.ext_getElem?
abbrev KJ:=@List.replicate_succ
abbrev KL:=@List.length_pos_iff
abbrev KN:=@Option.map_eq_some_iff
abbrev KO:=@Nat.le_trans
abbrev KP:=@Nat.zero_add
abbrev KQ:=@List.length_nil
abbrev KR:=@Int.emod_nonneg
abbrev KS:=@Int.mul_le_mul_of_nonneg_right
abbrev KU:=@Nat.lt_succ_self
abbrev KW:=@Int.emod_lt_of_pos
abbrev KY:=@List.append_nil
abbrev KZ:=@Nat.lt_irrefl
abbrev L0:=@List.any_cons
abbrev L1:=@List.flatten_cons
abbrev L3:=@List.drop_eq_getElem_cons
abbrev L4:=@List.map_nil
abbrev L5:=@List.filter_cons
abbrev L6:=@List.length_eq_zero_iff
abbrev L7:=@List.getElem?_cons_succ
abbrev L8:=@List.getElem?_cons_zero
abbrev L9:=@List.length_mapIdx
abbrev La:=@List.getElem?_eq_none
abbrev Lb:=@List.any_eq_true
abbrev Lc:=@List.all_cons
abbrev Ld:=@Bool.and_true
abbrev Le:=@List.exists_cons_of_ne_nil
abbrev Lf:=@List.sum_cons
abbrev Lg:=@Nat.le_succ
abbrev Lh:=@List.filterMap_cons
abbrev Li:=@Int.toNat_of_nonneg
abbrev Lj:=@List.take_succ_cons
abbrev Lk:=@List.getElem_of_mem
abbrev Ll:=@List.of_mem_zip
abbrev Lm:=@List.forIn_cons
abbrev Ln:=@Option.map_some
abbrev Lo:=@List.zip_cons_cons
abbrev Lp:=@Int.natCast_nonneg
abbrev Lq:=@List.set_cons_succ
abbrev Lr:=@List.set_cons_zero
abbrev Lu:=@List.pairwise_cons
abbrev Lv:=@List.mem_range
abbrev Lw:=@List.nodup_nil
abbrev Lx:=@List.getElem?_replicate
abbrev Ly:=@List.nodup_append
abbrev Lz:=@PySem.Heap.get?_update_other
abbrev LA:=@Bool.true_and
abbrev LB:=@List.drop_length
abbrev LC:=@Array.getElem?_toList
abbrev LD:=@List.set_append_right
abbrev LF:=@Array.length_toList
abbrev LG:=@List.getElem?_range
abbrev LH:=@List.mem_filterMap
abbrev LI:=@List.find?_eq_none
abbrev LJ:=@List.ne_nil_of_mem
abbrev LK:=@Int.lt_of_lt_of_le
abbrev LL:=@List.append_assoc
abbrev LM:=@Bool.not_eq_true'
abbrev LN:=@List.length_range
abbrev LO:=@Nat.le_of_lt
abbrev LP:=@List.range'_succ
abbrev LQ:=@List.mapIdx_cons
abbrev LR:=@Int.le_refl
variable {p pos pos' cpos spos tp pn p2 kp:Pos} {q P prog:Program} {loose N M ps names:List Str} {α β:Type} {us its':List Value} {a b it c C dx f D:Addr} {h base h':Heap} {items:Array Value} {w:World} {g':Array GenState} {ch A fp B A0 as:List Addr} {i j n x1 n0:Nat} {x m qual:Str} {E Q:Value->Shared->Prop} {u cd pm ct oc:Value} {s' s:Shared} {e tg body iter elt:Expr} {pins:List (Addr×Obj)} {op:CmpOp} {K:PySem.W.Frag} {g:List (Str×PyData)->Option (List (Str×PyData))} {lo T many span:Int} {mA mg mb:Str->Option Value} {env:Env} {outer:List Env} {fd:FuncData} {scope:Scope} {params:Arguments} {an od:Option Addr} {osl sl:Array (Option Value)} {l:List (Int×Int)} {ns rs row:List Int} {XP:(Str->Option Value)->Heap->Prop} {YP:World->Heap->Prop} {st:Stmt} {cl:List (Str×Addr)} {ifs elts:List Expr} {ds:List PyData} {newId:String} {O cap:List Nat} {nd tops:PyData} {tl:List (Str×Int)} {rows nss n':List (List Int)} {mean:ExcName->Option Value}
namespace RS
open PySem PySem.W PyProof.Rows
def xF (p:Program) (w:World) (m:Nat) (ann:Option Value):Nat->SharedT->Thread->Option SharedT
 |0,_,_=>none
 |n+1,s,t=>match through t with
  |true=>some s
  |false=>match Fast.tw6613529449190102663 m ann t with
   |false=>none
   |true=>match Fast.tw10156331382660048174 (Fast.tw11892475500146522536 Fast.tw14364793385576792824) p w s t with
    |some x=>xF p w m ann n x.1 x.2
    |none=>none
theorem uK {p:Program} {w:World} {m:Nat} {ann:Option Value}:∀{n:Nat} {s s':SharedT} {t:Thread},xF p w m ann n s t=some s'->topRun treeTable p w m ann n s.abs t=some s'.abs
 |0,_,_,_,h=>by cases h
 |n+1,s,s',t,h=>by
  unfold xF at h;rw[<-Fast.te6613529449190102663,<-Fast.te10156331382660048174,<-Fast.te11892475500146522536,<-Fast.te14364793385576792824]at h;unfold topRun;cases ht:through t with
  |true=>rw[ht]at h;cases h;rfl
  |false =>
   rw[ht]at h;cases hk:stepOk m ann t with
   |false=>rw[hk]at h;cases h
   |true =>
    rw[hk]at h;cases hs:stepT (denote treeTable) p w s t with
    |none=>rw[hs]at h;cases h
    |some x =>rw[hs]at h;rw[stepT_spec (s':=x.1) (t':=x.2) hs];exact uK h
noncomputable def Gy (l:List Obj):BT:=(l.foldl (λx o=>(x.1.ins x.2 o,x.2+1)) (BT.nil,0)).1
def hdS (w:World) (os:OsState):SharedT:=⟨Gy (boot_heap w.params).objs.toList,11,(boot_heap w.params).life,Array.mk [],boot_drawn,boot_toks,os⟩
theorem DP (w:World):(λos=>(hdS w os).abs)=λos=>⟨boot_heap w.params,Array.mk [],boot_drawn,boot_toks,os⟩:=by kernel_rfl
theorem Gz (w:World):((boot_heap w.params).isNs mainGlobals&&(Array.mk []:Array GenState).size==0,(boot_heap w.params).objs.size,(boot_heap w.params).nsMap mainGlobals "__annotations__")=(true,11,some (.ref 6)):=by kernel_rfl
def Be (p q:Program) (loose:List Str) (Xt:Shared->Bool) {α:Type} (Yf:Shared->α) (h:Heap) (s:Shared) :=
 (staticsOk (importedModules p.main.body) h s.heap&&namesBound p s.heap&&gensDone s&&laidKept h s.heap,Fast.tw4187177175401517315 q loose (importedModules p.main.body) Xt true s,Yf s)
theorem GD {p:Program} {Xt:Shared->Bool} {Yf:Shared->α} {Ya:World->α} {N M:Nat}
  (e:opening p=plainProg p.main.scope.names) (a:Nat.ble 600 N=true) (f:∀s,fenceModules? p s=some s) (le:Nat.ble M N=true)
  (h:∀w,(λos=>(xF p w 11 (some (.ref 6)) M (hdS w os) (topStub p)).map λs=>Be p q loose Xt Yf (boot_heap w.params) s.abs)=λ_=>some (true,openGood q loose,Ya w)):LeftO p q loose Xt Yf Ya N:=λw=>by
 obtain⟨⟨b,gs,d,k,os⟩,e1,c⟩:=KN.mp (boot_open e a f w);obtain⟨rfl,rfl,rfl,rfl⟩:b=boot_heap w.params/\gs=Array.mk []/\d=boot_drawn/\k=boot_toks:=by simpa using c
 obtain⟨z1,z2,z3⟩:_/\_/\_:=by simpa only[Prod.mk.injEq] using Gz w
 obtain⟨s,g,hv⟩:=KN.mp (congrFun (h w) os);obtain⟨l1,l2,l3⟩:_/\_/\_:=by simpa only[Be,<-Fast.te4187177175401517315,Prod.mk.injEq] using hv
 have r:=uK g;rw[congrFun (DP w) os]at r;have r:=topRun_mono (N-M) _ _ _ _ r;rw[show M+(N-M)=N by have:=Nat.le_of_ble_eq_true le;omega]at r;unfold openEnds;rw[e1];show (topFrom treeTable p w N _).map _=_;have t:topFrom treeTable p w N ⟨boot_heap w.params,Array.mk [],boot_drawn,boot_toks,os⟩=some s.abs:=by unfold topFrom;dsimp only;rw[z1,z2,z3,r];show (match staticsOk (importedModules p.main.body) (boot_heap w.params) s.abs.heap&&namesBound p s.abs.heap&&gensDone s.abs&&laidKept (boot_heap w.params) s.abs.heap with|true=>_|false=>_)=_;rw[l1]
 rw[t];exact congrArg some (Prod.ext l2 l3)
end RS
section
open PySem PySem.W PyProof.Rows
def RS.vw:Program:=view PySem.Challenge.pw_ranksure_k05_answers [1,2,3,4,6,7,8,9,10,11,12,13,14,15,16,17,18,19,20,21,22,24,25,26,27,28,29,30,31,32,33,34,35,36,37,38,40,41,42,43,44,45,46,47,48,49,50,51,52,53]
local macro_rules | `(tactic| o_head $H)=>`(tactic| (refine holds_open (N:=4932) (Xt:=λs=>xlAt RS.vw [] s&&recOk (RowW.records (OpenRow.toRowW (OpenLaw.row PySem.Challenge.rw_ranksure_k05_answers))) s) (XP:=XL RS.vw []) (q:=RS.vw) (loose:=[]) (Yf:=Hook.obs $H) (Ya:=Hook.val $H) (YP:=Hook.says $H) ?hl (Hook.of $H) (Hook.keeps $H) (λs e=>xl_of s (Kx.mp e).1) XL.keeps (by rfl) (by rfl) (by rfl) (λs e=>recFacts_of (Kx.mp e).2) (by rfl) (by assumption) (by decide +kernel) ⟨rfl,rfl,rfl,rfl,rfl,by decide +kernel⟩ ?hw ?hc;(case hl=>refine RS.GD (M:=2516) (by kernel_rfl) (by rfl) (by intro s;kernel_rfl) (by rfl) λw=>?_;kernel_rfl)))
set_option maxRecDepth 100000 in
set_option maxHeartbeats 0 in
open_top RS.hdTop for PySem.Challenge.rw_ranksure_k05_answers
end
set_option maxRecDepth 100000
namespace L2
open PySem PySem.Spec PyProof.Rows
variable {c:Expr} {body:List Stmt} {A:Around} {g:Int->Int->Int} {es:List Expr} {M:Model}
abbrev Key:=Sum Int Str
def qD:Key->Value->Bool
 |.inl k,v=>Value.isInt k v
 |.inr x,v=>Value.isStrOf x v
def iq (w:World):Key->Int
 |.inl k=>hashInt k
 |.inr x=>hashStr w x
theorem cm:∀{k:Key} {v:Value},qD k v=true->(∃i t,k=Sum.inl i/\v=Value.int i t)\/(∃x t,k=Sum.inr x/\v=Value.str x t)
 |.inl i,v,h=>by obtain⟨t,e⟩:=Value.isInt_shape (k:=i) (v:=v) h;exact .inl ⟨i,t,rfl,e⟩
 |.inr x,v,h=>by obtain⟨t,e⟩:=Value.isStrOf_shape (x:=x) (v:=v) h;exact .inr ⟨x,t,rfl,e⟩
theorem yW (i:Int) (t:Tok):qD (.inl i) (.int i t)=true:=by simp[qD,Value.isInt]
theorem yv (x:Str) (t:Tok):qD (.inr x) (.str x t)=true:=by simp[qD,Value.isStrOf]
theorem Fl (a b:Int):decide ((Sum.inl a:Key)=Sum.inl b)=(a==b):=by
 by_cases e:a=b
 ·subst e;simp
 ·have h:¬ (Sum.inl a:Key)=Sum.inl b:=λq=>e (Sum.inl.inj q)
  rw[decide_eq_false h];exact (beq_eq_false_iff_ne.mpr e).symm
theorem GJ (a b:Str):decide ((Sum.inr a:Key)=Sum.inr b)=decide (a=b):=by
 by_cases e:a=b
 ·subst e;simp
 ·have h:¬ (Sum.inr a:Key)=Sum.inr b:=λq=>e (Sum.inr.inj q)
  rw[decide_eq_false h,decide_eq_false e]
theorem Gb (a:Int) (b:Str):decide ((Sum.inl a:Key)=Sum.inr b)=false:=decide_eq_false (λq=>nomatch q)
theorem Fg (a:Str) (b:Int):decide ((Sum.inr a:Key)=Sum.inl b)=false:=decide_eq_false (λq=>nomatch q)
def cO (prog:Program) (w:World):PySem.KeyKind prog w Key where
 is:=qD
 hash:=iq w
 inj:=λv a b ha c=>by
  rcases cm ha with⟨i,t,rfl,rfl⟩|⟨x,t,rfl,rfl⟩
  ·rcases cm c with⟨j,u,rfl,e⟩|⟨y,u,rfl,e⟩
   ·injection e with e1 _;rw[e1]
   ·exact nomatch e
  ·rcases cm c with⟨j,u,rfl,e⟩|⟨y,u,rfl,e⟩
   ·exact nomatch e
   ·injection e with e1 _;rw[e1]
 byValue:=λk v h=>by rcases cm h with⟨i,t,rfl,rfl⟩|⟨x,t,rfl,rfl⟩ <;> rfl
 pyHash:=λhv h=>by
  rcases cm hv with⟨i,t,rfl,rfl⟩|⟨x,t,rfl,rfl⟩
  ·exact wpAny_pyHash_int h
  ·exact wpAny_pyHash_str h
 eqBool:=λf hv h=>by
  rcases cm f with⟨i,t,rfl,rfl⟩|⟨x,t,rfl,rfl⟩
  ·rcases cm hv with⟨j,u,rfl,rfl⟩|⟨y,u,rfl,rfl⟩
   ·rw[Fl]at h;exact wpAny_eqBool_int h
   ·rw[Gb]at h;exact SeqAt.EqAt.int_str i t y u _ _ _ _ h
  ·rcases cm hv with⟨j,u,rfl,rfl⟩|⟨y,u,rfl,rfl⟩
   ·rw[Fg]at h;exact SeqAt.EqAt.str_int x t j u _ _ _ _ h
   ·rw[GJ]at h;exact wpAny_eqBool_str h
 «strs»:=λk x t v h=>by
  rcases cm h with⟨i,u,rfl,e⟩|⟨y,u,rfl,e⟩
  ·exact nomatch e
  ·injection e with e1 _
   subst e1;cases v <;> rfl
theorem ua (prog:Program) (w:World) (i:Int) (t:Tok):(cO prog w).is (.inl i) (.int i t)=true:=yW i t
theorem tM (prog:Program) (w:World) (x:Str) (t:Tok):(cO prog w).is (.inr x) (.str x t)=true:=yv x t
inductive V where
 |non|bl (b:Bool)|int (i:Int)|str (x:Str)|byt (b:Array UInt8)|flt (b:UInt64)|ref (a:Addr)|ty (n:String)
 deriving DecidableEq
variable {v:V} {xs vs:List V}
noncomputable def RelV:V->Value->Prop
 |.non,u=>u=Value.none
 |.bl b,u=>u=Value.bool b
 |.int i,u=>∃t,u=Value.int i t
 |.str x,u=>∃t,u=Value.str x t
 |.byt b,u=>∃t,u=Value.bytes b t
 |.flt b,u=>∃t,u=Value.float b t
 |.ref a,u=>u=Value.ref a
 |.ty n,u=>u=Value.type n
abbrev Vals:List V->List Value->Prop:=Paired RelV
theorem Vals.length (r:Vals xs us):xs.length=us.length:=Paired.length r
theorem Vals.get:∀{xs:List V} {us:List Value} {i:Nat} {x:V},Vals xs us->xs[i]?=some x->∃u,us[i]?=some u/\RelV x u
 |_,_,_,_,.nil,e=>by simp at e
 |_,_,0,_,.cons r _,e=>by simp at e;subst e;exact⟨_,rfl,r⟩
 |_,_,i+1,x,.cons _ t,e=>by obtain⟨u,h1,h2⟩:=Vals.get (i:=i) (x:=x) t (by simpa using e);exact⟨u,by simpa using h1,h2⟩
theorem Vals.set {x:V} {u:Value} (r:RelV x u):∀{xs:List V} {us:List Value} (i:Nat),Vals xs us->Vals (xs.set i x) (us.set i u)
 |_,_,_,.nil=>.nil
 |_,_,0,.cons _ t=>.cons r t
 |_,_,i+1,.cons q t=>.cons q (Vals.set r i t)
theorem Vals.append {ys:List V} {ws:List Value} (h:Vals xs us) (s:Vals ys ws):Vals (xs++ys) (us++ws):=by
 induction h with
 |nil=>exact s
 |cons r t ih=>exact .cons r ih
def iN:Option V->Option Value->Prop
 |some v,some u=>RelV v u
 |none,none=>True
 |_,_=>False
def KV {κ:Type}:List (κ×V)->List (κ×Value)->Prop:=Paired λ(p:κ×V) (q:κ×Value)=>p.1=q.1/\RelV p.2 q.2
def kV:Key->V
 |.inl i=>.int i
 |.inr x=>.str x
inductive HO where
 |lst (xs:List V)
 |tup (xs:List V)
 |dK (kvs:List (Key×V))|dT (kvs:List (List Key×V))
 |set (S:Int->Bool) (n:Nat)
 |ins (C dx:Addr) (fs:List (Str×V))
 |own (x:Addr)
 |xd (fs:List (Str×V))
 |met (f x:Addr)
 |rng (lo hi:Int)
 |frz (o:Obj) (u:HO)
 |tbl (q:Str)
 |ext (φ:Heap->Prop)
variable {o:HO}
abbrev Hp:=Addr->Option HO
variable {R:V->V->Hp->Prop} {H:Hp}
noncomputable def upd (H:Hp) (a:Addr) (o:HO):Hp:=λb=>if b=a then some o else H b
theorem ay:upd H a o a=some o:=by unfold upd;rw[if_pos rfl]
theorem au (h:b≠a):upd H a o b=H b:=by unfold upd;rw[if_neg h]
theorem HW {u:HO} (h:H a=some o) (h':H b=some u) (d:o≠u):a≠b:=by intro e;subst e;rw[h]at h';exact d (Option.some.inj h')
theorem aG (h:H a=some o) (h':H b=none):a≠b:=by intro e;subst e;rw[h]at h';cases h'
def sT (h:Heap) (a:Addr) (items:Array Value):Prop:=∃o,h.get? a=some o/\o.cls=.type "tuple"/\o.dict=none/\∃n,o.data=.seq items n
theorem sT.tup (x:sT h a items):IsTup h a items:=by obtain⟨o,e,c,_,n,d⟩:=x;exact⟨o,e,c,n,d⟩
theorem sT.new (h:Heap) (items:Array Value):sT (h.push { cls:=.type "tuple",data:=.seq items }) h.objs.size items:=⟨_,K2 _ rfl,rfl,rfl,_,rfl⟩
section
variable (P:Program) (w:World)
def cE (H:Hp) (h:Heap) (a:Addr):HO->Prop
 |.lst xs=>xs.length<=sizeLine/\∃(b:List Value) (n:Nat),Vals xs b/\h.get? a=some { cls:=.type "list",data:=.seq b.toArray n }
 |.tup xs=>xs.length<=sizeLine/\∃b:List Value,Vals xs b/\sT h a b.toArray
 |.dK kvs=>kvs.length<=sizeLine/\(a==sysModules)=false/\∃vs,KV kvs vs/\h.DictOf (cO P w) a vs
 |.dT kvs=>kvs.length<=sizeLine/\(a==sysModules)=false/\∃xs:List (List Key×Addr×Value),
  Paired (λ(p:List Key×V) (q:List Key×Addr×Value)=>p.1=q.1/\H q.2.1=some (.tup (p.1.map kV))/\RelV p.2 q.2.2) kvs xs /\
  ∃o es e,h.get? a=some o/\o.ExactDict/\o.data=.dict es e/\es.toList=xs.map (entryOfKey (tupleKind (cO P w)))/\(xs.map (·.1)).Nodup
 |.set S n=>h.SetOf (intKind P w) a S n
 |.ins C dx fs=>H dx=some (.own a)/\fs.length<=1000/\dx≠a/\h.get? a=some (PySem.W.instObj C dx) /\
  ∃mA,h.Ns1 dx mA/\(∀f,iN (fs.lookup f) (mA f))/\PySem.Within mA (fs.map (·.1))
 |.own _=>∃o,h.get? a=some o
 |.xd fs=>∃mA,h.Ns1 a mA/\∀f,iN (fs.lookup f) (mA f)
 |.rng lo hi=>∃t u v,h.get? a=some { cls:=.type "range",data:=.fields #[.int lo t,.int hi u,.int 1 v] }
 |.frz o u=>h.get? a=some o/\cE H h a u
 |.tbl q=>∃ps:Array Value,h.get? a=some { cls:=.none,data:=.fields ps }/\TriplesOk ps.toList/\∀pos c,codeAmong pos ps.toList=some c->∃c' o vs t,c=.ref c'/\H c'=some (.frz o (.own c'))/\o.data=.fields vs/\vs[1]?=some (.str q t)
 |.met f x=>h.get? a=some (PySem.W.methodObj (.ref f) (.ref x))
 |.ext φ=>φ h/\(∃o,h.get? a=some o)/\∀h1 h2:Heap,φ h1->(∀o,h1.get? a=some o->h2.get? a=some o)->φ h2
def HOk (H:Hp) (h:Heap):Prop:=∀a o,H a=some o->cE P w H h a o
end
section
variable {H':Hp}
theorem cE.lt (x:cE P w H h a o):a<h.objs.size:=by
 cases o with
 |lst xs=>obtain⟨_,_,_,_,e⟩:=x;exact JV e
 |tup xs=>obtain⟨_,_,_,p⟩:=x;exact p.tup.lt
 |dK kvs=>obtain⟨_,_,_,_,o,_,_,e,_⟩:=x;exact JV e
 |dT kvs=>obtain⟨_,_,_,_,o,_,_,e,_⟩:=x;exact JV e
 |set S n=>obtain⟨o,_,_,_,e,_⟩:=x;exact JV e
 |ins C dx fs=>obtain⟨_,_,_,e,_⟩:=x;exact JV e
 |own y=>obtain⟨_,e⟩:=x;exact JV e
 |xd fs=>obtain⟨_,⟨_,_,_,e,_⟩,_⟩:=x;exact JV e
 |rng lo hi=>obtain⟨_,_,_,e⟩:=x;exact JV e
 |frz ob u=>obtain⟨e,_⟩:=x;exact JV e
 |tbl q=>obtain⟨_,e,_⟩:=x;exact JV e
 |met f y=>exact JV (show h.get? a=some _ from x)
 |ext φ=>obtain⟨_,⟨_,e⟩,_⟩:=x;exact JV e
theorem Paired.mapP {F G:α->β->Prop} {c:List α} {e:List β} (h:Paired F c e) (f:∀a b,F a b->G a b):Paired G c e:=by
 induction h with
 |nil=>exact .nil
 |cons r t ih=>exact .cons (f _ _ r) ih
theorem cE.stay (x:cE P w H h a o) (k:∀b u,(b=a\/H b=some (.own a))->h.get? b=some u->h'.get? b=some u)
  (l:∀b,H b=some (.own a)->H' b=some (.own a)) (m:∀b xs,H b=some (.tup xs)->H' b=some (.tup xs)) (s:∀b o u,H b=some (.frz o u)->H' b=some (.frz o u):=by exact λ_ _ _ q=>q):cE P w H' h' a o:=by
 induction o with
 |lst xs=>obtain⟨z,j,n,r,e⟩:=x;exact⟨z,j,n,r,k _ _ (.inl rfl) e⟩
 |tup xs=>obtain⟨z,j,r,g,e,c⟩:=x;exact⟨z,j,r,g,k _ _ (.inl rfl) e,c⟩
 |dK kvs=>obtain⟨z,y,vs,r,g,es,i,e,c⟩:=x;exact⟨z,y,vs,r,g,es,i,k _ _ (.inl rfl) e,c⟩
 |dT kvs =>obtain⟨z,y,xs,r,g,es,i,e,c⟩:=x;exact⟨z,y,xs,Paired.mapP r λp q z=>⟨z.1,m _ _ z.2.1,z.2.2⟩,g,es,i,k _ _ (.inl rfl) e,c⟩
 |set S n=>obtain⟨g,es,i,t,e,c⟩:=x;exact⟨g,es,i,t,k _ _ (.inl rfl) e,c⟩
 |ins C dx fs =>obtain⟨d,z,ne,e,mA,⟨od,es,i,e2,c⟩,r⟩:=x;exact⟨l _ d,z,ne,k _ _ (.inl rfl) e,mA,⟨od,es,i,k _ _ (.inr d) e2,c⟩,r⟩
 |own y=>obtain⟨g,e⟩:=x;exact⟨g,k _ _ (.inl rfl) e⟩
 |xd fs=>obtain⟨mA,⟨od,es,i,e,c⟩,r⟩:=x;exact⟨mA,⟨od,es,i,k _ _ (.inl rfl) e,c⟩,r⟩
 |rng lo hi=>obtain⟨t,u,v,e⟩:=x;exact⟨t,u,v,k _ _ (.inl rfl) e⟩
 |frz g u ih=>obtain⟨e,q⟩:=x;exact⟨k _ _ (.inl rfl) e,ih q⟩
 |tbl q =>obtain⟨ps,e,t,c⟩:=x;exact⟨ps,k a _ (.inl rfl) e,t,λpos A z=>by obtain⟨c',o,vs,t',e1,e2,B⟩:=c pos A z;exact⟨c',o,vs,t',e1,s _ _ _ e2,B⟩⟩
 |met f y =>have e:h.get? a=some (PySem.W.methodObj (.ref f) (.ref y)):=x;show h'.get? a=some (PySem.W.methodObj (.ref f) (.ref y));exact k a _ (.inl rfl) e
 |ext φ=>obtain⟨p,⟨o,e⟩,st⟩:=x;exact⟨st _ _ p λo q=>k _ _ (.inl rfl) q,⟨o,k _ _ (.inl rfl) e⟩,st⟩
theorem HOk.lt (x:HOk P w H h) (e:H a=some o):a<h.objs.size:=(x a o e).lt
theorem HOk.fresh (x:HOk P w H h) (e:h.objs.size<=a):H a=none:=by
 cases q:H a with
 |none=>rfl
 |some u=>exact absurd (K4 (x.lt q) e) (KZ _)
theorem HOk.kept (x:HOk P w H h) (k:∀b u,h.get? b=some u->h'.get? b=some u):HOk P w H h':=λa o e =>
 (x a o e).stay (λb u _ q=>k b u q) (λ_ q=>q) λ_ _ q=>q
theorem HOk.laid (x:HOk P w H h) (k:∀b u,h.get? b=some u->h'.get? b=some u) (f:h.objs.size<=a) (new:cE P w (upd H a o) h' a o):HOk P w (upd H a o) h':=λb u e=>by
 have hn:=x.fresh f;by_cases hb:b=a
 ·subst hb;rw[ay]at e;cases e;exact new
 ·rw[au hb]at e;exact (x b u e).stay (λc v _ q=>k c v q) (λc q=>by rw[au (aG q hn)];exact q) (λc xs q=>by rw[au (aG q hn)];exact q) λc ob w' q=>by rw[au (aG q hn)];exact q
end
def Rd (H:Hp) (a:Addr) (u:HO):Prop:=H a=some u\/∃o,H a=some (.frz o u)
theorem Rd.ok {u:HO} (r:Rd H a u) (x:HOk P w H h):cE P w H h a u:=by
 rcases r with r|⟨o,r⟩
 ·exact x a u r
 ·obtain⟨_,q⟩:=x a _ r;exact q
def Mut:Option HO->Prop
 |some (.lst _)=>True
 |some (.dK _)=>True
 |some (.dT _)=>True
 |some (.set _ _)=>True
 |some (.ins _ _ _)=>True
 |some (.ext _)=>True
 |_=>False
section
variable {x e:Addr} {o':HO}
theorem HOk.write (ok:HOk P w H h) (f:Mut (H x)) (l:e=x\/H e=some (.own x)) (k:∀b u,b≠e->h.get? b=some u->h'.get? b=some u) (j:∃u,h'.get? e=some u)
  (new:cE P w (upd H x o') h' x o'):HOk P w (upd H x o') h':=λb u q=>by
 have a:∀c y,H c=some (.own y)->c≠x:=λc y r z=>by subst z;rw[r]at f;exact f
 have g:∀c xs,H c=some (.tup xs)->c≠x:=λc xs r z=>by subst z;rw[r]at f;exact f
 have i:∀c o u,H c=some (.frz o u)->c≠x:=λc o u r z=>by subst z;rw[r]at f;exact f
 by_cases hb:b=x
 ·subst hb;rw[ay]at q;cases q;exact new
 ·rw[au hb]at q;by_cases hbe:b=e
  ·have m:H b=some (.own x):=by
    rcases l with z|z
    ·exact absurd (hbe.trans z) hb
    ·rw[hbe];exact z
   rw[q]at m;cases m;obtain⟨v,hv⟩:=j;exact⟨v,by rw[hbe];exact hv⟩
  ·refine (ok b u q).stay (λc v hc r=>k c v ?_ r) (λc r=>by rw[au (a c b r)];exact r) (λc xs r=>by rw[au (g c xs r)];exact r) λc o n r=>by rw[au (i c o n r)];exact r
   rcases hc with rfl|hc
   ·exact hbe
   ·rintro rfl
    rcases l with z|z
    ·exact a c b hc z
    ·rw[hc]at z;cases z;exact hb rfl
end
structure Un (fs ex:List Addr) (H H':Hp) (h h':Heap):Prop where
 keep:∀b o,h.get? b=some o->H b=none->b∉fs->b∉ex->h'.get? b=some o
 slot:∀b o,h.get? b=some o->H b=none->b∈fs->b∉ex->∃sl,h'.get? b=some { o with slots:=sl }
 free:∀b o,h.get? b=some o->H b=none->b∉ex->H' b=none
 there:∀b o,h.get? b=some o->b∉ex->∃o',h'.get? b=some o'
 tups:∀b xs,H b=some (.tup xs)->H' b=some (.tup xs)
 frzs:∀b o u,H b=some (.frz o u)->H' b=some (.frz o u)
 tbls:∀b q,H b=some (.tbl q)->H' b=some (.tbl q)
section
variable {fs fs' ex ex':List Addr} {H1 H2:Hp} {h1 h2:Heap} {x e:Addr}
theorem Un.any (u:Un fs ex H H1 h h1) {a:Obj} (q:h.get? b=some a) (n:H b=none) (c:b∉ex):∃e,h1.get? b=some { a with slots:=e }:=by
 by_cases hb:b∈fs
 ·exact u.slot b a q n hb c
 ·exact⟨a.slots,u.keep b a q n hb c⟩
theorem Un.kept (k:∀b u,h.get? b=some u->h'.get? b=some u):Un fs ex H H h h' :=
 ⟨λb a q _ _ _=>k b a q,λb a q _ _ _=>⟨a.slots,k b a q⟩,λ_ _ _ n _=>n,λb a q _=>⟨a,k b a q⟩,λ_ _ q=>q,λ_ _ _ q=>q,λ_ _ q=>q⟩
theorem Un.refl:Un fs ex H H h h:=Un.kept λ_ _ q=>q
theorem Un.laid (k:∀b u,h.get? b=some u->h'.get? b=some u) (c:h.objs.size<=a) (hn:H a=none):Un fs ex H (upd H a o) h h' where
 keep:=λb u q _ _ _=>k b u q
 slot:=λb u q _ _ _=>⟨u.slots,k b u q⟩
 free:=λb u q n _=>by rw[au (JX (K4 (JV q) c))];exact n
 there:=λb u q _=>⟨u,k b u q⟩
 tups:=λb xs q=>by rw[au (aG q hn)];exact q
 frzs:=λb u xs q=>by rw[au (aG q hn)];exact q
 tbls:=λb ps q=>by rw[au (aG q hn)];exact q
theorem Un.write (a:Mut (H x)) (i:e=x\/H e=some (.own x)) (k:∀b u,b≠e->h.get? b=some u->h'.get? b=some u) (c:∃u,h'.get? e=some u):Un fs ex H (upd H x o) h h':=by
 have f:∀b,H b=none->b≠x:=λb n z=>by subst z;rw[n]at a;exact a
 have g:∀b,H b=none->b≠e:=λb n z=>by
  subst z;rcases i with r|r
  ·exact f b n r
  ·rw[n]at r;cases r
 have hm:∀b u,H b=some u->¬ Mut (some u)->b≠x:=λb u q nm z=>by subst z;rw[q]at a;exact nm a
 refine⟨λb u q n _ _=>k b u (g b n) q,λb u q n _ _=>⟨u.slots,k b u (g b n) q⟩,λb u q n _=>by rw[au (f b n)];exact n,λb u q _=>?_,
  λb xs q=>by rw[au (hm b _ q λz=>z)];exact q,λb u xs q=>by rw[au (hm b _ q λz=>z)];exact q,λb ps q=>by rw[au (hm b _ q λz=>z)];exact q⟩
 by_cases hbe:b=e
 ·subst hbe;exact c
 ·exact⟨u,k b u hbe q⟩
end
def trk (h:Heap) (H:Hp):List Addr:=(List.range h.objs.size).filter λa=>(H a).isSome
def pQ (h:Heap) (H:Hp):Heap:=PySem.W.hideAll h (trk h H)
theorem yp (h:Heap) (H:Hp):(pQ h H).objs.size=h.objs.size:=PySem.W.hideAll_size _ _
theorem AY {o:Obj} (e:h.get? b=some o) (n:H b=none):(pQ h H).get? b=some o :=
 PySem.W.hideAll_get _ e λhm=>by have q:(H b).isSome=true:=(Kk.mp hm).2;rw[n]at q;simp at q
theorem Cz {o:Obj} (e:(pQ h H).get? b=some o):h.get? b=some o/\H b=none:=by
 have a:h.get? b=some o:=PySem.W.of_hideAll (trk h H) e;refine⟨a,?_⟩;cases q:H b with
 |none=>rfl
 |some x =>have hm:b∈trk h H:=Kk.mpr ⟨Lv.mpr (JV a),by simp[q]⟩;have z:(pQ h H).get? b=none:=PySem.W.hideAll_none (trk h H) hm;rw[z]at e;cases e
structure Mod (K:PySem.W.Frag) (mg:Str->Option Value) (base:Heap):Prop where
 kin:K.In base
 glob:base.Ns mainGlobals mg
 blt:∃mb,base.Ns builtinsNs mb/\∀x:Str,x≠"__name__"->mb x=bootBuiltins x
 nolimit:base.NoLimit
def kF:List Str:=["picked"]
def TabOf (K:PySem.W.Frag) (P:Addr) (q:Str):Prop:=∃x∈kF,∃f oc od fd a c,PySem.W.nsIn K mainGlobals x=some (some (.ref f))/\K.lookup f=some ⟨oc,od,.func fd,a⟩/\fd.code=.ref c/\(∃o vs,K.lookup c=some o/\o.data=.fields vs/\vs[11]?=some (.ref P))/\q=x++".<locals>.<lambda>"
structure Cx where
 prog:Program
 w:World
 K:PySem.W.Frag
 mg:Str->Option Value
 base:Heap
 A:Around
 N:List Str
 s₀:Shared
 H₀:Hp
 env:Env
 outer:List Env
 stack:List Env
 ex:List Addr
 fn:Str->Bool
 calm:Bool
 pn:List (Addr×Obj)
 xe:Value->Shared->Prop
variable {X:Cx}
def frs (l:List Env):List Addr:=l.filterMap (·.frame)
abbrev Cx.fs (X:Cx):List Addr:=frs X.outer
def Vis (sc:Scope) (x:Str):Prop:=sc.names.lookup x=some .local\/sc.names.lookup x=some .cell\/sc.names.lookup x=some .free
def Loc (sc:Scope) (x:Str):Prop:=sc.names.lookup x=some .local\/sc.names.lookup x=some .cell
def Look (env:Env) (h:Heap) (m:Str->Option Value) (x:Str) (u:Value):Prop :=
 (env.kindOf x=some .local/\m x=some u)\/((env.kindOf x=some .cell\/env.kindOf x=some .free)/\∃c,env.cells.lookup x=some c/\h.IsCell c (some u))
structure Cx.Ok (X:Cx):Prop where
 mod:Mod X.K X.mg X.base
 kind:X.env.scope.kind=.function
 glob:X.env.globals=mainGlobals
 blt:X.env.builtins=builtinsNs
 above:X.s₀.heap.objs.size<=X.env.locals
 inj:∀x y c,X.env.cells.lookup x=some c->X.env.cells.lookup y=some c->x=y
 has:∀x,(X.env.kindOf x=some .cell\/X.env.kindOf x=some .free)->∃c,X.env.cells.lookup x=some c
 cab:∀x c,X.fn x=true->X.env.cells.lookup x=some c->X.s₀.heap.objs.size<=c
 hd:X.calm=true->X.A.handled=none
 frames:X.A.frames=some X.stack
 stk:X.stack=X.outer\/(X.stack=X.env::X.outer/\X.env.frame=some X.env.locals)
 exf:∀b∈X.ex,b≠X.env.locals/\∀x c,X.env.cells.lookup x=some c->c≠b
 bs:∀b o,X.base.get? b=some o->X.s₀.heap.get? b=some o/\X.H₀ b=none
 bsz:X.base.objs.size<=X.s₀.heap.objs.size
 noex:∀b o,X.base.get? b=some o->b∉X.ex
 exfs:∀b∈X.ex,b∉X.fs
 funs:X.s₀.heap.FunFrames X.base X.outer
 frf:∀b∈X.fs,X.H₀ b=none
structure Inv (X:Cx) (pins:List (Addr×Obj)) (σ:List (Option V)) (H:Hp) (s:Shared):Prop where
 ok:X.Ok
 os:s.os=X.s₀.os
 bare:AllBare s.gens
 base:Un X.fs X.ex X.H₀ H X.s₀.heap s.heap
 loc:∃m,s.heap.Ns X.env.locals m/\∀(i:Nat) (x:Str) (v:V),X.N[i]?=some x->σ[i]?=some (some v)->Vis X.env.scope x->∃u,RelV v u/\Look X.env s.heap m x u
 cell:∀x c,X.env.cells.lookup x=some c->∃v,s.heap.IsCell c v
 free:H X.env.locals=none
 freeC:∀x c,X.env.cells.lookup x=some c->H c=none
 pin:∀p∈X.pn++pins,s.heap.get? p.1=some p.2/\H p.1=none/\p.1≠X.env.locals/\p.1∉X.fs/\∀v,p.2.data≠.cell v
 hok:HOk X.prog X.w H s.heap
 len:σ.length=X.N.length
 tab:∀P q,TabOf X.K P q->H P=some (.tbl q)
section
variable {σ:List (Option V)} {H':Hp}
theorem Cx.Ok.nofr (ok:X.Ok) {o:Obj} (e:X.base.get? b=some o):b∉X.fs:=λa=>by have:=(ok.funs.mem a).1;rw[e]at this;cases this
theorem Inv.bs (I:Inv X pins σ H s):∀b o,X.base.get? b=some o->s.heap.get? b=some o/\H b=none:=λb o e =>
 ⟨I.base.keep b o (I.ok.bs b o e).1 (I.ok.bs b o e).2 (I.ok.nofr e) (I.ok.noex b o e),I.base.free b o (I.ok.bs b o e).1 (I.ok.bs b o e).2 (I.ok.noex b o e)⟩
theorem Inv.bk (I:Inv X pins σ H s):∀b o,X.base.get? b=some o->s.heap.get? b=some o:=λb o e=>(I.bs b o e).1
theorem Inv.mod (I:Inv X pins σ H s):Mod X.K X.mg X.base:=I.ok.mod
theorem Inv.kIn (I:Inv X pins σ H s):X.K.In s.heap:=I.ok.mod.kin.keeps I.bk
theorem Inv.lt (I:Inv X pins σ H s):X.env.locals<s.heap.objs.size:=let ⟨_,hn,_⟩:=I.loc;hn.lt
theorem Inv.sz (I:Inv X pins σ H s):X.s₀.heap.objs.size<=s.heap.objs.size:=KO I.ok.above (LO I.lt)
theorem Inv.nofs (I:Inv X pins σ H s) (h:s.heap.objs.size<=a):a∉X.fs:=λb=>by obtain⟨_,o,c,_⟩:=I.ok.funs.mem b;exact absurd (K4 (JV c) (KO I.sz h)) (KZ _)
theorem Inv.cne (I:Inv X pins σ H s):∀x c,X.env.cells.lookup x=some c->c≠X.env.locals:=λx c e z=>by obtain⟨v,o,f,hd⟩:=I.cell x c e;obtain⟨m,⟨o',es,ep,a,b,_⟩,_⟩:=I.loc;rw[z,a]at f;cases f;rw[b]at hd;cases hd
theorem Inv.funs (I:Inv X pins σ H s):s.heap.FunFrames X.base X.outer:=by
 have all:∀(l:List Env),(∀b∈frs l,b∈X.fs)->X.s₀.heap.FunFrames X.base l->s.heap.FunFrames X.base l:=by
  intro l
  induction l with
  |nil=>intro _ _;trivial
  |cons env r ih =>
   intro g hl;obtain⟨h,⟨L,o,a,hn,i,hd⟩,j⟩:=hl;have c:L∈X.fs:=g L (by unfold frs;rw[Lh,a];exact J9);obtain⟨sl,e⟩:=I.base.slot L o i (I.ok.frf L c) c λz=>I.ok.exfs L z c
   exact⟨h,⟨L,_,a,hn,e,hd⟩,ih (λb f=>g b (by unfold frs;rw[Lh,a];exact J8 _ f)) j⟩
 exact all X.outer (λ_ f=>f) I.ok.funs
theorem Inv.stack (I:Inv X pins σ H s):s.heap.FunFrames X.base X.stack:=by
 rcases I.ok.stk with e|⟨e,a⟩
 ·rw[e];exact I.funs
 ·rw[e];obtain⟨m,hn,_⟩:=I.loc;refine .cons (by rw[I.ok.kind];decide) a hn ?_ I.funs;exact Heap.get?_none_of_le (KO I.ok.bsz I.ok.above)
theorem Inv.stkSub (I:Inv X pins σ H s):∀b∈frs X.stack,b∈X.env.locals::X.fs:=λb a=>by
 rcases I.ok.stk with e|⟨e,c⟩
 ·rw[e]at a;exact J8 _ a
 ·rw[e]at a;unfold frs at a;rw[Lh,c]at a;exact a
theorem Inv.stkFree (I:Inv X pins σ H s):∀b∈frs X.stack,H b=none:=λb a=>by
 rcases J7.mp (I.stkSub b a) with e|a
 ·rw[e];exact I.free
 ·obtain⟨_,o,c,_⟩:=I.ok.funs.mem a;exact I.base.free b o c (I.ok.frf b a) λz=>I.ok.exfs b z a
theorem Inv.step {t':Nat} {d':Drawn} (I:Inv X pins σ H s)
  (f:∀b∈ch,(b∈X.ex\/X.s₀.heap.objs.size<=b)/\b≠X.env.locals/\(∀x c,X.env.cells.lookup x=some c->c≠b)/\∀p∈X.pn++pins,p.1≠b)
  (keep:∀b o,b≠X.env.locals->b∉X.fs->b∉ch->s.heap.get? b=some o->H b=none->h'.get? b=some o)
  (slot:∀b o,b≠X.env.locals->b∈X.fs->b∉ch->s.heap.get? b=some o->H b=none->∃B,h'.get? b=some { o with slots:=B }) (free:∀b o,b∉ch->s.heap.get? b=some o->H b=none->H' b=none)
  (there:∀b o,b∉ch->s.heap.get? b=some o->∃o',h'.get? b=some o')
  (tups:∀b xs,H b=some (.tup xs)->H' b=some (.tup xs)) (frzs:∀b o u,H b=some (.frz o u)->H' b=some (.frz o u)) (tbls:∀b q,H b=some (.tbl q)->H' b=some (.tbl q))
  (ns:∀m,s.heap.Ns X.env.locals m->h'.Ns X.env.locals m) (hok:HOk X.prog X.w H' h') (G:AllBare g') :
  Inv X pins σ H' { s with heap:=h',gens:=g',drawn:=d',toks:=t' }:=by
 have A:∀b o,X.s₀.heap.get? b=some o->b≠X.env.locals:=λb o e=>JX (K4 (JV e) I.ok.above)
 have h:∀b o,X.s₀.heap.get? b=some o->b∉X.ex->b∉ch:=λb o e a j=>by
  rcases (f b j).1 with z|z
  ·exact a z
  ·exact absurd (K4 (JV e) z) (KZ _)
 have cellK:∀x c,X.env.cells.lookup x=some c->∀v,s.heap.IsCell c v->h'.IsCell c v:=λx c e v C=>by
  obtain⟨o,y,hd⟩:=C;have g:c∉ch:=λz=>(f c z).2.2.1 x c e rfl
  by_cases hc:c∈X.fs
  ·obtain⟨B,q⟩:=slot c o (I.cne x c e) hc g y (I.freeC x c e);exact⟨_,q,hd⟩
  ·exact⟨o,keep c o (I.cne x c e) hc g y (I.freeC x c e),hd⟩
 refine⟨I.ok,I.os,G,⟨λb o e n j a=>?_,λb o e n j a=>?_,λb o e n a=>?_,λb o e a=>?_,λb xs e=>tups b xs (I.base.tups b xs e),λb o xs e=>frzs b o xs (I.base.frzs b o xs e),λb ps e=>?_⟩,?_,λx c e=>?_,?_,λx c e=>?_,λp E=>?_,hok,I.len,λP q t=>tbls P q (I.tab P q t)⟩
 ·exact keep b o (A b o e) j (h b o e a) (I.base.keep b o e n j a) (I.base.free b o e n a)
 ·obtain⟨B,e1⟩:=I.base.slot b o e n j a;obtain⟨D,e2⟩:=slot b _ (A b o e) j (h b o e a) e1 (I.base.free b o e n a);exact⟨D,e2⟩
 ·obtain⟨o',e1⟩:=I.base.there b o e a;exact free b o' (h b o e a) e1 (I.base.free b o e n a)
 ·obtain⟨o',e1⟩:=I.base.there b o e a;exact there b o' (h b o e a) e1
 ·exact tbls b _ (I.base.tbls b ps e)
 ·obtain⟨m,hn,hl⟩:=I.loc;refine⟨m,ns m hn,λi x v e1 e2 J=>?_⟩;obtain⟨u,r,l⟩:=hl i x v e1 e2 J;refine⟨u,r,?_⟩;rcases l with l|⟨k,c,e,z⟩
  ·exact .inl l
  ·exact .inr ⟨k,c,e,cellK x c e _ z⟩
 ·obtain⟨v,z⟩:=I.cell x c e;exact⟨v,cellK x c e v z⟩
 ·obtain⟨m,⟨o,_,_,y,_⟩,_⟩:=I.loc;exact free _ o (λz=>(f _ z).2.1 rfl) y I.free
 ·obtain⟨v,o,y,hd⟩:=I.cell x c e;exact free c o (λz=>(f c z).2.2.1 x c e rfl) y (I.freeC x c e)
 ·obtain⟨e,n,ne,F,d⟩:=I.pin p E;have g:p.1∉ch:=λz=>(f p.1 z).2.2.2 p E rfl
  exact⟨keep p.1 p.2 ne F g e n,free p.1 p.2 g e n,ne,F,d⟩
theorem Inv.un {t':Nat} (I:Inv X pins σ H s) (u:Un X.fs [] H H' s.heap h') (hok:HOk X.prog X.w H' h'):Inv X pins σ H' { s with heap:=h',toks:=t' }:=by obtain⟨m,⟨o,es,ep,h,r⟩,_⟩:=id I.loc;obtain⟨sl,i⟩:=u.any h I.free (by simp);exact I.step (g':=s.gens) (d':=s.drawn) (ch:=[]) (λ_ z=>nomatch z) (λb o _ c _ e n=>u.keep b o e n c (by simp)) (λb o _ c _ e n=>u.slot b o e n c (by simp)) (λb o _ e n=>u.free b o e n (by simp)) (λb o _ e=>u.there b o e (by simp)) u.tups u.frzs u.tbls (λm' hm=>by obtain⟨o',f,g,a,j⟩:=hm;rw[h]at a;cases a;exact⟨_,f,g,i,j⟩) hok I.bare
theorem Inv.call {t':Nat} {d':Drawn} (I:Inv X pins σ H s) (u:Un (frs X.stack) ch H H' s.heap h') (hok:HOk X.prog X.w H' h') (l:AllBare g')
  (a:∀b∈ch,(b∈X.ex\/X.s₀.heap.objs.size<=b)/\b≠X.env.locals/\(∀x c,X.env.cells.lookup x=some c->c≠b)/\∀p∈X.pn++pins,p.1≠b) :
  Inv X pins σ H' { s with heap:=h',gens:=g',drawn:=d',toks:=t' }:=by
 obtain⟨m,⟨o,es,ep,j,r⟩,_⟩:=id I.loc;obtain⟨sl,g⟩:=u.any j I.free λz=>(a _ z).2.1 rfl
 exact I.step (ch:=ch) a (λb o g q hc e n=>u.keep b o e n (λz=>(J7.mp (I.stkSub b z)).elim g q) hc) (λb o _ _ hc e n=>u.any e n hc) (λb o hc e n=>u.free b o e n hc) (λb o hc e=>u.there b o e hc) u.tups u.frzs u.tbls (λm' hm=>by obtain⟨o',h,i,f,v⟩:=hm;rw[j]at f;cases f;exact⟨_,h,i,g,v⟩) hok l
theorem Inv.turned {t':Nat} (I:Inv X pins σ H s) (k:∀b o,b≠it->s.heap.get? b=some o->h'.get? b=some o) (hn:H it=none) (f:it≠X.env.locals)
  (h1:it∈X.ex\/X.s₀.heap.objs.size<=it) (h2:∀x c,X.env.cells.lookup x=some c->c≠it) (g:∀p∈X.pn++pins,p.1≠it):Inv X pins σ H { s with heap:=h',toks:=t' }:=by
 have a:∀b u,H b=some u->b≠it:=λb u e z=>by rw[z,hn]at e;cases e
 refine I.step (g':=s.gens) (d':=s.drawn) (ch:=[it]) (λb h=>?_) (λb o _ _ hc e _=>k b o (λz=>hc (by simp[z])) e) (λb o _ _ hc e _=>⟨o.slots,k b o (λz=>hc (by simp[z])) e⟩) (λ_ _ _ _ n=>n)
  (λb o hc e=>⟨o,k b o (λz=>hc (by simp[z])) e⟩) (λ_ _ e=>e) (λ_ _ _ e=>e) (λb ps e=>e) (λm hm=>?_) (λb u e=>?_) I.bare
 ·have e:b=it:=by simpa using h
  subst e;exact⟨h1,f,h2,g⟩
 ·obtain⟨o,es,i,j,r⟩:=hm;exact⟨o,es,i,k _ o (Ne.symm f) j,r⟩
 ·refine (I.hok b u e).stay (λc v hc q=>k c v ?_ q) (λ_ q=>q) λ_ _ q=>q
  rcases hc with z|z
  ·rw[z];exact a b u e
  ·exact a c _ z
theorem Inv.tok (I:Inv X pins σ H s) (t:Nat):Inv X pins σ H { s with toks:=t }:=I.un (h':=s.heap) (t':=t) Un.refl I.hok
theorem Inv.kept {t':Nat} (I:Inv X pins σ H s) (k:∀b u,s.heap.get? b=some u->h'.get? b=some u):Inv X pins σ H { s with heap:=h',toks:=t' }:=I.un (Un.kept k) (I.hok.kept k)
theorem Inv.laid {t':Nat} (I:Inv X pins σ H s) (k:∀b u,s.heap.get? b=some u->h'.get? b=some u) (c:s.heap.objs.size<=a) (new:cE X.prog X.w (upd H a o) h' a o) :
 Inv X pins σ (upd H a o) { s with heap:=h',toks:=t' }:=I.un (Un.laid k c (I.hok.fresh c)) (I.hok.laid k c new)
theorem Inv.write {x e:Addr} {t':Nat} (I:Inv X pins σ H s) (c:Mut (H x)) (f:e=x\/H e=some (.own x)) (k:∀b u,b≠e->s.heap.get? b=some u->h'.get? b=some u) (a:∃u,h'.get? e=some u)
 (new:cE X.prog X.w (upd H x o) h' x o):Inv X pins σ (upd H x o) { s with heap:=h',toks:=t' }:=I.un (Un.write c f k a) (I.hok.write c f k a new)
theorem Inv.pins_of {pins':List (Addr×Obj)} (I:Inv X pins σ H s) (h:∀p∈pins',s.heap.get? p.1=some p.2/\H p.1=none/\p.1≠X.env.locals/\p.1∉X.fs/\∀v,p.2.data≠.cell v):Inv X pins' σ H s :=
 ⟨I.ok,I.os,I.bare,I.base,I.loc,I.cell,I.free,I.freeC,λp a=>(Ki.mp a).elim (λz=>I.pin p (Kl _ z)) (h p),I.hok,I.len,I.tab⟩
theorem uc (c:N.Nodup) (a:N[i]?=some x) (b:N[j]?=some x):i=j:=by obtain⟨h1,e1⟩:=K5.mp a;obtain⟨h2,e2⟩:=K5.mp b;exact (List.getElem_inj c).mp (e1.trans e2.symm)
theorem qT {Q:Unit->Shared->Prop} (I:Inv X pins σ H s) (hN:X.N.Nodup) (hi:X.N[i]?=some x) (g:Loc X.env.scope x) (r:RelV v u)
  (h:∀s',Inv X pins (σ.set i (some v)) H s'->(∃a,Heap.SameBut a s.heap s'.heap/\(a=X.env.locals\/X.env.cells.lookup x=some a))->Q () s') (hf:X.fn x=true\/X.env.scope.names.lookup x=some .local:=by first|exact .inl rfl|exact .inr rfl|assumption):wpAny M A (storeName X.env x u) Q E s:=by
 obtain⟨m,hn,hl⟩:=id I.loc;have G:(X.env.scope.kind==.class||(X.env.scope.kind==.module&&X.env.locals != X.env.globals))=false:=by rw[I.ok.kind];rfl
 have B:i<σ.length:=by rw[I.len];exact (K5.mp hi).1
 have cne:=I.cne;have tracked:∀{a:Addr} {h':Heap},(∃o,s.heap.get? a=some o/\H a=none)->Heap.SameBut a s.heap h'->HOk X.prog X.w H h':=λ{a h'} ha f b ob e=>by
  obtain⟨_,_,l⟩:=ha;refine (I.hok b ob e).stay (λc O hc q=>(f.2 c ?_).trans q) (λ_ q=>q) λ_ _ q=>q
  rintro rfl
  rcases hc with rfl|hc
  ·rw[l]at e;cases e
  ·rw[l]at hc;cases hc
 rcases g with C|C
 ·refine wpAny_storeName_local C hn (λh' P f=>?_) G;obtain⟨oL,_,_,R,_⟩:=id hn;refine h _ ⟨I.ok,I.os,I.bare,⟨λb o e n D g=>?_,λb o e n D g=>?_,I.base.free,λb o e g=>?_,I.base.tups,I.base.frzs,I.base.tbls⟩,⟨_,P,λj y S e1 e2 T=>?_⟩,λy c e=>?_,I.free,I.freeC,λp U=>?_,tracked ⟨oL,R,I.free⟩ f,by simpa using I.len,I.tab⟩ ⟨_,f,.inl rfl⟩
  ·exact (f.2 b (JX (K4 (JV e) I.ok.above))).trans (I.base.keep b o e n D g)
  ·obtain⟨W,e1⟩:=I.base.slot b o e n D g;exact⟨W,(f.2 b (JX (K4 (JV e) I.ok.above))).trans e1⟩
  ·obtain⟨o',e1⟩:=I.base.there b o e g;exact⟨o',(f.2 b (JX (K4 (JV e) I.ok.above))).trans e1⟩
  ·by_cases hj:j=i
   ·subst hj;rw[hi]at e1;cases e1;rw[Km B]at e2;cases e2;exact⟨u,r,.inl ⟨C,by simp⟩⟩
   ·rw[Kg (Ne.symm hj)]at e2;obtain⟨Y,Z,q⟩:=hl j y S e1 e2 T;refine⟨Y,Z,?_⟩;rcases q with⟨k,e⟩|⟨k,c,e,z⟩
    ·refine .inl ⟨k,?_⟩;have:y≠x:=λe=>hj (uc hN e1 (e▸hi))
     simp[this,e]
    ·exact .inr ⟨k,c,e,z.sameBut f (cne y c e)⟩
  ·obtain⟨O,z⟩:=I.cell y c e;exact⟨O,z.sameBut f (cne y c e)⟩
  ·obtain⟨e,n,ne,nf,d⟩:=I.pin p U;exact⟨(f.2 p.1 ne).trans e,n,ne,nf,d⟩
 ·have F:X.fn x=true:=by
   rcases hf with z|z
   ·exact z
   ·rw[z]at C;cases C
  obtain⟨c,hc⟩:=I.ok.has x (.inl C);obtain⟨O,z⟩:=I.cell x c hc;refine wpAny_storeName_cell I.ok.kind C hc z (λh' J f=>?_);obtain⟨oc,K,L⟩:=id z;refine h { s with heap:=h' } ⟨I.ok,I.os,I.bare,⟨λb o e n D g=>?_,λb o e n D g=>?_,I.base.free,λb o e g=>?_,I.base.tups,I.base.frzs,I.base.tbls⟩,⟨m,hn.sameBut f (Ne.symm (cne x c hc)),λj y S e1 e2 T=>?_⟩,λy c' e=>?_,I.free,I.freeC,λp U=>?_,tracked ⟨oc,K,I.freeC x c hc⟩ f,by simpa using I.len,I.tab⟩ ⟨c,f,.inr hc⟩
  ·exact (f.2 b (JX (K4 (JV e) (I.ok.cab x c F hc)))).trans (I.base.keep b o e n D g)
  ·obtain⟨W,e1⟩:=I.base.slot b o e n D g;exact⟨W,(f.2 b (JX (K4 (JV e) (I.ok.cab x c F hc)))).trans e1⟩
  ·obtain⟨o',e1⟩:=I.base.there b o e g;exact⟨o',(f.2 b (JX (K4 (JV e) (I.ok.cab x c F hc)))).trans e1⟩
  ·by_cases hj:j=i
   ·subst hj;rw[hi]at e1;cases e1;rw[Km B]at e2;cases e2;exact⟨u,r,.inr ⟨.inl C,c,hc,J⟩⟩
   ·rw[Kg (Ne.symm hj)]at e2;obtain⟨Y,Z,q⟩:=hl j y S e1 e2 T;refine⟨Y,Z,?_⟩;rcases q with q|⟨k,c',e,z'⟩
    ·exact .inl q
    ·refine .inr ⟨k,c',e,z'.sameBut f ?_⟩
     rintro rfl
     exact hj (uc hN e1 (I.ok.inj _ _ _ e hc▸hi))
  ·by_cases hcc:c'=c
   ·subst hcc;exact⟨_,J⟩
   ·obtain⟨w2,z2⟩:=I.cell y c' e;exact⟨w2,z2.sameBut f hcc⟩
  ·obtain⟨e,n,ne,nf,d⟩:=I.pin p U;refine⟨(f.2 p.1 ?_).trans e,n,ne,nf,d⟩;intro q;rw[q,K]at e;have q':oc=p.2:=Option.some.inj e;exact d O (by rw[<-q'];exact L)
theorem uI {Q:Unit->Shared->Prop} (I:Inv X pins σ H s) (a:X.N.Nodup) (hi:X.N[i]?=some x) (b:Loc X.env.scope x) (r:RelV v u)
  (h:∀s',Inv X pins (σ.set i (some v)) H s'->Q () s') (c:X.fn x=true\/X.env.scope.names.lookup x=some .local:=by first|exact .inl rfl|exact .inr rfl|assumption):wpAny M A (storeName X.env x u) Q E s :=
 qT I a hi b r (λs' e _=>h s' e) c
theorem Inv.call' (I:Inv X pins σ H s) (f:s'.os=s.os) (u:Un (frs X.stack) ch H H' s.heap s'.heap) (hok:HOk X.prog X.w H' s'.heap) (g:AllBare s'.gens)
  (a:∀b∈ch,(b∈X.ex\/X.s₀.heap.objs.size<=b)/\b≠X.env.locals/\(∀x c,X.env.cells.lookup x=some c->c≠b)/\∀p∈X.pn++pins,p.1≠b):Inv X pins σ H' s':=by
 obtain⟨h',g',d',t',o'⟩:=s';have e:o'=s.os:=f;subst e;exact I.call (g':=g') (t':=t') (d':=d') u hok g a
end
abbrev XK:=Value->Option Addr->Hp->Prop
abbrev St:=List (Option V)
variable {σ:St}
abbrev VK:=V->Hp->Prop
abbrev TE:=St->Hp->VK->Prop
abbrev TT:=St->Hp->(Bool->Hp->Prop)->Prop
abbrev TA:=St->Hp->(List V->Hp->Prop)->Prop
structure Ends where
 nx:St->Hp->Prop
 rt:VK
 bk:St->Hp->Prop:=λ_ _=>False
 ct:St->Hp->Prop:=λ_ _=>False
abbrev TS:=Ends->St->Hp->Prop
def EP (X:Cx) (pins:List (Addr×Obj)) (σ:St) (Q:VK) (u:Value) (s':Shared):Prop:=∃v H',Inv X pins σ H' s'/\RelV v u/\Q v H'
def TP (X:Cx) (pins:List (Addr×Obj)) (σ:St) (Q:Bool->Hp->Prop) (b:Bool) (s':Shared):Prop:=∃H',Inv X pins σ H' s'/\Q b H'
def AP (X:Cx) (pins:List (Addr×Obj)) (σ:St) (Q:List V->Hp->Prop) (us:List Value) (s':Shared):Prop:=∃vs H',Inv X pins σ H' s'/\Vals vs us/\Q vs H'
def SP (X:Cx) (pins:List (Addr×Obj)) (D:Ends) (f:Flow) (s':Shared):Prop :=
 match f with
 |.next=>∃a H',Inv X pins a H' s'/\D.nx a H'
 |.brk=>∃a H',Inv X pins a H' s'/\D.bk a H'
 |.cont=>∃a H',Inv X pins a H' s'/\D.ct a H'
 |.ret u=>∃v a H',Inv X pins a H' s'/\RelV v u/\D.rt v H'
def PE (X:Cx) (e:Expr) (t:TE):Prop :=
 ∀(pins:List (Addr×Obj)) (s:Shared) (σ:St) (H:Hp) (Q:VK),Inv X pins σ H s->t σ H Q->wpAny (model X.prog X.w) X.A (eval e X.env) (EP X pins σ Q) X.xe s
def PT (X:Cx) (e:Expr) (t:TT):Prop :=
 ∀(pins:List (Addr×Obj)) (s:Shared) (σ:St) (H:Hp) (Q:Bool->Hp->Prop),Inv X pins σ H s->t σ H Q->wpAny (model X.prog X.w) X.A (isTrue e X.env (eval e X.env)) (TP X pins σ Q) X.xe s
def PW (X:Cx) (e:Expr) (t:TT):Prop :=
 ∀(whole:Sem Value) (pins:List (Addr×Obj)) (s:Shared) (σ:St) (H:Hp) (Q:Bool->Hp->Prop),Inv X pins σ H s->t σ H Q->wpAny (model X.prog X.w) X.A (isTrue e X.env whole) (TP X pins σ Q) X.xe s
theorem PW.pt {t:TT} (h:PW X e t):PT X e t:=h _
def PA (X:Cx) (es:List Expr) (t:TA):Prop :=
 ∀(pos:Pos) (pins:List (Addr×Obj)) (s:Shared) (σ:St) (H:Hp) (Q:List V->Hp->Prop),Inv X pins σ H s->t σ H Q->wpAny (model X.prog X.w) X.A (spliced (backTo pos (starEach es X.env))) (AP X pins σ Q) X.xe s
def PS (X:Cx) (st:Stmt) (t:TS):Prop :=
 ∀(pins:List (Addr×Obj)) (s:Shared) (σ:St) (H:Hp) (D:Ends),Inv X pins σ H s->t D σ H->wpAny (model X.prog X.w) X.A (exec st X.env) (SP X pins D) X.xe s
def PSs (X:Cx) (st:List Stmt) (t:TS):Prop :=
 ∀(pins:List (Addr×Obj)) (s:Shared) (σ:St) (H:Hp) (D:Ends),Inv X pins σ H s->t D σ H->wpAny (model X.prog X.w) X.A (execs st X.env) (SP X pins D) X.xe s
theorem thn {t:Sem α} {Q b:α->Shared->Prop} (h:wpAny M A t Q E s) (c:∀a s,Q a s->b a s):wpAny M A t b E s:=wpAny_mono h c λ_ _ x=>x
section
theorem bin {a b:Expr} {ta tb:TE} (ha:PE X a ta) (i:PE X b tb) (I:Inv X pins σ H s) (h:ta σ H λx H1=>tb σ H1 λy H2=>R x y H2)
  {Q:α->Shared->Prop} {f:Value->Value->Sem α}
  (j:∀v u s2 x y H2,Inv X pins σ H2 s2->RelV x v->RelV y u->R x y H2->wpAny (model X.prog X.w) X.A (f v u) Q X.xe s2) :
  wpAny (model X.prog X.w) X.A (eval a X.env) (λv e=>wpAny (model X.prog X.w) X.A (eval b X.env) (λu g=>wpAny (model X.prog X.w) X.A (f v u) Q X.xe g) X.xe e) X.xe s:=by
 refine thn (ha pins s σ H _ I h) λv l c=>?_
 obtain⟨x,H1,m,n,o⟩:=c;refine thn (i pins l σ H1 _ m o) λu s2 c=>?_
 obtain⟨y,H2,p,q,r⟩:=c;exact j v u s2 x y H2 p n q r
def IF (i:Nat):TE:=λσ H Q=>∃v,σ[i]?=some (some v)/\Q v H
def tC (v:V):TE:=λ_ H Q=>Q v H
theorem ic (g:X.N[i]?=some x) (hv:Vis X.env.scope x) (hd:(x==("__debug__":Str))=false:=by decide) (f:(x==("__classdict__":Str))=false:=by decide):PE X (.Name x pos) (IF i):=by
 intro pins s σ H Q I h;obtain⟨v,e,h⟩:=h;obtain⟨m,hn,hl⟩:=I.loc;obtain⟨u,r,l⟩:=hl i x v g e hv;have fin:EP X pins σ Q u s:=⟨v,H,I,r,h⟩
 rcases l with⟨b,hm⟩|⟨b,c,hc,a⟩
 ·exact wpAny_Name (wpAny_loadName_local I.ok.kind b hn hm fin) hd
 ·rcases b with b|b
  ·exact wpAny_Name (wpAny_loadName_cell I.ok.kind b hc a fin) hd
  ·exact wpAny_Name (wpAny_loadName_free I.ok.kind b hc a fin f) hd
theorem fi {i j pos}:PE X (.Constant (.int i) j pos) (tC (.int i)):=λ_ _ _ H _ I h=>wpAny_Constant_int ⟨.int i,H,I.tok _,⟨_,rfl⟩,h⟩
theorem Io {b j pos}:PE X (.Constant (.bool b) j pos) (tC (.bl b)):=λ_ _ _ H _ I h=>Constant_bool ⟨.bl b,H,I,rfl,h⟩
theorem G4 {j pos}:PE X (.Constant .none j pos) (tC .non):=λ_ _ _ H _ I h=>Constant_none ⟨.non,H,I,rfl,h⟩
theorem F5 {x j pos}:PE X (.Constant (.str x) j pos) (tC (.str x)):=λ_ _ _ H _ I h=>Calls.Constant_str ⟨.str x,H,I.tok _,⟨_,rfl⟩,h⟩
def Gl (X:Cx) (x:Str):Prop:=X.env.kindOf x=some .globalImplicit
theorem mV (I:Inv X pins σ H s) (a:Gl X x) (hm:X.mg x=some u) (h:Q u s)
  (hd:(x==("__debug__":Str))=false:=by decide):wpAny (model X.prog X.w) X.A (eval (.Name x pos) X.env) Q E s :=
 Calls.Name_function_global I.ok.kind a (Calls.loadGlobal_global (by rw[I.ok.glob];exact I.mod.glob.keeps I.bk) hm h) hd
theorem fP (I:Inv X pins σ H s) (a:Gl X x) (hm:X.mg x=none) (hv:bootBuiltins x=some u) (h:Q u s)
  (hn:x≠"__name__":=by decide) (hd:(x==("__debug__":Str))=false:=by decide):wpAny (model X.prog X.w) X.A (eval (.Name x pos) X.env) Q E s:=by
 obtain⟨mb,h1,h2⟩:=I.mod.blt;exact Calls.Name_function_global I.ok.kind a (Calls.loadGlobal_builtin (by rw[I.ok.glob];exact I.mod.glob.keeps I.bk) hm (by rw[I.ok.blt];exact h1.keeps I.bk) ((h2 x hn).trans hv) h) hd
theorem Em (a:Gl X x) (hm:X.mg x=some u) (r:RelV v u) (hd:(x==("__debug__":Str))=false:=by decide):PE X (.Name x pos) (tC v) :=
 λ_ _ _ H _ I h=>mV I a hm ⟨v,H,I,r,h⟩ hd
theorem EK (a:Gl X x) (hm:X.mg x=none) (hv:bootBuiltins x=some u) (r:RelV v u) (hn:x≠"__name__":=by decide) (hd:(x==("__debug__":Str))=false:=by decide):PE X (.Name x pos) (tC v) :=
 λ_ _ _ H _ I h=>fP I a hm hv ⟨v,H,I,r,h⟩ hn hd
noncomputable def t2I (ta tb:TE) (k:Int->Int->Hp->Prop):St->Hp->Prop:=λσ H=>ta σ H λx H1=>tb σ H1 λy H2=>∃i j,x=.int i/\y=.int j/\k i j H2
variable {a b:Expr} {ta tb:TE}
def PC (X:Cx) (op:CmpOp) (a b:Expr) (t:TE):Prop :=
 ∀(pins:List (Addr×Obj)) (s:Shared) (σ:St) (H:Hp) (Q:VK),Inv X pins σ H s->t σ H Q ->
  wpAny (model X.prog X.w) X.A (eval a X.env) (λv c=>wpAny (model X.prog X.w) X.A (eval b X.env) (λu e=>wpAny (model X.prog X.w) X.A (compareOp op v u) (EP X pins σ Q) X.xe e) X.xe c) X.xe s
theorem uW (b:Expr) (h:op≠.In) (h2:op≠.NotIn):behindInMarks op b=false:=by
 have e1:(op==CmpOp.In)=false:=by cases op <;> first|rfl|exact absurd rfl h
 have e2:(op==CmpOp.NotIn)=false:=by cases op <;> first|rfl|exact absurd rfl h2
 cases b <;> simp[behindInMarks,e1,e2]
def Hy (p:Int->Int->Bool) (ta tb:TE):TE:=λσ H Q=>t2I ta tb (λi j H2=>Q (.bl (p i j)) H2) σ H
abbrev tLt:TE->TE->TE:=Hy λi j=>decide (i<j)
theorem G5 {p:Int->Int->Bool} (ha:PE X a ta) (c:PE X b tb)
  (rule:∀(i j:Int) (t u:Tok) (Q:Value->Shared->Prop) (s:Shared),Q (.bool (p i j)) s->wpAny (model X.prog X.w) X.A (compareOp op (.int i t) (.int j u)) Q X.xe s):PC X op a b (Hy p ta tb):=by
 intro pins s σ H Q I h;refine bin ha c I h λv u s2 x y H2 e f g q=>?_
 obtain⟨i,j,rfl,rfl,q⟩:=q;obtain⟨t,rfl⟩:=f;obtain⟨t',rfl⟩:=g;exact rule i j t t' _ s2 ⟨.bl _,H2,e,rfl,q⟩
theorem HG (ha:PE X a ta) (c:PE X b tb):PC X .Lt a b (tLt ta tb):=G5 ha c λ_ _ _ _ _ _ h=>lt_int h
def Jf (ta:TE):TE:=λσ H Q=>ta σ H λx H1=>Q (.bl (decide (x=.non))) H1
def II (ta:TE):TE:=λσ H Q=>ta σ H λx H1=>Q (.bl (!decide (x=.non))) H1
theorem RelV.none_iff {x:V} {v:Value} (r:RelV x v):(v==Value.none)=decide (x=.non):=by
 cases x with
 |non=>cases r;rfl
 |bl _=>cases r;rfl
 |int _=>obtain⟨t,rfl⟩:=r;rfl
 |str _=>obtain⟨t,rfl⟩:=r;rfl
 |byt _=>obtain⟨t,rfl⟩:=r;rfl
 |flt _=>obtain⟨t,rfl⟩:=r;rfl
 |ref _=>cases r;rfl
 |ty _=>cases r;rfl
theorem zK {j pos'} (ha:PE X a ta):PC X .Is a (.Constant .none j pos') (Jf ta):=by
 intro pins s σ H Q I h;refine thn (ha pins s σ H _ I h) λv s1 b=>?_
 obtain⟨x,H1,c,e,f⟩:=b;exact Constant_none (is_none_gen ⟨.bl _,H1,c,by rw[e.none_iff];rfl,f⟩)
theorem Eh {j pos'} (ha:PE X a ta):PC X .IsNot a (.Constant .none j pos') (II ta):=by
 intro pins s σ H Q I h;refine thn (ha pins s σ H _ I h) λv s1 b=>?_
 obtain⟨x,H1,c,e,f⟩:=b;exact Constant_none (isnot_none_gen ⟨.bl _,H1,c,by rw[e.none_iff];rfl,f⟩)
def tB (t:TE):TT:=λσ H Q=>t σ H λx H1=>∃c,x=.bl c/\Q c H1
theorem GX {t:TE} (h:PC X op a b t) (h1:behindInMarks op b=false:=by first|exact uW _ (by decide) (by decide)|rfl):PE X (.Compare a [op] [b] pos) t:=λpins s σ H Q I hw=>wpAny_Compare1 (h pins s σ H Q I hw) h1
theorem vT {t:TE} (h:PC X op a b t) (h1:behindInMarks op b=false:=by first|exact uW _ (by decide) (by decide)|rfl):PT X (.Compare a [op] [b] pos) (tB t):=by intro pins s σ H Q I hw;refine wpAny_isTrue_Compare1 (thn (h pins s σ H _ I hw) λv s1 h1=>thn h1 λu s2 h2=>thn h2 λc s3 e=>?_) h1;obtain⟨x,H1,f,g,i⟩:=e;obtain⟨d,rfl,q⟩:=i;cases g;exact wpAny_truthy_bool ⟨H1,f,q⟩
theorem Ga {t:TE} (h:PE X e t) (b:∀whole,isTrue e X.env whole=(do let v <-whole;standAt e.pos;holding [v] (truthy v)):=by intro _;rfl):PT X e (tB t):=by intro pins s σ H Q I hw;refine isTrue_plain (thn (h pins s σ H _ I hw) λv s1 a=>?_) (b _);obtain⟨x,H1,c,f,g⟩:=a;obtain⟨d,rfl,q⟩:=g;cases f;exact wpAny_truthy_bool ⟨H1,c,q⟩
variable {tA tB':TT} {rest:List Expr}
def Jy (t u:TT):TT:=λσ H Q=>t σ H λc H1=>if c=true then u σ H1 Q else Q false H1
def tOr (t u:TT):TT:=λσ H Q=>t σ H λc H1=>if c=true then Q true H1 else u σ H1 Q
def Jq (t:TT):TT:=λσ H Q=>t σ H λc H1=>Q (!c) H1
theorem Dw (ha:PT X a tA):PW X (.BoolOp .And [a] pos) tA:=by
 intro wh pins s σ H Q I h;refine isTrue_and (thn (ha pins s σ H Q I h) λc s1 e=>?_);cases c with
 |true=>exact isTrue_and_nil e
 |false=>exact e
theorem Fw (ha:PT X a tA):PW X (.BoolOp .Or [a] pos) tA:=by
 intro wh pins s σ H Q I h;refine isTrue_or (thn (ha pins s σ H Q I h) λc s1 e=>?_);cases c with
 |false=>exact isTrue_or_nil e
 |true=>exact e
theorem E9 (ha:PT X a tA) (i:PW X (.BoolOp .And (b::rest) pos) tB'):PW X (.BoolOp .And (a::b::rest) pos) (Jy tA tB'):=by
 intro j pins s σ H Q I h;refine isTrue_and (thn (ha pins s σ H _ I h) λc l e=>?_);obtain⟨H1,f,g⟩:=e;cases c with
 |true=>exact i j pins l σ H1 Q f g
 |false=>exact⟨H1,f,g⟩
theorem IE (ha:PT X a tA) (i:PW X (.BoolOp .Or (b::rest) pos) tB'):PW X (.BoolOp .Or (a::b::rest) pos) (tOr tA tB'):=by
 intro j pins s σ H Q I h;refine isTrue_or (thn (ha pins s σ H _ I h) λc l e=>?_);obtain⟨H1,f,g⟩:=e;cases c with
 |true=>exact⟨H1,f,g⟩
 |false=>exact i j pins l σ H1 Q f g
theorem FI (ha:PT X a tA):PT X (.UnaryOp .Not a pos) (Jq tA):=by intro pins s σ H Q I h;exact isTrue_not (ha pins s σ H (λc H1=>Q (!c) H1) I h)
def Hx (ta tb:TE):TE:=λσ H Q=>ta σ H λx H1=>∃c,x=.bl c/\if c=true then tb σ H1 Q else Q (.bl false) H1
def Ju (ta tb:TE):TE:=λσ H Q=>ta σ H λx H1=>∃c,x=.bl c/\if c=true then Q (.bl true) H1 else tb σ H1 Q
theorem Gk {op} {t:TE} (h:PE X a t):PE X (.BoolOp op [a] pos) t:=λpins s σ H Q I hw=>BoolOp_one (h pins s σ H Q I hw)
theorem FU (ha:PE X a ta) (i:PE X (.BoolOp .And (b::rest) pos) tb):PE X (.BoolOp .And (a::b::rest) pos) (Hx ta tb):=by
 intro pins s σ H Q I h;refine BoolOp_and (thn (ha pins s σ H _ I h) λv j f=>?_);obtain⟨x,H1,g,l,e⟩:=f;obtain⟨c,rfl,e⟩:=e;cases l;refine wpAny_truthy_bool ?_;cases c with
 |true=>exact i pins j σ H1 Q g e
 |false=>exact⟨.bl false,H1,g,rfl,e⟩
theorem IB (ha:PE X a ta) (i:PE X (.BoolOp .Or (b::rest) pos) tb):PE X (.BoolOp .Or (a::b::rest) pos) (Ju ta tb):=by
 intro pins s σ H Q I h;refine BoolOp_or (thn (ha pins s σ H _ I h) λv j f=>?_);obtain⟨x,H1,g,l,e⟩:=f;obtain⟨c,rfl,e⟩:=e;cases l;refine wpAny_truthy_bool ?_;cases c with
 |false=>exact i pins j σ H1 Q g e
 |true=>exact⟨.bl true,H1,g,rfl,e⟩
def tIf (t:TT) (ta tb:TE):TE:=λσ H Q=>t σ H λc H1=>if c=true then ta σ H1 Q else tb σ H1 Q
theorem AU (hc:PT X c tA) (ha:PE X a ta) (j:PE X b tb):PE X (.IfExp c a b pos) (tIf tA ta tb):=by
 intro pins s σ H Q I h;refine wpAny_IfExp (thn (hc pins s σ H _ I h) λd f e=>?_);obtain⟨H1,g,i⟩:=e;cases d with
 |true=>exact ha pins f σ H1 Q g i
 |false=>exact j pins f σ H1 Q g i
end
def SqL (K:PySem.W.Frag) (H:Hp) (a:Addr) (xs:List V):Prop :=
 Rd H a (.lst xs) \/
  ∃(o:Obj) (b:Array Value) (n:Nat),K.lookup a=some o/\o.cls=.type "list"/\o.dict=none/\o.data=.seq b n/\b.size<=sizeLine/\Vals xs b.toList
def SqT (K:PySem.W.Frag) (H:Hp) (a:Addr) (xs:List V):Prop :=
 Rd H a (.tup xs) \/
  ∃(o:Obj) (b:Array Value) (n:Nat),K.lookup a=some o/\o.cls=.type "tuple"/\o.data=.seq b n/\b.size<=sizeLine/\Vals xs b.toList
def Jg:Value->Option V
 |.none=>some .non
 |.bool b=>some (.bl b)
 |.int i _=>some (.int i)
 |.str x _=>some (.str x)
 |.bytes b _=>some (.byt b)
 |.float b _=>some (.flt b)
 |.ref a=>some (.ref a)
 |.type n=>some (.ty n)
 |_=>none
theorem RelV.abs {x:V} (r:RelV x u):Jg u=some x:=by
 cases x with
 |non=>cases r;rfl
 |bl _=>cases r;rfl
 |int _=>obtain⟨t,rfl⟩:=r;rfl
 |str _=>obtain⟨t,rfl⟩:=r;rfl
 |byt _=>obtain⟨t,rfl⟩:=r;rfl
 |flt _=>obtain⟨t,rfl⟩:=r;rfl
 |ref _=>cases r;rfl
 |ty _=>cases r;rfl
theorem RelV.inj {x y:V} (r:RelV x u) (q:RelV y u):x=y:=Option.some.inj (r.abs.symm.trans q.abs)
theorem Vals.inj {ys:List V} (h:Vals xs us) (h':Vals ys us):xs=ys:=by
 induction h generalizing ys with
 |nil=>cases h';rfl
 |cons r t ih =>
  cases h' with
  |cons r' t'=>rw[r.inj r',ih t']
section
variable {ys:List V}
theorem SqL.of (h:H a=some (.lst xs)):SqL K H a xs:=.inl (.inl h)
theorem SqT.of (h:H a=some (.tup xs)):SqT K H a xs:=.inl (.inl h)
theorem Inv.list (I:Inv X pins σ H s) (h:SqL X.K H a xs):∃b:List Value,Vals xs b/\PlainL s.heap a b.toArray/\xs.length<=sizeLine:=by
 rcases h with h|⟨o,b,n,c,hc,hd,f,hz,r⟩
 ·obtain⟨z,b,n,r,e⟩:=h.ok I.hok;exact⟨b,r,⟨_,n,e,rfl,rfl,rfl⟩,z⟩
 ·refine⟨b.toList,r,⟨o,n,I.kIn a o c,hc,hd,by simpa using f⟩,?_⟩;have e:=r.length;simp only[LF]at e;omega
theorem Inv.tuple (I:Inv X pins σ H s) (h:SqT X.K H a xs):∃b:List Value,Vals xs b/\IsTup s.heap a b.toArray/\xs.length<=sizeLine:=by
 rcases h with h|⟨o,b,n,c,hc,f,hz,r⟩
 ·obtain⟨z,b,r,p⟩:=h.ok I.hok;exact⟨b,r,p.tup,z⟩
 ·refine⟨b.toList,r,⟨o,I.kIn a o c,hc,n,by simpa using f⟩,?_⟩;have e:=r.length;simp only[LF]at e;omega
theorem Inv.list_inj (I:Inv X pins σ H s) (h:SqL X.K H a xs) (h':SqL X.K H a ys):xs=ys:=by
 obtain⟨b,r,⟨o,n,e,_,_,d⟩,_⟩:=I.list h;obtain⟨its',f,⟨o',n',c,_,_,d'⟩,_⟩:=I.list h';rw[e]at c;cases c;rw[d]at d';injection d' with d1 _
 have:b=its':=by simpa using congrArg Array.toList d1
 subst this;exact r.inj f
theorem Inv.tuple_inj (I:Inv X pins σ H s) (h:SqT X.K H a xs) (h':SqT X.K H a ys):xs=ys:=by
 obtain⟨b,r,⟨o,e,_,n,d⟩,_⟩:=I.tuple h;obtain⟨its',f,⟨o',c,_,n',d'⟩,_⟩:=I.tuple h';rw[e]at c;cases c;rw[d]at d';injection d' with d1 _
 have:b=its':=by simpa using congrArg Array.toList d1
 subst this;exact r.inj f
end
abbrev Cx.wish (X:Cx) (E:Value->Shared->Prop):Cx:={ X with xe:=E }
abbrev Cx.nox (X:Cx):Cx:=X.wish λ_ _=>False
theorem Cx.Ok.wish (ok:X.Ok) (E:Value->Shared->Prop):(X.wish E).Ok :=
 ⟨ok.mod,ok.kind,ok.glob,ok.blt,ok.above,ok.inj,ok.has,ok.cab,ok.hd,ok.frames,ok.stk,ok.exf,ok.bs,ok.bsz,ok.noex,ok.exfs,ok.funs,ok.frf⟩
theorem Cx.Ok.unwish (ok:(X.wish E).Ok):X.Ok :=
 ⟨ok.mod,ok.kind,ok.glob,ok.blt,ok.above,ok.inj,ok.has,ok.cab,ok.hd,ok.frames,ok.stk,ok.exf,ok.bs,ok.bsz,ok.noex,ok.exfs,ok.funs,ok.frf⟩
section
theorem Inv.wish (I:Inv X pins σ H s) (E:Value->Shared->Prop):Inv (X.wish E) pins σ H s:=⟨I.ok.wish E,I.os,I.bare,I.base,I.loc,I.cell,I.free,I.freeC,I.pin,I.hok,I.len,I.tab⟩
theorem Inv.unwish (I:Inv (X.wish E) pins σ H s):Inv X pins σ H s:=⟨I.ok.unwish,I.os,I.bare,I.base,I.loc,I.cell,I.free,I.freeC,I.pin,I.hok,I.len,I.tab⟩
theorem SP.unwish {D:Ends} {f:Flow} (h:SP (X.wish E) pins D f s'):SP X pins D f s':=by
 cases f with
 |next=>obtain⟨a,H',I,q⟩:=h;exact⟨a,H',I.unwish,q⟩
 |brk=>obtain⟨a,H',I,q⟩:=h;exact⟨a,H',I.unwish,q⟩
 |cont=>obtain⟨a,H',I,q⟩:=h;exact⟨a,H',I.unwish,q⟩
 |ret u=>obtain⟨v,a,H',I,r,q⟩:=h;exact⟨v,a,H',I.unwish,r,q⟩
theorem PSs.nox {st:List Stmt} {t:TS} (h:PSs X.nox st t):PSs X st t:=λpins s σ H D I hw =>
 wpAny_mono (h pins s σ H D (I.wish _) hw) (λ_ _ q=>q.unwish) λ_ _ z=>False.elim z
end
section
variable {rest:List Stmt} {t u:TS} {te:TE}
def Iy:TS:=λD σ H=>D.nx σ H
def Jl (t u:TS):TS:=λD σ H=>t { D with nx:=u D } σ H
theorem mU:PSs X [] Iy:=λ_ _ σ H _ I h=>wpAny_execs_nil ⟨σ,H,I,h⟩
theorem cu (h1:PS X st t) (h2:PSs X rest u):PSs X (st::rest) (Jl t u):=by
 intro pins s σ H D I h;refine wpAny_execs_cons (thn (h1 pins s σ H { D with nx:=u D } I h) λf b q=>?_);cases f with
 |next =>obtain⟨a,H',c,q⟩:=q;exact h2 pins b a H' D c q
 |ret v=>exact q
 |brk=>exact q
 |cont=>exact q
theorem fz (h1:PS X st t):PSs X [st] t:=by
 intro pins s σ H D I h;refine wpAny_execs_cons (thn (h1 pins s σ H D I h) λf s1 q=>?_);cases f with
 |next=>exact wpAny_execs_nil q
 |ret v=>exact q
 |brk=>exact q
 |cont=>exact q
theorem Inv.quiet (I:Inv X pins σ H s):interactive X.env=false:=by simp[interactive,I.ok.kind]
def HE (te:TE):TS:=λD σ H=>te σ H λ_ H1=>D.nx σ H1
theorem m8 (b:PE X e te) (c:swapsWith e none pos.line X.env=pure false:=by rfl):PS X (.Expr e pos) (HE te):=by intro pins s σ H D I h;exact wpAny_Expr_any (thn (b pins s σ H _ I h) λv s1 a=>(by obtain⟨x,H1,f,r1,g⟩:=a;exact⟨σ,H1,f,g⟩)) I.quiet c
def Jr (te:TE):TS:=λD σ H=>te σ H D.rt
theorem pD (b:PE X e te):PS X (.Return (some e) pos) (Jr te):=by intro pins s σ H D I h;exact wpAny_Return_some (thn (b pins s σ H _ I h) λv s1 a=>(by obtain⟨x,H1,c,f,g⟩:=a;exact⟨x,σ,H1,c,f,g⟩))
def JG (c:TT) (t u:TS):TS:=λD σ H=>c σ H λb H1=>if b=true then t D σ H1 else u D σ H1
theorem ug {a b:List Stmt} {tc:TT} (hc:PT X c tc) (ha:PSs X a t) (j:PSs X b u):PS X (.If c a b pos) (JG tc t u):=by
 intro pins s σ H D I h;refine wpAny_If (thn (hc pins s σ H _ I h) λd f e=>?_);obtain⟨H1,g,i⟩:=e;cases d with
 |true=>exact ha pins f σ H1 D g i
 |false=>exact j pins f σ H1 D g i
end
abbrev TG:=V->St->Hp->(St->Hp->Prop)->Prop
abbrev TGs:=List V->St->Hp->(St->Hp->Prop)->Prop
def PG (X:Cx) (target:Expr) (t:TG):Prop :=
 ∀(pins:List (Addr×Obj)) (s:Shared) (σ:St) (H:Hp) (v:V) (u:Value) (Q:St->Hp->Prop),Inv X pins σ H s->RelV v u->t v σ H Q ->
  wpAny (model X.prog X.w) X.A (assign target X.env u) (λ_ s'=>∃a H',Inv X pins a H' s'/\Q a H') X.xe s
def PGs (X:Cx) (ts:List Expr) (t:TGs):Prop :=
 ∀(pins:List (Addr×Obj)) (s:Shared) (σ:St) (H:Hp) (vs:List V) (us:List Value) (Q:St->Hp->Prop),Inv X pins σ H s->Vals vs us->t vs σ H Q ->
  wpAny (model X.prog X.w) X.A (assignInOrder ((assignEach ts X.env).map (·.2)) us) (λ_ s'=>∃a H',Inv X pins a H' s'/\Q a H') X.xe s
abbrev Hi:=V->V->V->Hp->(Hp->Prop)->Prop
def Il (X:Cx) (t:Hi):Prop :=
 ∀(pins:List (Addr×Obj)) (s:Shared) (σ:St) (H:Hp) (o i v:V) (a b u:Value) (Q:Hp->Prop),Inv X pins σ H s->RelV o a->RelV i b->RelV v u->t o i v H Q ->
  wpAny (model X.prog X.w) X.A (setItem a b u) (λ_ s'=>∃H',Inv X pins σ H' s'/\Q H') X.xe s
section
def gJ (i:Nat):TG:=λv σ H Q=>Q (σ.set i (some v)) H
theorem sE (a:X.N.Nodup) (hi:X.N[i]?=some x) (b:Loc X.env.scope x) (c:X.fn x=true\/X.env.scope.names.lookup x=some .local:=by first|exact .inl rfl|exact .inr rfl|assumption):PG X (.Name x pos) (gJ i):=by intro pins s σ H v u Q I r h;exact wpAny_assign_Name (uI I a hi b r (λs' e=>⟨_,H,e,h⟩) c)
def GQ:TGs:=λvs σ H Q=>vs=[]/\Q σ H
def xn (t:TG) (u:TGs):TGs:=λvs σ H Q=>∃v r,vs=v::r/\t v σ H λa H'=>u r a H' Q
theorem wG:PGs X [] GQ:=by intro pins s σ H vs us Q I r h;obtain⟨e,h⟩:=h;subst e;cases r;exact assignInOrder_nil ⟨σ,H,I,h⟩
theorem oT {t:TG} {u:TGs} (h1:PG X e t) (h2:PGs X es u)
  (c:(assignEach (e::es) X.env).map (·.2)=assign e X.env::(assignEach es X.env).map (·.2):=by rfl):PGs X (e::es) (xn t u):=by
 intro pins s σ H vs us Q I r h;obtain⟨v,vr,e1,h⟩:=h;subst e1;cases r with
 |cons r rr =>rw[c];refine assignInOrder_cons (thn (h1 pins s σ H _ _ _ I r h) λ_ f a=>?_);obtain⟨b,H1,g,i⟩:=a;exact h2 pins f b H1 _ _ Q g rr i
def De (K:PySem.W.Frag) (n:Nat) (t:TGs):TG:=λv σ H Q=>∃a xs,v=.ref a/\SqT K H a xs/\xs.length=n/\t xs σ H Q
theorem A3 {k:Nat} {t:TGs} (hc:X.calm=true) (h:PGs X es t)
  (hn:(assignEach es X.env).length=n:=by rfl) (c:(assignEach es X.env).findIdx? (·.1)=none:=by rfl):PG X (.Tuple es k pos) (De X.K n t):=by
 intro pins s σ H v u Q I r hw;obtain⟨a,xs,e1,g,hl,hw⟩:=hw;subst e1;cases r;obtain⟨its,f,i,hz⟩:=I.tuple g;refine assign_Tuple_tuple (I.ok.hd hc) i (by simp[hn,<-hl,f.length]) c λh' j=>?_
 have l:Inv X pins σ H { s with heap:=h' }:=I.kept (t':=s.toks) λb o e=>j b o (JX (JV e)) e
 exact h pins _ σ H xs _ Q l (by simpa using f) hw
def Jh (to a:TE) (t:Hi):TG:=λv σ H Q=>to σ H λo H1=>a σ H1 λi H2=>t o i v H2 λb=>Q σ b
theorem Aj {o i:Expr} {to e:TE} {t:Hi} (f:PE X o to) (hi:PE X i e) (g:Il X t)
  (ha:∀v,assign (.Subscript o i pos) X.env v=(do
   let b <-holding [v] (eval o X.env);let c <-holding [v,b] (eval i X.env)
   standAt pos
   holding [v,b,c] (setItem b c v)
   release [v,b,c] []):=by intro _;rfl):PG X (.Subscript o i pos) (Jh to e t):=by
 intro pins s σ H v u Q I r h;rw[ha];refine wpAny_bind (wpAny_holding (thn (f pins s σ H _ I h) λb j a=>?_));obtain⟨x,H1,l,m,n⟩:=a;refine wpAny_bind (wpAny_holding (thn (hi pins j σ H1 _ l n) λc s2 a=>?_));obtain⟨y,H2,p,q,w⟩:=a;refine wpAny_bind (wpAny_standAt (wpAny_bind (wpAny_holding (thn (g pins s2 σ H2 x y v b c u _ p m q r w) λ_ s3 a=>?_))));obtain⟨z,A,B⟩:=a;exact wpAny_release ⟨σ,z,A,B⟩
def wA (te:TE) (g:TG):TS:=λD σ H=>te σ H λx H1=>g x σ H1 D.nx
theorem Ca {te:TE} {g:TG} (b:PE X e te) (c:PG X tg g) (f:swapsWithSole [tg] e pos.line X.env=pure false:=by rfl) (hw:swappedStores [tg] e X.env=pure none:=by rfl)
  (h1:(assignEach [tg] X.env).map (·.2)=[assign tg X.env]:=by rfl):PS X (.Assign [tg] e pos) (wA te g):=by
 intro pins s σ H D I h;refine wpAny_Assign_stores (thn (b pins s σ H _ I h) λv i a=>?_) f hw;obtain⟨x,H1,j,l,m⟩:=a;rw[h1];exact thn (c pins i σ H1 x v _ j l m) λ_ s2 q=>q
theorem lP {te:TE} (b:X.N.Nodup) (hi:X.N[i]?=some x) (c:Loc X.env.scope x) (f:PE X e te) (g:swapsWith e (some (.Name x pos')) pos.line X.env=pure false:=by rfl) (j:X.fn x=true\/X.env.scope.names.lookup x=some .local:=by first|exact .inl rfl|exact .inr rfl|assumption) :
  PS X (.Assign [.Name x pos'] e pos) (wA te (gJ i)):=by
 intro pins s σ H D I h;refine wpAny_Assign_Name (thn (f pins s σ H _ I h) λv s1 a=>?_) g;obtain⟨y,H1,l,m,n⟩:=a;exact uI l b hi c m (λs2 o=>⟨_,H1,o,n⟩) j
end
section
def Fn (c:TT) (tb:TS):TS:=λD σ H=>∃W:Nat->St->Hp->Prop,(∃m,W m σ H)/\∀m σ H,W m σ H ->
 c σ H λb H1=>if b=true then ∃N:St->Hp->Prop,(∀a H',N a H'->∃e,e < m/\W e a H')/\tb { D with nx:=N,ct:=N,bk:=D.nx } σ H1 else D.nx σ H1
theorem uU {tc:TT} {tb:TS} (u:PassesOwn (model X.prog X.w) X.A X.env X.xe) (hc:PT X c tc) (z:PSs X body tb):PS X (.While c body [] pos) (Fn tc tb):=by
 intro pins s σ H D I h;obtain⟨W,⟨B,C⟩,turn⟩:=h;refine wpAny_While (codeAny_whileLoop (λn s'=>∃g H',Inv X pins g H' s'/\W n g H') ?_ B ⟨σ,H,I,C⟩)
 rintro n E ⟨e,H1,F,G⟩
 refine wpAny_passesOwn u (thn (hc pins E e H1 _ F (turn n e H1 G)) λb s2 m=>?_);obtain⟨H2,x,j⟩:=m;cases b with
 |true =>
  obtain⟨N,y,j⟩:=j;rw[if_pos rfl];refine wpAny_passesOwn u (thn (z pins s2 e H2 _ x j) λf s3 l=>?_);cases f with
  |next =>obtain⟨a,i,o,p⟩:=l;obtain⟨q,hm,r⟩:=y a i p;exact⟨q,hm,a,i,o,r⟩
  |cont =>obtain⟨a,i,o,p⟩:=l;obtain⟨q,hm,r⟩:=y a i p;exact⟨q,hm,a,i,o,r⟩
  |brk=>exact l
  |ret v=>exact l
 |false =>rw[if_neg Kf];exact wpAny_execs_nil ⟨e,H2,x,j⟩
end
structure It where
 go:Nat->Hp->Prop
 yld:Nat->Hp->V->Hp->Prop
 stop:Nat->Hp->Prop
def pk (X:Cx) (pins:List (Addr×Obj)) (H:Hp) (b:Addr):Prop :=
 H b=none/\b≠X.env.locals/\b∉X.fs/\(b∈X.ex\/X.s₀.heap.objs.size<=b)/\(∀x c,X.env.cells.lookup x=some c->c≠b)/\∀p∈X.pn++pins,p.1≠b
theorem Inv.fpOk {H':Hp} (I:Inv X pins σ H s) (a:s.heap.objs.size<=b) (hn:H' b=none):pk X pins H' b:=by
 refine⟨hn,KA (K4 I.lt a),I.nofs a,.inr (KO I.sz a),λx c e z=>?_,λp f z=>?_⟩
 ·obtain⟨v,q⟩:=I.cell x c e;exact absurd (K4 q.lt (by rw[z];exact a)) (KZ _)
 ·exact absurd (K4 (JV (I.pin p f).1) (by rw[z];exact a)) (KZ _)
structure Turn (P:Program) (w:World) (K:PySem.W.Frag) (tg:Expr) (J:It) (fp:List Addr) (it:Addr) (tn:Nat->Heap->Prop):Prop where
 mem:it∈fp
 obj:∀i h,tn i h->∀b∈fp,∃o,h.get? b=some o/\∀v,o.data≠.cell v
 keep:∀i h h',tn i h->(∀b∈fp,∀o,h.get? b=some o->h'.get? b=some o)->tn i h'
 item:∀(X:Cx),X.prog=P->X.w=w->X.K=K->X.calm=true->∀(i:Nat) (pins:List (Addr×Obj)) (s:Shared) (σ:St) (H:Hp) (E:Value->Shared->Prop),Inv X pins σ H s->(∀b∈fp,pk X pins H b)->tn i s.heap->J.go i H ->
  wpAny (model P w) X.A (pyNext (.ref it)) (λr s1=>∃u,r=some u /\
   wpAny (model P w) X.A (letOwnedTupleGo tg (.ref it) u) (λ_ s2=>∃x H',Inv X pins σ H' s2/\RelV x u/\J.yld i H x H'/\tn (i+1) s2.heap/\∀b∈fp,H' b=none) E s1) E s
 done:∀(X:Cx),X.prog=P->X.w=w->X.K=K->X.calm=true->∀(i:Nat) (pins:List (Addr×Obj)) (s:Shared) (σ:St) (H:Hp) (E:Value->Shared->Prop),Inv X pins σ H s->(∀b∈fp,pk X pins H b)->tn i s.heap->J.stop i H ->
  wpAny (model P w) X.A (pyNext (.ref it)) (λr s1=>r=none/\Inv X pins σ H s1) E s
 self:∀(A:Around) (i:Nat) (s:Shared) (Q:Value->Shared->Prop) (E:Value->Shared->Prop),tn i s.heap->Q (.ref it) s->wpAny (model P w) A (pyIter (.ref it)) Q E s
abbrev TI:=St->Hp->(It->Hp->Prop)->Prop
def PIE (X:Cx) (pins:List (Addr×Obj)) (σ:St) (tg:Expr) (R:It->Hp->Prop) (a:Value) (s2:Shared):Prop :=
 ∃(it:Addr) (fp:List Addr) (tn:Nat->Heap->Prop) (J:It) (H':Hp),a=.ref it/\Inv X pins σ H' s2/\Turn X.prog X.w X.K tg J fp it tn/\tn 0 s2.heap/\(∀b∈fp,pk X pins H' b)/\R J H'
def PI (X:Cx) (tg iter:Expr) (a:TI):Prop :=
 ∀(pins:List (Addr×Obj)) (s:Shared) (σ:St) (H:Hp) (R:It->Hp->Prop),Inv X pins σ H s->a σ H R ->
  wpAny (model X.prog X.w) X.A (eval iter X.env) (λv b=>wpAny (model X.prog X.w) X.A (pyIter v) (PIE X pins σ tg R) X.xe b) X.xe s
theorem B9 {o:Obj} {n:String} {vs:Array Value} {Q:Unit->Shared->Prop} (b:s.heap.get? it=some o) (hc:o.cls=.type n) (hd:o.data=.fields vs)
    (hn:["enumerate", "zip", "dict_itemiterator", "dict_reverseitemiterator", "odict_iterator", "itertools.zip_longest", "itertools.pairwise"].contains n=false) (a:Q () s):wpAny M A (letOwnedTupleGo tg (.ref it) u) Q E s:=by
  unfold letOwnedTupleGo
  cases tg <;> first
    |exact wpAny_pure a
    | (cases u <;> first
        |exact wpAny_pure a
        | (refine wpAny_bind (wpAny_load b ?_)
           rw[hc,hd]
           show wpAny M A (if (["enumerate", "zip", "dict_itemiterator", "dict_reverseitemiterator", "odict_iterator", "itertools.zip_longest", "itertools.pairwise"].contains n&&vs[0]?==some (rawInt _))=true then _ else _) Q E s
           rw[if_neg (by intro h;rw[hn,Bool.false_and]at h;cases h)]
           exact wpAny_pure a))
noncomputable def Itl (K:PySem.W.Frag) (a:Addr):It :=
 ⟨λi H=>∃xs x,SqL K H a xs/\xs[i]?=some x,λi H x H'=>H'=H/\∀xs,SqL K H a xs->xs[i]?=some x,λi H=>∃xs,SqL K H a xs/\xs.length<=i⟩
noncomputable def Itt (K:PySem.W.Frag) (a:Addr):It :=
 ⟨λi H=>∃xs x,SqT K H a xs/\xs[i]?=some x,λi H x H'=>H'=H/\∀xs,SqT K H a xs->xs[i]?=some x,λi H=>∃xs,SqT K H a xs/\xs.length<=i⟩
noncomputable def Itr (lo:Int) (n:Nat):It:=⟨λi _=>i<n,λi H x H'=>H'=H/\x=.int (lo+i),λi _=>n<=i⟩
theorem yo (a it:Addr):Turn P w K tg (Itl K a) [it] it (λi h=>h.IsListIter it a i) where
 mem:=by simp
 obj:=λi h st b f=>by
  have e:b=it:=by simpa using f
  subst e;obtain⟨o,e,c,d⟩:=st;exact⟨o,e,λv z=>by rw[d]at z;cases z⟩
 keep:=λi h h' st k=>st.at λo e=>k it (by simp) o e
 item:=by
  intro X m hw hK hc i pins s σ H E I j st n;subst m hw hK;obtain⟨xs,x,l,q⟩:=n;obtain⟨r,y,p,F⟩:=I.list l;obtain⟨u,G,J⟩:=y.get q;obtain⟨A,f1,f2,B,C,D⟩:=j it (by simp);refine wpAny_pyNext_list_item st p.isList (x:=u) (by simpa using G) λh' g L=>?_
  have M:Inv X pins σ H { s with heap:=h' }:=I.turned (t':=s.toks) (λb o f e=>(L.2 b f).trans e) A f1 B C D;obtain⟨o,e,c,d⟩:=id g;exact⟨u,rfl,B9 (s:={ s with heap:=h' }) e c d (by decide) ⟨x,H,M,J,⟨rfl,λys N=>by rw[I.list_inj N l];exact q⟩,g,λb f=>(j b f).1⟩⟩
 done:=by intro X m hw hK hc i pins s σ H E I j st n;subst m hw hK;obtain⟨xs,l,q⟩:=n;obtain⟨r,y,p,F⟩:=I.list l;obtain⟨A,f1,f2,B,C,D⟩:=j it (by simp);have hl:=y.length;exact wpAny_pyNext_list_end (I.ok.hd hc) st p.isList (by simp;omega) λh' O=>⟨rfl,I.turned (t':=s.toks) (λb o f e=>O b o f e) A f1 B C D⟩
 self:=λ_ _ _ _ _ st h=>wpAny_pyIter_listiter st h
theorem vD (a it:Addr):Turn P w K tg (Itt K a) [it] it (λi h=>h.IsTupleIter it a i) where
 mem:=by simp
 obj:=λi h st b f=>by
  have e:b=it:=by simpa using f
  subst e;obtain⟨o,e,c,d⟩:=st;exact⟨o,e,λv z=>by rw[d]at z;cases z⟩
 keep:=λi h h' st k=>st.at λo e=>k it (by simp) o e
 item:=by
  intro X n hw hK hc i pins s σ H E I l st q;subst n hw hK;obtain⟨xs,x,m,r⟩:=q;obtain⟨g,y,p,F⟩:=I.tuple m;obtain⟨u,G,J⟩:=y.get r;obtain⟨A,f1,f2,B,C,D⟩:=l it (by simp);refine wpAny_pyNext_tuple_item st (show s.heap.IsTuple a g.toArray from p) (x:=u) (by simpa using G) λh' j L=>?_
  have M:Inv X pins σ H { s with heap:=h' }:=I.turned (t':=s.toks) (λb o f e=>(L.2 b f).trans e) A f1 B C D;obtain⟨o,e,c,d⟩:=id j;exact⟨u,rfl,B9 (s:={ s with heap:=h' }) e c d (by decide) ⟨x,H,M,J,⟨rfl,λys N=>by rw[I.tuple_inj N m];exact r⟩,j,λb f=>(l b f).1⟩⟩
 done:=by intro X n hw hK hc i pins s σ H E I l st q;subst n hw hK;obtain⟨xs,m,r⟩:=q;obtain⟨g,y,p,F⟩:=I.tuple m;obtain⟨A,f1,f2,B,C,D⟩:=l it (by simp);have hl:=y.length;exact wpAny_pyNext_tuple_end (I.ok.hd hc) st (show s.heap.IsTuple a g.toArray from p) (by simp;omega) λh' O=>⟨rfl,I.turned (t':=s.toks) (λb o f e=>O b o f e) A f1 B C D⟩
 self:=λ_ _ _ _ _ st h=>wpAny_pyIter_tupleiter st h
theorem wa (it:Addr) (lo:Int) (n:Nat):Turn P w K tg (Itr lo n) [it] it (λi h=>IsRangeIter h it (lo+(i:Nat)*1) ((n:Int)-(i:Nat)) 1) where
 mem:=by simp
 obj:=λi h st b a=>by
  have e:b=it:=by simpa using a
  subst e;exact⟨_,st,λv z=>by have r:Data.fields _=Data.cell v:=z;cases r⟩
 keep:=λi h h' st k=>k it (by simp) _ st
 item:=by
  intro X g hw hK hc i pins s σ H E I f st j;subst g hw hK;obtain⟨l,f1,f2,m,p,q⟩:=f it (by simp);have W:=Walks.range (prog:=X.prog) (w:=X.w) (I.ok.hd hc) it lo 1 n;refine W.item i s _ _ j st λv h' tk hv c u=>?_
  obtain⟨t,rfl⟩:=hv;have x:Inv X pins σ H { s with heap:=h',toks:=tk }:=I.turned (λb o a e=>u b o (by simpa using a) e) l f1 m p q;refine⟨_,rfl,B9 (s:={ s with heap:=h',toks:=tk }) (n:="range_iterator") c rfl rfl (by decide) ⟨.int (lo+i),H,x,⟨t,?_⟩,⟨rfl,rfl⟩,c,λb a=>(f b a).1⟩⟩;rw[Int.mul_one]
 done:=by intro X g hw hK hc i pins s σ H E I f st j;subst g hw hK;obtain⟨l,f1,f2,m,p,q⟩:=f it (by simp);exact wpAny_pyNext_range_end (I.ok.hd hc) st (by have:n<=i:=j;omega) λh' y=>⟨rfl,I.turned (t':=s.toks) (λb o a e=>y b o a e) l f1 m p q⟩
 self:=λ_ _ _ _ _ st h=>wpAny_pyIter_rangeiter st h
section
def Ig (K:PySem.W.Frag) (tl:TE):TI:=λσ H R=>tl σ H λx H1=>∃a,x=.ref a/\(∃xs,SqL K H1 a xs)/\R (Itl K a) H1
def Jd (K:PySem.W.Frag) (tl:TE):TI:=λσ H R=>tl σ H λx H1=>∃a,x=.ref a/\(∃xs,SqT K H1 a xs)/\R (Itt K a) H1
theorem DH {l:Expr} {tl:TE} (hl:PE X l tl):PI X tg l (Ig X.K tl):=by
 intro pins s σ H R I h;refine thn (hl pins s σ H _ I h) λv c g=>?_
 obtain⟨x,H1,f,i,j⟩:=g;obtain⟨a,e,⟨xs,m⟩,q⟩:=j;subst e;cases i;obtain⟨its,rv,p,hz⟩:=f.list m;refine wpAny_pyIter_list p.isList ?_;refine⟨c.heap.objs.size,[c.heap.objs.size],_,_,H1,rfl,f.kept (t':=c.toks) λb o e=>J1 _ e,yo a _,⟨_,K2 _ rfl,rfl,rfl⟩,λb n=>?_,q⟩;have e:b=c.heap.objs.size:=by simpa using n
 subst e;exact f.fpOk (JU _) (f.hok.fresh (JU _))
theorem Fd {l:Expr} {tl:TE} (hl:PE X l tl):PI X tg l (Jd X.K tl):=by
 intro pins s σ H R I h;refine thn (hl pins s σ H _ I h) λv c g=>?_
 obtain⟨x,H1,f,j,m⟩:=g;obtain⟨a,e,⟨xs,n⟩,q⟩:=m;subst e;cases j;obtain⟨i,rv,p,hz⟩:=f.tuple n;refine wpAny_pyIter_tuple (show c.heap.IsTuple a i.toArray from p) ?_;refine⟨c.heap.objs.size,[c.heap.objs.size],_,_,H1,rfl,f.kept (t':=c.toks) λb o e=>J1 _ e,vD a _,⟨_,K2 _ rfl,rfl,rfl⟩,λb r=>?_,q⟩;have e:b=c.heap.objs.size:=by simpa using r
 subst e;exact f.fpOk (JU _) (f.hok.fresh (JU _))
theorem B5 {R:It->Hp->Prop} {hi:Int} {t u v:Tok} {tk:Nat} (I:Inv X pins σ H s) (h1:-(2 ^ 62)<=lo) (h2:lo<2 ^ 62) (c:-(2 ^ 62)<=hi) (f:hi<2 ^ 62)
  (q:R (Itr lo (hi-lo).toNat) H):wpAny (model X.prog X.w) X.A (pyIter (.ref s.heap.objs.size)) (PIE X pins σ tg R) E { s with heap:=s.heap.push { cls:=.type "range",data:=.fields #[.int lo t,.int hi u,.int 1 v] },toks:=tk }:=by
 refine wpAny_pyIter_range (IsRange.new ..) (small_one h1 h2 c f) ?_;have a:Inv X pins σ H { s with heap:=s.heap.push { cls:=.type "range",data:=.fields #[.int lo t,.int hi u,.int 1 v] },toks:=tk }:=I.kept λb o e=>J1 _ e
 refine⟨(s.heap.push { cls:=.type "range",data:=.fields #[.int lo t,.int hi u,.int 1 v] }).objs.size,[(s.heap.push { cls:=.type "range",data:=.fields #[.int lo t,.int hi u,.int 1 v] }).objs.size],_,_,H,rfl,
  a.kept (t':=tk) λb o e=>J1 _ e,wa _ lo (hi-lo).toNat,?_,λb g=>?_,q⟩
 ·have e1:lo+((0:Nat):Int)*1=lo:=by simp
  have e2:(((hi-lo).toNat:Nat):Int)-((0:Nat):Int)=Builtin.Range.rangeSize lo hi 1:=by rw[rangeSize_one];split <;> omega
  show IsRangeIter _ _ (lo+((0:Nat):Int)*1) ((((hi-lo).toNat:Nat):Int)-((0:Nat):Int)) 1;rw[e1,e2];exact K2 _ rfl
 ·have e:b=(s.heap.push { cls:=.type "range",data:=.fields #[.int lo t,.int hi u,.int 1 v] }).objs.size:=by simpa using g
  subst e;exact a.fpOk (JU _) (a.hok.fresh (JU _))
def HP (ta:TA):TI:=λσ H R=>ta σ H λvs H1=>∃j:Int,vs=[.int j]/\-(2 ^ 62)<=j/\j<2 ^ 62/\R (Itr 0 j.toNat) H1
theorem yE {a:Expr} {ta:TA} (f:Gl X "range") (hm:X.mg "range"=none) (ha:PA X [a] ta) (g:starEach [a] X.env=[(false,eval a X.env)]:=by rfl):PI X tg (.Call (.Name "range" p) [a] [] pos) (HP ta):=by
 intro pins s σ H R I h;refine Call_ (fP I f hm boot_range (PyProof.Rows.callWith_type1 (thn (ha pos pins s σ H _ I h) λus s1 b=>?_) g rfl));obtain⟨vs,H1,i,l,c⟩:=b;obtain⟨j,e,c,m,q⟩:=c;subst e;cases l with
 |cons r rr =>cases rr;obtain⟨t,rfl⟩:=r;exact call_range_1 (B5 i (by omega) (by omega) c m (by simpa using q))
def JE (e:TI) (g:TG) (tb:TS):TS:=λD σ H=>e σ H λJ H1=>∃W:Nat->Nat->St->Hp->Prop,(∃m,W 0 m σ H1)/\∀i m σ H,W i m σ H ->
 (J.stop i H/\D.nx σ H)\/(J.go i H/\∃N:St->Hp->Prop,(∀a H',N a H'->∃c,c < m/\W (i+1) c a H')/\∀x H',J.yld i H x H'->g x σ H' λb H2=>tb { D with nx:=N,ct:=N,bk:=D.nx } b H2)
def oG (fp:List Addr) (h:Heap):List (Addr×Obj):=fp.filterMap λb=>(h.get? b).map λo=>(b,o)
theorem ie {o:Obj} (a:b∈fp) (e:h.get? b=some o):(b,o)∈oG fp h:=LH.mpr ⟨b,a,by rw[e];rfl⟩
theorem yG {p:Addr×Obj} (a:p∈oG fp h):p.1∈fp/\h.get? p.1=some p.2:=by
 obtain⟨b,c,e⟩:=LH.mp a;cases q:h.get? b with
 |none=>rw[q]at e;cases e
 |some o =>rw[q]at e;have f:(b,o)=p:=Option.some.inj e;subst f;exact⟨c,q⟩
theorem Inv.pinned (I:Inv X pins σ H s) (f:∀b∈fp,pk X pins H b) (g:∀b∈fp,∃o,s.heap.get? b=some o/\∀v,o.data≠.cell v):Inv X (pins++oG fp s.heap) σ H s :=
 I.pins_of λp h=>(Ki.mp h).elim (λz=>I.pin p (JS _ z)) λz=>by obtain⟨a,e⟩:=yG z;obtain⟨i,f1,f2,_⟩:=f p.1 a;obtain⟨o,c,d⟩:=g p.1 a;rw[e]at c;cases c;exact⟨e,i,f1,f2,d⟩
theorem Inv.unpinned {pl:List (Addr×Obj)} (I:Inv X (pins++pl) σ H s):Inv X pins σ H s:=I.pins_of λp a=>I.pin p (JS _ (Kl _ a))
theorem BM {U:TI} {g:TG} {tb:TS} (E:PassesOwn (model X.prog X.w) X.A X.env X.xe) (hc:X.calm=true) (hi:PI X tg iter U) (hg:PG X tg g) (j:PSs X body tb)
  (hs:∀x,foldedSetIterable iter X.env x=pure x:=by intro _;rfl):PS X (.For tg iter body [] pos) (JE U g tb):=by
 intro pins s σ H D I h;refine wpAny_For (thn (hi pins s σ H _ I h) λv s1 h1=>thn h1 λitv s2 h2=>?_) hs;obtain⟨it,fp,tn,J,H2,e,I2,T,M,f2,W,⟨m0,w0⟩,turn⟩:=h2;subst e
 -- what stays true of the iterator's objects through the loop
 have l:∀{H':Hp},(∀b∈fp,H' b=none)->∀b∈fp,pk X pins H' b:=λhn b j=>⟨hn b j,(f2 b j).2⟩
 refine codeAny_forLoop_any (λn s'=>∃i p H',Inv X pins p H' s'/\tn i s'.heap/\(∀b∈fp,H' b=none)/\W i n p H') ?_ m0 ⟨0,σ,H2,I2,M,λb j=>(f2 b j).1,w0⟩
 rintro n Y ⟨i,q,L,Z,F,G,w3⟩
 rcases turn i n q L w3 with⟨stop,qn⟩|⟨go,N,hN,step⟩
 ·refine wpAny_passesOwn E (thn (T.done X rfl rfl rfl hc i pins Y q L X.xe Z (l G) F stop) λr s4 c=>?_);obtain⟨O,I4⟩:=c;subst O;exact wpAny_execs_nil ⟨q,L,I4,qn⟩
 ·refine wpAny_passesOwn E (thn (T.item X rfl rfl rfl hc i pins Y q L X.xe Z (l G) F go) λr s4 c=>?_);obtain⟨u,O,h4⟩:=c;subst O;refine wpAny_passesOwn E (thn h4 λ_ s5 c=>?_);obtain⟨x,H5,I5,r5,y5,C,P⟩:=c;have Q:=I5.pinned (l P) (T.obj _ _ C);refine wpAny_passesOwn E (thn (hg _ s5 q H5 x u _ Q r5 (step x H5 y5)) λ_ s6 c=>?_);obtain⟨R,H6,I6,q6⟩:=c;refine wpAny_passesOwn E (thn (j _ s6 R H6 _ I6 q6) λf S B=>?_);have again:∀{a:St} {y:Hp},Inv X (pins++oG fp s5.heap) a y S->N a y->∃m,m<n/\∃i p H',Inv X pins p H' S/\tn i S.heap/\(∀b∈fp,H' b=none)/\W i m p H':=λ{a y} z K=>by obtain⟨m',hm,w7⟩:=hN a y K;refine⟨m',hm,i+1,a,y,z.unpinned,T.keep _ _ _ C λb j o e=>(z.pin (b,o) (JS _ (JS _ (ie j e)))).1,λb j=>?_,w7⟩;obtain⟨o,e,d⟩:=T.obj _ _ C b j;exact (z.pin (b,o) (JS _ (JS _ (ie j e)))).2.1
  cases f with
  |next=>obtain⟨a,y,z,K⟩:=B;exact again z K
  |cont=>obtain⟨a,y,z,K⟩:=B;exact again z K
  |brk=>obtain⟨a,y,z,B⟩:=B;exact⟨a,y,z.unpinned,B⟩
  |ret v=>obtain⟨x7,a,y,z,r7,B⟩:=B;exact⟨x7,a,y,z.unpinned,r7,B⟩
end
abbrev R2:=V->V->Hp->VK->Prop
variable {r:R2}
def OpR (X:Cx) (f:Value->Value->Sem Value) (r:R2):Prop :=
 ∀(pins:List (Addr×Obj)) (s:Shared) (σ:St) (H:Hp) (x y:V) (v u:Value) (Q:VK),Inv X pins σ H s->RelV x v->RelV y u->r x y H Q ->
  wpAny (model X.prog X.w) X.A (f v u) (EP X pins σ Q) X.xe s
def UnR (X:Cx) (f:Value->Sem Value) (r:V->Hp->VK->Prop):Prop :=
 ∀(pins:List (Addr×Obj)) (s:Shared) (σ:St) (H:Hp) (x:V) (v:Value) (Q:VK),Inv X pins σ H s->RelV x v->r x H Q ->
  wpAny (model X.prog X.w) X.A (f v) (EP X pins σ Q) X.xe s
def jC (X:Cx) (f:Value) (r:List V->Hp->VK->Prop):Prop :=
 ∀(pins:List (Addr×Obj)) (s:Shared) (σ:St) (H:Hp) (xs:List V) (us:List Value) (Q:VK),Inv X pins σ H s->Vals xs us->r xs H Q ->
  wpAny (model X.prog X.w) X.A (call f us) (EP X pins σ Q) X.xe s
def tOp (r:R2) (ta tb:TE):TE:=λσ H Q=>ta σ H λx H1=>tb σ H1 λy H2=>r x y H2 Q
def tUn (r:V->Hp->VK->Prop) (ta:TE):TE:=λσ H Q=>ta σ H λx H1=>r x H1 Q
def rI (C:Int->Int->Prop) (g:Int->Int->V):R2:=λx y H Q=>∃i j,x=.int i/\y=.int j/\C i j/\Q (g i j) H
def rI0 (g:Int->Int->V):R2:=λx y H Q=>∃i j,x=.int i/\y=.int j/\Q (g i j) H
def rU (g:Int->V):V->Hp->VK->Prop:=λx H Q=>∃i,x=.int i/\Q (g i) H
section
variable {a b:Expr} {ta tb tc:TE}
theorem FR (ha:PE X a ta) (i:PE X b tb) (I:Inv X pins σ H s)
  (h:ta σ H λx H1=>tb σ H1 λy H2=>R x y H2) {f:Value->Value->Sem Value}
  (j:∀v u s2 x y H2,Inv X pins σ H2 s2->RelV x v->RelV y u->R x y H2->wpAny (model X.prog X.w) X.A (f v u) Q X.xe s2) :
  wpAny (model X.prog X.w) X.A (eval a X.env) (λv e=>wpAny (model X.prog X.w) X.A (eval b X.env) (λu g=>wpAny (model X.prog X.w) X.A (f v u) Q X.xe g) X.xe e) X.xe s:=by
 refine thn (ha pins s σ H _ I h) λv l c=>?_
 obtain⟨x,H1,m,n,o⟩:=c;refine thn (i pins l σ H1 _ m o) λu s2 c=>?_
 obtain⟨y,H2,p,q,r⟩:=c;exact j v u s2 x y H2 p n q r
theorem dX {op:Operator} (c:OpR X (binaryOp op) r) (ha:PE X a ta) (e:PE X b tb):PE X (.BinOp a op b pos) (tOp r ta tb):=by intro pins s σ H Q I h;exact wpAny_BinOp (FR ha e I h λv u s2 x y H2 f g i q=>c pins s2 σ H2 x y v u Q f g i q)
theorem IQ {op:UnaryOp} {r:V->Hp->VK->Prop} (c:UnR X (unaryOp op) r) (ha:PE X a ta):PE X (.UnaryOp op a pos) (tUn r ta):=by intro pins s σ H Q I h;exact UnaryOp_ (thn (ha pins s σ H _ I h) λv e b=>(by obtain⟨x,H1,f,g,i⟩:=b;exact c pins e σ H1 x v Q f g i))
theorem opI {f:Value->Value->Sem Value} {C:Int->Int->Prop}
  (rule:∀(i j:Int) (t u:Tok) (s:Shared) (Q:Value->Shared->Prop) (E:Value->Shared->Prop),C i j->Q (.int (g i j) s.toks) { s with toks:=s.toks+1 }->wpAny (model X.prog X.w) X.A (f (.int i t) (.int j u)) Q E s) :
  OpR X f (rI C λi j=>.int (g i j)):=by
 intro pins s σ H x y v u Q I a b h;obtain⟨i,j,rfl,rfl,hc,q⟩:=h;obtain⟨t,rfl⟩:=a;obtain⟨t',rfl⟩:=b;exact rule i j t t' s _ _ hc ⟨.int (g i j),H,I.tok _,⟨_,rfl⟩,q⟩
theorem Hz {f:Value->Value->Sem Value}
  (rule:∀(i j:Int) (t u:Tok) (s:Shared) (Q:Value->Shared->Prop) (E:Value->Shared->Prop),Q (.int (g i j) s.toks) { s with toks:=s.toks+1 }->wpAny (model X.prog X.w) X.A (f (.int i t) (.int j u)) Q E s) :
  OpR X f (rI0 λi j=>.int (g i j)):=by
 intro pins s σ H x y v u Q I a b h;obtain⟨i,j,rfl,rfl,q⟩:=h;obtain⟨t,rfl⟩:=a;obtain⟨t',rfl⟩:=b;exact rule i j t t' s _ _ ⟨.int (g i j),H,I.tok _,⟨_,rfl⟩,q⟩
theorem GI {f:Value->Value->Sem Value} {g:Int->Int->Bool}
  (rule:∀(i j:Int) (t u:Tok) (s:Shared) (Q:Value->Shared->Prop) (E:Value->Shared->Prop),Q (.bool (g i j)) s->wpAny (model X.prog X.w) X.A (f (.int i t) (.int j u)) Q E s) :
  OpR X f (rI0 λi j=>.bl (g i j)):=by
 intro pins s σ H x y v u Q I a b h;obtain⟨i,j,rfl,rfl,q⟩:=h;obtain⟨t,rfl⟩:=a;obtain⟨t',rfl⟩:=b;exact rule i j t t' s _ _ ⟨.bl (g i j),H,I,rfl,q⟩
def HB (i j:Int):Prop:=0<j/\j<1073741824
def HN (i j:Int):Prop:=0<=j/\j<=1000000/\i.natAbs<2 ^ 64
def CC (i j:Int):Prop:=(-(2 ^ 64)<i/\i<2 ^ 64)\/(-(2 ^ 64)<j/\j<2 ^ 64)
theorem CC.ok {i j:Int} (h:CC i j):IntMulOk i j:=by
 rcases h with⟨h1,h2⟩|⟨h1,h2⟩
 ·exact .of_left (intBits_le_64 h1 h2)
 ·exact .of_right (intBits_le_64 h1 h2)
theorem lA:OpR X (binaryOp .Add) (rI0 λi j=>.int (i+j)):=Hz λ_ _ _ _ _ _ _ q=>add_int q
theorem Fs:OpR X (binaryOp .Sub) (rI0 λi j=>.int (i-j)):=Hz λ_ _ _ _ _ _ _ q=>sub_int q
theorem lY:OpR X (binaryOp .Mult) (rI CC λi j=>.int (i*j)):=opI λ_ _ _ _ _ _ _ hc q=>mul_int q hc.ok
theorem Es:OpR X (binaryOp .FloorDiv) (rI HB λi j=>.int (i / j)):=opI λi j _ _ _ _ _ hc q=>by have h1:(0:Int)<j:=hc.1;have h2:j<1073741824:=hc.2;exact floordiv_int (by omega) (by rw[Int.fdiv_eq_ediv_of_nonneg i (by omega)];exact q) (.inl (PyProof.noPylong_small (by omega)))
theorem n8:OpR X (binaryOp .Mod) (rI (λ_ j=>0<j) λi j=>.int (i % j)):=opI λi j _ _ _ _ _ hc q=>by have h1:(0:Int)<j:=hc;exact mod_int' (by omega) (by rw[Int.fmod_eq_emod_of_nonneg i (by omega)];exact q)
theorem FN:OpR X (binaryOp .Pow) (rI HN λi j=>.int (i ^ j.toNat)):=opI λ_ _ _ _ _ _ _ hc q=>pow_int_small hc.1 hc.2.1 hc.2.2 q
theorem unI {f:Value->Sem Value} {g:Int->Int}
  (rule:∀(i:Int) (t:Tok) (s:Shared) (Q:Value->Shared->Prop) (E:Value->Shared->Prop),Q (.int (g i) s.toks) { s with toks:=s.toks+1 }->wpAny (model X.prog X.w) X.A (f (.int i t)) Q E s) :
  UnR X f (rU λi=>.int (g i)):=by
 intro pins s σ H x v Q I a h;obtain⟨i,rfl,q⟩:=h;obtain⟨t,rfl⟩:=a;exact rule i t s _ _ ⟨.int (g i),H,I.tok _,⟨_,rfl⟩,q⟩
theorem Fh:UnR X (unaryOp .USub) (rU λi=>.int (-i)):=unI λ_ _ _ _ _ q=>neg_int q
end
section
variable {a b:Expr} {ta tb tc:TE}
theorem BB:OpR X (compareOp .Lt) (rI0 λi j=>.bl (decide (i<j))):=GI λ_ _ _ _ _ _ _ q=>lt_int q
theorem zU:OpR X (compareOp .LtE) (rI0 λi j=>.bl (decide (i<=j))):=GI λ_ _ _ _ _ _ _ q=>le_int q
theorem Ih:OpR X (compareOp .Gt) (rI0 λi j=>.bl (decide (j<i))):=GI λ_ _ _ _ _ _ _ q=>gt_int q
theorem OpR.or {f:Value->Value->Sem Value} {a:R2} (h:OpR X f r) (h':OpR X f a):OpR X f (λx y H Q=>r x y H Q\/a x y H Q):=by
 intro pins s σ H x y v u Q I b c q;rcases q with q|q
 ·exact h pins s σ H x y v u Q I b c q
 ·exact h' pins s σ H x y v u Q I b c q
theorem jc (b:Expr) (h:op≠.In:=by decide) (h2:op≠.NotIn:=by decide):behindInMarks op b=false:=by
 have e1:(op==CmpOp.In)=false:=by cases op <;> first|rfl|exact absurd rfl h
 have e2:(op==CmpOp.NotIn)=false:=by cases op <;> first|rfl|exact absurd rfl h2
 cases b <;> simp[behindInMarks,e1,e2]
theorem mX (c:OpR X (compareOp op) r) (ha:PE X a ta) (e:PE X b tb) (hm:behindInMarks op b=false):PE X (.Compare a [op] [b] pos) (tOp r ta tb):=by intro pins s σ H Q I h;exact wpAny_Compare1 (FR ha e I h λv u s2 x y H2 f g i q=>c pins s2 σ H2 x y v u Q f g i q) hm
def E1 (t:TE):TT:=λσ H Q=>t σ H λx H'=>∃k,x=.bl k/\Q k H'
theorem kz (g:OpR X (compareOp op) r) (ha:PE X a ta) (i:PE X b tb) (hm:behindInMarks op b=false):PT X (.Compare a [op] [b] pos) (E1 (tOp r ta tb)):=by
 intro pins s σ H Q I h;refine wpAny_isTrue_Compare1 (thn (ha pins s σ H _ I h) λv j f=>?_) hm;obtain⟨x,H1,l,m,n⟩:=f;refine thn (i pins j σ H1 _ l n) λu s2 f=>?_
 obtain⟨y,H2,o,p,q⟩:=f;refine thn (g pins s2 σ H2 x y v u _ o m p q) λc s3 f=>?_
 obtain⟨z,w,A,B,k,e,C⟩:=f;subst e;cases B;exact wpAny_truthy_bool ⟨w,A,C⟩
def GB (r b:R2) (ta tb tc:TE):TE:=λσ H Q=>ta σ H λx H1=>tb σ H1 λy H2=>r x y H2 λz a=>∃k,z=.bl k /\
 (if k=true then tc σ a λc e=>b y c e Q else Q (.bl false) a)
theorem BU {g:CmpOp} {l:R2} (q:OpR X (compareOp op) r) (i:OpR X (compareOp g) l) (ha:PE X a ta) (w:PE X b tb) (hc:PE X c tc)
  (hm:lastMarks [op,g] [b,c]=false:=by with_unfolding_all rfl):PE X (.Compare a [op,g] [b,c] pos) (GB r l ta tb tc):=by
 intro pins s σ H Q I h;refine Compare_chain (thn (ha pins s σ H _ I h) λv A f=>?_) hm;obtain⟨x,H1,B,C,D⟩:=f;refine chain_link (thn (w pins A σ H1 _ B D) λu s2 f=>?_);obtain⟨y,H2,E,m,F⟩:=f;refine thn (q pins s2 σ H2 x y v u _ E C m F) λd G f=>?_
 obtain⟨z,n,o,J,k,e,p⟩:=f;subst e;cases J;refine wpAny_truthy_bool ?_;cases k with
 |false=>exact ite_ff ⟨.bl false,n,o,rfl,p⟩
 |true=>exact ite_tt (chain_last (thn (hc pins G σ n _ o p) λK L j=>(by obtain⟨M,N,O,P,R⟩:=j;exact i pins L σ N y M u K Q O m P R)))
theorem rN:(sizeLine:Nat)<2 ^ 63:=by rw[sizeLine_eq];decide
theorem vals1 {x:V} (r:Vals [x] us):∃u,us=[u]/\RelV x u:=by
 cases r with
 |cons r1 r2=>cases r2;exact⟨_,rfl,r1⟩
theorem vals2 {x y:V} (r:Vals [x,y] us):∃u a,us=[u,a]/\RelV x u/\RelV y a:=by
 cases r with
 |cons r1 r2 =>
  cases r2 with
  |cons r3 r4=>cases r4;exact⟨_,_,rfl,r1,r3⟩
theorem yD (hc:X.calm=true):jC X (.builtin "max") (λxs H Q=>∃i j,xs=[.int i,.int j]/\Q (.int (if j>i then j else i)) H):=by
 intro pins s σ H xs us Q I r h;obtain⟨i,j,rfl,q⟩:=h;obtain⟨u,w',rfl,⟨t,rfl⟩,⟨t',rfl⟩⟩:=vals2 r;refine max_two_ints (I.ok.hd hc) λh' tk k=>⟨_,H,I.kept k,?_,q⟩
 by_cases hj:j>i
 ·rw[if_pos hj,if_pos hj];exact⟨_,rfl⟩
 ·rw[if_neg hj,if_neg hj];exact⟨_,rfl⟩
theorem yF (hc:X.calm=true):jC X (.builtin "min") (λxs H Q=>∃i j,xs=[.int i,.int j]/\Q (.int (if j<i then j else i)) H):=by
 intro pins s σ H xs us Q I r h;obtain⟨i,j,rfl,q⟩:=h;obtain⟨u,w',rfl,⟨t,rfl⟩,⟨t',rfl⟩⟩:=vals2 r;refine min_two_ints (I.ok.hd hc) λh' tk k=>⟨_,H,I.kept k,?_,q⟩
 by_cases hj:j<i
 ·rw[if_pos hj,if_pos hj];exact⟨_,rfl⟩
 ·rw[if_neg hj,if_neg hj];exact⟨_,rfl⟩
theorem yT:jC X (.type "int") (λxs H Q=>(∃i,xs=[.int i]/\Q (.int i) H)\/∃k,xs=[.bl k]/\Q (.int (if k then 1 else 0)) H):=by
 intro pins s σ H xs us Q I r h;rcases h with⟨i,rfl,q⟩|⟨k,rfl,q⟩
 ·obtain⟨u,rfl,t,rfl⟩:=vals1 r;exact call_int_int ⟨.int i,H,I,⟨_,rfl⟩,q⟩
 ·obtain⟨u,rfl,a⟩:=vals1 r;cases a;exact call_int_bool ⟨.int (if k then 1 else 0),H,I.tok _,⟨_,rfl⟩,q⟩
end
structure vP (h:Heap) (x dx C:Addr) (mA:Str->Option Value):Prop where
 obj:h.get? x=some (PySem.W.instObj C dx)
 ns:h.Ns1 dx mA
 ne:dx≠x
theorem yS (n:h.Ns1 dx mA):∃od,h.get? dx=some od/\∀name,PySem.W.lookIn name od=some (mA name):=by
 obtain⟨o,es,ep,c,hd,f,_,hm⟩:=n;refine⟨o,c,λname=>?_⟩;have e:=hm name;unfold nsFind findBy at e;rw[<-Array.find?_toList]at e;unfold PySem.W.lookIn;rw[hd];dsimp only;split
 ·rename_i y q;rw[q]at e;exact congrArg some e
 ·rename_i q;rw[q]at e;have a:es.toList.any (·.refKey)=false:=by rw[List.any_eq_false];intro y g;obtain⟨z,t,b⟩:=f y (Array.mem_toList_iff.mp g);simp[DictEntry.refKey,b]
  have i:¬ es.toList.any (·.refKey)=true:=by rw[a];exact Kf
  rw[if_neg i];exact congrArg some e
theorem vP.look {x:Addr} (I:vP h x dx C mA):∃od,PySem.W.InstAt h x (PySem.W.instObj C dx) C (some od)/\∀name,PySem.W.lookIn name od=some (mA name) :=
 let ⟨od,ho,hl⟩:=yS I.ns
 ⟨od,⟨I.obj,rfl,rfl,ho⟩,hl⟩
section
variable {x:Addr} {name:Str} {v:Value}
theorem get_map {expr:Bool} (X:K.In s.heap) (I:vP s.heap x dx C mA) (b:PySem.W.plainGet K C name=true) (c:PySem.W.hasDictIn K C=true)
  (ha:PySem.W.findIn K (.ref C) name=some none) (hv:mA name=some v) (a:PySem.W.handedIn v=true) (h:Q v { s with toks:=s.toks+1 }) :
  wpAny (model prog w) A (getAttr (.ref x) name expr) Q E s:=by
 obtain⟨od,J,hl⟩:=I.look;exact PySem.W.get_value X J (PySem.W.plainGet_of b).1 (PySem.W.findObj_own c ha rfl (by rw[hl,hv])) a h
theorem Ab {pl:Sem Bool} {Q:Value×List Value->Shared->Prop} (X:K.In s.heap) (I:vP s.heap x dx C mA) (a:PySem.W.plainGet K C name=true)
  (b:PySem.W.findIn K (.ref C) name=some (some (.ref f))) (c:PySem.W.isFn K (.ref f)=true) (hv:mA name=none) (h:Q (.ref f,[.ref x]) s) :
  wpAny (model prog w) A (getMethod (.ref x) name pl) Q E s:=by
 obtain⟨od,J,hl⟩:=I.look;exact PySem.W.method_fn X J (PySem.W.plainGet_of a).1 (PySem.W.plainGet_of a).2 b (beq_iff_eq.mp c) (by show (PySem.W.lookIn name od).map (·.isSome)=some false;rw[hl,hv];rfl) h
theorem Ea {ns:List Str} {Q:Unit->Shared->Prop} (X:K.In s.heap) (I:vP s.heap x dx C mA)
  (l:PySem.W.findIn K (.ref C) "__setattr__"=some (some (.builtin "object.__setattr__"))) (m:PySem.W.plainOver K C=true) (n:PySem.W.takerIn K C name=some none) (o:PySem.W.hasDictIn K C=true)
  (hw:PySem.Within mA ns) (hsz:ns.length<=sizeLine)
  (h:∀h',vP h' x dx C (λy=>if y=name then some v else mA y)->Heap.SameBut dx s.heap h'->Q () { s with heap:=h',toks:=s.toks+2 }) :
  wpAny (model prog w) A (setAttr (.ref x) name v) Q E s:=by
 obtain⟨od,J,hl⟩:=I.look;refine PySem.W.set_plain X J l (PySem.W.osa_open (s:={ s with toks:=s.toks+1 }) (r:=none) X J m n λb=>?_);obtain⟨cd,hc,f⟩:=PySem.W.any_some o;have p:s.heap.get? x=some ⟨.ref C,some dx,.plain,#[]⟩:=I.obj;refine wpAny_bind (wpAny_pure (wpAny_bind (wpAny_bind (wpAny_loadPart p (wpAny_bind (PySem.W.Looks.here (s:={ s with toks:=s.toks+1 }) (PySem.W.looks_clsIn X hc) ?_))))));rw[f];refine wpAny_pure (a:=some dx) (wpAny_bind (wpAny_pure (wpAny_bind ?_)));refine wpAny_nsSet1 (s:={ s with toks:=s.toks+1 }) I.ns λh' c e=>?_
 obtain⟨oD,esD,epD,g,i,j⟩:=c.count (PySem.Within.cons name v hw);refine wpAny_bind (wpAny_lookBehind g (by rw[i];exact pastItsLine_dict (KO j (by rw[Ka];omega))) ?_);exact wpAny_pure (h _ ⟨(e.2 _ (Ne.symm I.ne)).trans I.obj,c,I.ne⟩ e)
theorem AM {R:Result->Shared->Prop} {vs:List Value} {a:List (Str×Value)} (X:K.In s.heap) (hm:PySem.W.makesIn K C=true)
  (hi:PySem.W.findIn K (.ref C) "__init__"=some (some (.ref f))) (b:PySem.W.typeIn K (.ref f)=some (.type "function"))
  (h:codeAny (model prog w) (A.under (.builtin "type.__call__" ⟨.ref C::vs,a⟩)) (.call (.ref f) ⟨.ref (s.heap.objs.size+1)::vs,a⟩) (PySem.W.InitBack (s.heap.objs.size+1) R)
   { s with heap:=(s.heap.push PySem.W.emptyDict).push (PySem.W.instObj C s.heap.objs.size) }) :
  codeAny (model prog w) A (.call (.ref C) ⟨vs,a⟩) R s:=by
 obtain⟨hh,g,d,t,os⟩:=s;exact PySem.W.make_core (PySem.W.makes_of X hm) (PySem.W.looks_findIn X hi) (λself=>PySem.W.bind_fn X self b) (.inl rfl) h
end
def gD (f:Str) (v:V):List (Str×V)->List (Str×V)
 |[]=>[(f,v)]
 |(g,x)::r=>if g=f then (g,v)::r else (g,x)::gD f v r
theorem iU (f g:Str) (v:V):∀fs:List (Str×V),(gD f v fs).lookup g=if g=f then some v else fs.lookup g
 |[]=>by
  show List.lookup g [(f,v)]=_;by_cases h:g=f
  ·have a:(g==f)=true:=beq_iff_eq.mpr h;simp only[List.lookup,a,if_pos h]
  ·have a:(g==f)=false:=beq_eq_false_iff_ne.mpr h;simp only[List.lookup,a,if_neg h]
 |(k,x)::r=>by
  have b:=iU f g v r;rw[show gD f v ((k,x)::r)=(if k=f then (k,v)::r else (k,x)::gD f v r) from rfl];by_cases hk:k=f
  ·rw[if_pos hk];by_cases h:g=k
   ·have a:(g==k)=true:=beq_iff_eq.mpr h;simp only[List.lookup,a,if_pos (h.trans hk)]
   ·have a:(g==k)=false:=beq_eq_false_iff_ne.mpr h;simp only[List.lookup,a,if_neg (λe:g=f=>h (e.trans hk.symm))]
  ·rw[if_neg hk];by_cases h:g=k
   ·have a:(g==k)=true:=beq_iff_eq.mpr h;simp only[List.lookup,a,if_neg (λe:g=f=>hk (h.symm.trans e))]
   ·have a:(g==k)=false:=beq_eq_false_iff_ne.mpr h;simp only[List.lookup,a];exact b
theorem lg (f:Str) (v:V):∀fs:List (Str×V),f∈(gD f v fs).map (·.1)/\∀g,g∈fs.map (·.1)->g∈(gD f v fs).map (·.1)
 |[]=>⟨by simp[gD],λg h=>by simp at h⟩
 |(k,x)::r=>by
  obtain⟨i1,i2⟩:=lg f v r;rw[show gD f v ((k,x)::r)=(if k=f then (k,v)::r else (k,x)::gD f v r) from rfl];by_cases hk:k=f
  ·rw[if_pos hk];subst hk;exact⟨by simp,λg h=>by simpa using h⟩
  ·rw[if_neg hk];refine⟨?_,λg h=>?_⟩
   ·rw[J5];exact J8 _ i1
   ·rw[J5]at h ⊢;rcases J7.mp h with e|e
    ·exact J7.mpr (.inl e)
    ·exact J8 _ (i2 g e)
theorem ml (f:Str) (v:V):∀fs:List (Str×V),(gD f v fs).length<=fs.length+1
 |[]=>by simp[gD]
 |(k,x)::r=>by
  have ih:=ml f v r;rw[show gD f v ((k,x)::r)=(if k=f then (k,v)::r else (k,x)::gD f v r) from rfl];by_cases hk:k=f
  ·rw[if_pos hk,Ka,Ka];omega
  ·rw[if_neg hk,Ka,Ka];omega
theorem iN.some_of {o:Option Value} (r:iN (some v) o):∃u,o=some u/\RelV v u:=by
 cases o with
 |none=>exact (show False from r).elim
 |some u=>exact⟨u,rfl,r⟩
theorem iN.none_of {o:Option Value} (r:iN none o):o=none:=by
 cases o with
 |none=>rfl
 |some u=>exact (show False from r).elim
theorem yI (r:RelV v u):PySem.W.handedIn u=true:=by
 cases v with
 |non=>cases (show u=Value.none from r);rfl
 |bl b=>cases (show u=Value.bool b from r);rfl
 |int i=>obtain⟨t,e⟩:=(show ∃t,u=Value.int i t from r);cases e;rfl
 |str x=>obtain⟨t,e⟩:=(show ∃t,u=Value.str x t from r);cases e;rfl
 |byt b=>obtain⟨t,e⟩:=(show ∃t,u=Value.bytes b t from r);cases e;rfl
 |flt b=>obtain⟨t,e⟩:=(show ∃t,u=Value.float b t from r);cases e;rfl
 |ref a=>cases (show u=Value.ref a from r);rfl
 |ty n=>cases (show u=Value.type n from r);rfl
section
variable {H':Hp} {fs fs':List (Str×V)}
theorem rO (hok:HOk P w H h) (e:H a=some (.ins C dx fs)):∃mA,vP h a dx C mA/\(∀f,iN (fs.lookup f) (mA f))/\PySem.Within mA (fs.map (·.1))/\fs.length<=1000/\H dx=some (.own a):=by
 obtain⟨d,z,ne,b,mA,n,r,q⟩:=(show cE P w H h a (.ins C dx fs) from hok a _ e)
 exact⟨mA,⟨b,n,ne⟩,r,q,z,d⟩
end
structure Cls (K:PySem.W.Frag) (C:Addr):Prop where
 pg:PySem.W.plainGet K C Str.empty=true
 hd:PySem.W.hasDictIn K C=true
 po:PySem.W.plainOver K C=true
 sa:PySem.W.findIn K (.ref C) "__setattr__"=some (some (.builtin "object.__setattr__"))
theorem Cls.get (c:Cls K C) (f:Str):PySem.W.plainGet K C f=true:=c.pg
def eO (K:PySem.W.Frag) (C:Addr) (f:Str):Prop:=PySem.W.findIn K (.ref C) f=some none
theorem eO.taker {f:Str} (n:eO K C f):PySem.W.takerIn K C f=some none:=by unfold PySem.W.takerIn;rw[show PySem.W.findIn K (.ref C) f=some none from n];rfl
structure Meth (K:PySem.W.Frag) (C:Addr) (m:Str) (f:Addr):Prop where
 at_:PySem.W.findIn K (.ref C) m=some (some (.ref f))
 fn:PySem.W.isFn K (.ref f)=true
 kp:PySem.W.keepIn K (.ref f)=true
section
variable {fs:List (Str×V)} {f:Str}
theorem oC {b:Bool} (I:Inv X pins σ H s) (e:H a=some (.ins C dx fs)) (c:Cls X.K C) (n:eO X.K C f) (l:fs.lookup f=some v)
  (h:∀u s',Inv X pins σ H s'->RelV v u->Q u s'):wpAny (model X.prog X.w) A (getAttr (.ref a) f b) Q E s:=by
 obtain⟨mA,O,r,_,_,_⟩:=rO I.hok e;obtain⟨u,i,g⟩:=iN.some_of (v:=v) (o:=mA f) (by rw[<-l];exact r f);exact get_map I.kIn O (c.get f) c.hd n i (yI g) (h u _ (I.tok _) g)
theorem nB {g:Addr} {pl:Sem Bool} {Q:Value×List Value->Shared->Prop} (I:Inv X pins σ H s) (e:H a=some (.ins C dx fs)) (c:Cls X.K C) (k:Meth X.K C m g) (l:fs.lookup m=none)
  (h:Q (.ref g,[.ref a]) s):wpAny (model X.prog X.w) A (getMethod (.ref a) m pl) Q E s:=by
 obtain⟨mA,O,r,_,_,_⟩:=rO I.hok e;have hn:mA m=none:=iN.none_of (by rw[<-l];exact r m);exact Ab I.kIn O (c.get m) k.at_ k.fn hn h
theorem nv {y:V} {Q:Unit->Shared->Prop} (I:Inv X pins σ H s) (e:H a=some (.ins C dx fs)) (c:Cls X.K C) (n:eO X.K C f) (hl:fs.length<1000) (m:RelV y u)
  (h:∀s',Inv X pins σ (upd H a (.ins C dx (gD f y fs))) s'->Q () s'):wpAny (model X.prog X.w) A (setAttr (.ref a) f u) Q E s:=by
 obtain⟨mA,O,r,j,_,l⟩:=rO I.hok e;have p:(fs.map (·.1)).length<=sizeLine:=by rw[J6,sizeLine_eq];omega
 refine Ea I.kIn O c.sa c.po n.taker c.hd j p λh' i v=>h _ ?_
 have hd:∃o,h'.get? dx=some o:=let ⟨o,_,_,e',_⟩:=i.ns;⟨o,e'⟩;refine I.write (x:=a) (e:=dx) (by rw[e];exact True.intro) (.inr l) (λb q B z=>(v.2 b B).trans z) hd ?_;refine⟨by rw[au O.ne];exact l,?_,O.ne,i.obj,_,i.ns,λg=>?_,λg D=>?_⟩
 ·have:=ml f y fs;omega
 ·show iN ((gD f y fs).lookup g) (if g=f then some u else mA g);rw[iU];by_cases q:g=f
  ·rw[if_pos q,if_pos q];exact m
  ·rw[if_neg q,if_neg q];exact r g
 ·by_cases q:g=f
  ·rw[q];exact (lg f y fs).1
  ·refine (lg f y fs).2 g (j g λz=>D ?_);show (if g=f then some u else mA g)=none;rw[if_neg q];exact z
theorem Inv.made (I:Inv X pins σ H s):Inv X pins σ (upd (upd H s.heap.objs.size (.own (s.heap.objs.size+1))) (s.heap.objs.size+1) (.ins C s.heap.objs.size []))
  { s with heap:=(s.heap.push PySem.W.emptyDict).push (PySem.W.instObj C s.heap.objs.size) }:=by
 have e1:(s.heap.push PySem.W.emptyDict).get? s.heap.objs.size=some PySem.W.emptyDict:=K2 s.heap rfl;have e2:((s.heap.push PySem.W.emptyDict).push (PySem.W.instObj C s.heap.objs.size)).get? (s.heap.objs.size+1)=some (PySem.W.instObj C s.heap.objs.size):=by
  have:=K2 (s.heap.push PySem.W.emptyDict) (o:=PySem.W.instObj C s.heap.objs.size) rfl
  rwa[Heap.size_push]at this
 have c:(s.heap.push PySem.W.emptyDict).Ns s.heap.objs.size (λ_=>none):=⟨PySem.W.emptyDict,#[],_,e1,rfl,(λe f=>absurd f (by simp)),λ_=>rfl⟩
 have g:=I.laid (a:=s.heap.objs.size) (o:=.own (s.heap.objs.size+1)) (h':=s.heap.push PySem.W.emptyDict) (t':=s.toks) (λb u q=>J1 _ q) (JU _) ⟨_,e1⟩;refine g.laid (a:=s.heap.objs.size+1) (o:=.ins C s.heap.objs.size []) (t':=s.toks) (λb u q=>J1 _ q) (Nat.le_of_eq (Heap.size_push _ _)) ?_;have ne:s.heap.objs.size≠s.heap.objs.size+1:=JX (KU _);refine⟨by rw[au ne,ay],Ks _,ne,e2,λ_=>none,(Heap.Ns1.of_empty c).at λo q=>J1 _ q,λ_=>True.intro,λy h=>absurd rfl h⟩
theorem Eu {f:Str} (b:attributeBase e f env (eval e env)=eval e env)
  (h:wpAny (model prog w) A (eval e env) (λo a=>wpAny (model prog w) A (getAttr o f true) Q E a) E s):wpAny (model prog w) A (eval (.Attribute e f pos) env) Q E s :=
 Attribute_any_ h (by rw[arm_eval_Attribute,b])
end
def Ji (K:PySem.W.Frag) (ta:TE) (f:Str):TE:=λσ H Q=>ta σ H λx H1=>∃a C dx fs v,x=.ref a/\H1 a=some (.ins C dx fs)/\Cls K C/\eO K C f/\fs.lookup f=some v/\Q v H1
def Jw (K:PySem.W.Frag) (ta tv:TE) (f:Str):TS:=λD σ H=>tv σ H λy H1=>ta σ H1 λx H2=>∃a C dx fs,x=.ref a/\H2 a=some (.ins C dx fs)/\Cls K C/\eO K C f/\fs.length<1000 /\
 D.nx σ (upd H2 a (.ins C dx (gD f y fs)))
def Ij (X:Cx) (op:Operator) (a:V->V->Hp->VK->Prop):Prop :=
 ∀(pins:List (Addr×Obj)) (s:Shared) (σ:St) (H:Hp) (x y:V) (u v:Value) (Q:VK),Inv X pins σ H s->RelV x u->RelV y v->a x y H Q->wpAny (model X.prog X.w) X.A (inplaceOp op u v) (EP X pins σ Q) X.xe s
def Ez (K:PySem.W.Frag) (ta tv:TE) (e:V->V->Hp->VK->Prop) (f:Str):TS:=λD σ H=>ta σ H λx H1=>∃a C dx fs v,x=.ref a/\H1 a=some (.ins C dx fs)/\Cls K C/\eO K C f/\fs.lookup f=some v /\
 tv σ H1 λy H2=>e v y H2 λz c=>∃b fs',c a=some (.ins C b fs')/\fs'.length<1000/\D.nx σ (upd c a (.ins C b (gD f z fs')))
section
variable {o value:Expr} {f:Str} {tpos:Pos} {ta tv:TE}
theorem Fj (g:PE X e ta) (i:attributeBase e f X.env (eval e X.env)=eval e X.env):PE X (.Attribute e f pos) (Ji X.K ta f):=by intro pins s σ H Q I h;refine Eu i (thn (g pins s σ H _ I h) λu s1 b=>?_);obtain⟨x,H1,j,m,a,C,dx,fs,v,ex,ea,c,n,l,q⟩:=b;subst ex;obtain rfl:u=Value.ref a:=m;exact oC j ea c n l λu' s2 o p=>⟨v,H1,o,p,q⟩
theorem jd (ha:PE X o ta) (hv:PE X value tv) (e:swapsWith value (some (.Attribute o f pos')) pos.line X.env=pure false):PS X (.Assign [.Attribute o f pos'] value pos) (Jw X.K ta tv f):=by
 intro pins s σ H D I h;refine plainObj_wpAny_Assign_Attribute (thn (hv pins s σ H _ I h) λu g b=>?_) e;obtain⟨y,H1,i,j,q⟩:=b;refine thn (ha pins g σ H1 _ i q) λm s2 b=>?_
 obtain⟨x,H2,p,r,a,C,dx,fs,ex,ea,c,n,l,v⟩:=b;subst ex;obtain rfl:m=Value.ref a:=r;exact nv p ea c n l j λs3 w=>⟨σ,_,w,v⟩
theorem yn {op:Operator} {i:V->V->Hp->VK->Prop} (ha:PE X o ta) (hv:PE X value tv) (e:Ij X op i):PS X (.AugAssign (.Attribute o f tpos) op value pos) (Ez X.K ta tv i f):=by
 intro pins s σ H D I h;refine wpAny_AugAssign_AttributeAny (thn (ha pins s σ H _ I h) λj s1 b=>?_);obtain⟨x,H1,m,p,a,C,dx,fs,v,ex,ea,c,n,l,q⟩:=b;subst ex;obtain rfl:j=Value.ref a:=p;refine oC m ea c n l λu s2 r w=>thn (hv pins s2 σ H1 _ r q) λA B b=>?_
 obtain⟨y,H2,E,F,G⟩:=b;refine thn (e pins B σ H2 v y u A _ E w F G) λw4 s4 b=>?_
 obtain⟨z,H3,J,rz,dx',fs',g,L,M⟩:=b;exact nv J g c n L rz λs5 N=>⟨σ,_,N,M⟩
def Js:V->V->Hp->VK->Prop:=λx y H Q=>∃i j,x=.int i/\y=.int j/\Q (.int (i+j)) H
theorem Gn:Ij X .Add Js:=by
 rintro pins s σ H x y u v Q I a b ⟨i,j,rfl,rfl,q⟩
 obtain⟨t,rfl⟩:=(show ∃t,u=Value.int i t from a)
 obtain⟨t',rfl⟩:=(show ∃t',v=Value.int j t' from b)
 exact PyProof.Rows.iadd_int ⟨.int (i+j),H,I.tok _,⟨_,rfl⟩,q⟩
end
section
variable {c:Value} {b:Bool}
inductive oN (K:PySem.W.Frag) (H:Hp):V->Value->Prop where
 |non:oN K H .non (.type "NoneType")
 |bl (x:Bool):oN K H (.bl x) (.type "bool")
 |int (i:Int):oN K H (.int i) (.type "int")
 |str (x:Str):oN K H (.str x) (.type "str")
 |flt (x:UInt64):oN K H (.flt x) (.type "float")
 |lst {a:Addr} {xs:List V} (e:H a=some (.lst xs)):oN K H (.ref a) (.type "list")
 |frz {a:Addr} {o:Obj} {xs:List V} (e:H a=some (.frz o (.lst xs))):oN K H (.ref a) (.type "list")
 |tup {a:Addr} {xs:List V} (e:H a=some (.tup xs)):oN K H (.ref a) (.type "tuple")
 |dK {a:Addr} {kvs:List (Key×V)} (e:H a=some (.dK kvs)):oN K H (.ref a) (.type "dict")
 |dT {a:Addr} {kvs:List (List Key×V)} (e:H a=some (.dT kvs)):oN K H (.ref a) (.type "dict")
 |ins {a C dx:Addr} {fs:List (Str×V)} (e:H a=some (.ins C dx fs)) (cl:Cls K C) (ha:PySem.W.findIn K (.ref C) "__class__"=some (some (.builtin "object.__class__")))
  (hn:PySem.W.specialIn K (.builtin "object.__class__") "__get__"=some (some (.builtin "getset_descriptor.__get__"))) (htk:PySem.W.takesIn K (.builtin "object.__class__")=some true)
  (hm:PySem.W.mroIn K C (.type "object")=some true):oN K H (.ref a) (.ref C)
end
structure bU (k:Nat) (A:Around):Prop where
 hd:A.handled=none
 dp:A.depth+3*k+5<recursionLimit
 un:A.units+16*k+200<cLine
theorem bU.mono {k:Nat} (r:bU k A) (h:j<=k):bU j A:=⟨r.hd,by have:=r.dp;omega,by have:=r.un;omega⟩
theorem bU.deeper {k:Nat} (r:bU (k+1) A) (env:Env):bU k (A.deeper env) :=
 ⟨r.hd,by have:=r.dp;show A.depth+1+3*k+5<_;omega,by have:=r.un;show A.units+3+16*k+200<_;omega⟩
theorem bU.in1 {k:Nat} (r:bU (k+1) A):bU k A.in1 :=
 ⟨r.hd,by have:=r.dp;show A.depth+3*k+5<_;omega,by have:=r.un;show A.units+1+16*k+200<_;omega⟩
theorem vf {a:List (Str×Value)}:(A.under (.builtin "type.__call__" ⟨.ref C::us,a⟩)).depth=A.depth+1:=by first|rfl|simp[Around.under,Code.weight,Code.isCreation,Code.isGuard,Code.isCaller,Code.frames,Code.isFrame,guardIds]
theorem vK {a:List (Str×Value)}:(A.under (.builtin "type.__call__" ⟨.ref C::us,a⟩)).units=A.units+1:=by first|rfl|simp[Around.under,Code.cUnits,Code.frames,Code.isFrame]
theorem bU.make {k:Nat} (r:bU (k+1) A) (C:Addr) (us:List Value) (a:List (Str×Value)):bU k (A.under (.builtin "type.__call__" ⟨.ref C::us,a⟩)) :=
 ⟨r.hd,by have:=r.dp;rw[vf];omega,by have:=r.un;rw[vK];omega⟩
theorem bU.depth {k:Nat} (r:bU k A):A.depth<recursionLimit:=by have:=r.dp;omega
theorem bU.units {k:Nat} (r:bU k A):A.units+64<cLine:=by have:=r.un;omega
def GZ:TA:=λ_ H Q=>Q [] H
def E2 (ta:TE) (a:TA):TA:=λσ H Q=>ta σ H λx H1=>a σ H1 λxs H2=>Q (x::xs) H2
section
variable {te:TE} {t:TA}
theorem fU:PA X [] GZ:=λ_ _ _ _ H Q I h=>Calls.spliced_nil ⟨[],H,I,.nil,h⟩
theorem dJ (ha:PE X e te) (c:PA X es t) (f:starEach (e::es) X.env=(false,eval e X.env)::starEach es X.env:=by rfl):PA X (e::es) (E2 te t):=by intro pos pins s σ H Q I h;rw[f];show wpAny _ _ (spliced ((false,eval e X.env)::backTo pos (starEach es X.env))) _ _ s;refine Calls.spliced_cons (thn (ha pins s σ H _ I h) λu g a=>?_);obtain⟨x,H1,i,j,l⟩:=a;exact thn (c pos pins g σ H1 _ i l) λus s2 b=>(by obtain⟨xs,H2,m,n,o⟩:=b;exact⟨x::xs,H2,m,.cons j n,o⟩)
def JD (t:TA):TE:=λσ H Q=>t σ H λxs H1=>xs.length<=sizeLine/\∀p,H1 p=none->Q (.ref p) (upd H1 p (.tup xs))
def Jx (t:TA):TE:=λσ H Q=>t σ H λxs H1=>xs.length<=sizeLine/\∀p,H1 p=none->Q (.ref p) (upd H1 p (.lst xs))
theorem Hm {x1} (h:PA X es t):PE X (.Tuple es x1 pos) (JD t):=by intro pins s σ H Q I g;refine wpAny_Tuple_spliced (thn (h pos pins s σ H _ I g) λus a c=>?_);obtain⟨xs,H1,f,r,z,q⟩:=c;refine⟨by rw[<-r.length];exact z,?_⟩;have i:H1 a.heap.objs.size=none:=f.hok.fresh (JU _);refine⟨.ref a.heap.objs.size,upd H1 a.heap.objs.size (.tup xs),f.laid (t':=a.toks) (λb u e=>J1 _ e) (JU _) ?_,rfl,q _ i⟩;exact⟨z,us,r,⟨_,K2 _ rfl,rfl,rfl,_,rfl⟩⟩
theorem vz (h:PA X es t):PE X (.List es pos) (Jx t):=by intro pins s σ H Q I g;refine wpAny_List_spliced (thn (h pos pins s σ H _ I g) λus a c=>?_);obtain⟨xs,H1,f,r,z,q⟩:=c;refine⟨by rw[<-r.length];exact z,?_⟩;have i:H1 a.heap.objs.size=none:=f.hok.fresh (JU _);refine⟨.ref a.heap.objs.size,upd H1 a.heap.objs.size (.lst xs),f.laid (t':=a.toks) (λb u e=>J1 _ e) (JU _) ?_,rfl,q _ i⟩;exact⟨z,us,0,r,K2 _ rfl⟩
end
abbrev Sp:=List V->Hp->VK->XK->Prop
abbrev CXT:=List Env->Hp->Shared->XK->Value->Shared->Prop
structure rZ (P:Program) (w:World) (K:PySem.W.Frag) (mg:Str->Option Value) (base:Heap) (A:Around) (outer:List Env) (s:Shared) (H:Hp):Prop where
 frames:A.frames=some outer
 mod:Mod K mg base
 bs:∀b o,base.get? b=some o->s.heap.get? b=some o/\H b=none
 bsz:base.objs.size<=s.heap.objs.size
 funs:s.heap.FunFrames base outer
 frf:∀b∈frs outer,H b=none
 hok:HOk P w H s.heap
 bare:AllBare s.gens
 tab:∀P q,TabOf K P q->H P=some (.tbl q)
def CE (outer:List Env) (P:Program) (w:World) (H:Hp) (s:Shared) (Q:VK) (u:Value) (s':Shared):Prop :=
 ∃v H',s'.os=s.os/\AllBare s'.gens/\Un (frs outer) [] H H' s.heap s'.heap/\HOk P w H' s'.heap/\RelV v u/\Q v H'
def CR (CX:CXT) (outer:List Env) (P:Program) (w:World) (H:Hp) (s:Shared) (Q:VK) (E:XK) (r:Result) (s':Shared):Prop :=
 match r with
 |.ok (.ret u)=>CE outer P w H s Q u s'
 |.ok _=>False
 |.error e=>CX outer H s E e s'
structure fD (P:Program) (w:World) (K:PySem.W.Frag) (mg:Str->Option Value) (base:Heap) (CX:CXT) (k:Nat) (f:Addr) (fd:FuncData) (ps:List Str) (sp:Sp):Prop where
 len:∀vs H Q E,sp vs H Q E->vs.length=ps.length
 run:∀(A:Around) (outer:List Env) (s:Shared) (H:Hp) (args:Args) (us:List Value) (vs:List V) (Q:VK) (E:XK),bU k A->rZ P w K mg base A outer s H->BindsTo s fd args (ps.zip us)->Vals vs us->sp vs H Q E ->
  codeAny (model P w) A (.call (.ref f) args) (CR CX outer P w H s Q E) s
theorem rZ.make (e:rZ P w K mg base A outer s H) (C:Addr) (us:List Value) (a:List (Str×Value)) :
 rZ P w K mg base (A.under (.builtin "type.__call__" ⟨.ref C::us,a⟩)) outer s H:=⟨by first|exact e.frames|(simpa[Around.under,Code.envs,Code.isFrame,pushEnvs] using e.frames),e.mod,e.bs,e.bsz,e.funs,e.frf,e.hok,e.bare,e.tab⟩
section
theorem Inv.env0 (I:Inv X pins σ H s):rZ X.prog X.w X.K X.mg X.base X.A X.stack s H :=
 ⟨I.ok.frames,I.ok.mod,I.bs,KO I.ok.bsz I.sz,I.stack,I.stkFree,I.hok,I.bare,I.tab⟩
theorem Inv.after {Q:VK} (I:Inv X pins σ H s) (h:CE X.stack X.prog X.w H s Q u s'):EP X pins σ Q u s':=by obtain⟨v,H',os,bare,un,hok,r,q⟩:=h;obtain⟨c,g,d,t,a⟩:=s';obtain rfl:a=s.os:=os;exact⟨v,H',I.call (h':=c) (g':=g) (d':=d) (t':=t) (ch:=[]) un hok bare (λb z=>absurd z (by simp)),r,q⟩
end
def IC (sp:Sp) (dvs:List V) (E:XK) (t:TA):TE:=λσ H Q=>t σ H λvs H1=>sp (vs++dvs) H1 Q E
def xr (C:Addr) (m:Str) (sp:Sp) (dvs:List V) (E:XK) (ta:TE) (t:TA):TE:=λσ H Q=>ta σ H λx H1=>∃a dx fs,x=.ref a/\H1 a=some (.ins C dx fs)/\fs.lookup m=none /\
 t σ H1 λvs H2=>sp (x::(vs++dvs)) H2 Q E
def IU (C:Addr) (sp:Sp) (dvs:List V) (E:XK) (t:TA):TE:=λσ H Q=>t σ H λvs H1=>∀x dx,H1 x=none->H1 dx=none->dx≠x ->
 sp (.ref x::(vs++dvs)) (upd (upd H1 dx (.own x)) x (.ins C dx [])) (λv H2=>v=.non/\Q (.ref x) H2) E
def Binds (K:PySem.W.Frag) (fd:FuncData) (ps:List Str) (ds:List Value):Prop :=
 ∀(s:Shared) (us:List Value),K.In s.heap->(us++ds).length=ps.length->BindsTo s fd ⟨us,[]⟩ (ps.zip (us++ds))
theorem Binds.all (h:∀us:List Value,us.length=ps.length->bindArgs fd ⟨us,[]⟩=pure (ps.zip us)):Binds K fd ps []:=λs us _ hl=>by rw[KY]at hl ⊢;exact .of_eq (h us hl)
def Passes (CX:CXT) (X:Cx) (E:XK):Prop:=∀(pins:List (Addr×Obj)) (σ:St) (H:Hp) (s:Shared) (e:Value) (s':Shared),Inv X pins σ H s->CX X.stack H s E e s'->X.xe e s'
section
variable {CX:CXT} {k:Nat} {sp:Sp} {dvs:List V} {ds:List Value} {E:XK} {apos:Pos} {o:Expr} {ta:TE} {t:TA}
theorem vV {Q:VK} (F:fD X.prog X.w X.K X.mg X.base CX k f fd ps sp) (c:bU k X.A) (g:Binds X.K fd ps ds) (hd:Vals dvs ds) (i:Passes CX X E)
  (I:Inv X pins σ H s) (r:Vals vs us) (h:sp (vs++dvs) H Q E):wpAny (model X.prog X.w) X.A (call (.ref f) us) (EP X pins σ Q) X.xe s:=by
 have b:Vals (vs++dvs) (us++ds):=r.append hd;have hl:(us++ds).length=ps.length:=by rw[<-b.length];exact F.len _ _ _ _ h
 refine wpAny_call (codeAny_mono (F.run X.A X.stack s H ⟨us,[]⟩ (us++ds) (vs++dvs) Q E c I.env0 (g s us I.kIn hl) b h) λr s' a=>?_);cases r with
 |error e=>exact i pins σ H s e s' I a
 |ok fl =>
  cases fl with
  |ret u=>exact I.after a
  |next=>exact False.elim a
  |brk=>exact False.elim a
  |cont=>exact False.elim a
theorem xq (F:fD X.prog X.w X.K X.mg X.base CX k f fd ps sp) (i:bU k X.A) (j:Gl X x) (hm:X.mg x=some (.ref f)) (l:PySem.W.keepIn X.K (.ref f)=true) (m:Binds X.K fd ps ds) (hd:Vals dvs ds) (n:Passes CX X E)
  (ha:PA X (e::es) t) (a:(x==("__debug__":Str))=false:=by decide) (o:starEach (e::es) X.env=(false,eval e X.env)::starEach es X.env:=by rfl) (b:(backTo pos (starEach es X.env)).any (·.1)=false:=by rfl) :
  PE X (.Call (.Name x p) (e::es) [] pos) (IC sp dvs E t):=by
 intro pins s σ H Q I h;refine wpAny_Call_Name_kw (mV I j hm ?_ a);refine PySem.W.callWith_K (h₀:=X.base) I.ok.mod.kin l (thn (ha pos pins s σ H _ I h) λus s1 c=>?_) o b;obtain⟨vs,H1,g,r,q⟩:=c;refine⟨g.kIn,?_⟩;exact vV F i m hd n g r q
theorem Dv {pl:Sem Bool} (p:PE X o ta) (c:Cls X.K C) (hm:Meth X.K C m f) (F:fD X.prog X.w X.K X.mg X.base CX k f fd ps sp) (v:bU k X.A) (y:Binds X.K fd ps ds) (hd:Vals dvs ds) (z:Passes CX X E) (ha:PA X (e::es) t)
  (g:starEach (e::es) X.env=(false,eval e X.env)::starEach es X.env:=by rfl) (i:(backTo pos (starEach es X.env)).any (·.1)=false:=by rfl)
  (B:eval (.Call (.Attribute o m apos) (e::es) [] pos) X.env=(do
   let ov <-eval o X.env
   standAt apos.atName
   let (f,first) <-holding [ov] (getMethod ov m pl)
   callWith pos f first (backTo pos (starEach (e::es) X.env)) (backToKw pos (keywordEach [] X.env))):=by rfl) :
  PE X (.Call (.Attribute o m apos) (e::es) [] pos) (xr C m sp dvs E ta t):=by
 intro pins s σ H Q I h;refine PySem.W.methodCall_KW (pl:=pl) (thn (p pins s σ H _ I h) λu D b=>?_) B;obtain⟨x,H1,j,G,a,dx,fs,ex,ea,l,q⟩:=b;subst ex;obtain rfl:u=Value.ref a:=G;refine nB j ea c hm l ?_;refine PySem.W.callWith_K (first:=[.ref a]) (h₀:=X.base) I.ok.mod.kin hm.kp (thn (ha pos pins D σ H1 _ j q) λus s2 b=>?_) g i;obtain⟨vs,H2,n,r,J⟩:=b;refine⟨n.kIn,?_⟩;exact vV (us:=.ref a::us) (vs:=.ref a::vs) F v y hd z n (.cons rfl r) J
theorem uy {pl:Sem Bool} (g:PE X o ta) (c:Cls X.K C) (hm:Meth X.K C m f) (F:fD X.prog X.w X.K X.mg X.base CX k f fd ps sp) (i:bU k X.A) (j:Binds X.K fd ps ds) (hd:Vals dvs ds) (n:Passes CX X E)
  (p:eval (.Call (.Attribute o m apos) [] [] pos) X.env=(do
   let ov <-eval o X.env
   standAt apos.atName
   let (f,first) <-holding [ov] (getMethod ov m pl)
   callWith pos f first (backTo pos (starEach [] X.env)) (backToKw pos (keywordEach [] X.env))):=by rfl) :
  PE X (.Call (.Attribute o m apos) [] [] pos) (xr C m sp dvs E ta GZ):=by
 intro pins s σ H Q I h;refine PySem.W.methodCall_KW (pl:=pl) (thn (g pins s σ H _ I h) λu s1 b=>?_) p;obtain⟨x,H1,e,r,a,dx,fs,ex,ea,l,q⟩:=b;subst ex;obtain rfl:u=Value.ref a:=r;refine nB e ea c hm l ?_;exact PySem.W.callWith_K0 (first:=[.ref a]) e.kIn hm.kp (vV (us:=[.ref a]) (vs:=[.ref a]) F i j hd n e (.cons rfl .nil) q)
structure Mk (K:PySem.W.Frag) (C f:Addr):Prop where
 makes:PySem.W.makesIn K C=true
 init:PySem.W.findIn K (.ref C) "__init__"=some (some (.ref f))
 fn:PySem.W.isFn K (.ref f)=true
 kp:PySem.W.keepIn K (.ref C)=true
theorem BW {Q:VK} (M:Mk X.K C f) (F:fD X.prog X.w X.K X.mg X.base CX k f fd ps sp) (i:bU (k+1) X.A) (j:Binds X.K fd ps ds) (hd:Vals dvs ds)
  (l:Passes CX X E) (I:Inv X pins σ H s) (r:Vals vs us)
  (h:∀x dx,H x=none->H dx=none->dx≠x->sp (.ref x::(vs++dvs)) (upd (upd H dx (.own x)) x (.ins C dx [])) (λv H2=>v=.non/\Q (.ref x) H2) E) :
  wpAny (model X.prog X.w) X.A (call (.ref C) us) (EP X pins σ Q) X.xe s:=by
 have c:=h (s.heap.objs.size+1) s.heap.objs.size (I.hok.fresh (Lg _)) (I.hok.fresh (JU _)) (JX (KU _));have b:=Inv.made (C:=C) I;have g:Vals (V.ref (s.heap.objs.size+1)::(vs++dvs)) (Value.ref (s.heap.objs.size+1)::(us++ds)):=.cons rfl (r.append hd);have hl:(Value.ref (s.heap.objs.size+1)::us++ds).length=ps.length:=by have e:=g.length;rw[F.len _ _ _ _ c]at e;exact e.symm
 refine wpAny_call (AM (f:=f) I.kIn M.makes M.init (beq_iff_eq.mp M.fn) (codeAny_mono (F.run _ X.stack _ _ ⟨Value.ref (s.heap.objs.size+1)::us,[]⟩ (Value.ref (s.heap.objs.size+1)::(us++ds)) _ _ E (i.make C us [])
  (b.env0.make C us []) (j _ (Value.ref (s.heap.objs.size+1)::us) b.kIn hl) g c) λr s' a=>?_))
 cases r with
 |error e=>exact l pins σ _ _ e s' b a
 |ok fl =>
  cases fl with
  |ret u =>obtain⟨v,H',m,n,o,p⟩:=b.after a;subst o;exact⟨n,⟨V.ref (s.heap.objs.size+1),H',m,rfl,p⟩⟩
  |next=>exact False.elim a
  |brk=>exact False.elim a
  |cont=>exact False.elim a
theorem ED (M:Mk X.K C f) (F:fD X.prog X.w X.K X.mg X.base CX k f fd ps sp) (i:bU (k+1) X.A) (j:Gl X x) (hm:X.mg x=some (.ref C)) (l:Binds X.K fd ps ds) (hd:Vals dvs ds) (m:Passes CX X E)
  (ha:PA X (e::es) t) (a:(x==("__debug__":Str))=false:=by decide) (n:starEach (e::es) X.env=(false,eval e X.env)::starEach es X.env:=by rfl) (b:(backTo pos (starEach es X.env)).any (·.1)=false:=by rfl) :
  PE X (.Call (.Name x p) (e::es) [] pos) (IU C sp dvs E t):=by
 intro pins s σ H Q I h;refine wpAny_Call_Name_kw (mV I j hm ?_ a);refine PySem.W.callWith_K (h₀:=X.base) I.ok.mod.kin M.kp (thn (ha pos pins s σ H _ I h) λus s1 c=>?_) n b;obtain⟨vs,H1,g,r,q⟩:=c;refine⟨g.kIn,?_⟩;exact BW M F i l hd m g r q
end
def PK (X:Cx) (kws:List Keyword) (t:TA):Prop :=
 ∀(pos:Pos) (pins:List (Addr×Obj)) (s:Shared) (σ:St) (H:Hp) (Q:List V->Hp->Prop),Inv X pins σ H s->t σ H Q->wpAny (model X.prog X.w) X.A (evalAll ((backToKw pos (keywordEach kws X.env)).map (·.2))) (AP X pins σ Q) X.xe s
section
variable {CX:CXT} {k:Nat} {ks:List Str} {sp:Sp} {E:XK} {apos kpos:Pos} {o:Expr} {kws:List Keyword} {te ta:TE} {t tk:TA} {nm:Option Str}
theorem F6:PK X [] GZ:=λ_ _ _ _ H Q I h=>wpAny_evalAll_nil ⟨[],H,I,.nil,h⟩
theorem DZ (ha:PE X e te) (c:PK X kws t):PK X (⟨nm,e,kpos⟩::kws) (E2 te t):=by intro pos pins s σ H Q I h;show wpAny _ _ (evalAll ((do let v <-eval e X.env;standAt pos;pure v)::(backToKw pos (keywordEach kws X.env)).map (·.2))) _ _ s;refine wpAny_evalAll_cons (wpAny_bind (thn (ha pins s σ H _ I h) λu f a=>?_));obtain⟨x,H1,g,i,j⟩:=a;refine wpAny_bind (wpAny_standAt (wpAny_pure ?_));exact thn (c pos pins f σ H1 _ g j) λus s2 b=>(by obtain⟨xs,H2,l,m,n⟩:=b;exact⟨x::xs,H2,l,.cons i m,n⟩)
variable {g:List Value->List Value->List Value} {gV:List V->List V->List V}
end
structure cB (N P:List Str) (sc:Scope):Prop where
 kind:sc.kind=.function
 co:sc.isCoroutine=false
 gen:sc.isGenerator=false
 nd:N.Nodup
 pre:N.take P.length=P
 par:∀x∈P,sc.names.lookup x=some .local\/sc.names.lookup x=some .cell
 nofree:∀y∈sc.names,y.2≠.free
theorem qg {kindOf:Str->Option NameKind} {x:Str}:∀{binds:List (Str×Value)} {m:Str->Option Value},(∀v,(x,v)∉binds)->bindL kindOf binds m x=m x
 |[],_,_=>rfl
 |(n,v)::r,m,h=>by
  unfold bindL;rw[qg λw hw=>h w (J8 _ hw)];split
  ·have:x≠n:=by rintro rfl;exact h v J9
   simp[this]
  ·rfl
theorem qW {kindOf:Str->Option NameKind} {x:Str}:∀{binds:List (Str×Value)} {m:Str->Option Value},(∀v,(x,v)∉binds)->bindC kindOf binds m x=m x
 |[],_,_=>rfl
 |(n,v)::r,m,h=>by
  unfold bindC;rw[qW λw hw=>h w (J8 _ hw)];split
  ·rfl
  ·have:x≠n:=by rintro rfl;exact h v J9
   simp[this]
theorem p8 {kindOf:Str->Option NameKind} {x:Str} {v:Value}:∀{P:List Str} {vs:List Value} {i:Nat} {m:Str->Option Value},P.Nodup->P[i]?=some x->vs[i]?=some v->kindOf x=some .local ->
  bindL kindOf (P.zip vs) m x=some v
 |[],_,_,_,_,h,_,_=>by simp at h
 |_::_,[],_,_,_,_,h,_=>by simp at h
 |p::P,w::vs,0,m,nd,h1,h2,hk=>by simp at h1 h2;subst h1;subst h2;show bindL kindOf ((p,w)::P.zip vs) m p=_;unfold bindL;rw[qg λv hv=>(Kp.mp nd).1 (Ll hv).1,if_pos hk];simp
 |p::P,w::vs,i+1,m,nd,h1,h2,hk=>by show bindL kindOf ((p,w)::P.zip vs) m x=_;unfold bindL;exact p8 (i:=i) (Kp.mp nd).2 (by simpa using h1) (by simpa using h2) hk
theorem qR {kindOf:Str->Option NameKind} {x:Str} {v:Value}:∀{P:List Str} {vs:List Value} {i:Nat} {m:Str->Option Value},P.Nodup->P[i]?=some x->vs[i]?=some v->kindOf x≠some .local ->
  bindC kindOf (P.zip vs) m x=some v
 |[],_,_,_,_,h,_,_=>by simp at h
 |_::_,[],_,_,_,_,h,_=>by simp at h
 |p::P,w::vs,0,m,nd,h1,h2,hk=>by simp at h1 h2;subst h1;subst h2;show bindC kindOf ((p,w)::P.zip vs) m p=_;unfold bindC;rw[qW λv hv=>(Kp.mp nd).1 (Ll hv).1,if_neg hk];simp
 |p::P,w::vs,i+1,m,nd,h1,h2,hk=>by show bindC kindOf ((p,w)::P.zip vs) m x=_;unfold bindC;exact qR (i:=i) (Kp.mp nd).2 (by simpa using h1) (by simpa using h2) hk
def start (N:List Str) (vs:List V):St:=vs.map some++List.replicate (N.length-vs.length) none
def cH (CX:CXT) (P:Program) (w:World) (K:PySem.W.Frag) (mg:Str->Option Value) (base:Heap) (N:List Str) (qual:Str) (scope:Scope) (f:Addr) (cd:Value) (A:Around) (outer:List Env) (s:Shared) (H:Hp) (E:XK):Cx where
 prog:=P
 w:=w
 K:=K
 mg:=mg
 base:=base
 A:=A.deeper (envOfC qual scope s.heap.objs.size f cd)
 N:=N
 s₀:=s
 H₀:=H
 env:=envOfC qual scope s.heap.objs.size f cd
 outer:=outer
 stack:=envOfC qual scope s.heap.objs.size f cd::outer
 ex:=[]
 calm:=true
 fn:=λ_=>true
 pn:=[]
 xe:=λe s'=>wpAny (model P w) (A.deeper (envOfC qual scope s.heap.objs.size f cd)) (leaving (envOfC qual scope s.heap.objs.size f cd) e) (λ_ a=>CX outer H s E e a) (λb a=>CX outer H s E b a) s'
theorem nL {sc:Scope} (h:sc.names.lookup x=some .cell):∃c,(cellsFrom n sc.names []).lookup x=some c:=by have q:=PySem.W.cellsFrom_some sc.names n [] (.inl h);exact Option.isSome_iff_exists.mp q
theorem yu {CX:CXT} {B:Shared} {E:XK}
  (S:cB N ps scope) (hd:A.handled=none) (g:rZ P w K mg base A outer s H) (hl:vs.length=ps.length) (r:Vals vs us)
  (x:InCallC s s.heap.objs.size (bindL (envOfC qual scope s.heap.objs.size f cd).kindOf (ps.zip us) λ_=>none) (cellsFrom (s.heap.objs.size+1) scope.names []) (bindC (envOfC qual scope s.heap.objs.size f cd).kindOf (ps.zip us) λ_=>none) B) :
  Inv (cH CX P w K mg base N qual scope f cd A outer s H E) [] (start N vs) H B:=by
 have hpl:ps.length<=N.length:=by have:=congrArg List.length S.pre;rw[List.length_take]at this;omega
 obtain⟨h1,tk,rfl,C⟩:=x.done;have j:∀b:Addr,b∉(cH CX P w K mg base N qual scope f cd A outer s H E).ex:=λb z=>absurd (show b∈([]:List Addr) from z) (by simp)
 refine⟨⟨g.mod,S.kind,rfl,rfl,JU _,λy z c h1 h2=>?_,λy l=>?_,λy c _ h=>?_,λ_=>hd,Around.frames_deeper g.frames,.inr ⟨rfl,rfl⟩,λb z=>absurd z (j b),g.bs,g.bsz,λb _ _=>j b,λb z=>absurd z (j b),g.funs,g.frf⟩,
  rfl,g.bare,Un.kept C,⟨_,x.toInCall.ns,λi y v h1 h2 h3=>?_⟩,λy c h=>⟨_,x.cell y c h⟩,g.hok.fresh (JU _),λy c h=>?_,λp m=>absurd (show p∈([]:List (Addr×Obj)) from m) (by simp),g.hok.kept C,?_,g.tab⟩
 ·exact name_of_addr x.apart (PySem.mem_of_lookup h1) (PySem.mem_of_lookup h2)
 ·have l:scope.names.lookup y=some .cell\/scope.names.lookup y=some .free:=l;rcases l with l|l
  ·exact nL l
  ·exact absurd rfl (S.nofree _ (PySem.mem_of_lookup l))
 ·exact LO (x.above y c (PySem.mem_of_lookup h))
 ·have hi:i<vs.length:=by
   unfold start at h2;by_cases hi:i<vs.length
   ·exact hi
   ·rw[Kc (by simpa using hi)]at h2;rw[Lx]at h2;split at h2 <;> cases h2
  have ha:vs[i]?=some v:=by
   unfold start at h2;rw[K8 (by simpa using hi),JY]at h2;cases e:vs[i]? with
   |none=>rw[e]at h2;cases h2
   |some a=>rw[e]at h2;cases h2;rfl
  obtain⟨u,D,F⟩:=r.get ha;have m:ps[i]?=some y:=by rw[<-S.pre,List.getElem?_take_of_lt (by omega)];exact h1
  have o:ps.Nodup:=by rw[<-S.pre];exact S.nd.sublist (List.take_sublist _ _)
  refine⟨u,F,?_⟩;rcases S.par y (Kn m) with k|k
  ·exact .inl ⟨k,p8 o m D k⟩
  ·obtain⟨c,e⟩:=nL (n:=s.heap.objs.size+1) k;refine .inr ⟨.inl k,c,e,?_⟩;have q:=x.cell y c e;rw[qR o m D (by show scope.names.lookup y≠_;rw[k];decide)]at q;exact q
 ·exact g.hok.fresh (LO (x.above y c (PySem.mem_of_lookup h)))
 ·unfold start;show _=N.length;rw[K0,J6,List.length_replicate];omega
theorem AF {CX:CXT} {k:Nat} {name:Str} {B kV doc cdv:Value}
  {sp:Sp} (F:K.lookup f=some ⟨oc,od,.func (PySem.W.fnOf name qual params body scope B kV doc pm an cdv ct),osl⟩) (l:PySem.W.codeIn K cdv qual=true) (S:cB N ps scope)
  (len:∀vs H Q E,sp vs H Q E->vs.length=ps.length)
  (c:∀(A:Around) (outer:List Env) (s:Shared) (H:Hp) (vs:List V) (Q:VK) (E:XK),bU k (A.deeper (envOfC qual scope s.heap.objs.size f cdv))->sp vs H Q E ->
   ∃t,PSs (cH CX P w K mg base N qual scope f cdv A outer s H E) body t/\t { nx:=λ_ H'=>Q .non H',rt:=Q } (start N vs) H) :
  fD P w K mg base CX (k+1) f (PySem.W.fnOf name qual params body scope B kV doc pm an cdv ct) ps sp:=by
 refine⟨len,λA outer s H args us vs Q E m i G r j=>?_⟩;have hl:=len _ _ _ _ j;have C:K.In s.heap:=i.mod.kin.keeps λb o e=>(i.bs b o e).1
 have lim:s.heap.NoLimit:=i.mod.nolimit.keeps λb o e=>(i.bs b o e).1
 have g:∀y∈ps.zip us,scope.names.lookup y.1=some .local\/(scope.names.lookup y.1=some .cell/\((cellsFrom (s.heap.objs.size+1) scope.names []).lookup y.1).isSome=true):=λp L=>by
  obtain⟨n,v⟩:=p;rcases S.par n (Ll L).1 with q|q
  ·exact .inl q
  ·exact .inr ⟨q,PySem.W.cellsFrom_some _ _ _ (.inl q)⟩
 refine codeAny_call_function m.depth (C _ _ F) rfl S.co S.gen rfl (PySem.W.codeRec_of C l) (G _ _ _ _ ?_);refine wpAny_newFunctionEnv_cells S.kind g λenv M D x=>?_
 subst M;refine⟨lim.keeps x.toInCall.keep,codeAny_func ?_⟩;obtain⟨t,O,R⟩:=c A outer s H vs Q E (m.deeper _) j;have I:Inv (cH CX P w K mg base N qual scope f cdv A outer s H E) [] (start N vs) H D:=yu S m.hd i hl r x;refine wpAny_mono (O [] D (start N vs) H _ I R) (λT s' h=>?_) λe s' h=>h
 have fin:∀{a:St} {H':Hp} {v:V} {u:Value},Inv (cH CX P w K mg base N qual scope f cdv A outer s H E) [] a H' s'->RelV v u->Q v H'->CE outer P w H s Q u s' :=
  λ{a H' v u} J z q=>⟨v,H',J.os,J.bare,J.base,J.hok,z,q⟩
 cases T with
 |ret u =>obtain⟨v,a,H',J,z,q⟩:=h;exact fin J z q
 |next =>obtain⟨a,H',J,q⟩:=h;exact fin (v:=V.non) (u:=Value.none) J rfl q
 |brk =>obtain⟨_,_,_,q⟩:=h;exact False.elim q
 |cont =>obtain⟨_,_,_,q⟩:=h;exact False.elim q
section
variable {t:TA} {id T:String} {r:List V->Hp->VK->Prop}
def tCB (r:List V->Hp->VK->Prop) (t:TA):TE:=λσ H Q=>t σ H λvs H1=>r vs H1 Q
theorem fR (hc:jC X (.builtin id) r) (f:Gl X x) (hm:X.mg x=none) (hv:bootBuiltins x=some (.builtin id)) (ha:PA X (e::es) t) (hn:x≠"__name__":=by decide) (a:(x==("__debug__":Str))=false:=by decide)
  (g:starEach (e::es) X.env=(false,eval e X.env)::starEach es X.env:=by rfl) (b:(backTo pos (starEach es X.env)).any (·.1)=false:=by rfl):PE X (.Call (.Name x p) (e::es) [] pos) (tCB r t):=by
 intro pins s σ H Q I h;refine wpAny_Call_Name_kw (fP I f hm hv ?_ hn a);exact PyProof.Rows.callWith_builtin1 (thn (ha pos pins s σ H _ I h) λus i c=>(by obtain⟨vs,H1,j,l,m⟩:=c;exact hc pins i σ H1 vs us Q j l m)) g b
theorem lq (hc:jC X (.type T) r) (f:Gl X x) (hm:X.mg x=none) (hv:bootBuiltins x=some (.type T)) (ha:PA X (e::es) t) (hn:x≠"__name__":=by decide) (a:(x==("__debug__":Str))=false:=by decide)
  (g:starEach (e::es) X.env=(false,eval e X.env)::starEach es X.env:=by rfl) (b:(backTo pos (starEach es X.env)).any (·.1)=false:=by rfl):PE X (.Call (.Name x p) (e::es) [] pos) (tCB r t):=by
 intro pins s σ H Q I h;refine wpAny_Call_Name_kw (fP I f hm hv ?_ hn a);exact PyProof.Rows.callWith_type1 (thn (ha pos pins s σ H _ I h) λus i c=>(by obtain⟨vs,H1,j,l,m⟩:=c;exact hc pins i σ H1 vs us Q j l m)) g b
end
end L2
variable {xs ys vs:List L2.V} {ws:List (Option L2.V)} {H H' H1 G H0:L2.Hp} {o:L2.HO} {v y:L2.V} {X:L2.Cx} {σ:L2.St} {ta:L2.TA} {CX:L2.CXT} {sp:L2.Sp} {κ:Nat->L2.V->L2.Hp->Prop} {kvs:List (List L2.Key×L2.V)}
namespace HT
open PySem PyProof.Rows
noncomputable def lexLt:List Int->List Int->Bool
 |[],[]=>false
 |[],_::_=>true
 |_::_,[]=>false
 |x::xs,y::ys=>if x=y then lexLt xs ys else decide (x<y)
theorem nZ (x y:Int) (xs ys:List Int):lexLt (x::xs) (y::ys)=if x=y then lexLt xs ys else decide (x<y):=rfl
theorem jA:lexLt [] []=false:=rfl
theorem nY (y:Int) (ys:List Int):lexLt [] (y::ys)=true:=rfl
theorem oQ (x:Int) (xs:List Int):lexLt (x::xs) []=false:=rfl
theorem By (A:Around) (s:Shared) (a:Int) (t:Tok) (c:Int) (u:Tok):∃e,SeqAt.EqAt A s (.int a t) (.int c u) e/\(e=true↔a=c) :=
 ⟨(a==c),SeqAt.EqAt.int_int a t c u,by simp⟩
theorem Bd (A:Around) (s:Shared) (a:Int) (t:Tok) (c:Int) (u:Tok) (prog:Program) (w:World) (E:Value->Shared->Prop) (Q:Value->Shared->Prop) (h:Q (.bool (decide (a<c))) s) :
  wpAny (model prog w) A (richCompare .Lt (.int a t) (.int c u)) Q E s :=
 (PyProof.Rows.lt_int h:wpAny (model prog w) A (compareOp .Lt (.int a t) (.int c u)) Q E s)
section
open PySem.SeqAt
open PySem.AutoSeq1 (wpAny_loadPart')
open PySem.MeetsSeq PySem.MeetsSeq2 PySem.MeetsSeq3
theorem pM (l b:Addr) (items f:Array Value) (n n2:Nat) (dd E:Option Addr) (J F:Array (Option Value)) (ns C:List Int) (hi:IntsAre items.toList ns) (I:IntsAre f.toList C) :
  Meets (Builtin.«tuple.__lt__» ⟨[.ref l,.ref b],[]⟩)
   (λ_ R s=>s.heap.get? l=some { cls:=.type "tuple",dict:=dd,data:=.seq items n,slots:=J }/\s.heap.get? b=some { cls:=.type "tuple",dict:=E,data:=.seq f n2,slots:=F } /\
    R (.ok (.ret (.bool (lexLt ns C)))) s) :=
 .of_wp λprog w A R s h=>by
  obtain⟨D,g,d,tk,os⟩:=s;obtain⟨hl,K,h⟩:=h;have f2:=AutoSeq1.sub_tuple_tuple;have z1:items.size=ns.length:=by rw[<-hi.length];simp
  have z2:f.size=C.length:=by rw[<-I.length];simp
  wp_walk using wpAny_loadPart' hl,wpAny_loadPart' K,wpAny_forIn_list _ (λrest b s'=>b.1=none/\s'=⟨D,g,d,tk,os⟩/\∃(vs ws:List Value) (i j:List Int),rest=vs.zip ws /\
   IntsAre vs i/\IntsAre ws j/\i.length+f.size=j.length+items.size/\R (.ok (.ret (.bool (lexLt i j)))) ⟨D,g,d,tk,os⟩) _
  case turn =>
   rintro⟨y,x⟩ rest b s' ⟨v,rfl,vs,ws,i,j,m,z,o,hlen,p⟩
   cases z with
   |nil=>rw[List.zip_nil_left]at m;cases m
   |cons a t hvi' =>
    cases o with
    |nil=>rw[List.zip_nil_right]at m;cases m
    |cons c u hwi' =>
     rw[Lo]at m;injection m with G B
     injection G with L M
     subst L M;rw[nZ]at p;simp only[Ka]at hlen;obtain⟨e,N,r⟩:=By A.in1 ⟨D,g,d,tk,os⟩ a t c u;refine wpAny_bind (N prog w _ _ ?_);cases e with
     |true =>
      rw[if_pos (r.mp rfl)]at p
      wp_walk
      exact⟨rfl,rfl,_,_,_,_,B,hvi',hwi',by omega,p⟩
     |false =>
      rw[if_neg (λq=>absurd (r.mpr q) Kf)]at p;have H:=Bd A.in1 ⟨D,g,d,tk,os⟩ a t c u prog w
      wp_walk using H
      exact⟨_,rfl,by simpa using p⟩
  case fin =>
   rintro⟨b1,b2⟩ s' ⟨v,rfl,vs,ws,i,j,m,z,o,hlen,p⟩
   simp only at v;subst v;have hv:lexLt i j=decide (items.size<f.size):=by
    cases z with
    |nil =>
     cases o with
     |nil =>simp only[KQ]at hlen;rw[jA];exact (decide_eq_false (by omega)).symm
     |cons c u hw =>simp only[KQ,Ka]at hlen;rw[nY];exact (decide_eq_true (by omega)).symm
    |cons a t hv =>
     cases o with
     |nil =>simp only[KQ,Ka]at hlen;rw[oQ];exact (decide_eq_false (by omega)).symm
     |cons c u hw =>rw[Lo]at m;cases m
   rw[hv]at p
   wp_walk
   exact⟨_,rfl,by simpa[Builtin.Tuple.tupleCompareSizes] using p⟩
  case h =>exact⟨rfl,rfl,items.toList,f.toList,ns,C,rfl,hi,I,by omega,h⟩
end
section
variable {A:Around}
theorem vN {l:Addr} {a:Array Value} {c:List Int} (hl:IsTup s.heap l items) (m:IsTup s.heap b a) (hi:IntsAre items.toList ns) (o:IntsAre a.toList c)
  (p:A.units<cLine) (h:Q (.bool (lexLt ns c)) s):wpAny (model prog w) A (compareOp .Lt (.ref l) (.ref b)) Q E s:=by
 obtain⟨⟨cls,dd,data,q⟩,j,hc,n,hd⟩:=id hl;obtain⟨⟨cls2,g,data2,i⟩,e,f,n2,hd2⟩:=id m;simp only at hc hd f hd2;subst hc hd f hd2;exact richCompare_meets_room (op:=.Lt) ⟨_,j,rfl⟩ ⟨_,e,rfl⟩ PySem.F.slot_tuple_lt PySem.F.entry_tuple_lt (PySem.F.args_tuple_lt_2 _ _) (pM l b items a n n2 dd g q i ns c hi o)
  ⟨j,e,show Value.bool (lexLt ns c)≠Value.notImplemented/\Q (.bool (lexLt ns c)) s from⟨(λx=>nomatch x),h⟩⟩ p
theorem CY {t:Addr} {vs ws:List Value} (j:IsTup s.heap t vs.toArray) (l:IsTup s.heap b ws.toArray) (hv:vs≠[])
  (h1:ws=[]->Q (.ref t) s) (h2:ws≠[]->Q (.ref s.heap.objs.size) { s with heap:=s.heap.push { cls:=.type "tuple",data:=.seq (vs++ws).toArray } })
  (hsz:vs.length+ws.length<=sizeLine):wpAny (model prog w) A (binaryOp .Add (.ref t) (.ref b)) Q E s:=by
 obtain⟨⟨cls,dd,data,i⟩,h,hc,n,hd⟩:=id j;obtain⟨⟨cls2,c,data2,f⟩,a,g,n2,hd2⟩:=id l;simp only at hc hd g hd2;subst hc hd g hd2;have e:vs.toArray++ws.toArray=(vs++ws).toArray:=by simp
 by_cases hw:ws=[]
 ·exact concat_meets ⟨_,h,rfl⟩ ⟨_,a,rfl⟩ noFill_tuple_add seq_tuple_add PySem.F.slot_tuple_add PySem.F.entry_tuple_add (PySem.F.args_tuple_add_2 _ _)
   (tuple_addW1 t b vs.toArray ws.toArray n n2 dd c i f (by simpa using hv) (by simp[hw])) ⟨h,a,h1 hw⟩
 ·refine concat_meets ⟨_,h,rfl⟩ ⟨_,a,rfl⟩ noFill_tuple_add seq_tuple_add PySem.F.slot_tuple_add PySem.F.entry_tuple_add (PySem.F.args_tuple_add_2 _ _)
   (tuple_addW2 t b vs.toArray ws.toArray n n2 dd c i f (by simpa using hv) (by simpa using hw) (by rw[K3,K3];exact hsz)) ⟨h,a,?_⟩
  rw[e];exact h2 hw
noncomputable def sIx (n d:Nat):Option Int->Nat
 |none=>d
 |some v=>if v<0 then (v+(n:Int)).toNat else min v.toNat n
end
end HT
namespace L2
open PySem PySem.Spec PyProof.Rows
variable {a:List Value}
theorem intsAre_of:∀{us:List Value},Vals (ns.map V.int) us->IntsAre us ns:=by
 induction ns with
 |nil=>intro us r;rw[L4]at r;cases r;exact .nil
 |cons n ns ih =>
  intro us r;rw[J5]at r;cases r with
  |cons r1 r2 =>obtain⟨t,e⟩:=r1;subst e;exact .cons n t (ih r2)
section
variable {te:TE} {lo hi:Option Expr} {tl th:TO}
def Jv (K:PySem.W.Frag):R2:=λx y H Q=>∃a b ns c,x=.ref a/\y=.ref b/\SqT K H a (ns.map V.int)/\SqT K H b (c.map V.int)/\Q (.bl (HT.lexLt ns c)) H
theorem Fu (g:X.A.units<cLine):OpR X (compareOp .Lt) (Jv X.K):=by intro pins s σ H x y v u Q I i j h;obtain⟨a,b,ns,f,rfl,rfl,ha,l,q⟩:=h;cases i;cases j;obtain⟨e,m,p1,_⟩:=I.tuple ha;obtain⟨c,n,p2,_⟩:=I.tuple l;have i1:IntsAre e.toArray.toList ns:=intsAre_of m;have i2:IntsAre c.toArray.toList f:=intsAre_of n;exact HT.vN p1 p2 i1 i2 g ⟨.bl (HT.lexLt ns f),H,I,rfl,q⟩
def HZ (K:PySem.W.Frag):R2:=λx y H Q=>∃a b xs ys,x=.ref a/\y=.ref b/\SqT K H a xs/\SqT K H b ys/\xs≠[]/\xs.length+ys.length<=sizeLine /\
 (ys=[]->Q (.ref a) H)/\(ys≠[]->∀p,H p=none->Q (.ref p) (upd H p (.tup (xs++ys))))
theorem Vals.nil_iff (r:Vals xs us):us=[]↔xs=[]:=by
 cases r with
 |nil=>simp
 |cons _ _=>simp
theorem Ei:OpR X (binaryOp .Add) (HZ X.K):=by intro pins s σ H x y v u Q I g i h;obtain⟨a,b,xs,ys,rfl,rfl,ha,j,l,f,m,n⟩:=h;cases g;cases i;obtain⟨its,e,p1,_⟩:=I.tuple ha;obtain⟨its2,c,p2,_⟩:=I.tuple j;refine HT.CY p1 p2 (λz=>l (e.nil_iff.mp z)) (λz=>⟨.ref a,H,I,rfl,m (c.nil_iff.mp z)⟩) (λz=>?_) (by rw[<-e.length,<-c.length];exact f);refine⟨.ref s.heap.objs.size,_,I.laid (t':=s.toks) (o:=.tup (xs++ys)) (λb ob q=>J1 _ q) (JU _) ?_,rfl,n (λw=>z (c.nil_iff.mpr w)) _ (I.hok.fresh (JU _))⟩;exact⟨by rw[K0];exact f,_,e.append c,sT.new _ _⟩
end
def ixN (n:Nat) (i:Int):Option Nat:=if 0<=i then (if i<n then some i.toNat else none) else if -(n:Int)<=i then some (i+n).toNat else none
def atI {α:Type} (xs:List α) (i:Int):Option α:=(ixN xs.length i).bind λj=>xs[j]?
theorem rJ {i:Int} (h:ixN n i=some j):seqIndex? i n=some j/\j<n/\-(n:Int)<=i/\i<n:=by
 unfold ixN at h;by_cases h0:0<=i
 ·rw[if_pos h0]at h;by_cases h1:i<n
  ·rw[if_pos h1]at h;have e:i.toNat=j:=Option.some.inj h;exact⟨by rw[seqIndex_of h0 h1,e],by omega,by omega,h1⟩
  ·rw[if_neg h1]at h;cases h
 ·rw[if_neg h0]at h;by_cases h1:-(n:Int)<=i
  ·rw[if_pos h1]at h;have e:(i+n).toNat=j:=Option.some.inj h;exact⟨by rw[seqIndex_neg (by omega) h1,e],by omega,h1,by omega⟩
  ·rw[if_neg h1]at h;cases h
theorem xm {xs:List α} {i:Int} {v:α} (h:atI xs i=some v):∃j,seqIndex? i xs.length=some j/\xs[j]?=some v/\j<xs.length/\-(xs.length:Int)<=i/\i<xs.length:=by
 unfold atI at h;cases e:ixN xs.length i with
 |none=>rw[e]at h;cases h
 |some j =>rw[e]at h;obtain⟨h1,h2,a,b⟩:=rJ e;exact⟨j,h1,h,h2,a,b⟩
theorem mT {xs:List α} {v:α} (h:xs[j]?=some v):atI xs (j:Int)=some v:=by
 have hj:j<xs.length:=(K5.mp h).1;have e:ixN xs.length (j:Int)=some j:=by unfold ixN;rw[if_pos (by omega),if_pos (by omega)];simp
 unfold atI;rw[e];exact h
def sJ (b:Expr):Prop:=∀o i,subscripted b false o i=operate [o,i] (getItem o i)
def IxR (X:Cx) (r:R2):Prop :=
 ∀(value slice:Expr) (pins:List (Addr×Obj)) (s:Shared) (σ:St) (H:Hp) (x y:V) (v u:Value) (Q:VK),Inv X pins σ H s->RelV x v->RelV y u->r x y H Q ->
  subscripted slice false v u=operate [v,u] (getItem v u)->wpAny (model X.prog X.w) X.A (subscriptTail value slice v u) (EP X pins σ Q) X.xe s
def MtR (X:Cx) (id:String) (r:V->List V->Hp->VK->Prop):Prop :=
 ∀(pins:List (Addr×Obj)) (s:Shared) (σ:St) (H:Hp) (x:V) (xs:List V) (v:Value) (us:List Value) (Q:VK),Inv X pins σ H s->RelV x v->Vals xs us->r x xs H Q ->
  wpAny (model X.prog X.w) X.A (call (.builtin id) (v::us)) (EP X pins σ Q) X.xe s
section
variable {a b:Expr} {ta tb:TE}
theorem IxR.or {r a:R2} (h:IxR X r) (h':IxR X a):IxR X (λx y H Q=>r x y H Q\/a x y H Q):=by
 intro value slice pins s σ H x y v u Q I b c q e;rcases q with q|q
 ·exact h value slice pins s σ H x y v u Q I b c q e
 ·exact h' value slice pins s σ H x y v u Q I b c q e
theorem wF {r:R2} (c:IxR X r) (ha:PE X a ta) (e:PE X b tb) (f:sJ b):PE X (.Subscript a b pos) (tOp r ta tb):=by intro pins s σ H Q I h;exact Subscript_ (FR ha e I h λv u s2 x y H2 g i j q=>c a b pins s2 σ H2 x y v u Q g i j q (f _ _))
def Iz (K:PySem.W.Frag):R2:=λx y H Q=>∃p xs i v,x=.ref p/\y=.int i/\SqL K H p xs/\atI xs i=some v/\Q v H
def Hw (K:PySem.W.Frag):R2:=λx y H Q=>∃p xs i v,x=.ref p/\y=.int i/\SqT K H p xs/\atI xs i=some v/\Q v H
theorem mZ:IxR X (Iz X.K):=by
 intro value slice pins s σ H x y v u Q I g l h e;obtain⟨p,xs,i,z,rfl,rfl,m,n,q⟩:=h;cases g;obtain⟨t,rfl⟩:=l;obtain⟨a,r,pl,hz⟩:=I.list m;obtain⟨j,h1,h2,h3,o,A⟩:=xm n;obtain⟨w,f,b⟩:=r.get h2;have hl:=r.length;have hn:=rN;have fin:EP X pins σ Q w s:=⟨z,H,I,b,q⟩
 by_cases h0:0<=i
 ·have c:i.toNat=j:=by rw[seqIndex_of h0 A]at h1;exact Option.some.inj h1
  exact item_listR pl.isList h0 (by omega) (by rw[c];simpa using f) fin e
 ·have c:(i+(a.toArray.size:Int)).toNat=j:=by rw[seqIndex_neg (by omega) o]at h1;rw[K3,<-hl];exact Option.some.inj h1
  exact subscriptTail_builtinR (x:=w) pl.isList.typeIs slot_list_getitem.lookup
   (wpAny_getItem_list_neg (Q:=λr s'=>r=w/\EP X pins σ Q r s') pl.isList (by omega) (by rw[K3] <;> omega) (by omega) (by rw[c];simpa using f) ⟨rfl,fin⟩) e
theorem E7:IxR X (Hw X.K):=by
 intro value slice pins s σ H x y v u Q I b c h e;obtain⟨p,xs,i,z,rfl,rfl,f,g,q⟩:=h;cases b;obtain⟨t,rfl⟩:=c;obtain⟨its,r,pl,hz⟩:=I.tuple f;obtain⟨j,h1,h2,h3,h4,h5⟩:=xm g;obtain⟨w,l,a⟩:=r.get h2;have hl:=r.length;have hn:=rN;have fin:EP X pins σ Q w s:=⟨z,H,I,a,q⟩
 exact subscriptTail_builtinR (x:=w) pl.typeIs slot_tuple_getitem.lookup
  (getItem_tuple (j:=j) (Q:=λr s'=>r=w/\EP X pins σ Q r s') pl (by omega) (by omega) (by rw[K3,<-hl];exact h1) (by simpa using l) ⟨rfl,fin⟩) e
theorem wo (a:List Value) (n j:Nat) (u:Value):Obj.mapSeq (·.setIfInBounds j u) { cls:=.type "list",data:=.seq a.toArray n }={ cls:=.type "list",data:=.seq (a.set j u).toArray n }:=by simp[Obj.mapSeq]
theorem Inv.lst {p:Addr} (I:Inv X pins σ H s) (h:H p=some (.lst xs)) :
  ∃(a:List Value) (n:Nat),Vals xs a/\s.heap.get? p=some { cls:=.type "list",data:=.seq a.toArray n }/\xs.length<=sizeLine:=by
 obtain⟨z,a,n,r,e⟩:=I.hok p _ h;exact⟨a,n,r,e,z⟩
theorem Inv.lstUpd {p:Addr} {a:List Value} {n':Nat} {f:Obj->Obj} (I:Inv X pins σ H s) (h:H p=some (.lst xs))
  (g:s.heap.get? p=some { cls:=.type "list",data:=.seq a.toArray n }) (c:f { cls:=.type "list",data:=.seq a.toArray n }={ cls:=.type "list",data:=.seq its'.toArray n' }) (r:Vals ys its') (i:ys.length<=sizeLine) (t:Nat) :
  Inv X pins σ (upd H p (.lst ys)) { s with heap:=s.heap.update p f,toks:=t }:=by
 have e:(s.heap.update p f).get? p=some { cls:=.type "list",data:=.seq its'.toArray n' }:=by rw[Heap.get?_update_self f g (by rw[c] <;> rfl),c]
 refine I.write (x:=p) (e:=p) (by rw[h];trivial) (.inl rfl) (λb u j q=>(Lz _ _ (Ne.symm j)).trans q) ⟨_,e⟩ ?_;exact⟨i,its',n',r,e⟩
def Ib:V->V->V->Hp->(Hp->Prop)->Prop:=λo i v H Q=>∃p xs k j,o=.ref p/\i=.int k/\H p=some (.lst xs)/\ixN xs.length k=some j/\Q (upd H p (.lst (xs.set j v)))
theorem set_list:Il X Ib:=by
 intro pins s σ H o i v ov iv u Q I m w x h;obtain⟨p,xs,k,j,rfl,rfl,e,y,q⟩:=h;cases m;obtain⟨t,rfl⟩:=w;obtain⟨a,n,r,b,z⟩:=I.lst e;obtain⟨h1,h2,f,g⟩:=rJ y;have hl:=r.length;have hn:=rN;have l:Inv X pins σ (upd H p (.lst (xs.set j v))) { s with heap:=s.heap.update p (Obj.mapSeq (·.setIfInBounds j u)) } :=
  I.lstUpd e b (wo a n j u) (r.set x j) (by rw[List.length_set];exact z) s.toks
 by_cases h0:0<=k
 ·have c:k.toNat=j:=by rw[seqIndex_of h0 g]at h1;exact Option.some.inj h1
  exact PySem.W.ki_setAt b h0 (by omega) (by rw[K3,<-hl];exact g) (by rw[c];exact⟨_,l,q⟩)
 ·have c:(k+(a.toArray.size:Int)).toNat=j:=by rw[seqIndex_neg (by omega) f]at h1;rw[K3,<-hl];exact Option.some.inj h1
  exact PySem.W.ki_setBack b (by omega) (by rw[K3,<-hl];exact f) (by omega) (by rw[c];exact⟨_,l,q⟩)
def iJ:V->Bool
 |.non=>true
 |.bl _=>true
 |.int _=>true
 |.str _=>true
 |_=>false
noncomputable def eqV:V->V->Bool
 |.non,.non=>true
 |.bl a,.bl b=>a==b
 |.bl a,.int b=>(if a then 1 else 0)==b
 |.int a,.bl b=>a==(if b then 1 else 0)
 |.int a,.int b=>a==b
 |.str a,.str b=>a==b
 |_,_=>false
theorem GH {A:Around} {x:V} {v:Value} (e:RelV y u) (c:RelV x v) (g:iJ y=true) (f:iJ x=true):SeqAt.EqAt A s u v (eqV y x):=by
 cases y with
 |non =>
  cases e;cases x with
  |non=>cases c;exact SeqAt.EqAt.same _
  |bl b=>cases c;exact SeqAt.EqAt.none_bool b
  |int b=>obtain⟨t,rfl⟩:=c;exact SeqAt.EqAt.none_int b t
  |str b=>obtain⟨t,rfl⟩:=c;exact SeqAt.EqAt.none_str b t
  |_=>exact absurd (show false=true from f) Kf
 |bl a =>
  cases e;cases x with
  |non=>cases c;exact SeqAt.EqAt.bool_none a
  |bl b=>cases c;exact SeqAt.EqAt.bool_bool a b
  |int b=>obtain⟨t,rfl⟩:=c;exact SeqAt.EqAt.bool_int a b t
  |str b=>obtain⟨t,rfl⟩:=c;exact SeqAt.EqAt.bool_str a b t
  |_=>exact absurd (show false=true from f) Kf
 |int a =>
  obtain⟨t',rfl⟩:=e;cases x with
  |non=>cases c;exact SeqAt.EqAt.int_none a t'
  |bl b=>cases c;exact SeqAt.EqAt.int_bool a t' b
  |int b=>obtain⟨t,rfl⟩:=c;exact SeqAt.EqAt.int_int a t' b t
  |str b=>obtain⟨t,rfl⟩:=c;exact SeqAt.EqAt.int_str a t' b t
  |_=>exact absurd (show false=true from f) Kf
 |str a =>
  obtain⟨t',rfl⟩:=e;cases x with
  |non=>cases c;exact SeqAt.EqAt.str_none a t'
  |bl b=>cases c;exact SeqAt.EqAt.str_bool a t' b
  |int b=>obtain⟨t,rfl⟩:=c;exact SeqAt.EqAt.str_int a t' b t
  |str b=>obtain⟨t,rfl⟩:=c;exact SeqAt.EqAt.str_str a t' b t
  |_=>exact absurd (show false=true from f) Kf
 |_=>exact absurd (show false=true from g) Kf
def eqU (x:V) (u:Value):Bool:=match u with
 |.none=>eqV .non x
 |.bool b=>eqV (.bl b) x
 |.int i _=>eqV (.int i) x
 |.str z _=>eqV (.str z) x
 |_=>false
theorem vE {x:V} (r:RelV y u) (f:iJ y=true):eqU x u=eqV y x:=by
 cases y with
 |non=>cases r;rfl
 |bl b=>cases r;rfl
 |int i=>obtain⟨t,rfl⟩:=r;rfl
 |str z=>obtain⟨t,rfl⟩:=r;rfl
 |_=>exact absurd (show false=true from f) Kf
theorem rp {x:V}:∀{xs:List V} {us:List Value},Vals xs us->xs.all iJ=true->us.any (eqU x)=xs.any λy=>eqV y x
 |_,_,.nil,_=>rfl
 |y::xs,u::us,.cons r t,f=>by rw[Lc,JZ]at f;rw[L0,L0,vE r f.1,rp t f.2]
theorem kK {A:Around} {s:Shared} {x:V} {v:Value} (b:RelV x v) (c:iJ x=true):∀{xs:List V} {us:List Value},Vals xs us->xs.all iJ=true->∀u∈us,SeqAt.EqAt A s u v (eqU x u)
 |_,_,.nil,_=>λu a=>by cases a
 |y::xs,u::us,.cons r t,f=>λe a=>by
  rw[Lc,JZ]at f;rcases J7.mp a with rfl|a
  ·rw[vE r f.1];exact GH r b f.1 c
  ·exact kK b c t f.2 e a
def inV (x:V) (xs:List V):Bool:=xs.any λy=>eqV y x
def rIn (K:PySem.W.Frag) (neg:Bool):R2:=λx y H Q=>∃p xs,y=.ref p/\(SqL K H p xs\/SqT K H p xs)/\iJ x=true/\xs.all iJ=true/\Q (.bl (if neg then !inV x xs else inV x xs)) H
theorem yj:OpR X (compareOp .In) (rIn X.K false):=by
 intro pins s σ H x y v u Q I c f h;obtain⟨p,xs,rfl,b,e,fs,q⟩:=h;cases f;rcases b with b|b
 ·obtain⟨a,r,pl,g⟩:=I.list b;refine SeqAt.in_listAt (eqU x) pl.isList (λw hw=>kK c e r fs w (by simpa using hw)) ⟨.bl _,H,I,rfl,?_⟩;rw[show a.toArray.any (eqU x)=a.any (eqU x) by simp,rp r fs];exact q
 ·obtain⟨a,r,pl,g⟩:=I.tuple b;refine SeqAt.in_tupleAt (eqU x) pl (λw hw=>kK c e r fs w (by simpa using hw)) ⟨.bl _,H,I,rfl,?_⟩;rw[show a.toArray.any (eqU x)=a.any (eqU x) by simp,rp r fs];exact q
theorem iz:jC X (.builtin "len") (λxs H Q=>∃p ys,xs=[.ref p]/\(SqL X.K H p ys\/SqT X.K H p ys)/\Q (.int ys.length) H):=by
 intro pins s σ H xs us Q I r h;obtain⟨p,ys,rfl,a,q⟩:=h;obtain⟨u,rfl,e⟩:=vals1 r;cases e;have hn:=rN;rcases a with a|a
 ·obtain⟨b,c,pl,f⟩:=I.list a;have hlen:=c.length;exact Calls.call_len_list pl.isList (by simp only[K3] <;> omega) ⟨.int ys.length,H,I.tok _,⟨s.toks+1,by rw[K3,hlen]⟩,q⟩
 ·obtain⟨b,c,pl,f⟩:=I.tuple a;have hlen:=c.length;exact len_tuple pl (by simp only[K3] <;> omega) ⟨.int ys.length,H,I.tok _,⟨s.toks+1,by rw[K3,hlen]⟩,q⟩
theorem sv:jC X (.type "list") (λxs H Q=>∃p ys,xs=[.ref p]/\(SqL X.K H p ys\/SqT X.K H p ys)/\∀l,H l=none->Q (.ref l) (upd H l (.lst ys))):=by
 intro pins s σ H xs us Q I r h;obtain⟨p,ys,rfl,f,q⟩:=h;obtain⟨u,rfl,j⟩:=vals1 r;cases j;have fin:∀(a:List Value),Vals ys a->ys.length<=sizeLine->∀(h':Heap) (c':Nat),(∀b o',s.heap.get? b=some o'->h'.get? b=some o') ->
   h'.get? s.heap.objs.size=some { cls:=.type "list",dict:=none,data:=.seq a.toArray c',slots:=#[] }->EP X pins σ Q (.ref s.heap.objs.size) { s with heap:=h' }:=λa c g h' c' kp e =>
  ⟨.ref s.heap.objs.size,_,I.laid (t':=s.toks) kp (JU _) (show cE X.prog X.w _ h' _ (.lst ys) from⟨g,a,c',c,e⟩),rfl,q _ (I.hok.fresh (JU _))⟩
 rcases f with f|f
 ·obtain⟨a,c,pl,g⟩:=I.list f;have hlen:=c.length;obtain⟨o,i,hc,n,hd⟩:=pl.isList;exact call_list_seq p (.inl rfl) i hc hd (λh' c' kp e=>fin a c g h' c' kp e) (by simp only[K3] <;> omega)
 ·obtain⟨a,c,pl,g⟩:=I.tuple f;have hlen:=c.length;obtain⟨o,i,hc,n,hd⟩:=pl;exact call_list_seq p (.inr rfl) i hc hd (λh' c' kp e=>fin a c g h' c' kp e) (by simp only[K3] <;> omega)
theorem pT:jC X (.type "tuple") (λxs H Q=>∃p ys,xs=[.ref p]/\((SqL X.K H p ys/\∀l,H l=none->Q (.ref l) (upd H l (.tup ys)))\/(SqT X.K H p ys/\Q (.ref p) H))):=by
 intro pins s σ H xs us Q I r h;obtain⟨p,ys,rfl,h⟩:=h;obtain⟨u,rfl,j⟩:=vals1 r;cases j;rcases h with⟨c,q⟩|⟨c,q⟩
 ·obtain⟨a,f,pl,g⟩:=I.list c;have hlen:=f.length;refine call_tuple_list pl.isList (λh' kp=>?_) (by simp only[K3] <;> omega);have i:Inv X pins σ H { s with heap:=h' }:=I.kept (t':=s.toks) kp;have m:Inv X pins σ (upd H h'.objs.size (.tup ys)) { s with heap:=h'.push { cls:=.type "tuple",data:=.seq a.toArray } } :=
   i.laid (t':=s.toks) (λb o e=>J1 _ e) (JU _) (show cE X.prog X.w _ _ _ (.tup ys) from⟨g,a,f,sT.new _ _⟩)
  exact⟨.ref h'.objs.size,_,m,rfl,q _ (i.hok.fresh (JU _))⟩
 ·obtain⟨a,f,pl,g⟩:=I.tuple c;exact call_tuple_same pl ⟨.ref p,H,I,rfl,q⟩
def tyV (K:PySem.W.Frag) (T:String) (x:V) (H:Hp):Prop:=match x with
 |.str _=>T="str"
 |.int _=>T="int"
 |.ref p=>(T="list"/\∃xs,SqL K H p xs)\/(T="tuple"/\∃o,K.lookup p=some o/\o.cls=.type "tuple"/\o.dict=none) \/
  (T="dict"/\((∃kvs,H p=some (.dK kvs))\/∃kvs,H p=some (.dT kvs)))\/(T="set"/\∃S n,H p=some (.set S n))
 |_=>False
theorem FO {T:String} {x:V} {v:Value} (I:Inv X pins σ H s) (r:RelV x v) (ty:tyV X.K T x H) :
  s.TypeIs v T/\∀a,v=.ref a->∃f,s.heap.get? a=some f/\f.dict=none:=by
 cases x with
 |str z =>obtain⟨t,rfl⟩:=r;cases (show T="str" from ty);exact⟨typeIs_str s z t,λ_ e=>nomatch e⟩
 |int i =>obtain⟨t,rfl⟩:=r;cases (show T="int" from ty);exact⟨typeIs_int s i t,λ_ e=>nomatch e⟩
 |ref p =>
  cases r;rcases ty with⟨rfl,xs,g⟩|⟨rfl,o,b,hc,hd⟩|⟨rfl,b⟩|⟨rfl,S,n,b⟩
  ·obtain⟨its,_,pl,_⟩:=I.list g;refine⟨pl.isList.typeIs,λa e=>?_⟩;cases e;obtain⟨o,n,e,c,hd,_⟩:=pl;exact⟨o,e,hd⟩
  ·refine⟨⟨o,I.kIn p o b,hc⟩,λa e=>?_⟩;cases e;exact⟨o,I.kIn _ o b,hd⟩
  ·have z:∃o,s.heap.get? p=some o/\o.ExactDict:=by
    rcases b with⟨kvs,b⟩|⟨kvs,b⟩
    ·obtain⟨_,_,_,_,o,_,_,e,ex,_⟩:=I.hok p _ b;exact⟨o,e,ex⟩
    ·obtain⟨_,_,_,_,o,_,_,e,ex,_⟩:=I.hok p _ b;exact⟨o,e,ex⟩
   obtain⟨o,e,ex⟩:=z;refine⟨⟨o,e,ex.1⟩,λa e2=>?_⟩;cases e2;exact⟨o,e,ex.2.1⟩
  ·obtain⟨o,_,_,_,e,ex,_⟩:=I.hok p _ b;refine⟨⟨o,e,ex.1⟩,λa e2=>?_⟩;cases e2;exact⟨o,e,ex.2.1⟩
 |_=>exact False.elim ty
def tBM (K:PySem.W.Frag) (T:String) (r:V->List V->Hp->VK->Prop) (to:TE) (t:TA):TE:=λσ H Q=>to σ H λx H1=>tyV K T x H1/\t σ H1 λxs H2=>r x xs H2 Q
variable {o:Expr} {es:List Expr} {to:TE} {t:TA} {name:Str} {apos:Pos} {T id:String} {r:V->List V->Hp->VK->Prop}
theorem zG (p:PlainAttrs T) (slot:Slot T name id) (g:typeOf (.builtin id)=pure (.type "method_descriptor")) (hm:MtR X id r) (q:PE X o to) (ha:PA X (e::es) t)
  (b:attributeBase o name X.env (eval o X.env)=eval o X.env:=by rfl)
  (f:((backTo cpos (starEach (e::es) X.env)).all (λx=>!x.1)&&(backToKw cpos (keywordEach [] X.env)).all (λx=>x.1.isSome)
  &&decide ((e::es).length+([]:List Keyword).length+(if ([]:List Keyword).isEmpty then 0 else 1)<30))=true:=by rfl)
  (c:(apos.endLine==cpos.line)=true:=by rfl) (u:starEach (e::es) X.env=(false,eval e X.env)::starEach es X.env:=by rfl) (a:(backTo cpos (starEach es X.env)).any (·.1)=false:=by rfl) :
  PE X (.Call (.Attribute o name apos) (e::es) [] cpos) (tBM X.K T r to t):=by
 intro pins s σ H Q I h;refine wpAny_Call_method_late b f c rfl (thn (q pins s σ H _ I h) λv w i=>?_);obtain⟨x,H1,l,m,ty,y⟩:=i;obtain⟨h1,h2⟩:=FO l m ty;refine⟨T,id,p,slot,g,h1,h2,?_⟩;have n:=ha cpos pins w σ H1 _ l y;rw[u]at n ⊢;refine Calls.callWith_builtin (by show (false||(backTo cpos (starEach es X.env)).any (·.1))=false;rw[a] <;> rfl) (Calls.evalArgs_plain ?_);exact thn n λus s2 j=>(by obtain⟨vs,H2,z,A,B⟩:=j;exact hm pins s2 σ H2 x vs v us Q z m A B)
end
def MtM (X:Cx) (id:String) (r:V->List V->Hp->VK->Prop):Prop :=
 ∀(pins:List (Addr×Obj)) (s:Shared) (σ:St) (H:Hp) (x:V) (xs:List V) (v:Value) (us:List Value) (Q:VK),Inv X pins σ H s->RelV x v->Vals xs us->r x xs H Q ->
  wpAny (model X.prog X.w) X.A (call (.builtin id) (v::us)) (EP X pins σ Q) X.xe s
theorem Vals.one {x:V} (h:Vals [x] us):∃u,us=[u]/\RelV x u:=by
 cases h with
 |cons r t=>cases t;exact⟨_,rfl,r⟩
theorem Vals.eraseIdx:∀{xs:List V} {us:List Value} (i:Nat),Vals xs us->Vals (xs.eraseIdx i) (us.eraseIdx i)
 |_,_,_,.nil=>.nil
 |_,_,0,.cons _ t=>t
 |_,_,i+1,.cons r t=>.cons r (Vals.eraseIdx i t)
theorem Vals.rep {xs:List V} {us:List Value} (h:Vals xs us):∀k:Nat,Vals (List.replicate k xs).flatten (List.replicate k us).flatten
 |0=>.nil
 |k+1=>by rw[KJ,KJ,L1,L1];exact Vals.append h (Vals.rep h k)
theorem qN {α:Type}:∀(l:List α) (i:Nat),(l.eraseIdx i).length<=l.length
 |[],_=>JU _
 |_::_,0=>Lg _
 |_::r,i+1=>Nat.succ_le_succ (qN r i)
theorem foldl_rep (a:List Value):∀(k:Nat) (acc:List Value),
  List.foldl (λx1 x2=>x1++x2) acc.toArray (List.replicate k a.toArray)=(acc++(List.replicate k a).flatten).toArray
 |0,acc=>by simp
 |k+1,acc=>by
  have e:acc.toArray++a.toArray=(acc++a).toArray:=by simp
  have e2:(acc++a)++(List.replicate k a).flatten=acc++(List.replicate (k+1) a).flatten:=by rw[KJ,L1,LL]
  rw[<-e2,<-foldl_rep a k (acc++a),<-e,KJ,List.foldl_cons]
section
variable {l:Addr} {zs:List V}
theorem Inv.lset {f:Array Value->Array Value} {t':Nat} (I:Inv X pins σ H s) (b:H l=some (.lst xs))
  (e:s.heap.get? l=some { cls:=.type "list",data:=.seq a.toArray n }) (c:f a.toArray=its'.toArray) (hv:Vals ys its') (g:ys.length<=sizeLine) :
  Inv X pins σ (upd H l (.lst ys)) { s with heap:=s.heap.update l (Obj.mapSeq f),toks:=t' }:=by
 have q:=PySem.IsL.update e f;rw[c]at q;refine I.write (x:=l) (e:=l) (by rw[b];exact trivial) (.inl rfl) (λb' u h i=>(Lz s.heap (Obj.mapSeq f) (Ne.symm h)).trans i) ⟨_,q⟩ ?_;exact⟨g,its',_,hv,q⟩
theorem Inv.lnew {t':Nat} (I:Inv X pins σ H s) (hv:Vals ys a) (b:ys.length<=sizeLine) :
  Inv X pins σ (upd H s.heap.objs.size (.lst ys)) { s with heap:=s.heap.push { cls:=.type "list",data:=.seq a.toArray },toks:=t' } :=
 I.laid (λ_ _ q=>J1 _ q) (JU _) ⟨b,a,0,hv,K2 _ rfl⟩
theorem Inv.fresh (I:Inv X pins σ H s):H s.heap.objs.size=none:=I.hok.fresh (JU _)
theorem Inv.lstM (I:Inv X pins σ H s) (b:H l=some (.lst xs)):xs.length<=sizeLine/\∃(a:List Value) (n:Nat),Vals xs a/\xs.length=a.length/\s.heap.get? l=some { cls:=.type "list",data:=.seq a.toArray n }:=by obtain⟨z,a,n,r,e⟩:=I.hok l _ b;exact⟨z,a,n,r,r.length,e⟩
theorem Bz (h:n<=sizeLine):Builtin.List.listTooLong n=false:=by unfold Builtin.List.listTooLong;exact decide_eq_false (by omega)
end
section
def EH:V->List V->Hp->VK->Prop:=λx vs H Q=>∃l xs y,x=.ref l/\vs=[y]/\H l=some (.lst xs)/\xs.length<sizeLine/\Q .non (upd H l (.lst (xs++[y])))
theorem lX:MtM X "list.append" EH:=by intro pins s σ H x vs v us Q I c f h;obtain⟨l,xs,y,rfl,rfl,b,hz,q⟩:=h;cases c;obtain⟨u,rfl,g⟩:=f.one;obtain⟨z,a,n,r,hl,e⟩:=I.lstM b;refine call_meets F.slot_list_append ⟨_,e,rfl⟩ F.entry_list_append (F.args_list_append_2 _ _) (PySem.list_append l a.toArray n u (by rw[K3];omega)) ⟨e,?_⟩;refine⟨.non,_,I.lset (its':=a++[u]) b e (by simp) (r.append (.cons g .nil)) ?_,rfl,q⟩;rw[K0,Kv];omega
def Gj:V->List V->Hp->VK->Prop:=λx vs H Q=>∃l xs i k y,x=.ref l/\vs=[.int i]/\H l=some (.lst xs)/\-(2 ^ 63)<=i/\i<2 ^ 63/\seqIndex? i xs.length=some k/\xs[k]?=some y/\Q y (upd H l (.lst (xs.eraseIdx k)))
theorem zH:MtM X "list.pop" Gj:=by
 intro pins s σ H x vs v us Q I f g h;obtain⟨l,xs,i,k,y,rfl,rfl,c,h1,h2,j,m,q⟩:=h;cases f;obtain⟨u,rfl,o⟩:=g.one;obtain⟨t,rfl⟩:=o;obtain⟨z,a,n,r,hl,e⟩:=I.lstM c;obtain⟨w,hw,b⟩:=r.get m;refine call_meets F.slot_list_pop ⟨_,e,rfl⟩ F.entry_list_pop (F.args_list_pop_2 _ _)
  (MeetsSeq.list_pop_at l a.toArray n i t k w (fitsIndex_both h1 h2) (by rw[K3,<-hl];exact j) (by rw[<-LC];exact hw) (by rw[K3];omega)) ⟨e,?_⟩
 refine⟨y,_,I.lset (its':=a.eraseIdx k) c e ?_ (r.eraseIdx k) ?_,b,q⟩
 ·show a.toArray.eraseIdxIfInBounds k=(a.eraseIdx k).toArray;rw[List.eraseIdxIfInBounds_toArray]
 ·have:=qN xs k;omega
def IV:R2:=λx y H Q=>∃l b xs zs,x=.ref l/\y=.ref b/\H l=some (.lst xs)/\H b=some (.lst zs)/\xs.length+zs.length<=sizeLine/\∀p,H p=none->Q (.ref p) (upd H p (.lst (xs++zs)))
theorem Fq:OpR X (binaryOp .Add) IV:=by
 intro pins s σ H x y v u Q I f g h;obtain⟨l,b,xs,zs,rfl,rfl,i,hB,hz,q⟩:=h;cases f;cases g;obtain⟨z,c,n,r,hl,e⟩:=I.lstM i;obtain⟨z2,a,n2,j,hl2,e2⟩:=I.lstM hB;refine PySem.P.add_list e e2 ?_ (by rw[K3,K3];omega);have ea:c.toArray++a.toArray=(c++a).toArray:=by simp
 rw[ea];exact⟨.ref _,_,I.lnew (t':=s.toks) (r.append j) (by rw[K0];omega),rfl,q _ I.fresh⟩
def HS:R2:=λx y H Q=>∃l k xs,x=.ref l/\y=.int k/\H l=some (.lst xs)/\-(2 ^ 63)<=k/\k<2 ^ 63/\xs.length*k.toNat<=sizeLine /\
 ∀p,H p=none->Q (.ref p) (upd H p (.lst (List.replicate k.toNat xs).flatten))
theorem len_rep (xs:List α) (k:Nat):(List.replicate k xs).flatten.length=k*xs.length:=by
 induction k with
 |zero=>simp
 |succ k ih=>rw[KJ,L1,K0,ih,Nat.succ_mul,Nat.add_comm]
theorem F0:OpR X (binaryOp .Mult) HS:=by
 intro pins s σ H x y v u Q I o p h;obtain⟨l,k,xs,rfl,rfl,w,h1,h2,j,q⟩:=h;cases o;obtain⟨t,rfl⟩:=p;obtain⟨z,b,n,r,hl,e⟩:=I.lstM w;have hlen:b.toArray.size*k.toNat<=sizeLine:=by rw[K3,<-hl];exact j
 have f:¬ b.toArray.size*k.toNat>(2 ^ 63-1) / 8:=by
  have:(sizeLine:Nat)<=(2 ^ 63-1) / 8:=by decide
  omega
 have g:¬ (!Builtin.List.listFitsIndex k)=true:=by rw[fitsIndex_both h1 h2];exact Kf
 have c:¬ Builtin.List.listTooLong (b.toArray.size*k.toNat)=true:=by rw[Bz hlen];exact Kf
 have i:List.foldl (λx1 x2=>x1++x2) #[] (List.replicate (if b.toArray.isEmpty=true then 0 else k.toNat) b.toArray)=(List.replicate k.toNat b).flatten.toArray:=by
  have A:∀m:Nat,List.foldl (λx1 x2=>x1++x2) #[] (List.replicate m b.toArray)=(List.replicate m b).flatten.toArray:=λm=>by have:=foldl_rep b m [];rw[Kt]at this;exact this
  rw[A];cases b with
  |nil=>simp
  |cons a r'=>rw[if_neg (by simp)]
 refine wpAny_binaryOp_repeat_ref (T:="list") (U:="int") (by decide) ⟨_,e,rfl⟩ (λs'=>typeIs_int s' k t) noFill_list_mul F.fills_int_mul F.slot_int_rmul repeat_list F.slot_int_index.lookup
  (call_meets F.slot_int_rmul (typeIs_int s k t) F.entry_int_rmul (F.args_int_rmul_2 _ _) (int___rmul___int_list k t l b.toArray n)
   ⟨e,rfl,⟨_,e,rfl⟩,call_meets F.slot_list_mul ⟨_,e,rfl⟩ F.entry_list_mul (F.args_list_mul_2 _ _) (AutoListH.list___mul___list_int_3 l b.toArray n k t g f c) ⟨e,?_⟩⟩)
 rw[i];exact⟨.ref _,_,I.lnew (t':=s.toks) (r.rep k.toNat) (by rw[len_rep,Nat.mul_comm];exact j),rfl,q _ I.fresh⟩
end
section
variable {A:Around}
end
section
end
end L2
namespace Att
open PySem PySem.W PySem.Calls PyProof.Rows
theorem mJ {P:Params}:∀(ns:List Int) (vs:List Value),WellAll P h vs (ns.map WData.int)->IntsAre vs ns:=by
 intro ns
 induction ns with
 |nil =>intro vs w;rw[L4]at w;cases w;exact .nil
 |cons n ns ih =>
  intro vs w;rw[J5]at w;cases w with
  |cons a b =>cases a;exact .cons _ _ (ih _ b)
theorem yr {l:OpenLaw} (hn:l.most=some n) {P:Params} {args:List WData} {vals:List Value}
  (b:l.row.toRowW.claim.pre args=true) (f:WellAll P h vals args) :
  ∃a vs ns,vals=[Value.ref a]/\args=[WData.list (ns.map WData.int)]/\h.get? a=some { cls:=.type "list",data:=.seq vs.toArray }/\IntsAre vs ns/\ns.length<=n:=by
 have g:WShape.hasAll [] args [.list .int]=true:=(pre_splitW b).1;have hc:l.pre.holds [] { args:=args }=true:=(pre_splitW b).2;obtain⟨d,r,rfl,h1,h2⟩:=hasAllW_cons g;obtain rfl:=hasAllW_nil h2;obtain⟨xs,rfl,i⟩:=hasW_list h1;obtain⟨ns,rfl⟩:=items_int i;have hlen:ns.length<=n:=by
  unfold OpenLaw.pre at hc;have c:(WTm.not (.lt (.lit (.int (n:Int))) (.len (.arg 0)))).holds [] { args:=[.list (ns.map .int)] }=true:=by have c:=(holds_andW hc).1;rw[hn]at c;exact c
  have e:=condW_of c (w_not (w_lt w_lit (w_len_list (w_arg rfl))));rw[J6]at e;refine Nat.le_of_not_lt λq=>?_
  have j:(n:Int)<((ns.length:Nat):Int):=by omega
  first
   |(rw[decide_eq_true j]at e;exact absurd e (by decide))
   |(simp at e;omega)
 cases f with
 |cons w1 w2 =>
  cases w2;cases w1 with
  |list ho hall=>exact⟨_,_,ns,rfl,rfl,ho,mJ ns _ hall,hlen⟩
theorem yU (l:OpenLaw) (args:List WData):l.row.toRowW.claim.post args (.bool true) args=true :=
 postW_of (r:=l.row.toRowW) (X:=(true==true))
  (show WShape.has [] (.bool true) .bool=true by first|rfl|decide|simp[WShape.has,WShape.arms,WShape.armsAll])
  (show (WTm.eq .res (.lit (.bool true))).value [] { args:=args,res:=some (.bool true),after:=args }=some (.bool (true==true)) from w_eq_bool (w_res rfl) w_lit) rfl
theorem ui {l:OpenLaw} {d:DefRec}
  (hn:l.most=some n) (h:d.params.defaults=[])
  (call:∀(w:World) (s₀ b:Shared) (mg i:Str->Option Value) (c:Addr) (o:Obj) (pm cd doc:Value) (a:Addr) (vs:List Value) (ns:List Int),
   Ground q loose [] XP w s₀ mg i b.heap->YP w b.heap ->
   b.heap.get? c=some o->o.data=.func (docDef d.name d.params d.body d.scope pm cd doc)->b.heap.CodeRec cd d.name->mg d.name=some (.ref c) ->
   b.heap.get? a=some { cls:=.type "list",data:=.seq vs.toArray }->IntsAre vs ns->ns.length<=n->b.gens=#[] ->
   codeAny (model l.prog w) callerA (.call (.ref c) ⟨[.ref a],[]⟩) (λr s'=>r=.ok (.ret (.bool true))/\OldK b.heap s'.heap/\s'.os=b.os/\AllBare s'.gens) b) :
  WalkO q loose XP YP l.row.toRowW d [] (λf vs=>PySem.call f vs):=by
 intro w s₀ b mg i G Y c o pm cd doc u kV v hd j s m x args vals as e hlay hrd p hlo;obtain rfl:u=.none:=Dflts.none s h;obtain rfl:kV=.none:=Dflts.noKw s;obtain⟨a,vs,ns,rfl,rfl,g,hints,hlen⟩:=yr hn e p;refine enter_call (codeAny_mono (call w s₀ b mg i c o pm cd doc a vs ns G Y v (fd_plain hd) j m g hints hlen x) λr s' y=>?_);obtain⟨rfl,h2,z,A⟩:=y;exact⟨.inl ⟨.bool true,.bool true,[],rfl,λ_=>rfl,.bool true,yU l _,λ_=>⟨List.Pairwise.nil,λ_ hm=>(nomatch hm)⟩⟩,h2,z,A⟩
section
variable {A:Around} {K:Frag}
end
end Att
namespace L2
open PySem PySem.Spec PyProof.Rows
theorem qY:∀{vs:List Value} {ns:List Int},IntsAre vs ns->Vals (ns.map V.int) vs
 |_,_,.nil=>.nil
 |_,_,.cons n t h=>.cons ⟨t,rfl⟩ (qY h)
def Fv (H:Hp):Prop:=∀b,H b=none\/(∃o xs,H b=some (.frz o (.lst xs)))\/∃q,H b=some (.tbl q)
def kS (K:PySem.W.Frag) (h:Heap):Prop:=(∀P q,TabOf K P q->h.get? P=some { cls:=.none,data:=.fields #[] }/\K.lookup P=none/\isCodeTable h P)/\∀P q a,TabOf K P q->TabOf K P a->q=a
section
open Classical
def jB (K:PySem.W.Frag):Hp:=λb=>if h:∃q,TabOf K b q then some (.tbl h.choose) else none
theorem cL (K:PySem.W.Frag) (b:Addr):jB K b=none\/∃q,TabOf K b q/\jB K b=some (.tbl q):=by
 unfold jB;split
 ·rename_i h;exact .inr ⟨_,h.choose_spec,rfl⟩
 ·exact .inl rfl
theorem qr (a:kS K h) {P:Addr} {q:Str} (t:TabOf K P q):jB K P=some (.tbl q):=by
 rcases cL K P with e|⟨b,t',e⟩
 ·unfold jB at e;rw[dif_pos ⟨q,t⟩]at e;cases e
 ·rw[e,a.2 P q b t t']
end
def mz (mg:Str->Option Value) (base:Heap):Prop:=∃bm o,mg "__builtins__"=some (.ref bm)/\bm≠builtinsNs/\bm≠mainGlobals/\base.get? bm=some o/\o.cls=.type "module"/\o.dict=some builtinsNs/\o.data=.plain
theorem law_call {O:Str->Option Value} {k:Nat} {Q:Addr} {c:Shared} {vs:List Value}
  (KX:K.In c.heap) (E:c.heap.Ns mainGlobals mg) (i:c.heap.Ns builtinsNs O) (R:∀x:Str,x≠"__name__"->O x=bootBuiltins x) (G:c.heap.NoLimit) (hg:c.gens=#[])
  (ha:c.heap.get? a=some { cls:=.type "list",data:=.seq vs.toArray }) (hi:IntsAre vs ns) (hl:ns.length<=sizeLine) (hr:bU k callerA)
  (S:mz mg c.heap) (F:∀base:Heap,K.In base->base.Ns mainGlobals mg->mz mg base->fD P w K mg base CX k Q fd [x] sp) (A:∀(s:Shared) (u:Value),BindsTo s fd ⟨[u],[]⟩ [(x,u)])
  (T:∀H:Hp,Fv H->SqL K H a (ns.map V.int)->sp [.ref a] H (λv _=>v=.bl true) λ_ _ _=>False)
  (U:∀H e s',CX [] H c (λ_ _ _=>False) e s'->False) (j:kS K c.heap) :
  codeAny (model P w) callerA (.call (.ref Q) ⟨[.ref a],[]⟩) (λr s'=>r=.ok (.ret (.bool true))/\OldK c.heap s'.heap/\s'.os=c.os/\AllBare s'.gens) c:=by
 have rv:=qY hi;have I:=hi.length
 -- from an abstract heap in which nothing but the script may be tracked
 have core:∀H:Hp,Fv H->SqL K H a (ns.map V.int)->HOk P w H c.heap->(∀b,H b≠none->b=a\/∃q,TabOf K b q)->(H a≠none->K.lookup a=none)->(∀P q,TabOf K P q->H P=some (.tbl q)) ->
   codeAny (model P w) callerA (.call (.ref Q) ⟨[.ref a],[]⟩) (λr s'=>r=.ok (.ret (.bool true))/\OldK c.heap s'.heap/\s'.os=c.os/\AllBare s'.gens) c:=by
  intro H hO hS hok N hK X;have f:∀{b:Addr} {o:Obj},c.heap.get? b=some o->H b=none->(pQ c.heap H).get? b=some o:=λe n=>AY e n
  have Y:∀{b:Addr} {o:Obj} {es:Array DictEntry} {J:Nat},c.heap.get? b=some o->o.data=.dict es J->H b=none:=λ{b o es J} e d=>by
   cases q:H b with
   |none=>rfl
   |some u =>
    rcases N b (by rw[q];simp) with g|⟨B,g⟩
    case inr=>rw[(j.1 b B g).1]at e;cases e;cases d
    subst g;rw[ha]at e;cases e;have d':Data.seq vs.toArray _=Data.dict es J:=d;cases d'
  have l:∀{b:Addr} {m:Str->Option Value},c.heap.Ns b m->(pQ c.heap H).Ns b m:=λ{b m} qz2=>(by obtain⟨o,es,J,e,d,r⟩:=qz2;exact⟨o,es,J,f e (Y e d),d,r⟩)
  have L:K.In (pQ c.heap H):=λb o e=>f (KX b o e) (by
   cases q:H b with
   |none=>rfl
   |some u =>
    rcases N b (by rw[q];simp) with g|⟨B,g⟩
    case inr=>rw[(j.1 b B g).2.1]at e;cases e
    subst g;rw[hK (by rw[q];simp)]at e;cases e)
  have hM:Mod K mg (pQ c.heap H):=⟨L,l E,⟨O,l i,R⟩,let ⟨mc,h1,h2⟩:=G;⟨mc,l h1,h2⟩⟩
  have e0:rZ P w K mg (pQ c.heap H) callerA [] c H:=⟨rfl,hM,λb o e=>Cz e,Nat.le_of_eq (yp _ _),trivial,λb i=>absurd (show b∈([]:List Addr) from i) (by simp),hok,.of_eq hg,X⟩
  have Z:mz mg (pQ c.heap H):=by
   obtain⟨bm,ob,b1,b2,b3,M,b5,b6,b7⟩:=S;refine⟨bm,ob,b1,b2,b3,f M ?_,b5,b6,b7⟩;cases q:H bm with
   |none=>rfl
   |some u =>
    rcases N bm (by rw[q];simp) with g|⟨B,g⟩
    case inr=>rw[(j.1 bm B g).1]at M;cases M;cases b5
    subst g;rw[ha]at M;cases M;simp at b5
  refine codeAny_mono ((F _ L (l E) Z).run callerA [] c H ⟨[.ref a],[]⟩ [.ref a] [.ref a] _ _ hr e0 (A c (.ref a)) (.cons rfl .nil) (T H hO hS)) λr s' h=>?_
  cases r with
  |error e=>exact (U H e s' h).elim
  |ok fl =>
   cases fl with
   |next=>exact False.elim h
   |brk=>exact False.elim h
   |cont=>exact False.elim h
   |ret u =>
    obtain⟨v,H',os,bare,un,p,r',q⟩:=h;have q':v=.bl true:=q;subst q';obtain rfl:u=Value.bool true:=r';have old:∀b o,c.heap.get? b=some o->s'.heap.get? b=some o\/(isCodeTable c.heap b/\o.cls=.none/\∃vs more,o.data=.fields vs/\s'.heap.get? b=some { o with data:=.fields (vs++more) }):=λb o e=>?old
    case old =>
     cases q:H b with
     |none=>exact .inl <|un.keep b o e q (by intro z;exact absurd (show b∈([]:List Addr) from z) (by simp)) (by simp)
     |some u =>
      rcases hO b with z|⟨ob,xs,z⟩|⟨B,z⟩
      ·rw[q]at z;cases z
      ·have z2:=un.frzs b ob _ z;obtain⟨e1,_⟩:=hok b _ z;obtain⟨e2,_⟩:=p b _ z2;rw[e]at e1;cases e1;exact .inl e2
      ·have z2:=un.tbls b B z;obtain⟨ps,e2,_⟩:=p b _ z2;rcases N b (by rw[z];simp) with g|⟨q2,g⟩
       ·obtain⟨ps0,D,_⟩:=hok b _ z;rw[g]at D;rw[ha]at D;cases D
       ·obtain⟨D,_,e4⟩:=j.1 b q2 g;rw[e]at D;cases D;exact .inr ⟨e4,rfl,#[],ps,rfl,by simpa using e2⟩
    exact⟨rfl,⟨λb o e=>(old b o e).imp id λz=>.inl z,λb o e=>by rcases old b o e with z|⟨_,_,_,_,_,z⟩ <;> exact⟨_,z⟩⟩,os,bare⟩
 have tok:∀b q,TabOf K b q->cE P w (λ_=>none) c.heap b (.tbl q):=λb q t=>⟨#[],(j.1 b q t).1,trivial,λpos cv z=>nomatch z⟩
 have y:∀(H:Hp) b q,TabOf K b q->cE P w H c.heap b (.tbl q):=λH b q t=>⟨#[],(j.1 b q t).1,trivial,λpos cv z=>nomatch z⟩
 have na:∀q,¬ TabOf K a q:=λq t=>by have:=(j.1 a q t).1;rw[ha]at this;cases this
 cases hk:K.lookup a with
 |some o =>
  have e:=KX a o hk;rw[ha]at e;cases e;refine core (jB K) (λb=>(cL K b).imp id λC=>(by obtain⟨q,_,e⟩:=C;exact .inr ⟨q,e⟩)) (.inr ⟨_,vs.toArray,_,hk,rfl,rfl,rfl,by rw[K3,I];exact hl,by simpa using rv⟩) (λb u z=>?_) (λb z=>?_) (λz=>?_) λP q t=>qr j t
  ·rcases cL K b with e|⟨q,t,e⟩
   ·rw[z]at e;cases e
   ·rw[z]at e;cases e;exact y _ b q t
  ·rcases cL K b with e|⟨q,t,e⟩
   ·exact absurd e z
   ·exact .inr ⟨q,t⟩
  ·rcases cL K a with e|⟨q,t,e⟩
   ·exact absurd e z
   ·exact absurd t (na q)
 |none =>
  have eT:∀b,b≠a->(λb=>if b=a then some (HO.frz { cls:=.type "list",data:=.seq vs.toArray } (.lst (ns.map V.int))) else jB K b) b=jB K b:=λb h=>if_neg h
  have eA:(λb=>if b=a then some (HO.frz { cls:=.type "list",data:=.seq vs.toArray } (.lst (ns.map V.int))) else jB K b) a=some (HO.frz { cls:=.type "list",data:=.seq vs.toArray } (.lst (ns.map V.int))):=if_pos rfl;refine core (λb=>if b=a then some (.frz { cls:=.type "list",data:=.seq vs.toArray } (.lst (ns.map V.int))) else jB K b) (λb=>?_) (.inl (.inr ⟨{ cls:=.type "list",data:=.seq vs.toArray },if_pos rfl⟩)) (λb u z=>?_) (λb z=>?_) (λ_=>hk) λP q t=>?_
  ·by_cases i:b=a
   ·exact .inr (.inl ⟨_,_,if_pos i⟩)
   ·rw[eT b i];exact (cL K b).imp id λC=>(by obtain⟨q,_,e⟩:=C;exact .inr ⟨q,e⟩)
  ·by_cases i:b=a
   ·subst i;rw[eA]at z;cases z;exact⟨ha,by rw[J6];exact hl,vs,_,rv,ha⟩
   ·rw[eT b i]at z;rcases cL K b with e|⟨q,t,e⟩
    · rw[z]at e;cases e
    · rw[z]at e;cases e;exact y _ b q t
  ·by_cases i:b=a
   ·exact .inl i
   ·rcases cL K b with e|⟨q,t,e⟩
    · exact absurd ((if_neg i).trans e) z
    · exact .inr ⟨q,t⟩
  ·exact (if_neg (λz=>na q (by rw[<-z];exact t))).trans (qr j t)
abbrev KOf {K:PySem.W.Frag} {h:Heap} (_:K.In h):PySem.W.Frag:=K
theorem xu {l:PySem.W.OpenLaw} {k:Nat} {d:DefRec} {K:Params->PySem.W.Frag} {CX:World->CXT} {sp:World->Sp}
  (hn:l.most=some n) (r:n<=sizeLine) (y:d.params.defaults=[]) (J:bU k callerA)
  (L:∀(w:World) (h:Heap),YP w h->(K w.params).In h)
  (F:∀(w:World) (mg:Str->Option Value) (p:Addr) (h:Heap),(K w.params).In h->h.Ns mainGlobals mg->mg d.name=some (.ref p) ->
   ∃fd:FuncData,(∀(s:Shared) (u:Value),BindsTo s fd ⟨[u],[]⟩ [(x,u)]) /\
    ∀base:Heap,(K w.params).In base->base.Ns mainGlobals mg->mz mg base->fD l.prog w (K w.params) mg base (CX w) k p fd [x] (sp w))
  (A:∀(w:World) (H:Hp) (a:Addr) (ns:List Int),ns.length<=n->Fv H->SqL (K w.params) H a (ns.map V.int)->sp w [.ref a] H (λv _=>v=.bl true) λ_ _ _=>False)
  (B:∀(w:World) (H:Hp) (s:Shared) (e:Value) (s':Shared),CX w [] H s (λ_ _ _=>False) e s'->False) (C:∀(w:World) (h:Heap) (c:List Str) (i:ExcName->Option Value) (mg I:Str->Option Value),PyProof.Rows.Top q c i mg I h->(K w.params).In h->kS (K w.params) h) :
  PySem.W.WalkO q loose XP YP l.row.toRowW d [] (λf vs=>PySem.call f vs):=by
 refine Att.ui hn y λw s₀ j mg I p o pm cd doc a vs ns G Y ho hd hcd D m hints hlen N=>?_
 have E:=L w _ Y;obtain⟨fd,O,P⟩:=F w mg p _ E G.T.g D;exact law_call E G.T.g G.T.b G.T.builtins G.T.nolimit N m hints (KO hlen r) J (by obtain⟨bm,Q,M⟩:=PySem.W.bmod_of_top G.T;exact⟨bm,Q,M.name,M.ne,(λz=>by obtain⟨o,es,ep,e1,e2,_⟩:=M.ns;rw[<-z,M.obj]at e1;cases e1;rw[M.data]at e2;cases e2),M.obj,M.cls,M.dict,M.data⟩) P O (λH R S=>A w H a ns hlen R S) (λH e s'=>B w H j e s') (C w _ _ _ _ _ G.T E)
def inClass (s:Stmt) (j:Nat):Stmt:=match s with
 |.ClassDef _ _ _ body _ _ _ _ _ _ _=>body.getD j (.Pass ⟨0,0,0,0⟩)
 |_=>.Pass ⟨0,0,0,0⟩
def eu (s:Stmt):Arguments:=match s with
 |.FunctionDef _ a _ _ _ _ _ _ _ _=>a
 |_=>{ posonlyargs:=[],args:=[],vararg:=none,kwonlyargs:=[],kw_defaults:=[],kwarg:=none,defaults:=[] }
def bK (s:Stmt):List Stmt:=match s with
 |.FunctionDef _ _ b _ _ _ _ _ _ _=>b
 |_=>[]
def ax (s:Stmt):Scope:=match s with
 |.FunctionDef _ _ _ _ _ _ sc _ _ _=>sc
 |_=>{ kind:=.function,names:=[],isGenerator:=false,isCoroutine:=false }
abbrev CX0:CXT:=λ_ _ _ _ _ _=>False
abbrev E0:XK:=λ_ _ _=>False
theorem Hu:Passes CX0 X E0:=λ_ _ _ _ _ _ _ h=>h.elim
structure Fun (K:PySem.W.Frag) (x qual:Str) (st:Stmt) (f:Addr) (fd:FuncData):Prop where
 ex:∃(oc:Value) (od:Option Addr) (kV doc pm:Value) (an:Option Addr) (cdv ct:Value) (osl:Array (Option Value)),
  fd=PySem.W.fnOf x qual (eu st) (bK st) (ax st) .none kV doc pm an cdv ct/\K.lookup f=some ⟨oc,od,.func fd,osl⟩/\PySem.W.codeIn K cdv qual=true
 kp:PySem.W.keepIn K (.ref f)=true
section
theorem Fun.ok {k:Nat} (F:Fun K x qual st f fd) (S:cB N ps (ax st)) (len:∀vs H Q E,sp vs H Q E->vs.length=ps.length)
  (a:∀(cdv:Value) (A:Around) (outer:List Env) (s:Shared) (H:Hp) (vs:List V) (Q:VK) (E:XK),bU k (A.deeper (envOfC qual (ax st) s.heap.objs.size f cdv))->sp vs H Q E ->
   ∃t,PSs (cH CX0 P w K mg base N qual (ax st) f cdv A outer s H E).nox (bK st) t/\t { nx:=λ_ H'=>Q .non H',rt:=Q } (start N vs) H):fD P w K mg base CX0 (k+1) f fd ps sp:=by
 obtain⟨oc,od,kV,doc,pm,an,cdv,ct,osl,rfl,e,b⟩:=F.ex;refine AF e b S len λA outer s H vs Q E g c=>?_
 obtain⟨t,h,q⟩:=a cdv A outer s H vs Q E g c;exact⟨t,h.nox,q⟩
theorem Fun.binds (F:Fun K x qual st f fd)
  (h:∀(kV doc pm:Value) (an:Option Addr) (cdv ct:Value) (us:List Value),us.length=ps.length->bindArgs (PySem.W.fnOf x qual (eu st) (bK st) (ax st) .none kV doc pm an cdv ct) ⟨us,[]⟩=pure (ps.zip us)):Binds K fd ps []:=by
 obtain⟨oc,od,kV,doc,pm,an,cdv,ct,osl,rfl,lk,hcd⟩:=F.ex;exact .all (h kV doc pm an cdv ct)
theorem vn {kV doc cdv:Value} (l:K.lookup f=some ⟨oc,od,.func (PySem.W.fnOf x qual (eu st) (bK st) (ax st) .none kV doc pm an cdv ct),osl⟩)
 (c:PySem.W.codeIn K cdv qual=true) (k:PySem.W.keepIn K (.ref f)=true):Fun K x qual st f (PySem.W.fnOf x qual (eu st) (bK st) (ax st) .none kV doc pm an cdv ct):=⟨⟨oc,od,kV,doc,pm,an,cdv,ct,osl,rfl,l,c⟩,k⟩
end
section
theorem pv (i:Nat) (b:X.N[i]?=some x:=by rfl) (hv:Vis X.env.scope x:=by first|exact Or.inl rfl|exact Or.inr (Or.inl rfl)|exact Or.inr (Or.inr rfl)) (hd:(x==("__debug__":Str))=false:=by decide)
 (a:(x==("__classdict__":Str))=false:=by decide):PE X (.Name x pos) (IF i):=ic b hv hd a
end
theorem HK {c A B:Prop} [Decidable c] (h1:c->A) (h2:¬ c->B):if c then A else B:=by
 by_cases h:c
 ·rw[if_pos h];exact h1 h
 ·rw[if_neg h];exact h2 h
def ao (H H':Hp):Prop:=∀b o,H b=some o->H' b=some o
theorem ao.refl (H:Hp):ao H H:=λ_ _ h=>h
theorem ao.trans {H2:Hp} (a:ao H H1) (b:ao H1 H2):ao H H2:=λc o h=>b c o (a c o h)
theorem ao.free (e:ao H H') {l:Addr} (h:H' l=Option.none):H l=Option.none:=by
 cases q:H l with
 |none=>rfl
 |some o =>rw[e l o q]at h;cases h
theorem ao.seq (e:ao H H') (h:SqL K H a xs):SqL K H' a xs:=by
 rcases h with (h|⟨o,h⟩)|h
 ·exact .inl (.inl (e _ _ h))
 ·exact .inl (.inr ⟨o,e _ _ h⟩)
 ·exact .inr h
end L2
set_option maxHeartbeats 4000000
namespace L2
open PySem PySem.Spec PyProof.Rows
variable {E:XK} {f:PyData->PyData->Option PyData} {g:TG} {es:List Expr}
def qK (CX:CXT) (P:Program) (w:World) (K:PySem.W.Frag) (mg:Str->Option Value) (base:Heap) (N:List Str) (qual:Str) (scope:Scope) (f:Addr) (cd:Value) (cl:List (Str×Addr)) (A:Around) (outer:List Env) (s:Shared) (H:Hp) (E:XK):Cx where
 prog:=P
 w:=w
 K:=K
 mg:=mg
 base:=base
 A:=A.deeper (PySem.W.envX qual scope s.heap.objs.size f cd cl)
 N:=N
 s₀:=s
 H₀:=H
 env:=PySem.W.envX qual scope s.heap.objs.size f cd cl
 outer:=outer
 stack:=PySem.W.envX qual scope s.heap.objs.size f cd cl::outer
 ex:=[]
 calm:=true
 fn:=λ_=>false
 pn:=[]
 xe:=λe s'=>wpAny (model P w) (A.deeper (PySem.W.envX qual scope s.heap.objs.size f cd cl)) (leaving (PySem.W.envX qual scope s.heap.objs.size f cd cl) e) (λ_ a=>CX outer H s E e a) (λb a=>CX outer H s E b a) s'
theorem qf {α:Type} {y:Str} {u:α}:∀{l:List (Str×α)},(l.map (·.1)).Nodup->(y,u)∈l->l.lookup y=some u
 |[],_,h=>by cases h
 |(z,w)::l,nd,h=>by
  rw[Kj];rw[J5,Kp]at nd;rcases J7.mp h with h|h
  ·cases h;simp
  ·have m:y∈l.map (·.1):=List.mem_map_of_mem (f:=(·.1)) h;have:y≠z:=λq=>nd.1 (by subst q;exact m)
   rw[show (y==z)=false by simpa using this];exact qf nd.2 h
theorem xQ {y:Str} {u:α} {us:List α} (nd:ps.Nodup) (hl:us.length=ps.length) (h1:ps[i]?=some y) (h2:us[i]?=some u):(ps.zip us).reverse.lookup y=some u:=by
 refine qf ?_ ?_
 ·rw[List.map_reverse,List.map_fst_zip (by omega)];exact (List.reverse_perm ps).symm.nodup nd
 ·rw[List.mem_reverse];refine Kn (i:=i) ?_;rw[List.getElem?_zip_eq_some];exact⟨h1,h2⟩
structure km (N ps:List Str) (sc:Scope):Prop where
 kind:sc.kind=.function
 co:sc.isCoroutine=false
 gen:sc.isGenerator=false
 nd:N.Nodup
 pre:N.take ps.length=ps
 par:∀x∈ps,sc.names.lookup x=some .local
 nocell:∀x∈sc.names,x.2≠.cell
structure FX (s:Shared) (H:Hp) (cl:List (Str×Addr)) (sc:Scope) (N:List Str) (n:Nat) (ws:List (Option V)):Prop where
 inj:∀x y c,cl.lookup x=some c->cl.lookup y=some c->x=y
 has:∀x,sc.names.lookup x=some .free->∃c,cl.lookup x=some c
 cell:∀x c,cl.lookup x=some c->∃v,s.heap.IsCell c v
 free:∀x c,cl.lookup x=some c->H c=none
 len:N.length=n+ws.length
 val:∀(i:Nat) (x:Str) (v:V),N[n+i]?=some x->ws[i]?=some (some v)->∃u c,RelV v u/\sc.names.lookup x=some .free/\cl.lookup x=some c/\s.heap.IsCell c (some u)
theorem EI {f:Addr} {A:Around} {h1:Heap} {tk:Nat}
  (S:km N ps scope) (hd:A.handled=none) (g:rZ P w K mg base A outer s H) (hl:vs.length=ps.length) (r:Vals vs us) (C:FX s H cl scope N ps.length ws)
  (B:h1.Ns s.heap.objs.size (λx=>(ps.zip us).reverse.lookup x)) (D:∀b o,s.heap.get? b=some o->h1.get? b=some o) :
  Inv (qK CX P w K mg base N qual scope f cd cl A outer s H E) [] (vs.map some++ws) H { s with heap:=h1,toks:=tk }:=by
 have j:∀b:Addr,b∉(qK CX P w K mg base N qual scope f cd cl A outer s H E).ex:=λb z=>absurd (show b∈([]:List Addr) from z) (by simp)
 have I:∀c v,s.heap.IsCell c v->h1.IsCell c v:=λc v q=>by obtain⟨o,e,d⟩:=q;exact⟨o,D _ _ e,d⟩
 refine⟨⟨g.mod,S.kind,rfl,rfl,JU _,λy z c h1 h2=>C.inj y z c h1 h2,λy m=>?_,λy c z _=>(by cases z),λ_=>hd,Around.frames_deeper g.frames,.inr ⟨rfl,rfl⟩,λb z=>absurd z (j b),g.bs,g.bsz,λb _ _=>j b,λb z=>absurd z (j b),g.funs,g.frf⟩,
  rfl,g.bare,Un.kept D,⟨_,B,λi y v h1 h2 h3=>?_⟩,λy c h=>?_,g.hok.fresh (JU _),λy c h=>C.free y c h,λp n=>absurd (show p∈([]:List (Addr×Obj)) from n) (by simp),g.hok.kept D,?_,g.tab⟩
 ·have m:scope.names.lookup y=some .cell\/scope.names.lookup y=some .free:=m;rcases m with m|m
  ·exact absurd rfl (S.nocell _ (PySem.mem_of_lookup m))
  ·exact C.has y m
 ·have h1:N[i]?=some y:=h1;by_cases hi:i<vs.length
  ·have ha:vs[i]?=some v:=by
    rw[K8 (by simpa using hi),JY]at h2;cases e:vs[i]? with
    |none=>rw[e]at h2;cases h2
    |some a=>rw[e]at h2;cases h2;rfl
   obtain⟨u,J,F⟩:=r.get ha;have n:ps[i]?=some y:=by rw[<-S.pre,List.getElem?_take_of_lt (by omega)];exact h1
   have G:ps.Nodup:=by rw[<-S.pre];exact S.nd.sublist (List.take_sublist _ _)
   refine⟨u,F,.inl ⟨S.par y (Kn n),?_⟩⟩;exact xQ G (by rw[<-r.length,hl]) n J
  ·rw[Kc (by simpa using hi),J6]at h2;have e:N[ps.length+(i-vs.length)]?=some y:=by rw[<-hl,Nat.add_sub_cancel' (by omega)];exact h1
   obtain⟨u,c,F,k,l,q⟩:=C.val _ _ _ e h2;exact⟨u,F,.inr ⟨.inr k,c,l,I _ _ q⟩⟩
 ·obtain⟨v,q⟩:=C.cell y c h;exact⟨v,I _ _ q⟩
 ·show _=N.length;rw[K0,J6,hl,C.len]
theorem Dh {k:Nat} {name:Str} {f c':Addr} {h:Value} {A:Around} {Q:VK} {t:TE}
  (S:km N ps scope) (p:bU (k+1) A) (j:rZ P w K mg base A outer s H) (hl:vs.length=ps.length) (r:Vals vs us) (C:FX s H cl scope N ps.length ws)
  (x:s.heap.get? f=some (PySem.W.kla_obj name qual params body scope cl pm c' h)) (l:s.heap.CodeRec (.ref c') qual)
  (z:bindArgs (PySem.W.kla_fn name qual params body scope cl pm (.ref c') h) ⟨us,[]⟩=pure (ps.zip us))
  (c:PE (qK CX P w K mg base N qual scope f (.ref c') cl A outer s H E) body t) (B:t (vs.map some++ws) H Q) :
  codeAny (model P w) A (.call (.ref f) ⟨us,[]⟩) (CR CX outer P w H s Q E) s:=by
 have lim:s.heap.NoLimit:=j.mod.nolimit.keeps λb o e=>(j.bs b o e).1
 refine PySem.W.kla_callFunE p.depth x rfl S.co S.gen rfl l ?_;rw[z];refine wpAny_pure (wpAny_newFunctionEnv S.nocell (λy D=>S.par y.1 (Ll (a:=y.1) (b:=y.2) D).1) (λh₁ m i=>⟨lim.fresh _ i,?_⟩) S.kind);have g:∀b o,s.heap.get? b=some o->h₁.get? b=some o:=λb o e=>i.extBut b o (JX (JV e)) (J1 _ e)
 have I:=EI (CX:=CX) (qual:=qual) (f:=f) (cd:=.ref c') (E:=E) (tk:=s.toks+(ps.zip us).length) S p.hd j hl r C m g;exact PySem.W.kla_codeExpr (wpAny_mono (c [] _ _ H Q I B) (λu s' n=>(by obtain⟨v,H',J,F,q⟩:=n;exact⟨v,H',J.os,J.bare,J.base,J.hok,F,q⟩)) λ_ _ y=>y)
def kQ:List (Str×NameKind)->List (Str×Addr)->List (Str×Addr)->List (Str×Addr)
 |[],_,acc=>acc
 |(n,k)::r,cells,acc=>kQ r cells (if k==.free then (match cells.lookup n with|some c=>(n,c)::acc|none=>acc) else acc)
theorem hZ (env:Env):∀(names:List (Str×NameKind)) (acc:List (Str×Addr)),(∀y∈names,y.2=.free->∃c,env.cells.lookup y.1=some c) ->
  (forIn names acc (λ(x:Str×NameKind) (cs:List (Str×Addr))=>match x with
   | (name,kind)=>if (kind==NameKind.free)=true then do let c <-cellOf env name;pure (ForInStep.yield ((name,c)::cs)) else pure (ForInStep.yield cs)):Sem (List (Str×Addr)))=pure (kQ names env.cells acc)
 |[],acc,_=>rfl
 |(n,k)::r,acc,h=>by
  rw[Lm];have b:∀y∈r,y.2=.free->∃c,env.cells.lookup y.1=some c:=λy g=>h y (J8 _ g)
  dsimp only[kQ];by_cases hk:k=.free
  ·subst hk;obtain⟨c,hc⟩:=h (n,.free) J9 rfl;have a:env.cells.lookup n=some c:=hc;have e:cellOf env n=pure c:=by unfold cellOf;rw[a]
   rw[if_pos (show (NameKind.free==NameKind.free)=true by decide),if_pos (show (NameKind.free==NameKind.free)=true by decide),e,a];exact hZ env r ((n,c)::acc) b
  ·have f:¬ (k==NameKind.free)=true:=by simpa using hk
   rw[if_neg f,if_neg f];exact hZ env r acc b
theorem iH (h:∀y∈scope.names,y.2=.free->∃c,env.cells.lookup y.1=some c):closureFor scope env=pure (kQ scope.names env.cells []):=by have e:=hZ env scope.names [] h;unfold closureFor;rw[<-bind_pure (forIn scope.names [] _)]at e;exact e
theorem pw:∀(names:List (Str×NameKind)) (cells acc:List (Str×Addr)) (x:Str) (c:Addr),(∀x c,acc.lookup x=some c->cells.lookup x=some c)->(kQ names cells acc).lookup x=some c->cells.lookup x=some c
 |[],_,_,x,c,h,e=>h x c e
 |(n,k)::r,cells,acc,x,c,h,e=>by
  refine pw r cells _ x c (λy d a=>?_) e;split at a
  ·split at a
   ·rename_i c' b;rw[Kj]at a;by_cases hyn:(y==n)=true
    ·rw[hyn]at a;have f:y=n:=eq_of_beq hyn;subst f;cases a;exact b
    ·have:(y==n)=false:=by simpa using hyn
     rw[this]at a;exact h y d a
   ·exact h y d a
  ·exact h y d a
theorem qk:∀(names:List (Str×NameKind)) (cells acc:List (Str×Addr)) (x:Str),(∃c,acc.lookup x=some c)->∃c,(kQ names cells acc).lookup x=some c
 |[],_,_,_,h=>h
 |(n,k)::r,cells,acc,x,h=>by
  refine qk r cells _ x ?_;split
  ·split
   ·rw[Kj];cases (x==n)
    ·exact h
    ·exact⟨_,rfl⟩
   ·exact h
  ·exact h
theorem ku:∀(names:List (Str×NameKind)) (cells acc:List (Str×Addr)) (x:Str) (c:Addr),(x,NameKind.free)∈names->cells.lookup x=some c->∃c,(kQ names cells acc).lookup x=some c
 |[],_,_,_,_,h,_=>by simp at h
 |(n,k)::r,cells,acc,x,c,h,e=>by
  rcases J7.mp h with h|h
  ·injection h with h1 h2
   subst h1;subst h2;refine qk r cells _ x ?_;rw[if_pos (by decide),e];exact⟨c,by simp[Kj]⟩
  ·exact ku r cells _ x c h e
def blk (X:Cx) (M:List Str) (scope:Scope) (own:List Str) (C:Addr) (s2:Shared) (H2:Hp) (fp:List Addr):Cx where
 prog:=X.prog
 w:=X.w
 K:=X.K
 mg:=X.mg
 base:=X.base
 A:=X.A
 N:=M++own
 s₀:=s2
 H₀:=H2
 env:=compEnvC scope (kQ scope.names X.env.cells []) C X.env
 outer:=X.stack
 stack:=X.stack
 ex:=fp
 fn:=λ_=>false
 calm:=X.calm
 pn:=[]
 xe:=λ_ _=>False
structure iP (X:Cx) (M:List Str) (scope:Scope) (own:List Str):Prop where
 kind:scope.kind=.function
 nocell:∀y∈scope.names,y.2≠.cell
 names:∀y∈scope.names,y.2=.local->scope.names.lookup y.1=some .local
 free:∀y∈scope.names,y.2=.free->Vis X.env.scope y.1/\X.env.scope.names.lookup y.1≠some .local
 own:∀x∈own,scope.names.lookup x=some .local
 outer:∀p∈X.N.zip M,(p.1=p.2/\scope.names.lookup p.2≠some .local)\/scope.names.lookup p.2=none
 len:M.length=X.N.length
def qj (N M:List Str) (a scope:Scope) (own:List Str):Bool :=
 (scope.kind==.function)&&scope.names.all (λy=>y.2 != .cell)&&scope.names.all (λy=>y.2 != .local||scope.names.lookup y.1==some .local) &&
 scope.names.all (λy=>y.2 != .free||(a.names.lookup y.1==some .cell||a.names.lookup y.1==some .free)) &&
 own.all (λx=>scope.names.lookup x==some .local)&&(N.zip M).all (λp=>(p.1==p.2&&scope.names.lookup p.2 != some .local)||scope.names.lookup p.2==none)&&(M.length==N.length)
theorem iP.of {own:List Str} (h:qj X.N M X.env.scope scope own=true):iP X M scope own:=by
 unfold qj at h;simp only[JZ,K9,Bool.or_eq_true,bne_iff_ne,beq_iff_eq,ne_eq]at h;obtain⟨⟨⟨⟨⟨⟨h1,h2⟩,b⟩,c⟩,f⟩,g⟩,i⟩:=h;refine⟨h1,h2,λy a e=>(b y a).resolve_left λz=>z e,λy a e=>?_,f,g,i⟩;rcases (c y a).resolve_left λz=>z e with q|q
 ·exact⟨.inr (.inl q),by rw[q];intro z;cases z⟩
 ·exact⟨.inr (.inr q),by rw[q];intro z;cases z⟩
theorem dg {env:Env}:∀{names:List (Str×NameKind)} {x:Str} {k:NameKind},
  (names.map λ(n,k)=>if (k==NameKind.free&&env.scope.kind==.function&&env.kindOf n==some .cell) then (n,NameKind.cell) else (n,k)).lookup x=some k->(k=.cell\/k=.free)->(∀y∈names,y.2≠.cell)->(x,NameKind.free)∈names
 |[],_,_,h,_,_=>by simp at h
 |(n,k')::r,x,k,h,a,hn=>by
  have b:∀y∈r,y.2≠NameKind.cell:=λy c=>hn y (J8 _ c)
  rw[J5,Kj]at h;by_cases hc:(k'==NameKind.free&&env.scope.kind==.function&&env.kindOf n==some .cell)=true
  ·have f:k'=.free:=by have:=hc;simp only[JZ]at this;exact eq_of_beq this.1.1
   simp only[if_pos hc]at h;cases hx:x==n with
   |true =>have:x=n:=eq_of_beq hx;subst this;subst f;exact J9
   |false =>rw[hx]at h;exact J8 _ (dg h a b)
  ·simp only[if_neg hc]at h;cases hx:x==n with
   |true =>
    rw[hx]at h;have e:k'=k:=Option.some.inj h;have:x=n:=eq_of_beq hx;subst this;subst e;rcases a with a|a
    ·exact absurd a (hn _ J9)
    ·subst a;exact J9
   |false =>rw[hx]at h;exact J8 _ (dg h a b)
theorem dh {env:Env}:∀{names:List (Str×NameKind)} {x:Str} {k:NameKind},
  (names.map λ(n,k)=>if (k==NameKind.free&&env.scope.kind==.function&&env.kindOf n==some .cell) then (n,NameKind.cell) else (n,k)).lookup x=some k->(∃k0,names.lookup x=some k0/\(k=k0\/(k=.cell/\k0=.free)))
 |[],_,_,h=>by simp at h
 |(n,k')::r,x,k,h=>by
  rw[J5,Kj]at h;rw[Kj];by_cases hc:(k'==NameKind.free&&env.scope.kind==.function&&env.kindOf n==some .cell)=true
  ·have a:k'=.free:=by have:=hc;simp only[JZ]at this;exact eq_of_beq this.1.1
   simp only[if_pos hc]at h;cases hx:x==n with
   |true =>rw[hx]at h;exact⟨k',rfl,.inr ⟨(Option.some.inj h).symm,a⟩⟩
   |false =>rw[hx]at h;exact dh h
  ·simp only[if_neg hc]at h;cases hx:x==n with
   |true =>rw[hx]at h;exact⟨k',rfl,.inl (Option.some.inj h).symm⟩
   |false =>rw[hx]at h;exact dh h
section
variable {H2:Hp} {s2:Shared} {own:List Str}
theorem Inv.blk {h1:Heap} {t':Nat} (I:Inv X pins σ H2 s2) (B:iP X M scope own) (H:∀b∈fp,pk X pins H2 b) (J:∀b∈fp,b<s2.heap.objs.size)
  (A:D=s2.heap.objs.size) (G:C=s2.heap.objs.size+1) (hl:h1.get? D=some { cls:=.type "list",data:=.seq ([]:List Value).toArray 0 })
  (hn:h1.Ns C (λ_=>none)) (g:∀b o,s2.heap.get? b=some o->h1.get? b=some o) :
  Inv (L2.blk X M scope own C s2 H2 fp) [] (σ++List.replicate own.length none) (upd H2 D (.lst [])) { s2 with heap:=h1,toks:=t' }:=by
 have a:∀x c,(kQ scope.names X.env.cells []).lookup x=some c->X.env.cells.lookup x=some c:=λx c e=>pw _ _ _ _ _ (λ_ _ z=>by simp at z) e
 have K:∀x c,(kQ scope.names X.env.cells []).lookup x=some c->c<s2.heap.objs.size:=λx c e=>by obtain⟨v,q⟩:=I.cell x c (a x c e);exact q.lt
 have n:H2 D=none:=I.hok.fresh (by rw[A];exact JU _);have freeC:H2 C=none:=I.hok.fresh (by rw[G];exact Lg _);have L:C≠D:=by rw[G,A];exact Nat.succ_ne_self _
 have W:Un (frs X.stack) fp H2 (upd H2 D (.lst [])) s2.heap h1:=Un.laid g (by rw[A];exact JU _) n;refine⟨⟨I.ok.mod,?_,I.ok.glob,I.ok.blt,?_,?_,?_,?_,I.ok.hd,I.ok.frames,.inl rfl,?_,I.bs,KO I.ok.bsz I.sz,?_,?_,I.stack,I.stkFree⟩,rfl,I.bare,W,?_,?_,?_,?_,?_,?_,?_,λP q t=>W.tbls P q (I.tab P q t)⟩
 ·exact B.kind
 ·show s2.heap.objs.size<=C;rw[G];exact Lg _
 ·intro x y c e1 e2;exact I.ok.inj x y c (a x c e1) (a y c e2)
 ·intro x h;have hm:(x,NameKind.free)∈scope.names:=by
   rcases h with h|h
   ·exact dg h (.inl rfl) B.nocell
   ·exact dg h (.inr rfl) B.nocell
  obtain⟨hv,s⟩:=B.free _ hm rfl;have hh:X.env.kindOf x=some .cell\/X.env.kindOf x=some .free:=by
   rcases hv with z|z|z
   ·exact absurd z s
   ·exact .inl z
   ·exact .inr z
  obtain⟨c,e⟩:=I.ok.has x hh;exact ku _ _ _ x c hm e
 ·intro x c O _;exact absurd (show false=true from O) (by decide)
 ·intro b w;refine⟨?_,λx c e z=>?_⟩
  ·show b≠C;rw[G];exact JX (KH (J b w))
  ·exact (H b w).2.2.2.2.1 x c (a x c e) z
 ·intro b o e w;obtain⟨_,_,_,f3,_⟩:=H b w;rcases f3 with z|z
  ·exact I.ok.noex b o e z
  ·exact absurd (K4 (JV (I.ok.bs b o e).1) z) (KZ _)
 ·intro b w hs;obtain⟨_,f1,f2,_⟩:=H b w;rcases J7.mp (I.stkSub b hs) with z|z
  ·exact f1 z
  ·exact f2 z
 ·refine⟨_,hn,λi x v e1 e2 Y=>?_⟩;have hi:i<σ.length:=by
   by_cases hi:i<σ.length
   ·exact hi
   ·rw[Kc (by omega),Lx]at e2;split at e2 <;> cases e2
  rw[K8 hi]at e2;have E:i<X.N.length:=by rw[<-I.len];exact hi
  have Q:i<M.length:=by rw[B.len];exact E
  have R:M[i]?=some x:=by
   have:(M++own)[i]?=some x:=e1
   rwa[K8 Q]at this
  obtain⟨y,Z⟩:∃y,X.N[i]?=some y:=⟨_,J0 E⟩
  have hz:(y,x)∈X.N.zip M:=Kn (i:=i) (by rw[List.getElem?_zip_eq_some];exact⟨Z,R⟩);have S:∃k,scope.names.lookup x=some k:=by
   rcases Y with z|z|z
   ·obtain⟨k0,f,_⟩:=dh (show _=some NameKind.local from z);exact⟨k0,f⟩
   ·obtain⟨k0,f,_⟩:=dh (show _=some NameKind.cell from z);exact⟨k0,f⟩
   ·obtain⟨k0,f,_⟩:=dh (show _=some NameKind.free from z);exact⟨k0,f⟩
  have j:y=x/\scope.names.lookup x≠some .local:=by
   rcases B.outer _ hz with q|q
   ·exact q
   ·obtain⟨k,g⟩:=S;rw[q]at g;cases g
  have T:X.N[i]?=some x:=by rw[<-j.1];exact Z
  have h:(relabel scope X.env).names.lookup x=some .cell\/(relabel scope X.env).names.lookup x=some .free:=by
   rcases Y with z|z
   ·obtain⟨k0,f,g⟩:=dh (show _=some NameKind.local from z);rcases g with g|⟨g,_⟩
    ·subst g;exact absurd f j.2
    ·cases g
   ·exact z
  have hm:(x,NameKind.free)∈scope.names:=by
   rcases h with h|h
   ·exact dg h (.inl rfl) B.nocell
   ·exact dg h (.inr rfl) B.nocell
  obtain⟨hv,s⟩:=B.free _ hm rfl;obtain⟨m,_,U⟩:=I.loc;obtain⟨u,r,l⟩:=U i x v T e2 hv;refine⟨u,r,.inr ⟨h,?_⟩⟩;rcases l with⟨z,_⟩|⟨_,c,hc,z⟩
  ·exact absurd z s
  ·obtain⟨c',F⟩:=ku scope.names X.env.cells [] x c hm hc;have:=a x c' F;rw[hc]at this;cases this;exact⟨c,F,z.keeps g⟩
 ·intro x c e;obtain⟨v,q⟩:=I.cell x c (a x c e);exact⟨v,q.keeps g⟩
 ·show upd H2 D (.lst []) C=none;rw[au L];exact freeC
 ·intro x c e;have h1:=K x c e;rw[au (by rw[A];exact JX h1)];exact I.freeC x c (a x c e)
 ·intro p hp;exact absurd (show p∈([]:List (Addr×Obj))++[] from hp) (by simp)
 ·exact I.hok.laid g (by rw[A];exact JU _) ⟨Ks _,[],0,.nil,hl⟩
 ·show (σ++List.replicate own.length none).length=(M++own).length;rw[K0,K0,List.length_replicate,I.len,B.len]
theorem Inv.unblk {a:St} (I:Inv X pins σ H2 s2) (i:∀b∈fp,pk X pins H2 b) (f:s2.heap.objs.size<=C)
  (J:Inv (L2.blk X M scope own C s2 H2 fp) [] a H' s') (j:Heap.SameBut C s'.heap h'):Inv X pins σ H' { s' with heap:=h' }:=by
 have h:H' C=none:=J.free;have k:∀b o,b≠C->s'.heap.get? b=some o->h'.get? b=some o:=λb o g e=>(j.2 b g).trans e
 have old:∀b o,s2.heap.get? b=some o->b≠C:=λb o e=>JX (K4 (JV e) f)
 have u:Un (frs X.stack) fp H2 H' s2.heap s'.heap:=J.base;refine I.call' (s':={ s' with heap:=h' }) (ch:=fp) J.os ?_ ?_ J.bare λb g=>?_
 ·refine⟨λb o e n h1 h2=>k b o (old b o e) (u.keep b o e n h1 h2),λb o e n h1 h2=>?_,u.free,λb o e h1=>?_,u.tups,u.frzs,u.tbls⟩
  ·obtain⟨l,q⟩:=u.slot b o e n h1 h2;exact⟨l,k b _ (old b o e) q⟩
  ·obtain⟨o',q⟩:=u.there b o e h1;exact⟨o',k b o' (old b o e) q⟩
 ·intro b o e;refine (J.hok b o e).stay (λc v hc q=>k c v ?_ q) (λ_ q=>q) λ_ _ q=>q
  rintro rfl
  rcases hc with z|z
  ·subst z;rw[h]at e;cases e
  ·rw[h]at z;cases z
 ·obtain⟨f0,f1,f2,m,p,r⟩:=i b g;exact⟨m,f1,p,r⟩
end
section
variable {A:Around} {R:Result->Shared->Prop}
theorem sg {target:Expr} {it acc:Value} (I:Nat->Shared->Prop)
  (turn:∀n s,I n s->wpAny (model prog w) A (pyNext it) (λr a=>match r with
   |none=>R (.ok .next) a
   |some v=>wpAny (model prog w) A (letOwnedTupleGo target it v) (λ_ j=>wpAny (model prog w) A (assign target env v) (λ_ e =>
    wpAny (model prog w) A (forIn ifs true λc r=>if r=true then do let ok <-isTrue c env (eval c env);pure (ForInStep.yield ok) else pure (ForInStep.yield r)) (λok b =>
     if ok=true then wpAny (model prog w) A (eval elt env) (λx f =>
      wpAny (model prog w) A (call (.builtin "list.append") [acc,x]) (λ_ g=>∃m,m<n/\I m g) (λ_ _=>False) f) (λ_ _=>False) b
     else ∃m,m<n/\I m b) (λ_ _=>False) e) (λ_ _=>False) j) (λ_ _=>False) a) (λ_ _=>False) s)
  (n:Nat) (h:I n s) :
  codeAny (model prog w) A (.compLoop (.ListComp elt [⟨target,iter,ifs,0⟩] scope pos) 0 it acc env) R s:=by
 refine codeAny_loop rfl I (λn s u=>?_) n h;show wpAny _ A ((compTurn (.ListComp elt [⟨target,iter,ifs,0⟩] scope pos) 0 it acc env).onRaise (λx=>do noteFrame x env;theTreesLotGoes x)) _ _ s;refine wpAny_noted ?_;rw[compTurn_list];refine wpAny_bind (wpAny_standAt (wpAny_bind (wpAny_mono (turn n s u) (λr a h₁=>?_) λ_ _ h'=>h'.elim)));cases r with
 |none=>exact wpAny_pure h₁
 |some v =>
  refine wpAny_bind (wpAny_mono h₁ (λ_ j q=>?_) λ_ _ h'=>h'.elim);refine wpAny_bind (wpAny_mono q (λ_ e l=>wpAny_bind (wpAny_mono l (λok b i=>?_) λ_ _ h'=>h'.elim)) λ_ _ h'=>h'.elim);cases ok with
  |false=>exact wpAny_pure ⟨rfl,i⟩
  |true =>exact wpAny_bind (wpAny_bind (wpAny_mono i (λx f o=>wpAny_bind (wpAny_mono o (λ_ g p=>wpAny_pure (wpAny_pure ⟨rfl,p⟩)) λ_ _ h'=>h'.elim)) λ_ _ h'=>h'.elim))
end
def tw:TT:=λ_ H Q=>Q true H
inductive PTs (X:Cx):List Expr->TT->Prop
 |nil:PTs X [] tw
 |one {c:Expr} {t:TT} (h:PT X c t):PTs X [c] t
theorem PTs.run {t:TT} (h:PTs X ifs t) {Q:Bool->Hp->Prop} (I:Inv X pins σ H s) (q:t σ H Q) :
  wpAny (model X.prog X.w) X.A (forIn ifs true λc r=>if r=true then do let ok <-isTrue c X.env (eval c X.env);pure (ForInStep.yield ok) else pure (ForInStep.yield r)) (TP X pins σ Q) X.xe s:=by
 cases h with
 |nil=>exact wpAny_tests_nil ⟨H,I,q⟩
 |one h=>exact wpAny_tests_one (h pins s σ H Q I q)
def LCR (J:It) (n:Nat) (g:TG) (tt:TT) (te:TE) (σ:St) (H1:Hp) (Q:VK):Prop:=∀D,H1 D=none->∃W:Nat->Nat->List V->Hp->Prop,(∃m,W 0 m [] (upd H1 D (.lst []))) /\
 ∀i m ys H,W i m ys H->H D=some (.lst ys)/\((J.stop i H/\Q (.ref D) H)\/(J.go i H/\∀x H' e,e.length=n->J.yld i H x H'->g x (σ++e) H' λc H2=>tt c H2 λb h =>
  if b=true then te c h λv j=>j D=some (.lst ys)/\ys.length<sizeLine/\(∃a,c=σ++a/\a.length=n)/\∃f,f < m/\W (i+1) f (ys++[v]) (upd j D (.lst (ys++[v])))
  else (∃a,c=σ++a/\a.length=n)/\∃f,f < m/\W (i+1) f ys h))
def tLC (n:Nat) (a:TI) (g:TG) (tt:TT) (te:TE):TE:=λσ H Q=>a σ H λJ H1=>LCR J n g tt te σ H1 Q
theorem nJ {own:List Str} {wi:TI} {tt:TT} {te:TE} {use:Option (Value->Sem Unit)} {Qf:Value->Shared->Prop} (hc:X.calm=true) (hi:PI X tg iter wi)
  (hg:∀C s2 H2 fp,PG (blk X M scope own C s2 H2 fp) tg g) (ht:∀C s2 H2 fp,PTs (blk X M scope own C s2 H2 fp) ifs tt) (he:∀C s2 H2 fp,PE (blk X M scope own C s2 H2 fp) elt te)
  (hB:qj X.N M X.env.scope scope own=true) (hs:∀x,foldedSetIterable iter X.env x=pure x) {Q:VK} (I:Inv X pins σ H s) (h:tLC own.length wi g tt te σ H Q)
  (fin:∀(C D:Addr) (P:Shared) (O:Hp),(∀h',Heap.SameBut C P.heap h'->Inv X pins σ O { P with heap:=h' })->(∃m,P.heap.Ns C m)->O C=none->C≠X.env.locals->(∀x c,X.env.cells.lookup x=some c->c≠C)->(∀p∈X.pn++pins,p.1≠C)->X.s₀.heap.objs.size<=C->Q (.ref D) O ->
   compPost (model X.prog X.w) X.A X.xe use Qf (.ref D) C (.ok .next) P) :
  wpAny (model X.prog X.w) X.A (comprehension (.ListComp elt [⟨tg,iter,ifs,0⟩] scope pos) scope X.env cpos (newList []) false (eval iter X.env) use) Qf X.xe s:=by
 have B:iP X M scope own:=iP.of hB;have R:closureFor scope X.env=pure (kQ scope.names X.env.cells []):=iH λy hy hf=>by
  obtain⟨hv,hnl⟩:=B.free y hy hf;have hh:X.env.kindOf y.1=some .cell\/X.env.kindOf y.1=some .free:=by
   rcases hv with z|z|z
   ·exact absurd z hnl
   ·exact .inl z
   ·exact .inr z
  exact I.ok.has y.1 hh
 refine wpAny_comprehension_free (use:=use) rfl hs R B.kind B.names (thn (hi pins s σ H _ I h) λv s1 h1=>thn h1 λitv s2 h2=>?_);obtain⟨it,fp,tn,J,H2,e,S,T,U,f2,hD⟩:=h2;subst e;have Y:∀b∈fp,b<s2.heap.objs.size:=λb l=>by obtain⟨o,q,_⟩:=T.obj _ _ U b l;exact JV q
 obtain⟨W,⟨m0,w0⟩,turn⟩:=hD s2.heap.objs.size (S.hok.fresh (JU _));refine wpAny_newObj_type (wpAny_newFunctionEnv B.nocell (by intro y hy;simp at hy) (λh₁ j f=>?_) B.kind);dsimp only at j f ⊢;generalize hG:s2.heap.push { cls:=.type "list",dict:=none,data:=.seq ([]:List Value).toArray }=G at j f ⊢;have hC:G.objs.size=s2.heap.objs.size+1:=by rw[<-hG,Heap.size_push]
 have hk:∀b o,s2.heap.get? b=some o->h₁.get? b=some o:=λb o e=>f.extBut b o (by rw[hC];exact JX (KH (JV e))) (J1 _ (hG▸J1 _ e))
 have hDC:s2.heap.objs.size≠G.objs.size:=by rw[hC];exact JX (KU _)
 have hl:h₁.get? s2.heap.objs.size=some { cls:=.type "list",data:=.seq ([]:List Value).toArray 0 }:=f.extBut _ _ hDC (J1 _ (hG▸K2 _ rfl));have hns:h₁.Ns G.objs.size (λ_=>none):=by
  have e:(λx=>([]:List (Str×Value)).reverse.lookup x)=λ_=>none:=by funext x;rfl
  rw[<-e];exact j
 have I3:=λt'=>S.blk (t':=t') (C:=G.objs.size) (D:=s2.heap.objs.size) B f2 Y rfl hC hl hns hk
 have E:∀{H':Hp},(∀b∈fp,H' b=none)->∀b∈fp,pk (blk X M scope own G.objs.size s2 H2 fp) [] H' b:=λhn b l=>by
  refine⟨hn b l,?_,?_,.inl l,λx c e z=>?_,λp hp=>absurd (show p∈([]:List (Addr×Obj))++[] from hp) (by simp)⟩
  ·show b≠G.objs.size;rw[hC];exact JX (KH (Y b l))
  ·exact (I3 0).ok.exfs b l
  ·exact ((I3 0).ok.exf b l).2 x c e z
 have loop:∀s3:Shared,(∃t',s3={ s2 with heap:=h₁,toks:=t' })->codeAny (model X.prog X.w) X.A (.compLoop (.ListComp elt [⟨tg,iter,ifs,0⟩] scope pos) 0 (.ref it) (.ref s2.heap.objs.size) (compEnvC scope (kQ scope.names X.env.cells []) G.objs.size X.env))
   (compPost (model X.prog X.w) X.A X.xe use Qf (.ref s2.heap.objs.size) G.objs.size) s3:=by
  rintro s3 ⟨t',rfl⟩
  refine sg (λn s'=>∃i ys L H',L.length=own.length/\Inv (blk X M scope own G.objs.size s2 H2 fp) [] (σ++L) H' s'/\tn i s'.heap/\(∀b∈fp,H' b=none)/\W i n ys H') ?_ m0
   ⟨0,[],_,_,by simp,I3 t',T.keep _ _ _ U λb l o e=>hk b o e,λb l=>by rw[au (JX (Y b l))];exact (f2 b l).1,w0⟩
  rintro n s4 ⟨i,ys,L,O,hl',I4,st4,fr4,w4⟩
  obtain⟨hDl,alt⟩:=turn i n ys O w4;rcases alt with⟨stop,qn⟩|⟨go,step⟩
  ·refine thn (T.done (blk X M scope own G.objs.size s2 H2 fp) rfl rfl rfl hc i [] s4 _ O _ I4 (E fr4) st4 stop) λr P a=>?_
   obtain⟨hr,I5⟩:=a;subst hr;obtain⟨m,hn,_⟩:=I5.loc;have cS:s2.heap.objs.size<=G.objs.size:=by rw[hC];exact Lg _
   refine fin G.objs.size s2.heap.objs.size P O (λh' hs'=>S.unblk (C:=G.objs.size) f2 cS I5 hs') ⟨m,hn⟩ I5.free ?_ (λx c e=>?_) (λp hp=>?_) (KO S.sz cS) qn
   ·obtain⟨_,hl0,_⟩:=S.loc;exact KA (K4 hl0.lt cS)
   ·obtain⟨_,q⟩:=S.cell x c e;exact JX (K4 q.lt cS)
   ·exact JX (K4 (JV (S.pin p hp).1) cS)
  ·refine thn (T.item (blk X M scope own G.objs.size s2 H2 fp) rfl rfl rfl hc i [] s4 _ O _ I4 (E fr4) st4 go) λr P a=>?_
   obtain⟨u,hr,h5⟩:=a;subst hr;refine thn h5 λ_ s6 a=>?_
   obtain⟨x,H6,I6,r6,y6,Z,fr6⟩:=a;have I6':=I6.pinned (E fr6) (T.obj _ _ Z);have kp:∀{F:St} {H7:Hp} {s7:Shared},Inv (blk X M scope own G.objs.size s2 H2 fp) ([]++oG fp s6.heap) F H7 s7->tn (i+1) s7.heap/\∀b∈fp,H7 b=none:=λ{F H7 s7} I7=>by refine⟨T.keep _ _ _ Z λb l o e=>(I7.pin (b,o) (JS _ (JS _ (ie l e)))).1,λb l=>?_⟩;obtain⟨o,e,d⟩:=T.obj _ _ Z b l;exact (I7.pin (b,o) (JS _ (JS _ (ie l e)))).2.1
   refine thn (hg _ _ _ _ _ s6 _ H6 x u _ I6' r6 (step x H6 L hl' y6)) λ_ s7 a=>?_
   obtain⟨F,H7,I7,q7⟩:=a;refine thn ((ht _ _ _ _).run I7 q7) λok s8 a=>?_
   obtain⟨H8,I8,q8⟩:=a;cases ok with
   |false =>
    obtain⟨⟨K,e,l''⟩,m',hm,w8⟩:=(show if false=true then _ else _ from q8)
    subst e;obtain⟨k1,k2⟩:=kp I8;exact⟨m',hm,i+1,ys,K,H8,l'',I8.unpinned,k1,k2,w8⟩
   |true =>
    have q8:te F H8 _:=q8;refine thn (he _ _ _ _ _ s8 F H8 _ I8 q8) λy s9 a=>?_
    obtain⟨v,H9,I9,r9,d9,z9,⟨K,e,l''⟩,m',hm,w9⟩:=a;subst e;refine thn (lX (X:=blk X M scope own G.objs.size s2 H2 fp) _ s9 _ H9 (.ref s2.heap.objs.size) [v] (.ref s2.heap.objs.size) [y] (λ_ H'=>H'=upd H9 s2.heap.objs.size (.lst (ys++[v]))) I9 rfl (.cons r9 .nil) ⟨_,ys,v,rfl,rfl,d9,z9,rfl⟩) λ_ s10 a=>?_
    obtain⟨_,H10,I10,_,e10⟩:=a;subst e10;obtain⟨k1,k2⟩:=kp I10;exact⟨m',hm,i+1,ys++[v],K,_,l'',I10.unpinned,k1,k2,w9⟩
 exact codeAny_compStart_list (loop _ ⟨_,rfl⟩) (T.self _ 0 _ _ _ (T.keep _ _ _ U λb l o e=>hk b o e) (loop _ ⟨_,rfl⟩))
theorem Bi {own:List Str} {c:TI} {tt:TT} {te:TE} (hc:X.calm=true) (hi:PI X tg iter c)
  (e:∀C s2 H2 fp,PG (blk X M scope own C s2 H2 fp) tg g) (f:∀C s2 H2 fp,PTs (blk X M scope own C s2 H2 fp) ifs tt) (i:∀C s2 H2 fp,PE (blk X M scope own C s2 H2 fp) elt te)
  (hB:qj X.N M X.env.scope scope own=true:=by rfl) (j:∀x,foldedSetIterable iter X.env x=pure x:=by intro _;rfl):PE X (.ListComp elt [⟨tg,iter,ifs,0⟩] scope pos) (tLC own.length c g tt te):=by
 intro pins s σ H Q I h;rw[eval_ListComp];refine nJ hc hi e f i hB j I h λC D s5 l k a _ _ _ _ _ q=>?_
 obtain⟨m,hn⟩:=a;exact⟨m,hn,λh' b=>⟨.ref D,l,k h' b,rfl,q⟩⟩
theorem kJ {own:List Str} {B:TI} {tt:TT} {te:TE} (hc:X.calm=true) (O:X.N.Nodup) (j:X.N[i]?=some x) (P:Loc X.env.scope x)
  (l:swapsWith (.ListComp elt [⟨tg,iter,ifs,0⟩] scope pos) (some (.Name x pos')) spos.line X.env=pure true) (hi:PI X tg iter B)
  (Q:∀C s2 H2 fp,PG (blk X M scope own C s2 H2 fp) tg g) (R:∀C s2 H2 fp,PTs (blk X M scope own C s2 H2 fp) ifs tt) (S:∀C s2 H2 fp,PE (blk X M scope own C s2 H2 fp) elt te)
  (hB:qj X.N M X.env.scope scope own=true:=by rfl) (T:∀x,foldedSetIterable iter X.env x=pure x:=by intro _;rfl) (U:X.fn x=true\/X.env.scope.names.lookup x=some .local:=by first|exact .inl rfl|exact .inr rfl|assumption) :
  PS X (.Assign [.Name x pos'] (.ListComp elt [⟨tg,iter,ifs,0⟩] scope pos) spos) (wA (tLC own.length B g tt te) (gJ i)):=by
 intro pins s σ H D I h;show wpAny _ _ (exec _ X.env) _ _ s;rw[exec_Assign_Name_used _ _ _ _ l];refine wpAny_bind (wpAny_standAt (wpAny_bind ?_));rw[arm_evalThenUse_ListComp];refine wpAny_bind (thn (nJ (use:=some (assign (.Name x pos') X.env)) (Qf:=λ_ s'=>SP X pins D .next s') hc hi Q R S hB T I h λC E F W k p G J K Y ns q=>?_) λ_ s' Z=>wpAny_pure (wpAny_pure Z));obtain⟨m,hn⟩:=p;have I5:=k F.heap (Heap.SameBut.refl _ _);show wpAny _ _ (assign (.Name x pos') X.env (.ref E)) _ _ F;refine wpAny_assign_Name (qT (v:=.ref E) I5 O j P rfl (λL r u=>?_) U);obtain⟨a,sb,ha⟩:=u;have w:C≠a:=by
  rcases ha with rfl|ha
  ·exact J
  ·exact λz=>K x a ha z.symm
 refine⟨m,hn.sameBut sb w,λh' y=>⟨_,W,?_,q⟩⟩;have f:∀b o,b≠C->L.heap.get? b=some o->h'.get? b=some o:=λb o A e=>(y.2 b A).trans e
 refine r.call' (s':={ L with heap:=h' }) (ch:=[C]) rfl ?_ ?_ r.bare λb A=>?_
 ·refine⟨λb o e _ _ z=>f b o (λq=>z (by rw[q];exact JW.mpr rfl)) e,λb o e _ _ z=>⟨o.slots,f b o (λq=>z (by rw[q];exact JW.mpr rfl)) e⟩,λ_ _ _ n _=>n,λb o e z=>⟨o,f b o (λq=>z (by rw[q];exact JW.mpr rfl)) e⟩,λ_ _ q=>q,λ_ _ _ q=>q,λ_ _ q=>q⟩
 ·intro b o e;refine (r.hok b o e).stay (λc v hc q=>f c v ?_ q) (λ_ q=>q) λ_ _ q=>q
  rintro rfl
  rcases hc with z|z
  ·subst z;rw[G]at e;cases e
  ·rw[G]at z;cases z
 ·rw[JW.mp A];exact⟨.inr ns,λz=>J z,K,Y⟩
mutual
def IsD (K:PySem.W.Frag) (H:Hp):PyData->V->Prop
 |.none,v=>v=.non
 |.bool b,v=>v=.bl b
 |.int i,v=>v=.int i
 |.str x,v=>v=.str x
 |.list ds,v=>∃a xs,v=.ref a/\SqL K H a xs/\dY K H ds xs
 |.tuple ds,v=>∃a xs,v=.ref a/\SqT K H a xs/\dY K H ds xs
 |.dict _,_=>False
def dY (K:PySem.W.Frag) (H:Hp):List PyData->List V->Prop
 |[],vs=>vs=[]
 |d::ds,vs=>∃v r,vs=v::r/\IsD K H d v/\dY K H ds r
end
theorem ao.tupS (e:ao H H') (h:SqT K H a xs):SqT K H' a xs:=by
 rcases h with (h|⟨o,h⟩)|h
 ·exact .inl (.inl (e _ _ h))
 ·exact .inl (.inr ⟨o,e _ _ h⟩)
 ·exact .inr h
mutual
theorem IsD.same {K:PySem.W.Frag} {H H':Hp} (e:ao H H'):∀{d:PyData} {v:V},IsD K H d v->IsD K H' d v
 |.none,_,h=>by unfold IsD at h ⊢;exact h
 |.bool _,_,h=>by unfold IsD at h ⊢;exact h
 |.int _,_,h=>by unfold IsD at h ⊢;exact h
 |.str _,_,h=>by unfold IsD at h ⊢;exact h
 |.list ds,_,h=>by unfold IsD at h ⊢;obtain⟨a,xs,e1,h1,h2⟩:=h;exact⟨a,xs,e1,e.seq h1,dY.same e h2⟩
 |.tuple ds,_,h=>by unfold IsD at h ⊢;obtain⟨a,xs,e1,h1,h2⟩:=h;exact⟨a,xs,e1,e.tupS h1,dY.same e h2⟩
 |.dict _,_,h=>by unfold IsD at h;exact h.elim
theorem dY.same {K:PySem.W.Frag} {H H':Hp} (e:ao H H'):∀{ds:List PyData} {vs:List V},dY K H ds vs->dY K H' ds vs
 |[],_,h=>by unfold dY at h ⊢;exact h
 |d::ds,_,h=>by unfold dY at h ⊢;obtain⟨v,r,e1,h1,h2⟩:=h;exact⟨v,r,e1,IsD.same e h1,dY.same e h2⟩
end
section
theorem rL {i:Int}:IsD K H (.int i) (.int i):=by unfold IsD;rfl
theorem B7 {b:Bool}:IsD K H (.bool b) (.bl b):=by unfold IsD;rfl
theorem A7:IsD K H .none .non:=by unfold IsD;rfl
theorem DM:IsD K H (.str x) (.str x):=by unfold IsD;rfl
theorem CQ (h:SqT K H a xs) (h2:dY K H ds xs):IsD K H (.tuple ds) (.ref a):=by unfold IsD;exact⟨a,xs,rfl,h,h2⟩
theorem sC (h:SqL K H a xs) (h2:dY K H ds xs):IsD K H (.list ds) (.ref a):=by unfold IsD;exact⟨a,xs,rfl,h,h2⟩
theorem ph:dY K H [] []:=by unfold dY;rfl
theorem qI {d:PyData} (h:IsD K H d v) (h2:dY K H ds vs):dY K H (d::ds) (v::vs):=by unfold dY;exact⟨v,vs,rfl,h,h2⟩
theorem IsD.ofInt {i:Int} (h:IsD K H (.int i) v):v=.int i:=by unfold IsD at h;exact h
theorem IsD.ofBool {i:Bool} (h:IsD K H (.bool i) v):v=.bl i:=by unfold IsD at h;exact h
theorem IsD.ofNone (h:IsD K H .none v):v=.non:=by unfold IsD at h;exact h
theorem IsD.ofStr (h:IsD K H (.str x) v):v=.str x:=by unfold IsD at h;exact h
theorem IsD.ofTup (h:IsD K H (.tuple ds) v):∃a xs,v=.ref a/\SqT K H a xs/\dY K H ds xs:=by unfold IsD at h;exact h
theorem IsD.ofLst (h:IsD K H (.list ds) v):∃a xs,v=.ref a/\SqL K H a xs/\dY K H ds xs:=by unfold IsD at h;exact h
theorem dY.nil_of (h:dY K H [] vs):vs=[]:=by unfold dY at h;exact h
theorem dY.cons_of {d:PyData} (h:dY K H (d::ds) vs):∃v r,vs=v::r/\IsD K H d v/\dY K H ds r:=by unfold dY at h;exact h
theorem qa:∀(ns:List Int),dY K H (ns.map PyData.int) (ns.map V.int)
 |[]=>ph
 |_::r=>qI rL (qa r)
end
section
mutual
theorem Inv.reads (I:Inv X pins σ H s):∀{d:PyData} {v:V} {u:Value},IsD X.K H d v->RelV v u->∃as,Reads s.heap u d as
 |.none,_,_,h,r=>by rw[h.ofNone]at r;cases r;exact⟨_,.none⟩
 |.bool _,_,_,h,r=>by rw[h.ofBool]at r;cases r;exact⟨_,.bool _⟩
 |.int _,_,_,h,r=>by rw[h.ofInt]at r;obtain⟨t,rfl⟩:=r;exact⟨_,.int _ _⟩
 |.str _,_,_,h,r=>by rw[h.ofStr]at r;obtain⟨t,rfl⟩:=r;exact⟨_,.str _ _⟩
 |.list ds,_,_,h,r=>by obtain⟨a,xs,e,h1,h2⟩:=h.ofLst;subst e;cases r;obtain⟨b,f,⟨o,n,g,c,_,d⟩,_⟩:=I.list h1;obtain⟨as,i⟩:=Inv.readsAll I h2 f;exact⟨_,.list g c d (by simpa using i)⟩
 |.tuple ds,_,_,h,r=>by obtain⟨a,xs,e,h1,h2⟩:=h.ofTup;subst e;cases r;obtain⟨b,f,⟨o,g,c,n,d⟩,_⟩:=I.tuple h1;obtain⟨as,i⟩:=Inv.readsAll I h2 f;exact⟨_,.tuple g c d (by simpa using i)⟩
 |.dict _,_,_,h,_=>by unfold IsD at h;exact h.elim
theorem Inv.readsAll (I:Inv X pins σ H s):∀{ds:List PyData} {vs:List V} {us:List Value},dY X.K H ds vs->Vals vs us->∃as,ReadsAll s.heap us ds as
 |[],_,_,h,r=>by rw[h.nil_of]at r;cases r;exact⟨_,.nil⟩
 |d::ds,_,_,h,r=>by
  obtain⟨v,t,e,h1,h2⟩:=h.cons_of;subst e;cases r with
  |cons r1 r2 =>obtain⟨as,a⟩:=Inv.reads I h1 r1;obtain⟨bs,b⟩:=Inv.readsAll I h2 r2;exact⟨_,.cons a b⟩
end
open PySem.SeqAt in
theorem vJ (a:X.A.units+64<cLine):OpR X (compareOp .Eq) (λx y H Q=>∃d e,IsD X.K H d x/\IsD X.K H e y/\shaped d=true/\shaped e=true/\Q (.bl (PyData.eqv d e)) H):=by intro pins s σ H x y v u Q I b c h;obtain⟨d,e,hd,f,g,i,q⟩:=h;obtain⟨as,j⟩:=I.reads hd b;obtain⟨bs,l⟩:=I.reads f c;exact eq_dataH j l g i a ⟨.bl _,H,I,rfl,q⟩
open PySem.SeqAt in
theorem Gp (a:X.A.units+64<cLine):OpR X (compareOp .NotEq) (λx y H Q=>∃d e,IsD X.K H d x/\IsD X.K H e y/\shaped d=true/\shaped e=true/\Q (.bl (!PyData.eqv d e)) H):=by intro pins s σ H x y v u Q I b c h;obtain⟨d,e,hd,f,g,i,q⟩:=h;obtain⟨as,j⟩:=I.reads hd b;obtain⟨bs,l⟩:=I.reads f c;exact ne_dataH j l g i a ⟨.bl _,H,I,rfl,q⟩
noncomputable def tyD:PyData->String
 |.none=>"NoneType"
 |.bool _=>"bool"
 |.int _=>"int"
 |.str _=>"str"
 |.list _=>"list"
 |.tuple _=>"tuple"
 |.dict _=>"dict"
def rB (d:PyData) (T:String):Bool:=tyD d==T||(T=="int"&&tyD d=="bool")
theorem Cr (K:PySem.W.Frag) {a T:String} (ha:a∈["NoneType", "bool", "int", "str", "list", "tuple"]) (b:T∈["bool", "int", "list", "tuple"]) :
  PySem.W.kitOne K (.type a) (.type T)=some (a==T||(T=="int"&&a=="bool")):=by
 simp only[J7,K7,or_false]at ha b;rcases ha with rfl|rfl|rfl|rfl|rfl|rfl <;> rcases b with rfl|rfl|rfl|rfl <;> rfl
theorem C7 {d:PyData} (h:IsD K H d v):tyD d∈["NoneType", "bool", "int", "str", "list", "tuple"]:=by
 cases d with
 |dict _=>unfold IsD at h;exact h.elim
 |_=>simp[tyD]
theorem t9:jC X (.builtin "isinstance") (λxs H Q=>∃d v T,xs=[v,.ty T]/\IsD X.K H d v/\T∈["bool", "int", "list", "tuple"]/\Q (.bl (rB d T)) H):=by
 intro pins s σ H xs us Q I r h;obtain⟨d,v,T,rfl,hd,l,q⟩:=h;obtain⟨u,c,rfl,f,m⟩:=vals2 r;cases m;have e:PySem.W.kitOne X.K (.type (tyD d)) (.type T)=some (rB d T):=Cr X.K (C7 hd) l;have fin:∀tk,EP X pins σ Q (.bool (rB d T)) { s with toks:=tk }:=λtk=>⟨.bl _,H,I.tok tk,rfl,q⟩
 cases d with
 |none=>rw[hd.ofNone]at f;cases f;exact PySem.W.kia_one PySem.W.kitx_none I.kIn True.intro e (λz=>nomatch z) fin
 |bool b=>rw[hd.ofBool]at f;cases f;exact PySem.W.kia_one PySem.W.kitx_bool I.kIn True.intro e (λz=>nomatch z) fin
 |int i=>rw[hd.ofInt]at f;obtain⟨t,rfl⟩:=f;exact PySem.W.kia_one PySem.W.kitx_int I.kIn True.intro e (λz=>nomatch z) fin
 |str x=>rw[hd.ofStr]at f;obtain⟨t,rfl⟩:=f;exact PySem.W.kia_one PySem.W.kitx_str I.kIn True.intro e (λz=>nomatch z) fin
 |list ds =>obtain⟨a,xs,e1,h1,h2⟩:=hd.ofLst;subst e1;cases f;obtain⟨j,p,⟨o,n,g,c,_,_⟩,_⟩:=I.list h1;exact PySem.W.kia_one PySem.W.kitx_list I.kIn ⟨o,g,c⟩ e (λz=>nomatch z) fin
 |tuple ds =>obtain⟨a,xs,e1,h1,h2⟩:=hd.ofTup;subst e1;cases f;obtain⟨j,p,⟨o,g,c,n,_⟩,_⟩:=I.tuple h1;exact PySem.W.kia_one PySem.W.kitx_tuple I.kIn ⟨o,g,c⟩ e (λz=>nomatch z) fin
 |dict _=>unfold IsD at hd;exact hd.elim
theorem oZ:∀{bs:List Bool} {us:List Value},Vals (bs.map V.bl) us->LSm.BoolsAre us bs
 |[],_,.nil=>.nil
 |b::r,_,.cons h t=>by cases (show _=Value.bool b from h);exact .cons b (oZ t)
theorem As (hc:X.calm=true):jC X (.builtin "all") (λxs H Q=>∃(a:Addr) (bs:List Bool),xs=[.ref a]/\SqL X.K H a (bs.map V.bl)/\Q (.bl (bs.all id)) H):=by
 intro pins s σ H xs us Q I r h;obtain⟨a,bs,rfl,l,q⟩:=h;obtain⟨u,rfl,m⟩:=vals1 r;cases m;obtain⟨c,n,p,_⟩:=I.list l;have hl:=p.isList;have g:=oZ n;have f:a<s.heap.objs.size:=by obtain⟨_,e,_⟩:=hl;exact JV e
 refine call_all_walk (wpAny_pyIter_list hl ?_);refine⟨s.heap.objs.size,[s.heap.objs.size,a],[s.heap.objs.size],c.toArray.size,_,_,λi=>(bs[i]?).getD true,rfl,Walks.list (A:=X.A.in1) (I.ok.hd hc) _ a (JX f) c.toArray,
  ⟨⟨_,K2 _ rfl,rfl,rfl⟩,hl.push _⟩,λi v s' Q' E' o j=>?_,λh' tk w=>?_⟩
 ·obtain⟨b,e,rfl⟩:=g.get i v (by simpa using o);simp only[e,Option.getD_some]at j;exact wpAny_truthy_bool j
 ·have e:((List.range c.toArray.size).all λi=>(bs[i]?).getD true)=bs.all id:=by rw[K3,g.length];exact LSm.range_all bs
  rw[e];exact⟨.bl _,H,I.kept (LSm.kept_iter w),rfl,q⟩
end
structure Jn (P:Program) (w:World) (outer:List Env) (H:Hp) (s:Shared) (H':Hp) (B:Heap) (ea:Addr) (cls a0:Value) (s':Shared):Prop where
 os:s'.os=s.os
 bare:AllBare s'.gens
 hok:HOk P w H' B
 keep:∀b o,s.heap.get? b=some o->H b=none->b∉frs outer->B.get? b=some o
 there:∀b o,s.heap.get? b=some o->b∉frs outer->∃o',B.get? b=some o'
 slot:∀b o,s.heap.get? b=some o->b∈frs outer->∃sl,s'.heap.get? b=some { o with slots:=sl }
 free:∀b o,s.heap.get? b=some o->H b=none->H' b=none
 tups:∀b xs,H b=some (.tup xs)->H' b=some (.tup xs)
 frzs:∀b o u,H b=some (.frz o u)->H' b=some (.frz o u)
 tbls:∀b q,H b=some (.tbl q)->H' b=some (.tbl q)
 fly:Heap.FlyingW B outer ea cls a0 s'.heap
def CXW (P:Program) (w:World):CXT:=λouter H s E e s'=>∃ea cls a0 H' B,e=.ref ea/\E cls none H'/\Jn P w outer H s H' B ea cls a0 s'
section
variable {f:Addr} {A:Around}
theorem u5 {L:Addr} (a:env.frame=some L):frs (env::outer)=L::frs outer:=by unfold frs;rw[Lh,a]
theorem uo {CX:CXT} {g:Shared} {ea:Addr} {cls:Value} {vs:List Value}
  (I:Inv (cH (CXW P w) P w K mg base N qual scope f cd A outer s H E) pins σ H1 g) (p:Heap.MadeExcOf g.heap h' ea cls vs) (r:E cls none H1) :
  (cH (CXW P w) P w K mg base N qual scope f cd A outer s H E).xe (.ref ea) { g with heap:=h' }:=by
 have i:=I.stack;have j:frs (cH (CXW P w) P w K mg base N qual scope f cd A outer s H E).stack=s.heap.objs.size::frs outer:=u5 rfl;have l:∀env∈(cH (CXW P w) P w K mg base N qual scope f cd A outer s H E).stack,∀b,env.frame=some b->b∈frs (cH (CXW P w) P w K mg base N qual scope f cd A outer s H E).stack:=λenv v b c=>LH.mpr ⟨env,v,c⟩
 have out:∀b o,s.heap.get? b=some o->b∉frs outer->b∉frs (cH (CXW P w) P w K mg base N qual scope f cd A outer s H E).stack:=λb o e n z=>by
  rw[j]at z;rcases J7.mp z with z|z
  ·rw[z]at e;exact absurd (JV e) (KZ _)
  ·exact n z
 refine wpAny_leaves_madeW (base:=PySem.W.hideAll g.heap (frs (cH (CXW P w) P w K mg base N qual scope f cd A outer s H E).stack)) I.ok.frames rfl (λb o q=>PySem.W.of_hideAll _ q) (PySem.W.funFrames_hide i l) p λh2 t x1 x2 x3 x4=>?_
 refine⟨ea,cls,.ref t,H1,_,rfl,r,⟨I.os,I.bare,?_,?_,?_,?_,?_,I.base.tups,I.base.frzs,I.base.tbls,x1⟩⟩
 ·intro a o e;refine (I.hok a o e).stay (λb u c q=>PySem.W.hideAll_get _ q λz=>?_) (λ_ q=>q) λ_ _ q=>q
  have:=I.stkFree b z;rcases c with c|c
  ·rw[c,e]at this;cases this
  ·rw[c]at this;cases this
 ·intro b o e n c;exact PySem.W.hideAll_get _ (I.base.keep b o e n c (K7)) (out b o e c)
 ·intro b o e c;obtain⟨o',q⟩:=I.base.there b o e (K7);exact⟨o',PySem.W.hideAll_get _ q (out b o e c)⟩
 ·intro b o e c;obtain⟨sl,q⟩:=I.base.slot b o e (I.ok.frf b c) c (K7);obtain⟨_,x,h,d2⟩:=I.ok.funs.mem c;have h:s.heap.get? b=some x:=h;rw[e]at h;cases h;obtain⟨m,y⟩:=x4 b _ (p.keeps b _ q) d2;exact⟨m,y⟩
 ·intro b o e n;exact I.base.free b o e n (K7)
theorem D4:Passes (CXW P w) (cH (CXW P w) P w K mg base N qual scope f cd A outer s H E) E:=by
 intro pins σ H1 s1 e s2 I hc;obtain⟨ea,cls,a0,H2,B,rfl,i,F⟩:=hc;have c:frs (cH (CXW P w) P w K mg base N qual scope f cd A outer s H E).stack=s.heap.objs.size::frs outer:=u5 rfl;have out:∀b o,s.heap.get? b=some o->b∉frs outer->b∉frs (cH (CXW P w) P w K mg base N qual scope f cd A outer s H E).stack:=λb o e n z=>by
  rw[c]at z;rcases J7.mp z with z|z
  ·rw[z]at e;exact absurd (JV e) (KZ _)
  ·exact n z
 refine wpAny_leaves_onW I.ok.frames rfl F.fly λh2 x1 x2=>⟨ea,cls,a0,H2,B,rfl,i,⟨F.os.trans I.os,F.bare,F.hok,?_,?_,?_,?_,?_,?_,?_,x1⟩⟩
 ·intro b o e n a;exact F.keep b o (I.base.keep b o e n a (K7)) (I.base.free b o e n (K7)) (out b o e a)
 ·intro b o e a;obtain⟨o',q⟩:=I.base.there b o e (K7);exact F.there b o' q (out b o e a)
 ·intro b o e a;obtain⟨sl,q⟩:=I.base.slot b o e (I.ok.frf b a) a (K7);obtain⟨_,j,g,d2⟩:=I.ok.funs.mem a;have g:s.heap.get? b=some j:=g;rw[e]at g;cases g;obtain⟨sl1,l⟩:=F.slot b _ q (by rw[c];exact J8 _ a);obtain⟨h,m⟩:=x2 b _ l d2;exact⟨h,m⟩
 ·intro b o e n;obtain⟨o',q⟩:=I.base.there b o e (K7);exact F.free b o' q (I.base.free b o e n (K7))
 ·intro b xs e;exact F.tups b xs (I.base.tups b xs e)
 ·intro b o u e;exact F.frzs b o u (I.base.frzs b o u e)
 ·intro b ps e;exact F.tbls b ps (I.base.tbls b ps e)
end
theorem Cp {a:List Value} (X:K.In h) (q:PySem.W.excIn K C a newId=true) :
  ∃bm N nm r bs hdct sn sub ab col dd k0 k1 k2 k3 k5 mN,h.get? C=some (excClassObj nm r C N bs bm hdct sn sub ab col dd k0 k1 k2 k3 k5 newId)/\h.Ns N mN/\mN "__init__"=none/\OwnTail h a bm:=by
 unfold PySem.W.excIn at q;split at q
 ·rename_i d1 c1 l1 g1;split at q
  ·rename_i C2 b g i j m n2 n hm s;simp only[JZ,beq_iff_eq,LM]at q;obtain⟨⟨⟨⟨⟨u,v⟩,o⟩,w⟩,c⟩,p⟩:=q;subst u;subst v;obtain⟨z1,z2,z3,x,y,z,A,B,D,e,z11⟩:=c1;dsimp only at hm o c p;subst hm;subst o;have hl:l1=#[g,i,j,m,some (.builtin n2),n]:=by obtain⟨l⟩:=l1;have f:l=_:=s;rw[f]
   subst hl;exact⟨b,x,z1,y,z2,z,A,B,D,e,d1,g,i,j,m,n,_,X _ _ g1,.of_isNs (PySem.W.isNs_of_in X c),PySem.W.nsMap_none_of_in X c p,PySem.W.tail_of_in X w⟩
  ·cases q
 ·cases q
def vR (X:Cx) (E:XK):Prop:=∀(pins:List (Addr×Obj)) (σ:St) (H:Hp) (s:Shared) (h':Heap) (ea:Addr) (cls:Value) (vs:List Value),Inv X pins σ H s->Heap.MadeExcOf s.heap h' ea cls vs->E cls none H->X.xe (.ref ea) { s with heap:=h' }
def Ft (C:Addr) (E:XK) (t:TA):TS:=λ_ σ H=>t σ H λvs H1=>vs.length<=sizeLine/\E (.ref C) none H1
theorem BA {B a:String} {bm:List Value} {m:Pos} {t:TA} (hc:X.calm=true) (M:vR X E) (FB:ExcBaseFacts B newId a bm) (n:Gl X x) (hm:X.mg x=some (.ref C)) (o:PySem.W.excIn X.K C bm newId=true)
  (ha:PA X (e::es) t) (c:(x==("__debug__":Str))=false:=by decide) (j:starEach (e::es) X.env=(false,eval e X.env)::starEach es X.env:=by rfl) (f:(backTo cpos (starEach es X.env)).any (·.1)=false:=by rfl) :
  PS X (.Raise (some (.Call (.Name x m) (e::es) [] cpos)) none pos) (Ft C E t):=by
 intro pins s σ H D I h;obtain⟨tl,N,nm,q,bs,hdct,sn,sub,ab,col,dd,k0,k1,k2,k3,k5,mN,g,p,i,T⟩:=Cp I.mod.kin o;refine wpAny_Raise_call_subT (C:=C) (nm:=nm) (q:=q) (N:=N) (bs:=bs) (bm:=tl) (hdct:=hdct) (sn:=sn) (sub:=sub) (ab:=ab) (col:=col) (dd:=dd) (k0:=k0) (k1:=k1) (k2:=k2) (k3:=k3) (k5:=k5)
  FB (mN:=mN) (T.hasType FB.hasBase) (I.ok.hd hc) (by rw[j];show (false||(backTo cpos (starEach es X.env)).any (·.1))=false;rw[f];rfl) i (mV I n hm ⟨rfl,?_⟩ c)
 have l:=ha cpos pins s σ H _ I h;rw[j]at l ⊢;refine Calls.evalArgs_plain (wpAny_mono l (λus s2 h2=>?_) λ_ _ y=>y);obtain⟨vs,H2,b,r,z,u⟩:=h2;exact⟨rfl,by rw[<-r.length];exact z,b.bk _ _ g,p.keeps b.bk,T.keeps b.bk,λh' ea v=>M pins σ H2 s2 h' ea _ _ b v u⟩
theorem fW (h:H D=none):ao H (upd H D o):=λb u e=>by rw[au (aG e h)];exact e
theorem ao.put (s:ao H H') (h:H D=none):ao H (upd H' D o):=λb u e=>by rw[au (aG e h)];exact s b u e
mutual
def eM:PyData->Bool
 |.list _=>false
 |.tuple ds=>jP ds
 |.dict _=>false
 |_=>true
def jP:List PyData->Bool
 |[]=>true
 |d::ds=>eM d&&jP ds
end
theorem set_own (σ:St) (x:Option V) (v:V) (a:St) (h:a.length=1):(σ++a).set σ.length (some v)=σ++[some v]:=by obtain⟨y,rfl⟩:=List.length_eq_one_iff.mp h;simp
structure Rows (H H':Hp) (D:Addr) (qs:List Addr) (rs:List (List Int)):Prop where
 d:H' D=some (.lst (qs.map V.ref))
 len:qs.length=rs.length
 at':∀(i:Nat) q r,qs[i]?=some q->rs[i]?=some r->H' q=some (.lst (r.map V.int))
 new:∀q∈qs,H q=none
 nd:qs.Nodup
 nD:D∉qs
section
variable {A:Around} {E:Value->Shared->Prop}
theorem vH {t:Addr} {a:Array Value} {x:Value} (hi:s.heap.IsTupleIter it t i) (c:s.heap.IsTuple t a) (e:a[i]?=some x)
  (f:∀h',h'.IsTupleIter it t (i+1)->Heap.SameBut it s.heap h'->Q x { s with heap:=h' }):wpAny (model prog w) A (Builtin.SmallTypes.nextOf (.ref it)) Q E s:=by
 obtain⟨oi,gi,g,b⟩:=id hi;obtain⟨ot,h,_,nt,j⟩:=c;unfold Builtin.SmallTypes.nextOf;refine wpAny_bind (wpAny_callSpecial?_slot (name:=Str.ofString "__next__") hi.typeIs F.slot_tuple_iterator_next (wpAny_call_entry F.slot_tuple_iterator_next hi.typeIs F.entry_tuple_iterator_next ?_ (F.args_tuple_iterator_next_1 _)));refine wpAny_bind (m:=field (.ref it) 0) (wpAny_field gi b (x:=.ref t) rfl ?_);show wpAny (model prog w) _ (if (Value.ref t==Value.none)=true then _ else _) _ _ s;have l:¬ (Value.ref t==Value.none)=true:=λq=>Kf q
 rw[if_neg l];refine wpAny_bind (m:=field (.ref it) 1) (wpAny_field gi b (x:=.int i 0) rfl ?_);refine wpAny_bind (m:=seqItems? (.ref t)) (wpAny_seqItems h j ?_);simp only[Kq,e];refine wpAny_bind (wpAny_setField gi b (by simp) (wpAny_pure ⟨x,rfl,wpAny_pure (f _ ⟨_,Heap.get?_update_self _ gi (Obj.isFreed_of_fields (Obj.data_mapFields b _)),(Obj.cls_mapFields ..).trans g,?_⟩ (Heap.SameBut.update ..))⟩));rw[Obj.data_mapFields b];simp[rawInt]
theorem nK {t:Addr} {c:Array Value} (g:A.handled=none) (hi:s.heap.IsTupleIter it t i) (h:s.heap.IsTuple t c) (j:c[i]?=none)
  (l:∀h' e,Heap.ExtBut it s.heap h'->(∃o,h'.get? e=some o/\o.cls=.type "StopIteration")->E (.ref e) { s with heap:=h' }):wpAny (model prog w) A (Builtin.SmallTypes.nextOf (.ref it)) Q E s:=by
 obtain⟨oi,gi,ci,f⟩:=id hi;obtain⟨ot,n,_,nt,p⟩:=h;unfold Builtin.SmallTypes.nextOf;refine wpAny_bind (wpAny_callSpecial?_slot (name:=Str.ofString "__next__") hi.typeIs F.slot_tuple_iterator_next (wpAny_call_entry F.slot_tuple_iterator_next hi.typeIs F.entry_tuple_iterator_next ?_ (F.args_tuple_iterator_next_1 _)));refine wpAny_bind (m:=field (.ref it) 0) (wpAny_field gi f (x:=.ref t) rfl ?_);show wpAny (model prog w) _ (if (Value.ref t==Value.none)=true then _ else _) _ _ s;have r:¬ (Value.ref t==Value.none)=true:=λq=>Kf q
 rw[if_neg r];refine wpAny_bind (m:=field (.ref it) 1) (wpAny_field gi f (x:=.int i 0) rfl ?_);refine wpAny_bind (m:=seqItems? (.ref t)) (wpAny_seqItems n p ?_);simp only[Kq,j];refine wpAny_bind (wpAny_rule (wpAny_bind (wpAny_setField gi f (by simp) ?_)));refine wpAny_bind (m:=newExc (.type "StopIteration") []) ?_;unfold newExc newTuple;refine wpAny_bind (wpAny_newObj_type ?_ (by size_fits ));refine wpAny_bind (m:=firstArgMember _ _) (wpAny_of_eq (a:=Value.none) (by first|rfl|(unfold firstArgMember;rfl)) ?_);refine wpAny_newObj_type ?_ (by size_fits );unfold raiseNew;refine wpAny_bind (wpAny_handled ?_)
 first|rw[show A.in1.handled=none from g]|rw[g]
 refine wpAny_bind (wpAny_pure (wpAny_throw ?_));refine l _ _ (λb o u e=>?_) ⟨_,K2 _ rfl,rfl⟩;exact J1 _ (J1 _ ((Lz _ _ (Ne.symm u)).trans e))
theorem kU (j:A.handled=none) (it t:Addr) (c:t≠it) (a:Array Value):Draws prog w A it [it,t] a.size (λi v=>a[i]?=some v) (λi h=>h.IsTupleIter it t i/\h.IsTuple t a) where
 live:=λ_ _ st=>by obtain⟨⟨o,g,_⟩,_⟩:=st;exact⟨o,g⟩
 frame:=λ_ _ _ st k=>by obtain⟨⟨o,g,r⟩,⟨b,g2,e⟩⟩:=st;exact⟨⟨o,k it (by simp) o g,r⟩,⟨b,k t (by simp) b g2,e⟩⟩
 item:=λi s Q E hi st l=>vH st.1 st.2 (x:=a[i]) (by simp[hi]) λh' i' f=>by refine l _ h' s.toks (by simp[hi]) ⟨i',?_⟩ f;obtain⟨b,g2,e⟩:=st.2;exact⟨b,(f.2 t c).trans g2,e⟩
 done:=λs Q E st m=>nK j st.1 st.2 (by simp) m
end
structure lU (z TI TO i1 i2:Addr) (f1 f2:List Addr):Prop where
 TIz:TI≠z
 TOz:TO≠z
 z1:i1≠z
 z2:i2≠z
 TIO:TI≠TO
 TI1:TI≠i1
 TI2:TI≠i2
 TO1:TO≠i1
 TO2:TO≠i2
 i12:i1≠i2
 a1:∀b∈f1,b≠z/\b≠TO/\b≠i2
 a2:∀b∈f2,b≠z/\b≠TO/\b≠i1
section
variable {A:Around} {E:Value->Shared->Prop} {z TI TO i1 i2:Addr} {f1 f2:List Addr} {n1 n2 k:Nat} {P1 P2:Nat->Value->Prop} {S1 S2:Nat->Heap->Prop} {a b:Value}
theorem Bn (n:Draws prog w A i1 f1 n1 P1 S1) (p:Draws prog w A i2 f2 n2 P2 S2) (Z:lU z TI TO i1 i2 f1 f2) (h:IsZip s.heap z TI TO .none) (Y:IsPair s.heap TI (.ref i1) (.ref i2)) (hO:IsPair s.heap TO a b)
  (D:S1 k s.heap) (F:S2 k s.heap) (k1:k<n1) (k2:k<n2)
  (hQ:∀h' x y tk,P1 k x->P2 k y->IsZip h' z TI TO (rawInt s.heap.objs.size)->IsPair h' TO x y->S1 (k+1) h'->S2 (k+1) h'->IsPair h' s.heap.objs.size x y ->
   (∀c o,c≠z->c≠TO->c≠i1->c≠i2->s.heap.get? c=some o->h'.get? c=some o)->Q (.ref s.heap.objs.size) { s with heap:=h',toks:=tk }) :
  wpAny (model prog w) A (Builtin.«zip.__next__» ⟨[.ref z],[]⟩) (λfin s'=>∃v,fin=.done (.ret v)/\Q v s') E s:=by
 refine wpAny_bind (m:=field (.ref z) 2) (wpAny_field h rfl (x:=.bool false) rfl ?_);refine wpAny_bind (m:=field (.ref z) 3) (wpAny_field h rfl (x:=.ref TI) rfl ?_);refine wpAny_bind (wpAny_seqItems Y rfl ?_);refine wpAny_bind (m:=Builtin.SmallTypes.ownedTupleIsFree (.ref z)) ?_;unfold Builtin.SmallTypes.ownedTupleIsFree;refine wpAny_bind (wpAny_field h rfl (x:=.none) rfl (wpAny_pure ?_));rw[if_pos (by rfl)];refine wpAny_bind (wpAny_rule (wpAny_bind (wpAny_field h rfl (x:=.ref TO) rfl (wpAny_bind (wpAny_setField_rec h (by simp) λg1 G e1=>?_)))));have G:IsZip g1 z TI TO .ellipsis:=G;refine wpAny_bind ?_;simp only[List.zipIdx_cons,List.zipIdx_nil,Lm,List.forIn_nil];refine wpAny_bind (wpAny_bind (wpAny_onRaise (wpAny_bind (m:=Builtin.SmallTypes.nextOf (.ref i1)) ?_)));have u1:S1 k g1:=n.frame _ _ _ D λb f o e=>(e1.2 b (Z.a1 b f).1).trans e
 refine n.item k { s with heap:=g1 } _ _ k1 u1 λx g2 O px v1 e2=>wpAny_pure ?_
 have P:IsPair g2 TO a b:=(e2.2 TO Z.TO1).trans ((e1.2 TO Z.TOz).trans hO);refine wpAny_bind (wpAny_seqItems (s:={ s with heap:=g2,toks:=O }) P rfl (wpAny_bind (wpAny_updateSeq_pair P λH I i=>?_)));have I:IsPair H TO x b:=I;refine wpAny_bind (wpAny_letGo (wpAny_pure (wpAny_bind (wpAny_bind (wpAny_onRaise (wpAny_bind (m:=Builtin.SmallTypes.nextOf (.ref i2)) ?_))))));have u2:S2 k H:=p.frame _ _ _ F λb f o e=>(i.2 b (Z.a2 b f).2.1).trans ((e2.2 b (Z.a2 b f).2.2).trans ((e1.2 b (Z.a2 b f).1).trans e))
 refine p.item k { s with heap:=H,toks:=O } _ _ k2 u2 λy R J py v2 j=>wpAny_pure ?_
 have S:IsPair R TO x b:=(j.2 TO Z.TO2).trans I;refine wpAny_bind (wpAny_seqItems (s:={ s with heap:=R,toks:=J }) S rfl (wpAny_bind (wpAny_updateSeq_pair S λg q l=>?_)));have q:IsPair g TO x y:=q;refine wpAny_bind (wpAny_letGo (wpAny_pure (wpAny_pure (wpAny_bind (wpAny_seqItems (s:={ s with heap:=g,toks:=J }) q rfl (wpAny_bind (wpAny_newTuple ?_)))))));have sz:g.objs.size=s.heap.objs.size:=by rw[l.1,j.1,i.1,e2.1,e1.1]
 have T:IsZip g z TI TO .ellipsis:=(l.2 z Z.TOz.symm).trans ((j.2 z Z.z2.symm).trans ((i.2 z Z.TOz.symm).trans ((e2.2 z Z.z1.symm).trans G)));have K:∀c o,c≠z->c≠TO->c≠i1->c≠i2->s.heap.get? c=some o->g.get? c=some o:=λc o c1 r L M e =>
  (l.2 c r).trans ((j.2 c M).trans ((i.2 c r).trans ((e2.2 c L).trans ((e1.2 c c1).trans e))))
 have w1:S1 (k+1) g:=n.frame _ _ _ v1 λb f o e=>(l.2 b (Z.a1 b f).2.1).trans ((j.2 b (Z.a1 b f).2.2).trans ((i.2 b (Z.a1 b f).2.1).trans e))
 have w2:S2 (k+1) g:=p.frame _ _ _ v2 λb f o e=>(l.2 b (Z.a2 b f).2.1).trans e
 have zl:z<g.objs.size:=JV T;refine wpAny_bind (m:=Builtin.SmallTypes.ownedTupleHandOut (.ref z) (.ref g.objs.size)) ?_;unfold Builtin.SmallTypes.ownedTupleHandOut;have y6:IsZip (g.push { cls:=.type "tuple",data:=.seq #[x,y] }) z TI TO .ellipsis:=J1 _ T;refine wpAny_bind (wpAny_setField_rec y6 (by simp) λg7 N U=>?_);have N:IsZip g7 z TI TO (rawInt g.objs.size):=N;refine wpAny_setField_rec N (by simp) λu B W=>?_
 have B:IsZip u z TI TO (rawInt g.objs.size):=B;have C:∀c o,c≠z->g.get? c=some o->u.get? c=some o:=λc o c1 e=>(W.2 c c1).trans ((U.2 c c1).trans (J1 _ e))
 have X:IsPair u g.objs.size x y:=(W.2 _ (KA zl)).trans ((U.2 _ (KA zl)).trans (K2 _ rfl));refine wpAny_pure ⟨_,rfl,?_⟩;rw[sz]at B X;show Q (.ref g.objs.size) _;rw[sz];exact hQ u x y J px py B (C _ _ Z.TOz q) (n.frame _ _ _ w1 λb f o e=>C b o (Z.a1 b f).1 e) (p.frame _ _ _ w2 λb f o e=>C b o (Z.a2 b f).1 e) X λc o c1 r L M e=>C c o c1 (K c o c1 r L M e)
theorem BG (j:Draws prog w A i1 f1 n1 P1 S1) (Z:lU z TI TO i1 i2 f1 f2) {Q:Fin->Shared->Prop} (f:IsZip s.heap z TI TO .none) (r:IsPair s.heap TI (.ref i1) (.ref i2)) (hO:IsPair s.heap TO a b) (g:S1 n1 s.heap)
  (u:∀h' e,(∀c o,c≠z->c≠TO->c≠i1->c≠i2->s.heap.get? c=some o->h'.get? c=some o)->(∃o,h'.get? e=some o/\o.cls=.type "StopIteration")->E (.ref e) { s with heap:=h' }) :
  wpAny (model prog w) A (Builtin.«zip.__next__» ⟨[.ref z],[]⟩) Q E s:=by
 refine wpAny_bind (m:=field (.ref z) 2) (wpAny_field f rfl (x:=.bool false) rfl ?_);refine wpAny_bind (m:=field (.ref z) 3) (wpAny_field f rfl (x:=.ref TI) rfl ?_);refine wpAny_bind (wpAny_seqItems r rfl ?_);refine wpAny_bind (m:=Builtin.SmallTypes.ownedTupleIsFree (.ref z)) ?_;unfold Builtin.SmallTypes.ownedTupleIsFree;refine wpAny_bind (wpAny_field f rfl (x:=.none) rfl (wpAny_pure ?_));rw[if_pos (by rfl)];refine wpAny_bind (wpAny_rule (wpAny_bind (wpAny_field f rfl (x:=.ref TO) rfl (wpAny_bind (wpAny_setField_rec f (by simp) λg1 h e1=>?_)))));have h:IsZip g1 z TI TO .ellipsis:=h;refine wpAny_bind ?_;simp only[List.zipIdx_cons,List.zipIdx_nil,Lm,List.forIn_nil];refine wpAny_bind (wpAny_bind (wpAny_onRaise (wpAny_bind (m:=Builtin.SmallTypes.nextOf (.ref i1)) ?_)));have u1:S1 n1 g1:=j.frame _ _ _ g λb v o e=>(e1.2 b (Z.a1 b v).1).trans e
 refine j.done { s with heap:=g1 } _ _ u1 λg2 e x2 y=>?_
 obtain⟨oe,ge,l⟩:=y;have n:IsZip g2 z TI TO .ellipsis:=x2 _ _ Z.z1.symm h;have i:e≠z:=λq=>by subst q;rw[n]at ge;cases ge;simp at l
 refine wpAny_setField_rec n (by simp) λB _ p=>u B e (λc o c1 _ C _ q=>(p.2 c c1).trans (x2 _ _ C ((e1.2 c c1).trans q))) ⟨oe,(p.2 e i).trans ge,l⟩
theorem vU (i:Draws prog w A.in1 i1 f1 n1 P1 S1) (j:Draws prog w A.in1 i2 f2 n2 P2 S2) (Z:lU z TI TO i1 i2 f1 f2) {Q:Option Value->Shared->Prop} (g:IsZip s.heap z TI TO .none) (l:IsPair s.heap TI (.ref i1) (.ref i2)) (m:IsPair s.heap TO a b)
  (e:S1 k s.heap) (f:S2 k s.heap) (k1:k<n1) (k2:k<n2)
  (n:∀h' x y tk,P1 k x->P2 k y->IsZip h' z TI TO (rawInt s.heap.objs.size)->IsPair h' TO x y->S1 (k+1) h'->S2 (k+1) h'->IsPair h' s.heap.objs.size x y ->
   (∀c o,c≠z->c≠TO->c≠i1->c≠i2->s.heap.get? c=some o->h'.get? c=some o)->Q (some (.ref s.heap.objs.size)) { s with heap:=h',toks:=tk }):wpAny (model prog w) A (pyNext (.ref z)) Q E s:=by
 have h:s.TypeIs (.ref z) "zip":=⟨_,g,rfl⟩
 unfold pyNext;refine wpAny_bind (wpAny_attempt (wpAny_callSpecial?_slot (name:=Str.ofString "__next__") h F.slot_zip_next (wpAny_call_entry F.slot_zip_next h F.entry_zip_next (Bn i j Z g l m e f k1 k2 λh' x y tk p1 p2 c1 p q r u v=>?_) (F.args_zip_next_1 _))));exact wpAny_pure (n h' x y tk p1 p2 c1 p q r u v)
theorem oy (i:Draws prog w A.in1 i1 f1 n1 P1 S1) (Z:lU z TI TO i1 i2 f1 f2) {Q:Option Value->Shared->Prop} (g:IsZip s.heap z TI TO .none) (j:IsPair s.heap TI (.ref i1) (.ref i2)) (l:IsPair s.heap TO a b) (f:S1 n1 s.heap)
  (m:∀h',(∀c o,c≠z->c≠TO->c≠i1->c≠i2->s.heap.get? c=some o->h'.get? c=some o)->Q none { s with heap:=h' }):wpAny (model prog w) A (pyNext (.ref z)) Q E s:=by
 have h:s.TypeIs (.ref z) "zip":=⟨_,g,rfl⟩
 unfold pyNext;refine wpAny_bind (wpAny_attempt (wpAny_callSpecial?_slot (name:=Str.ofString "__next__") h F.slot_zip_next (wpAny_call_entry F.slot_zip_next h F.entry_zip_next (BG i Z g j l f λh' e k0 n=>?_) (F.args_zip_next_1 _))));obtain⟨o,p,hc⟩:=n;exact wpAny_bind (wpAny_isInstance (T:="StopIteration") (b:=true) ⟨o,p,hc⟩ isSubtype_stop (wpAny_pure (m _ k0)))
abbrev zH1 (h:Heap) (t:Addr):Heap:=h.push { cls:=.type "tuple_iterator",data:=.fields #[.ref t,.int 0 0] }
abbrev zH2 (h:Heap) (t l:Addr):Heap:=(zH1 h t).push { cls:=.type "list_iterator",data:=.fields #[.ref l,.int 0 0] }
abbrev zH3 (h:Heap) (t l:Addr):Heap:=(zH2 h t l).push { cls:=.type "tuple",data:=.seq #[.ref h.objs.size,.ref (zH1 h t).objs.size] }
abbrev zH4 (h:Heap) (t l:Addr):Heap:=(zH3 h t l).push { cls:=.type "tuple",data:=.seq #[.none,.none] }
abbrev zH5 (h:Heap) (t l:Addr):Heap:=(zH4 h t l).push { cls:=.type "zip",data:=.fields #[.none,.bool false,.bool false,.ref (zH2 h t l).objs.size,.ref (zH3 h t l).objs.size] }
theorem uO (t l:Addr) (xs ys:Array Value):Meets (Builtin.«zip.__new__» ⟨[.type "zip",.ref t,.ref l],[]⟩) (λ_ R s=>s.heap.IsTuple t xs/\s.heap.IsList l ys/\R (.ok (.ret (.ref (zH4 s.heap t l).objs.size))) { s with heap:=zH5 s.heap t l }) :=
 .of_wp λprog w A R s h=>by
  obtain⟨c,g,d,tk,os⟩:=s;obtain⟨e,hl,h⟩:=h;have sb:isSubtype (.type "zip") (.type "zip")=pure true:=by rw[isSubtype_type];kernel_rfl
  have a:Heap.IsTuple (Shared.heap ⟨c,g,d,tk,os⟩) t xs:=e;have b:Heap.IsList (Shared.heap ⟨c.push { cls:=.type "tuple_iterator",data:=.fields #[.ref t,.int 0 0] },g,d,tk,os⟩) l ys:=Heap.IsList.push hl _
  wp_walk using wpAny_pyIter_tuple a,wpAny_pyIter_list b
  exact⟨_,rfl,h⟩
theorem wD {t l:Addr} {xs ys:Array Value} (a:s.heap.IsTuple t xs) (hl:s.heap.IsList l ys) (h:Q (.ref (zH4 s.heap t l).objs.size) { s with heap:=zH5 s.heap t l }) :
  wpAny (model prog w) A (call (.type "zip") [.ref t,.ref l]) Q E s:=by
 refine callType_new F.called_zip (by decide) (F.typeCall_zip_2 _ _) (F.newCall_zip_2 _ _) (λobj=>F.args_object_init_3 obj _ _) F.entry_zip_new (uO t l xs ys) ⟨a,hl,?_⟩;exact⟨⟨_,K2 _ rfl,rfl⟩,h⟩
end
section
variable {σ:L2.St}
theorem Inv.turnLay {t':Nat} {T:Addr} (I:Inv X pins σ H s) (g:∀b∈ch,pk X pins H b) (h:s.heap.objs.size<=T) (k:∀b u,b∉ch->s.heap.get? b=some u->h'.get? b=some u)
  (new:cE X.prog X.w (upd H T o) h' T o):Inv X pins σ (upd H T o) { s with heap:=h',toks:=t' }:=by
 have hn:H T=none:=I.hok.fresh h;have a:∀b u,H b=some u->b∉ch:=λb u e z=>by rw[(g b z).1]at e;cases e
 have neT:∀b u,s.heap.get? b=some u->b≠T:=λb u e=>JX (K4 (JV e) h)
 refine I.step (g':=s.gens) (d':=s.drawn) (ch:=ch) (λb f=>?_) (λb u _ _ hc e _=>k b u hc e) (λb u _ _ hc e _=>⟨u.slots,k b u hc e⟩) (λb u _ e n=>by rw[au (neT b u e)];exact n)
  (λb u hc e=>⟨u,k b u hc e⟩) (λb xs e=>by rw[au (aG e hn)];exact e) (λb u v e=>by rw[au (aG e hn)];exact e) (λb ps e=>by rw[au (aG e hn)];exact e) (λm hm=>?_) (λb u e=>?_) I.bare
 ·obtain⟨f0,f1,f2,j,l,p⟩:=g b f;exact⟨j,f1,l,p⟩
 ·obtain⟨i,es,x,y,r⟩:=hm;exact⟨i,es,x,k _ i (λz=>(g _ z).2.1 rfl) y,r⟩
 ·by_cases f:b=T
  ·subst f;rw[ay]at e;cases e;exact new
  ·rw[au f]at e;refine (I.hok b u e).stay (λc v hc q=>k c v ?_ q) (λc q=>by rw[au (aG q hn)];exact q) (λc xs q=>by rw[au (aG q hn)];exact q) λc o' w' q=>by rw[au (aG q hn)];exact q
   rcases hc with z|z
   ·rw[z];exact a b u e
   ·exact a c _ z
theorem Inv.turneds {t':Nat} (I:Inv X pins σ H s) (f:∀b∈ch,pk X pins H b) (k:∀b u,b∉ch->s.heap.get? b=some u->h'.get? b=some u):Inv X pins σ H { s with heap:=h',toks:=t' }:=by
 have a:∀b u,H b=some u->b∉ch:=λb u e z=>by rw[(f b z).1]at e;cases e
 refine I.step (g':=s.gens) (d':=s.drawn) (ch:=ch) (λb h=>?_) (λb u _ _ hc e _=>k b u hc e) (λb u _ _ hc e _=>⟨u.slots,k b u hc e⟩) (λb u _ e n=>n)
  (λb u hc e=>⟨u,k b u hc e⟩) (λb xs e=>e) (λb u v e=>e) (λb ps e=>e) (λm hm=>?_) (λb u e=>?_) I.bare
 ·obtain⟨f0,f1,f2,i,j,l⟩:=f b h;exact⟨i,f1,j,l⟩
 ·obtain⟨g,es,o,p,r⟩:=hm;exact⟨g,es,o,k _ g (λz=>(f _ z).2.1 rfl) p,r⟩
 ·refine (I.hok b u e).stay (λc v hc q=>k c v ?_ q) (λ_ q=>q) λ_ _ q=>q
  rcases hc with z|z
  ·rw[z];exact a b u e
  ·exact a c _ z
end
def Itz (K:PySem.W.Frag) (a b:Addr) (n:Nat):It :=
 ⟨λi H=>i<n/\∃xs ys,SqT K H a xs/\SqL K H b ys/\xs.length=n/\ys.length=n,
  λi H v H'=>∃t x y,v=.ref t/\H t=none/\H'=upd H t (.tup [x,y])/\(∀xs,SqT K H a xs->xs[i]?=some x)/\∀ys,SqL K H b ys->ys[i]?=some y,
  λi H=>i=n/\∃xs ys,SqT K H a xs/\SqL K H b ys/\xs.length=n/\ys.length=n⟩
theorem Au {z TI TO i1 i2:Addr} (Z:lU z TI TO i1 i2 [i1,a] [i2,b]) :
  Turn P w K (.Tuple elts x1 tp) (Itz K a b n) [z,TI,TO,i1,i2] z (λi h=>IsZip h z TI TO .none/\IsPair h TI (.ref i1) (.ref i2)/\(∃u v,IsPair h TO u v)/\h.IsTupleIter i1 a i/\h.IsListIter i2 b i) where
 mem:=by simp
 obj:=λi h st c hc=>by
  obtain⟨h1,h2,⟨u,v,r⟩,⟨B,j,_,d4⟩,⟨D,m,_,d5⟩⟩:=st;simp only[J7,K7,or_false]at hc;rcases hc with rfl|rfl|rfl|rfl|rfl
  ·exact⟨_,h1,λv q=>by cases q⟩
  ·exact⟨_,h2,λv q=>by cases q⟩
  ·exact⟨_,r,λv q=>by cases q⟩
  ·exact⟨_,j,λv q=>by rw[d4]at q;cases q⟩
  ·exact⟨_,m,λv q=>by rw[d5]at q;cases q⟩
 keep:=λi h h' st k=>by obtain⟨h1,h2,⟨u,v,r⟩,⟨B,j,r4⟩,⟨D,m,r5⟩⟩:=st;exact⟨k z (by simp) _ h1,k TI (by simp) _ h2,⟨u,v,k TO (by simp) _ r⟩,⟨B,k i1 (by simp) _ j,r4⟩,⟨D,k i2 (by simp) _ m,r5⟩⟩
 item:=by
  intro X hP hw hK hc i pins s σ H E I S st hg;subst hP hw hK;obtain⟨hi,xs,ys,T,hy,lx,ly⟩:=hg;obtain⟨h1,h2,⟨u,v,r⟩,F,U⟩:=st;obtain⟨f,Y,p,_⟩:=I.tuple T;obtain⟨J,L,p',_⟩:=I.list hy;have la:=Y.length;have lb:=L.length;have hh:X.A.in1.handled=none:=I.ok.hd hc;have na:a≠i1:=λq=>by obtain⟨o,g,c,_⟩:=p;obtain⟨B,j,M,_⟩:=F;rw[q,j]at g;cases g;rw[M]at c;exact absurd (Value.type.inj c) (by decide)
  have nb:b≠i2:=λq=>by obtain⟨o,n,g,c,_⟩:=p';obtain⟨D,m,c5,_⟩:=U;rw[q,m]at g;cases g;rw[c5]at c;exact absurd (Value.type.inj c) (by decide)
  have pt:s.heap.IsTuple a f.toArray:=p;refine vU (kU hh i1 a na f.toArray) (Draws.list hh i2 b nb J.toArray) Z h1 h2 r ⟨F,pt⟩ ⟨U,p'.isList⟩ (by simp;omega) (by simp;omega) λh' x y tk px py c1 c2 c3 M c5 c6=>⟨_,rfl,?_⟩
  refine wpAny_letOwnedTupleGo_zip (s:={ s with heap:=h',toks:=tk }) c1 λh2' d1 d2=>?_
  have zl:z<s.heap.objs.size:=JV h1;have G:∀c o,c≠z->h'.get? c=some o->h2'.get? c=some o:=λc o hc e=>(d2.2 c hc).trans e
  have nT:s.heap.objs.size≠z:=KA zl;obtain⟨N,ex,rx⟩:∃N,xs[i]?=some N/\RelV N x:=by
   have l:i<xs.length:=by omega
   obtain⟨u',e1,e2⟩:=Y.get (J0 l);refine⟨xs[i],J0 l,?_⟩;have O:f[i]?=some x:=by simpa using px
   rw[e1]at O;cases O;exact e2
  obtain⟨Q,ey,ry⟩:∃Q,ys[i]?=some Q/\RelV Q y:=by
   have l:i<ys.length:=by omega
   obtain⟨u',e1,e2⟩:=L.get (J0 l);refine⟨ys[i],J0 l,?_⟩;have R:J[i]?=some y:=by simpa using py
   rw[e1]at R;cases R;exact e2
  have fr:H s.heap.objs.size=none:=I.hok.fresh (JU _);refine⟨.ref s.heap.objs.size,upd H s.heap.objs.size (.tup [N,Q]),?_,rfl,⟨_,N,Q,rfl,fr,rfl,λxs' h=>by rw[I.tuple_inj h T];exact ex,λys' h=>by rw[I.list_inj h hy];exact ey⟩,?_,λc C=>?_⟩
  ·refine I.turnLay (t':=tk) (ch:=[z,TI,TO,i1,i2]) S (JU _) (λc o hn e=>?_) ⟨by show 2<=sizeLine;decide,[x,y],.cons rx (.cons ry .nil),⟨_,G _ _ nT c5,rfl,rfl,_,rfl⟩⟩;simp only[J7,K7,or_false,not_or]at hn;exact G c o hn.1 (c6 c o hn.1 hn.2.2.1 hn.2.2.2.1 hn.2.2.2.2 e)
  ·obtain⟨⟨B,j,r4⟩,_⟩:=c3;obtain⟨⟨D,m,r5⟩,_⟩:=M;exact⟨d1,G _ _ Z.TIz (c6 _ _ Z.TIz Z.TIO Z.TI1 Z.TI2 h2),⟨x,y,G _ _ Z.TOz c2⟩,⟨B,G _ _ Z.z1 j,r4⟩,⟨D,G _ _ Z.z2 m,r5⟩⟩
  ·have h0:=(S c C).1;obtain⟨oc,gc⟩:∃oc,s.heap.get? c=some oc:=by
    simp only[J7,K7,or_false]at C;rcases C with rfl|rfl|rfl|rfl|rfl
    ·exact⟨_,h1⟩
    ·exact⟨_,h2⟩
    ·exact⟨_,r⟩
    ·obtain⟨B,j,_⟩:=F;exact⟨_,j⟩
    ·obtain⟨D,m,_⟩:=U;exact⟨_,m⟩
   rw[au (JX (JV gc))];exact h0
 done:=by
  intro X hP hw hK hc i pins s σ H E I S st hg;subst hP hw hK;obtain⟨hi,xs,ys,T,hy,lx,ly⟩:=hg;obtain⟨h1,h2,⟨u,v,r⟩,F,U⟩:=st;obtain⟨f,Y,p,_⟩:=I.tuple T;have la:=Y.length;have hh:X.A.in1.handled=none:=I.ok.hd hc;have na:a≠i1:=λq=>by obtain⟨o,g,c,_⟩:=p;obtain⟨B,j,M,_⟩:=F;rw[q,j]at g;cases g;rw[M]at c;exact absurd (Value.type.inj c) (by decide)
  have pt:s.heap.IsTuple a f.toArray:=p;have e:f.toArray.size=i:=by simp;omega
  refine oy (kU hh i1 a na f.toArray) Z h1 h2 r ⟨by rw[e];exact F,pt⟩ λh' k=>⟨rfl,?_⟩
  refine I.turneds (t':=s.toks) (ch:=[z,TI,TO,i1,i2]) S λc o hn q=>?_
  simp only[J7,K7,or_false,not_or]at hn;exact k c o hn.1 hn.2.2.1 hn.2.2.2.1 hn.2.2.2.2 q
 self:=λ_ _ _ _ _ st h=>wpAny_pyIter_zip st.1 h
theorem boot_zip:bootBuiltins "zip"=some (.type "zip"):=by decide +kernel
def JC (K:PySem.W.Frag) (ta:TA):TI:=λσ H R=>ta σ H λvs H1=>∃a b xs ys,vs=[.ref a,.ref b]/\SqT K H1 a xs/\SqL K H1 b ys/\ys.length=xs.length/\R (Itz K a b xs.length) H1
theorem FD {a b:Expr} (B:Gl X "zip") (hm:X.mg "zip"=none) (ha:PA X [a,b] ta) (C:starEach [a,b] X.env=[(false,eval a X.env),(false,eval b X.env)]:=by rfl) (r:starEach [b] X.env=[(false,eval b X.env)]:=by rfl) :
  PI X (.Tuple elts x1 tp) (.Call (.Name "zip" p) [a,b] [] pos) (JC X.K ta):=by
 intro pins s σ H R I h;refine Call_ (fP I B hm boot_zip (PyProof.Rows.callWith_type1 (thn (ha pos pins s σ H _ I h) λus f w=>?_) (by rw[C,r]) (by rw[r];rfl)));obtain⟨vs,H1,u,D,E⟩:=w;obtain⟨l,m,xs,ys,e,F,G,hl,q⟩:=E;subst e;obtain⟨u1,u2,e1,J,L⟩:=vals2 D;subst e1;cases J;cases L;obtain⟨x,rv,pt,_⟩:=u.tuple F;obtain⟨jts,rw',pl,_⟩:=u.list G;have v:f.heap.IsTuple l x.toArray:=pt;have y:l<f.heap.objs.size:=by obtain⟨_,g,_⟩:=v;exact JV g
 have bl:m<f.heap.objs.size:=by obtain⟨_,_,g,_⟩:=pl;exact JV g
 refine wD v pl.isList ?_;have z1:(zH1 f.heap l).objs.size=f.heap.objs.size+1:=Heap.size_push ..;have z2:(zH2 f.heap l m).objs.size=f.heap.objs.size+2:=by rw[Heap.size_push,z1]
 have z3:(zH3 f.heap l m).objs.size=f.heap.objs.size+3:=by rw[Heap.size_push,z2]
 have z:(zH4 f.heap l m).objs.size=f.heap.objs.size+4:=by rw[Heap.size_push,z3]
 have A:IsZip (zH5 f.heap l m) (zH4 f.heap l m).objs.size (zH2 f.heap l m).objs.size (zH3 f.heap l m).objs.size .none:=K2 _ rfl;have M:IsPair (zH5 f.heap l m) (zH3 f.heap l m).objs.size .none .none:=J1 _ (K2 _ rfl);have N:IsPair (zH5 f.heap l m) (zH2 f.heap l m).objs.size (.ref f.heap.objs.size) (.ref (zH1 f.heap l).objs.size):=J1 _ (J1 _ (K2 _ rfl));have g2:(zH5 f.heap l m).IsListIter (zH1 f.heap l).objs.size m 0:=⟨_,J1 _ (J1 _ (J1 _ (K2 _ rfl))),rfl,rfl⟩
 have g1:(zH5 f.heap l m).IsTupleIter f.heap.objs.size l 0:=⟨_,J1 _ (J1 _ (J1 _ (J1 _ (K2 _ rfl)))),rfl,rfl⟩
 have O:∀c o,f.heap.get? c=some o->(zH5 f.heap l m).get? c=some o:=λc o e=>J1 _ (J1 _ (J1 _ (J1 _ (J1 _ e))))
 have P:Inv X pins σ H1 { f with heap:=zH5 f.heap l m }:=u.kept (t':=f.toks) O;have Z:lU (zH4 f.heap l m).objs.size (zH2 f.heap l m).objs.size (zH3 f.heap l m).objs.size f.heap.objs.size (zH1 f.heap l).objs.size [f.heap.objs.size,l] [(zH1 f.heap l).objs.size,m]:=by
  rw[z1,z2,z3,z];have n:∀i j:Nat,i≠j->f.heap.objs.size+i≠f.heap.objs.size+j:=λi j h q=>h (Nat.add_left_cancel q)
  refine⟨n 2 4 (by decide),n 3 4 (by decide),n 0 4 (by decide),n 1 4 (by decide),n 2 3 (by decide),n 2 0 (by decide),n 2 1 (by decide),n 3 0 (by decide),n 3 1 (by decide),n 0 1 (by decide),λc hc=>?_,λc hc=>?_⟩
  ·simp only[J7,K7,or_false]at hc;rcases hc with rfl|rfl
   ·exact⟨n 0 4 (by decide),n 0 3 (by decide),n 0 1 (by decide)⟩
   ·exact⟨JX (K4 y (KC _ _)),JX (K4 y (KC _ _)),JX (K4 y (KC _ _))⟩
  ·simp only[J7,K7,or_false]at hc;rcases hc with rfl|rfl
   ·exact⟨n 1 4 (by decide),n 1 3 (by decide),n 1 0 (by decide)⟩
   ·exact⟨JX (K4 bl (KC _ _)),JX (K4 bl (KC _ _)),JX bl⟩
 have big:∀c∈[(zH4 f.heap l m).objs.size,(zH2 f.heap l m).objs.size,(zH3 f.heap l m).objs.size,f.heap.objs.size,(zH1 f.heap l).objs.size],f.heap.objs.size<=c:=λc hc=>by
  simp only[J7,K7,or_false]at hc;rcases hc with rfl|rfl|rfl|rfl|rfl
  ·rw[z];exact KC _ _
  ·rw[z2];exact KC _ _
  ·rw[z3];exact KC _ _
  ·exact JU _
  ·rw[z1];exact KC _ _
 refine wpAny_pyIter_zip A ⟨_,_,_,_,H1,rfl,P,Au Z,⟨A,N,⟨_,_,M⟩,g1,g2⟩,λc hc=>?_,q⟩;exact u.fpOk (big c hc) (u.hok.fresh (big c hc))
inductive Rs (α:Type) where
 |ok (a:α)
 |rz (C:Addr)
 |no
namespace Rs
noncomputable def bind {α β:Type}:Rs α->(α->Rs β)->Rs β
 |ok a,f=>f a
 |rz C,_=>rz C
 |no,_=>no
def dz {α:Type}:Option α->Rs α
 |some a=>ok a
 |none=>no
noncomputable def calm {α:Type}:Rs α->Rs α
 |ok a=>ok a
 |_=>no
@[simp]theorem ag (a:α) (f:α->Rs β):(ok a).bind f=f a:=rfl
@[simp]theorem cN (C:Addr) (f:α->Rs β):(rz C).bind f=rz C:=rfl
@[simp]theorem aY (f:α->Rs β):(no:Rs α).bind f=no:=rfl
@[simp]theorem ak (a:α):dz (some a)=ok a:=rfl
@[simp]theorem FW:dz (none:Option α)=no:=rfl
@[simp]theorem b9 (a:α):(ok a).calm=ok a:=rfl
end Rs
variable {gf:List PyData->Rs PyData}
noncomputable def del (H:Hp) (A:List Addr):Hp:=λb=>if b∈A then none else H b
theorem xB:del H []=H:=by funext b;simp[del]
theorem eQ (h:b∈A):del H A b=none:=by simp[del,h]
theorem aB (h:b∉A):del H A b=H b:=by simp[del,h]
theorem aS (h:del H A b=some o):b∉A/\H b=some o:=by
 by_cases z:b∈A
 ·rw[eQ z]at h;cases h
 ·rw[aB z]at h;exact⟨z,h⟩
theorem av:ao (del H A) H:=λ_ _ e=>(aS e).2
theorem ao.del (s:ao H H'):ao (del H A) (L2.del H' A):=λb o e=>by obtain⟨z,e⟩:=aS e;rw[aB z];exact s b o e
def DW:HO->Bool
 |.lst _=>true
 |.dK _=>true
 |.dT _=>true
 |_=>false
def Ls (H:Hp) (A:List Addr):Prop:=∀a∈A,∃o,H a=some o/\DW o=true
theorem Ls.same (h:Ls H A) (s:ao H H'):Ls H' A:=λa ha=>by obtain⟨o,e,q⟩:=h a ha;exact⟨o,s _ _ e,q⟩
theorem Ls.nil:Ls H []:=λ_ h=>by cases h
theorem Ls.new {p:Addr} (h:Ls H A) (a:H p=none):p∉A:=λz=>by obtain⟨xs,e,_⟩:=h p z;rw[a]at e;cases e
def aj (ns:List Int):PyData:=.dict [(.none,.list (ns.map .int))]
abbrev dtK (l:List ((Int×Int)×Int)):List (PyData×PyData):=(.bool true,.none)::l.map λp=>(.tuple [.int p.1.1,.int p.1.2],.int p.2)
abbrev dtO (l:List ((Int×Int)×Int)):HO:=.dT (l.map λp=>([.inl p.1.1,.inl p.1.2],V.int p.2))
def Dr (kvs:List (PyData×PyData)) (o:HO):Prop:=(∃l:List (Int×Int),kvs=l.map (λp=>(PyData.int p.1,PyData.int p.2))/\o=.dK (l.map λp=>(.inl p.1,V.int p.2)))\/∃l,kvs=dtK l/\o=dtO l
mutual
def Is (K:PySem.W.Frag) (H:Hp):PyData->V->Prop
 |.none,v=>v=.non
 |.bool b,v=>v=.bl b
 |.int i,v=>v=.int i
 |.str x,v=>v=.str x
 |.list ds,v=>∃a xs,v=.ref a/\H a=some (.lst xs)/\Iss K H ds xs
 |.tuple ds,v=>∃a xs,v=.ref a/\H a=some (.tup xs)/\Iss K H ds xs
 |.dict kvs,v=>((∃a ns,v=.ref a/\kvs=[(PyData.none,PyData.list (List.map PyData.int ns))]/\SqL K H a (List.map V.int ns)) \/
  ∃(a:Addr) (o:HO),v=.ref a/\Dr kvs o/\H a=some o) \/
  ∃(a C dx:Addr) (fs:List (Str×V)),v=.ref a/\H a=some (.ins C dx fs)/\fs.lookup ("@":Str)=none/\(Isk K H kvs (("",.int (C:Int))::fs)\/Isk K H kvs (("",.int (C:Int))::("@",.int (a:Int))::fs))
def Iss (K:PySem.W.Frag) (H:Hp):List PyData->List V->Prop
 |[],vs=>vs=[]
 |d::ds,vs=>∃v r,vs=v::r/\Is K H d v/\Iss K H ds r
def Isk (K:PySem.W.Frag) (H:Hp):List (PyData×PyData)->List (Str×V)->Prop
 |[],fs=>fs=[]
 |(k,d)::r,fs=>∃f v fs',fs=(f,v)::fs'/\k=.str f/\Is K H d v/\Isk K H r fs'
end
noncomputable def bW (C a:Addr) (fds:List (Str×PyData)):PyData:=.dict ((.str "",.int (C:Int))::(.str "@",.int (a:Int))::fds.map λp=>(.str p.1,p.2))
section
theorem bB {i:Int}:Is K H (.int i) (.int i):=by unfold Is;rfl
theorem is_bool {b:Bool}:Is K H (.bool b) (.bl b):=by unfold Is;rfl
theorem is_none:Is K H .none .non:=by unfold Is;rfl
theorem Bl:Is K H (.str x) (.str x):=by unfold Is;rfl
theorem iA (h:H a=some (.tup xs)) (h2:Iss K H ds xs):Is K H (.tuple ds) (.ref a):=by unfold Is;exact⟨a,xs,rfl,h,h2⟩
theorem gx (h:H a=some (.lst xs)) (h2:Iss K H ds xs):Is K H (.list ds) (.ref a):=by unfold Is;exact⟨a,xs,rfl,h,h2⟩
theorem yb (h:SqL K H a (ns.map V.int)):Is K H (aj ns) (.ref a):=by unfold aj Is;exact .inl (.inl ⟨a,ns,rfl,rfl,h⟩)
theorem cq:Iss K H [] []:=by unfold Iss;rfl
theorem bT {d:PyData} (h:Is K H d v) (h2:Iss K H ds vs):Iss K H (d::ds) (v::vs):=by unfold Iss;exact⟨v,vs,rfl,h,h2⟩
theorem ix {d:PyData} (h:Is K H d v):Iss K H [d] [v]:=bT h cq
theorem Is.ofInt {i:Int} (h:Is K H (.int i) v):v=.int i:=by unfold Is at h;exact h
theorem Is.ofBool {i:Bool} (h:Is K H (.bool i) v):v=.bl i:=by unfold Is at h;exact h
theorem Is.ofNone (h:Is K H .none v):v=.non:=by unfold Is at h;exact h
theorem Is.ofStr (h:Is K H (.str x) v):v=.str x:=by unfold Is at h;exact h
theorem Is.ofTup (h:Is K H (.tuple ds) v):∃a xs,v=.ref a/\H a=some (.tup xs)/\Iss K H ds xs:=by unfold Is at h;exact h
theorem Is.ofLst (h:Is K H (.list ds) v):∃a xs,v=.ref a/\H a=some (.lst xs)/\Iss K H ds xs:=by unfold Is at h;exact h
theorem Is.ofScript (h:Is K H (aj ns) v):∃a,v=.ref a/\SqL K H a (ns.map V.int):=by
 unfold aj Is at h;rcases h with (h|⟨a,l,_,e,_⟩)|⟨a,C,dx,fs,_,_,_,h|h⟩
 case inl.inr=>rcases e with⟨m,e,_⟩|⟨m,e,_⟩ <;> first|(cases e;done)|(cases m <;> cases e)
 case inr.inl=>unfold Isk at h;obtain⟨f,_,_,_,h,_⟩:=h;cases h
 case inr.inr=>unfold Isk at h;obtain⟨f,_,_,_,h,_⟩:=h;cases h
 obtain⟨a,g,e,e2,h⟩:=h;have i:ns.map PyData.int=g.map PyData.int:=by injection e2 with e2 _;injection e2 with _ e2;injection e2
 have j:ns=g:=by
  have inj:∀(a b:List Int),a.map PyData.int=b.map PyData.int->a=b:=by
   intro a
   induction a with
   |nil=>intro b c;cases b with|nil=>rfl|cons _ _=>simp at c
   |cons x r ih =>
    intro b c;cases b with
    |nil=>simp at c
    |cons y s =>simp only[J5,List.cons.injEq,PyData.int.injEq]at c;rw[c.1,ih s c.2]
  exact inj _ _ i
 subst j;exact⟨a,e,h⟩
theorem Iss.nil_of (h:Iss K H [] vs):vs=[]:=by unfold Iss at h;exact h
theorem Iss.cons_of {d:PyData} (h:Iss K H (d::ds) vs):∃v r,vs=v::r/\Is K H d v/\Iss K H ds r:=by unfold Iss at h;exact h
theorem Iss.length:∀{ds:List PyData} {vs:List V},Iss K H ds vs->vs.length=ds.length
 |[],_,h=>by rw[h.nil_of];rfl
 |_::_,_,h=>by obtain⟨v,r,e,_,h2⟩:=h.cons_of;rw[e,Ka,Ka,Iss.length h2]
mutual
theorem Is.same (e:ao H H'):∀{d:PyData} {v:V},Is K H d v->Is K H' d v
 |.none,_,h=>by unfold Is at h ⊢;exact h
 |.bool _,_,h=>by unfold Is at h ⊢;exact h
 |.int _,_,h=>by unfold Is at h ⊢;exact h
 |.str _,_,h=>by unfold Is at h ⊢;exact h
 |.list ds,_,h=>by unfold Is at h ⊢;obtain⟨a,xs,e1,h1,h2⟩:=h;exact⟨a,xs,e1,e _ _ h1,Iss.same e h2⟩
 |.tuple ds,_,h=>by unfold Is at h ⊢;obtain⟨a,xs,e1,h1,h2⟩:=h;exact⟨a,xs,e1,e _ _ h1,Iss.same e h2⟩
 |.dict _,_,h=>by
  unfold Is at h ⊢;rcases h with (⟨a,ns,e1,e2,h2⟩|⟨a,l,e1,e2,h2⟩)|⟨a,C,dx,fs,e1,h1,hn,h2|h2⟩
  ·exact .inl (.inl ⟨a,ns,e1,e2,e.seq h2⟩)
  ·exact .inl (.inr ⟨a,l,e1,e2,e _ _ h2⟩)
  ·exact .inr ⟨a,C,dx,fs,e1,e _ _ h1,hn,.inl (Isk.same e h2)⟩
  ·exact .inr ⟨a,C,dx,fs,e1,e _ _ h1,hn,.inr (Isk.same e h2)⟩
theorem Iss.same (e:ao H H'):∀{ds:List PyData} {vs:List V},Iss K H ds vs->Iss K H' ds vs
 |[],_,h=>by unfold Iss at h ⊢;exact h
 |d::ds,_,h=>by unfold Iss at h ⊢;obtain⟨v,r,e1,h1,h2⟩:=h;exact⟨v,r,e1,Is.same e h1,Iss.same e h2⟩
theorem Isk.same (e:ao H H'):∀{ds:List (PyData×PyData)} {fs:List (Str×V)},Isk K H ds fs->Isk K H' ds fs
 |[],_,h=>by unfold Isk at h ⊢;exact h
 |(k,d)::ds,_,h=>by unfold Isk at h ⊢;obtain⟨f,v,r,e1,e2,h1,h2⟩:=h;exact⟨f,v,r,e1,e2,Is.same e h1,Isk.same e h2⟩
end
theorem mY:Isk K H [] []:=by unfold Isk;rfl
theorem dB {f:Str} {d:PyData} {r:List (PyData×PyData)} {fs:List (Str×V)} (h:Is K H d v) (h2:Isk K H r fs):Isk K H ((.str f,d)::r) ((f,v)::fs):=by unfold Isk;exact⟨f,v,fs,rfl,rfl,h,h2⟩
theorem B3 {fds:List (Str×PyData)} {fs:List (Str×V)} (h:H a=some (.ins C dx fs)) (hn:fs.lookup ("@":Str)=none) (h2:Isk K H (fds.map λp=>(.str p.1,p.2)) fs):Is K H (bW C a fds) (.ref a):=by unfold bW Is;exact .inr ⟨a,C,dx,fs,rfl,h,hn,.inr (dB bB (dB bB h2))⟩
theorem Gq (b:Ls H A) (h:H a=some (.tup xs)):del H A a=some (.tup xs):=by rw[aB (λq=>by obtain⟨ys,e2,c⟩:=b a q;rw[h]at e2;cases e2;cases c)];exact h
mutual
theorem Is.dl {A:List Addr} (b:Ls H A):∀{d:PyData} {v:V},eM d=true->Is K H d v->Is K (del H A) d v
 |.none,_,_,h=>by unfold Is at h ⊢;exact h
 |.bool _,_,_,h=>by unfold Is at h ⊢;exact h
 |.int _,_,_,h=>by unfold Is at h ⊢;exact h
 |.str _,_,_,h=>by unfold Is at h ⊢;exact h
 |.list _,_,n,_=>by unfold eM at n;cases n
 |.dict _,_,n,_=>by unfold eM at n;cases n
 |.tuple ds,_,n,h=>by unfold eM at n;obtain⟨a,xs,e,h1,h2⟩:=h.ofTup;subst e;exact iA (Gq b h1) (Iss.dl b n h2)
theorem Iss.dl {A:List Addr} (a:Ls H A):∀{ds:List PyData} {vs:List V},jP ds=true->Iss K H ds vs->Iss K (del H A) ds vs
 |[],_,_,h=>by rw[h.nil_of];exact cq
 |d::ds,_,n,h=>by unfold jP at n;obtain⟨n1,n2⟩:=Kx.mp n;obtain⟨v,r,e,h1,h2⟩:=h.cons_of;subst e;exact bT (Is.dl a n1 h1) (Iss.dl a n2 h2)
end
mutual
def aA:PyData->Bool
 |.list ds=>cQ ds
 |.tuple ds=>cQ ds
 |.dict _=>false
 |_=>true
def cQ:List PyData->Bool
 |[]=>true
 |d::ds=>aA d&&cQ ds
end
mutual
theorem Is.isd:∀{d:PyData} {v:V},aA d=true->Is K H d v->IsD K H d v
 |.none,_,_,h=>by rw[h.ofNone];exact A7
 |.bool _,_,_,h=>by rw[h.ofBool];exact B7
 |.int _,_,_,h=>by rw[h.ofInt];exact rL
 |.str _,_,_,h=>by rw[h.ofStr];exact DM
 |.list ds,_,n,h=>by unfold aA at n;obtain⟨a,xs,e,h1,h2⟩:=h.ofLst;subst e;exact sC (SqL.of h1) (Iss.isd n h2)
 |.tuple ds,_,n,h=>by unfold aA at n;obtain⟨a,xs,e,h1,h2⟩:=h.ofTup;subst e;exact CQ (SqT.of h1) (Iss.isd n h2)
 |.dict _,_,n,_=>by unfold aA at n;cases n
theorem Iss.isd:∀{ds:List PyData} {vs:List V},cQ ds=true->Iss K H ds vs->dY K H ds vs
 |[],_,_,h=>by rw[h.nil_of];exact ph
 |d::ds,_,n,h=>by unfold cQ at n;obtain⟨n1,n2⟩:=Kx.mp n;obtain⟨v,r,e,h1,h2⟩:=h.cons_of;subst e;exact qI (Is.isd n1 h1) (Iss.isd n2 h2)
end
def fk:PyData->Bool
 |.none=>true
 |.bool _=>true
 |.int _=>true
 |.str _=>true
 |_=>false
theorem IsD.is {d:PyData} (n:fk d=true) (h:IsD K H d v):Is K H d v:=by
 cases d with
 |none=>rw[h.ofNone];exact is_none
 |bool _=>rw[h.ofBool];exact is_bool
 |int _=>rw[h.ofInt];exact bB
 |str _=>rw[h.ofStr];exact Bl
 |_=>cases n
theorem v8 {d:PyData} (n:fk d=true):eM d=true:=by
 cases d with
 |list _=>cases n
 |tuple _=>cases n
 |dict _=>cases n
 |_=>unfold eM;rfl
theorem Iss.get:∀{ds:List PyData} {vs:List V} {i:Nat} {v:V},Iss K H ds vs->vs[i]?=some v->∃d,ds[i]?=some d/\Is K H d v
 |[],_,i,v,h,e=>by rw[h.nil_of]at e;simp at e
 |d::ds,_,i,v,h,e=>by
  obtain⟨w,r,e1,h1,h2⟩:=h.cons_of;subst e1;cases i with
  |zero=>simp at e;subst e;exact⟨d,rfl,h1⟩
  |succ i=>simpa using Iss.get (i:=i) h2 (by simpa using e)
theorem Iss.getD:∀{ds:List PyData} {vs:List V} {i:Nat} {d:PyData},Iss K H ds vs->ds[i]?=some d->∃v,vs[i]?=some v/\Is K H d v
 |[],_,i,v,h,e=>by simp at e
 |d::ds,_,i,v,h,e=>by
  obtain⟨w,r,e1,h1,h2⟩:=h.cons_of;subst e1;cases i with
  |zero=>simp at e;subst e;exact⟨w,rfl,h1⟩
  |succ i=>simpa using Iss.getD (i:=i) h2 (by simpa using e)
theorem Iss.append:∀{ds es:List PyData} {vs us:List V},Iss K H ds vs->Iss K H es us->Iss K H (ds++es) (vs++us)
 |[],_,_,_,h,h'=>by rw[h.nil_of];exact h'
 |d::ds,es,_,us,h,h'=>by obtain⟨v,r,e,h1,h2⟩:=h.cons_of;subst e;exact bT h1 (Iss.append h2 h')
theorem Iss.take:∀{ds:List PyData} {vs:List V} (n:Nat),Iss K H ds vs->Iss K H (ds.take n) (vs.take n)
 |[],_,n,h=>by rw[h.nil_of];simpa using cq
 |d::ds,_,0,h=>by simpa using cq
 |d::ds,_,n+1,h=>by obtain⟨v,r,e,h1,h2⟩:=h.cons_of;subst e;exact bT h1 (Iss.take n h2)
theorem Iss.set {d:PyData} {v:V} (hv:Is K H d v):∀{ds:List PyData} {vs:List V} (i:Nat),Iss K H ds vs->Iss K H (ds.set i d) (vs.set i v)
 |[],_,n,h=>by rw[h.nil_of];simpa using cq
 |e::ds,_,0,h=>by obtain⟨u,r,z,h1,h2⟩:=h.cons_of;subst z;exact bT hv h2
 |e::ds,_,n+1,h=>by obtain⟨u,r,z,h1,h2⟩:=h.cons_of;subst z;exact bT h1 (Iss.set hv n h2)
theorem Iss.eraseIdx:∀{ds:List PyData} {vs:List V} (i:Nat),Iss K H ds vs->Iss K H (ds.eraseIdx i) (vs.eraseIdx i)
 |[],_,n,h=>by rw[h.nil_of];simpa using cq
 |e::ds,_,0,h=>by obtain⟨u,r,z,h1,h2⟩:=h.cons_of;subst z;exact h2
 |e::ds,_,n+1,h=>by obtain⟨u,r,z,h1,h2⟩:=h.cons_of;subst z;exact bT h1 (Iss.eraseIdx n h2)
theorem Iss.rep {ds:List PyData} {vs:List V} (h:Iss K H ds vs):∀k:Nat,Iss K H (List.replicate k ds).flatten (List.replicate k vs).flatten
 |0=>cq
 |k+1=>by rw[KJ,KJ,L1,L1];exact h.append (Iss.rep h k)
theorem nz:∀(ns:List Int),Iss K H (ns.map PyData.int) (ns.map V.int)
 |[]=>cq
 |_::r=>bT bB (nz r)
theorem Iss.ofInts:∀{ns:List Int} {vs:List V},Iss K H (ns.map PyData.int) vs->vs=ns.map V.int
 |[],_,h=>h.nil_of
 |n::r,_,h=>by obtain⟨v,t,e,h1,h2⟩:=h.cons_of;rw[e,h1.ofInt,Iss.ofInts h2];rfl
theorem Iss.ofBools:∀{ns:List Bool} {vs:List V},Iss K H (ns.map PyData.bool) vs->vs=ns.map V.bl
 |[],_,h=>h.nil_of
 |n::r,_,h=>by obtain⟨v,t,e,h1,h2⟩:=h.cons_of;rw[e,h1.ofBool,Iss.ofBools h2];rfl
theorem Is.isNone {d:PyData} (h:Is K H d v):(v=.non)↔d=.none:=by
 cases d with
 |none=>simp[h.ofNone]
 |bool b=>simp[h.ofBool]
 |int i=>simp[h.ofInt]
 |str x=>simp[h.ofStr]
 |list ds=>obtain⟨a,xs,e,_⟩:=h.ofLst;simp[e]
 |tuple ds=>obtain⟨a,xs,e,_⟩:=h.ofTup;simp[e]
 |dict _=>unfold Is at h;rcases h with (⟨a,ns,e,_⟩|⟨a,l,e,_⟩)|⟨a,C,dx,fs,e,_⟩ <;> simp[e]
theorem bp {p:Addr} (h:H p=none):ao H (upd H p o):=fW h
theorem hV {p:Addr} (h:p∈A):del (upd H p o) A=del H A:=by
 funext b;by_cases z:b∈A
 ·rw[eQ z,eQ z]
 ·rw[aB z,aB z,au (by rintro rfl;exact z h)]
theorem mM {p:Addr} (b:Ls H A) (a:H p=none) (h:Iss K (del H A) ds xs):Is K (del (upd H p (.tup xs)) A) (.tuple ds) (.ref p) :=
 iA (by rw[aB (b.new a)];exact ay) (h.same (ao.del (bp a)))
theorem kI {p:Addr} (b:Ls H A) (a:H p=none) (h:Iss K (del H A) ds xs):Is K (del (upd H p (.lst xs)) A) (.list ds) (.ref p) :=
 gx (by rw[aB (b.new a)];exact ay) (h.same (ao.del (bp a)))
end
abbrev Ds:=List (Option PyData)
variable {ge:Ds->Rs PyData} {gs gi:Ds->Rs (List PyData)} {δ:Ds} {tgt:PyData->Option Ds} {cond:Ds->Rs Bool}
structure cT (K:PySem.W.Frag) (H:Hp) (A:List Addr) (δ:Ds) (σ:St):Prop where
 ls:Ls H A
 len:δ.length=σ.length
 get:∀(i:Nat) (d:PyData),δ[i]?=some (some d)->∃v,σ[i]?=some (some v)/\Is K (del H A) d v
theorem cT.same (R:cT K H A δ σ) (s:ao H H'):cT K H' A δ σ :=
 ⟨R.ls.same s,R.len,λi d e=>by obtain⟨v,e1,h⟩:=R.get i d e;exact⟨v,e1,h.same s.del⟩⟩
def f7 (K:PySem.W.Frag) (E:XK) (A:List Addr) (H:Hp) (r:Rs PyData) (Q:VK):Prop:=match r with
 |.ok d=>∀v H',ao H H'->Is K (del H' A) d v->Q v H'
 |.rz C=>∀H',ao H H'->E (.ref C) none H'
 |.no=>False
def Jz (K:PySem.W.Frag) (E:XK) (A:List Addr) (H:Hp) (r:Rs (List PyData)) (Q:List V->Hp->Prop):Prop:=match r with
 |.ok d=>∀v H',ao H H'->Iss K (del H' A) d v->Q v H'
 |.rz C=>∀H',ao H H'->E (.ref C) none H'
 |.no=>False
def tY (E:XK) (H:Hp) (r:Rs Bool) (Q:Bool->Hp->Prop):Prop:=match r with
 |.ok d=>∀H',ao H H'->Q d H'
 |.rz C=>∀H',ao H H'->E (.ref C) none H'
 |.no=>False
def eD (K:PySem.W.Frag) (E:XK) (g:Ds->Rs PyData):TE:=λσ H Q=>∃A δ,cT K H A δ σ/\f7 K E A H (g δ) Q
def aD (K:PySem.W.Frag) (E:XK) (g:Ds->Rs (List PyData)):TA:=λσ H Q=>∃A δ,cT K H A δ σ/\Jz K E A H (g δ) Q
noncomputable def cD (K:PySem.W.Frag) (E:XK) (g:Ds->Rs Bool):TT:=λσ H Q=>∃A δ,cT K H A δ σ/\tY E H (g δ) Q
def PD (X:Cx) (E:XK) (e:Expr) (g:Ds->Rs PyData):Prop:=PE X e (eD X.K E g)
def PAD (X:Cx) (E:XK) (es:List Expr) (g:Ds->Rs (List PyData)):Prop:=PA X es (aD X.K E g)/\∀δ ds,g δ=.ok ds->ds.length=es.length
def PCD (X:Cx) (E:XK) (e:Expr) (g:Ds->Rs Bool):Prop:=PT X e (cD X.K E g)
def PWD (X:Cx) (E:XK) (e:Expr) (g:Ds->Rs Bool):Prop:=PW X e (cD X.K E g)
theorem PE.imp {t t':TE} (h:PE X e t) (k:∀σ H Q,t' σ H Q->t σ H Q):PE X e t':=λpins s σ H Q I q=>h pins s σ H Q I (k σ H Q q)
theorem PT.imp {t t':TT} (h:PT X e t) (k:∀σ H Q,t' σ H Q->t σ H Q):PT X e t':=λpins s σ H Q I q=>h pins s σ H Q I (k σ H Q q)
theorem PW.imp {t t':TT} (h:PW X e t) (k:∀σ H Q,t' σ H Q->t σ H Q):PW X e t':=λw pins s σ H Q I q=>h w pins s σ H Q I (k σ H Q q)
theorem PA.imp {e:List Expr} {t t':TA} (h:PA X e t) (k:∀σ H Q,t' σ H Q->t σ H Q):PA X e t':=λp pins s σ H Q I q=>h p pins s σ H Q I (k σ H Q q)
theorem PS.imp {e:Stmt} {t t':TS} (h:PS X e t) (k:∀D σ H,t' D σ H->t D σ H):PS X e t':=λpins s σ H D I q=>h pins s σ H D I (k D σ H q)
theorem PSs.imp {e:List Stmt} {t t':TS} (h:PSs X e t) (k:∀D σ H,t' D σ H->t D σ H):PSs X e t':=λpins s σ H D I q=>h pins s σ H D I (k D σ H q)
theorem f7.mono {r:Rs PyData} {Q:VK} (h:f7 K E A H r Q) (s:ao H H1):f7 K E A H1 r Q:=by
 cases r with
 |ok d=>exact λv H' s' q=>h v H' (s.trans s') q
 |rz C=>exact λH' s'=>h H' (s.trans s')
 |no=>exact h
theorem tY.mono {r:Rs Bool} {Q:Bool->Hp->Prop} (h:tY E H r Q) (s:ao H H1):tY E H1 r Q:=by
 cases r with
 |ok d=>exact λH' s'=>h H' (s.trans s')
 |rz C=>exact λH' s'=>h H' (s.trans s')
 |no=>exact h
theorem eD.run {g:Ds->Rs PyData} {Q:VK} (R:cT K H A δ σ)
  (ok:∀d,g δ=.ok d->∀v H',ao H H'->cT K H' A δ σ->Is K (del H' A) d v->Q v H') (rz:∀C,g δ=.rz C->∀H',ao H H'->E (.ref C) none H') (no:g δ=.no->False):eD K E g σ H Q:=by
 refine⟨A,δ,R,?_⟩;cases e:g δ with
 |ok d=>exact λv H' s q=>ok d e v H' s (R.same s) q
 |rz C=>exact λH' s=>rz C e H' s
 |no=>exact no e
theorem aD.run {g:Ds->Rs (List PyData)} {Q:List V->Hp->Prop} (R:cT K H A δ σ)
  (ok:∀d,g δ=.ok d->∀v H',ao H H'->cT K H' A δ σ->Iss K (del H' A) d v->Q v H') (rz:∀C,g δ=.rz C->∀H',ao H H'->E (.ref C) none H') (no:g δ=.no->False):aD K E g σ H Q:=by
 refine⟨A,δ,R,?_⟩;cases e:g δ with
 |ok d=>exact λv H' s q=>ok d e v H' s (R.same s) q
 |rz C=>exact λH' s=>rz C e H' s
 |no=>exact no e
theorem cD.run {g:Ds->Rs Bool} {Q:Bool->Hp->Prop} (R:cT K H A δ σ)
  (ok:∀d,g δ=.ok d->∀H',ao H H'->cT K H' A δ σ->Q d H') (rz:∀C,g δ=.rz C->∀H',ao H H'->E (.ref C) none H') (no:g δ=.no->False):cD K E g σ H Q:=by
 refine⟨A,δ,R,?_⟩;cases e:g δ with
 |ok d=>exact λH' s=>ok d e H' s (R.same s)
 |rz C=>exact λH' s=>rz C e H' s
 |no=>exact no e
structure zZ (X:Cx) (c P:Addr):Prop where
 tab:TabOf X.K P (X.env.qual++"<lambda>")
 code:X.env.code=.ref c
 hd:PySem.W.CodeHd X.base c P
 bl:∃bm o,X.mg "__builtins__"=some (.ref bm)/\bm≠builtinsNs/\bm≠mainGlobals/\X.base.get? bm=some o/\o.cls=.type "module"/\o.dict=some builtinsNs/\o.data=.plain
theorem kD {a b:Int} {t u:Nat} {c:Value}:∀{l:List Value},TriplesOk l->TriplesOk (l++[.int a t,.int b u,c])
 |[],_=>by simp[TriplesOk]
 |[_],h=>by simp[TriplesOk]at h
 |[x,y],h=>by cases x <;> cases y <;> (unfold TriplesOk at h;exact h.elim)
 |x::y::z::r,h=>by
  cases x <;> first|(unfold TriplesOk at h;exact h.elim)|skip
  cases y <;> first|(unfold TriplesOk at h;exact h.elim)|skip
  unfold TriplesOk at h;show TriplesOk (_::_::_::(r++_));unfold TriplesOk;exact kD h
theorem pF {pos:Pos} {a b:Int} {t u:Nat} {c f:Value}:∀{l:List Value},TriplesOk l->codeAmong pos (l++[.int a t,.int b u,c])=some f->codeAmong pos l=some f\/f=c
 |[],_,e=>by
  simp only[Kt,codeAmong]at e;split at e
  ·cases e;exact .inr rfl
  ·cases e
 |[_],h,_=>by simp[TriplesOk]at h
 |[x,y],h,_=>by cases x <;> cases y <;> (unfold TriplesOk at h;exact h.elim)
 |x::y::z::r,h,e=>by
  cases x <;> first|(unfold TriplesOk at h;exact h.elim)|skip
  cases y <;> first|(unfold TriplesOk at h;exact h.elim)|skip
  unfold TriplesOk at h;simp only[Ku,codeAmong]at e ⊢;split at e
  ·rename_i q;rw[if_pos q];exact .inl e
  ·rename_i q;rw[if_neg q];exact pF h e
def Jk (qual:Str) (mk:Addr->Value->Obj):TE:=λ_ H Q=>∀f c' a H',H f=none->H' f=some (.frz (mk c' a) (.own f))->ao H H' ->
 (∃o vs t,H' c'=some (.frz o (.own c'))/\o.data=.fields vs/\vs[1]?=some (.str qual t))->Q (.ref f) H'
theorem F4 {P:Addr} {g:List (Str×Addr)} (T:zZ X c P) (x:closureFor scope X.env=pure g) (A:defaultsOf params X.env=([],[]):=by rfl) :
  PE X (.Lambda params body scope pos) (Jk (X.env.qual++"<lambda>") λc' f=>PySem.W.kla_obj "<lambda>" (X.env.qual++"<lambda>") params body scope g ((X.mg "__name__").getD .none) c' f):=by
 intro pins s σ H Q I h;have i:=I.tab P _ T.tab;obtain⟨ps,B,L,hc⟩:=I.hok P _ i;obtain⟨bm,ob,b1,b2,b3,R,b5,b6,b7⟩:=T.bl;have S:∀b o,X.base.get? b=some o->b≠P:=λb o e z=>by have:=(I.bs b o e).2;rw[z,i]at this;cases this
 have C:s.heap.BuiltinsAt X.mg P:=⟨bm,ob,b1,b2,b3,S _ _ R,I.bk _ _ R,b5,b6,b7⟩
 have U:s.heap.Ns mainGlobals X.mg:=I.mod.glob.keeps I.bk;have M:mainGlobals≠P:=by obtain⟨o,es,Y,e,_⟩:=I.mod.glob;exact S _ _ e
 have Z:=T.hd.keeps I.bk;have fin:∀{H1:Hp} {h1:Heap} {tk:Nat} {o:Obj},Inv X pins σ H1 { s with heap:=h1,toks:=tk }->o.isFreed=false->Inv X pins σ (upd H1 h1.objs.size (.frz o (.own h1.objs.size))) { s with heap:=h1.push o,toks:=tk }:=λ{H1 h1 tk o} J j =>
  J.laid (h':=h1.push o) (t':=tk) (λb u q=>J1 _ q) (JU _) ⟨K2 _ j,o,K2 _ j⟩
 refine PySem.W.kla_eval A ?_;cases hf:codeAmong pos ps.toList with
 |some N =>
  obtain⟨c',o,vs,t,rfl,D,d1,d2⟩:=hc pos N hf;refine PySem.W.kla_makeFunctionHit (mg:=X.mg) x I.ok.glob U T.code Z B L hf C λf h' tk hk hsz=>?_
  have n:H h'.objs.size=none:=I.hok.fresh hsz;exact⟨.ref _,_,fin (I.kept (h':=h') (t':=tk) hk) rfl,rfl,h _ c' f _ n ay (fW n) ⟨o,vs,t,by rw[au (aG D n)];exact D,d1,d2⟩⟩
 |none =>
  refine PySem.W.kla_makeFunction (mg:=X.mg) x I.ok.glob U T.code Z B L hf M C λc' f h' tk E l O F G=>?_
  obtain⟨c₂,oc,vs,t,e2,K,hd,hv⟩:=F;cases e2;have hn:H c'=none:=I.hok.fresh l;have cP:c'≠P:=λz=>by rw[z,i]at hn;cases hn
  have a:∀b u,H b=some u->b≠c':=λb u e z=>by rw[z,hn]at e;cases e
  have J:Inv X pins σ (upd H c' (.frz oc (.own c'))) { s with heap:=h',toks:=tk }:=by
   refine I.step (g':=s.gens) (d':=s.drawn) (ch:=[]) (λ_ z=>nomatch z) (λb o _ _ _ e n=>?_) (λb o _ _ _ e n=>⟨o.slots,?_⟩) (λb o _ e n=>?_) (λb o _ e=>?_) (λb xs e=>?_) (λb o u e=>?_) (λb qs e=>?_) (λm hm=>?_) (λb u e=>?_) I.bare
   ·exact E b o (λz=>by rw[z,i]at n;cases n) e
   ·exact E b o (λz=>by rw[z,i]at n;cases n) e
   ·rw[au (JX (K4 (JV e) l))];exact n
   ·by_cases z:b=P
    ·subst z;exact⟨_,G⟩
    ·exact⟨o,E b o z e⟩
   ·rw[au (a b _ e)];exact e
   ·rw[au (a b _ e)];exact e
   ·rw[au (a b _ e)];exact e
   ·obtain⟨o,es,Y,ho,r⟩:=hm;refine⟨o,es,Y,E _ o (λz=>?_) ho,r⟩;have:=I.free;rw[z,i]at this;cases this
   ·by_cases z:b=c'
    ·subst z;rw[ay]at e;cases e;exact⟨K,oc,K⟩
    ·rw[au z]at e;by_cases y:b=P
     ·subst y;rw[i]at e;cases e;refine⟨ps++#[rawInt pos.line,rawInt pos.col,.ref c'],G,?_,λpos' N e=>?_⟩
      ·rw[Array.toList_append];exact kD L
      ·rw[Array.toList_append]at e;rcases pF L e with e|rfl
       ·obtain⟨c2,o,vs,t,rfl,q,d⟩:=hc pos' N e;exact⟨c2,o,vs,t,rfl,by rw[au (a _ _ q)];exact q,d⟩
       ·exact⟨c',oc,vs,t,rfl,ay,hd,hv⟩
     ·refine (I.hok b u e).stay (λp v w q=>E p v (λy'=>?_) q) (λp q=>?_) (λp xs q=>?_) λp o' u' q=>?_
      ·subst y';rcases w with w|w
       ·exact y w.symm
       ·rw[i]at w;cases w
      ·rw[au (a p _ q)];exact q
      ·rw[au (a p _ q)];exact q
      ·rw[au (a p _ q)];exact q
  have n:upd H c' (.frz oc (.own c')) h'.objs.size=none:=J.hok.fresh (JU _);have n0:H h'.objs.size=none:=I.hok.fresh (KO l (LO O));exact⟨.ref _,_,fin J rfl,rfl,h _ c' f _ n0 ay ((fW hn).trans (fW n)) ⟨oc,vs,t,by rw[au (aG ay n)];exact ay,hd,hv⟩⟩
abbrev Cx.in1 (X:Cx):Cx:={ X with A:=X.A.in1 }
section
theorem Inv.in1 (I:Inv X pins σ H s):Inv X.in1 pins σ H s :=
 ⟨⟨I.ok.mod,I.ok.kind,I.ok.glob,I.ok.blt,I.ok.above,I.ok.inj,I.ok.has,I.ok.cab,I.ok.hd,I.ok.frames,I.ok.stk,I.ok.exf,I.ok.bs,I.ok.bsz,I.ok.noex,I.ok.exfs,I.ok.funs,I.ok.frf⟩,I.os,I.bare,I.base,I.loc,I.cell,I.free,I.freeC,I.pin,I.hok,I.len,I.tab⟩
theorem Inv.of1 (I:Inv X.in1 pins σ H s):Inv X pins σ H s :=
 ⟨⟨I.ok.mod,I.ok.kind,I.ok.glob,I.ok.blt,I.ok.above,I.ok.inj,I.ok.has,I.ok.cab,I.ok.hd,I.ok.frames,I.ok.stk,I.ok.exf,I.ok.bs,I.ok.bsz,I.ok.noex,I.ok.exfs,I.ok.funs,I.ok.frf⟩,I.os,I.bare,I.base,I.loc,I.cell,I.free,I.freeC,I.pin,I.hok,I.len,I.tab⟩
end
noncomputable def bst (lt:Nat->Nat->Bool):Nat->Nat
 |0=>0
 |j+1=>if lt (j+1) (bst lt j) then j+1 else bst lt j
theorem rP (lt:Nat->Nat->Bool):∀j,bst lt j<=j
 |0=>JU _
 |j+1=>by
  unfold bst;split
  ·exact JU _
  ·exact Nat.le_succ_of_le (rP lt j)
structure j8 (X:Cx) (σ:St) (pins:List (Addr×Obj)) (q l:Addr) (xs:List V) (Φ:Hp->Prop) (κ:Nat->V->Hp->Prop) (lt:Nat->Nat->Bool):Prop where
 lst:∀H,Φ H->H l=some (.lst xs)
 turn:∀(i:Nat) (x:V),xs[i]?=some x->∀(pins':List (Addr×Obj)) (H:Hp) (s:Shared) (u:Value),(∀p∈pins,p∈pins')->Inv X.in1 pins' σ H s->Φ H->RelV x u ->
  wpAny (model X.prog X.w) X.A.in1 (call (.ref q) [u]) (EP X.in1 pins' σ λv H'=>Φ H'/\κ i v H'/\∀j v',κ j v' H->κ j v' H') (λ_ _=>False) s
 cmp:∀(i j:Nat) (x y:V) (pins':List (Addr×Obj)) (H:Hp) (s:Shared) (u v:Value),Inv X.in1 pins' σ H s->Φ H->κ i x H->κ j y H->RelV x u->RelV y v ->
  wpAny (model X.prog X.w) X.A.in1 (richCompare .Lt u v) (λr s'=>r=.bool (lt i j)/\Inv X.in1 pins' σ H s') (λ_ _=>False) s
section
variable {q l:Addr} {Φ:Hp->Prop} {lt:Nat->Nat->Bool} {R:Result->Shared->Prop}
theorem Inv.turnPin {ps:List (Addr×Obj)} {o o':Obj} {t':Nat} (I:Inv X ((it,o)::ps) σ H s) (k:∀b u,b≠it->s.heap.get? b=some u->h'.get? b=some u) (f:h'.get? it=some o')
  (h1:X.s₀.heap.objs.size<=it) (g:∀p∈X.pn++ps,p.1≠it) (hc:∀v,o'.data≠.cell v):Inv X ((it,o')::ps) σ H { s with heap:=h',toks:=t' }:=by
 obtain⟨e,n,ne,h,d⟩:=I.pin (it,o) (JS _ (.head _));have i:Inv X ps σ H s:=I.pins_of λp a=>I.pin p (JS _ (.tail _ a))
 have J:Inv X ps σ H { s with heap:=h',toks:=t' }:=i.turned k n ne (.inr h1) (λx c hl z=>by obtain⟨v,o2,e2,d2⟩:=I.cell x c hl;subst z;rw[e]at e2;cases e2;exact d v d2) g
 refine J.pins_of λp a=>?_
 rcases J7.mp a with rfl|a
 ·exact⟨f,n,ne,h,hc⟩
 ·exact J.pin p (JS _ a)
theorem Inv.swap {ps:List (Addr×Obj)} {a b:Addr×Obj} (I:Inv X (a::b::ps) σ H s):Inv X (b::a::ps) σ H s:=I.pins_of λp c=>I.pin p (JS _ (by
 rcases J7.mp c with rfl|c
 ·exact .tail _ (.head _)
 ·rcases J7.mp c with rfl|c
  ·exact .head _
  ·exact .tail _ (.tail _ c)))
theorem Eg (KK:j8 X σ pins q l xs Φ κ lt) (hh:X.A.handled=none)
  (hR:∀H' s' x u,xs[bst lt (xs.length-1)]?=some x->RelV x u->Inv X pins σ H' s'->Φ H'->R (.ok (.ret u)) s') :
  ∀(r j:Nat) (H:Hp) (s:Shared) (h g:Value) (xb kb:V) (c:Nat) (It S:Addr) (G:Obj),xs.length-(j+1)=r->j+1<=xs.length->X.s₀.heap.objs.size<=It->X.s₀.heap.objs.size<=S->S≠It ->
   (∀p∈X.pn++pins,p.1≠It)->(∀p∈X.pn++pins,p.1≠S) ->
   Inv X.in1 ((S,seqObj "list" #[h,g] c)::(It,G)::pins) σ H s->G.cls=.type "list_iterator"->G.data=.fields #[.ref l,.int ((j+1:Nat):Int) 0]->Φ H->xs[bst lt j]?=some xb->RelV xb h->κ (bst lt j) kb H->RelV kb g ->
   codeAny (model X.prog X.w) X.A (.builtin "min.loop" ⟨[.ref It,.ref q,.ref S],[]⟩) R s:=by
 have B:(toString "min"++toString ".loop":String)="min.loop":=by decide
 intro r
 induction r with
 |zero =>
  intro j H s h g xb kb c It S G hr hj zI zS i O nS I P Q C hb rb T rk;have hin:j+1=xs.length:=by omega
  have pS:=I.pin (S,seqObj "list" #[h,g] c) (JS _ (.head _));have K:=I.pin (It,G) (JS _ (.tail _ (.head _)));have hl:=KK.lst H C;obtain⟨m,n,rv,eL,_⟩:=I.lst hl;have U:l≠It:=aG hl K.2.1;have hsz:m.toArray.size=xs.length:=by rw[K3,<-rv.length]
  have W:=Walks.list (prog:=X.prog) (w:=X.w) (A:=X.A.in1) hh It l U m.toArray;refine codeAny_builtin PySem.F.entry_min_loop ?_;rw[Around.under_plainId PySem.F.plain_min_loop _];show wpAny _ X.A.in1 (seqItems? (.ref S) >>= _) _ _ _;refine wpAny_bind (wpAny_seqItems pS.1 rfl ?_);show wpAny _ X.A.in1 (tryCatch (pyNext (.ref It)) _ >>= _) _ _ _;refine wpAny_bind (wpAny_tryCatch (W.done _ _ _ ⟨by rw[hsz,<-hin];exact⟨G,K.1,P,Q⟩,⟨_,eL,rfl,n,rfl⟩⟩ λh' y Y=>?_));have I1:Inv X.in1 ((S,seqObj "list" #[h,g] c)::pins) σ H { s with heap:=h',toks:=y }:=by
   have I0:Inv X.in1 ((S,seqObj "list" #[h,g] c)::pins) σ H s:=I.pins_of λp a=>I.pin p (JS _ (by
    rcases J7.mp a with rfl|a
    ·exact .head _
    ·exact .tail _ (.tail _ a)))
   refine I0.turned (λb o Z e=>Y b o (by simpa using Z) e) K.2.1 K.2.2.1 (.inr zI) (λx cc hcl z=>?_) λp a=>?_
   ·obtain⟨v,o2,e2,d2⟩:=I.cell x cc hcl;subst z;rw[K.1]at e2;cases e2;exact K.2.2.2.2 v d2
   ·rcases Ki.mp a with a|a
    ·exact O p (Kl _ a)
    ·rcases J7.mp a with rfl|a
     ·exact i
     ·exact O p (JS _ a)
  have D:=I1.pin (S,seqObj "list" #[h,g] c) (JS _ (.head _));have s1:=Heap.SameBut.update h' S (Obj.mapSeq λ_=>(#[]:Array Value));show wpAny _ X.A.in1 (updateSeq S (λ_=>#[]) >>= _) _ _ _;refine wpAny_bind ?_;refine wpAny_updateSeq D.1 rfl (wpAny_bind (wpAny_letGo (wpAny_pure ?_)));have I2:Inv X.in1 pins σ H { s with heap:=h'.update S (Obj.mapSeq λ_=>(#[]:Array Value)),toks:=y }:=by
   have I0:Inv X.in1 pins σ H { s with heap:=h',toks:=y }:=I1.pins_of λp a=>I1.pin p (JS _ (.tail _ a))
   refine I0.turned (h':=h'.update S (Obj.mapSeq λ_=>(#[]:Array Value))) (t':=y) (λb o Z e=>(s1.2 b Z).trans e) D.2.1 D.2.2.1 (.inr zS) (λx cc hcl z=>?_) nS;obtain⟨v,o2,e2,d2⟩:=I1.cell x cc hcl;subst z;rw[D.1]at e2;cases e2;exact D.2.2.2.2 v d2
  exact hR H _ xb h (by rw[<-hin];exact hb) rb I2.of1 C
 |succ r ih =>
  intro j H s h g xb kb c It S G hr hj zI zS i O nS I P Q C hb rb T rk;have L:j+1<xs.length:=by omega
  have pS:=I.pin (S,seqObj "list" #[h,g] c) (JS _ (.head _));have K:=I.pin (It,G) (JS _ (.tail _ (.head _)));have hl:=KK.lst H C;obtain⟨m,n,rv,eL,_⟩:=I.lst hl;have U:l≠It:=aG hl K.2.1;have hsz:m.toArray.size=xs.length:=by rw[K3,<-rv.length]
  have W:=Walks.list (prog:=X.prog) (w:=X.w) (A:=X.A.in1) hh It l U m.toArray;refine codeAny_builtin PySem.F.entry_min_loop ?_;rw[Around.under_plainId PySem.F.plain_min_loop _];show wpAny _ X.A.in1 (seqItems? (.ref S) >>= _) _ _ _;refine wpAny_bind (wpAny_seqItems pS.1 rfl ?_);show wpAny _ X.A.in1 (tryCatch (pyNext (.ref It)) _ >>= _) _ _ _;refine wpAny_bind (wpAny_tryCatch (W.item (j+1) _ _ _ (by rw[hsz];exact L) ⟨⟨G,K.1,P,Q⟩,⟨_,eL,rfl,n,rfl⟩⟩ λv h' y hP hst' Y=>?_));have hv:m[j+1]?=some v:=by simpa using hP
  obtain⟨x,hx⟩:∃x,xs[j+1]?=some x:=⟨_,J0 L⟩
  obtain⟨v',hv',rx⟩:=rv.get hx;rw[hv]at hv';cases hv';obtain⟨M,hoI',hoc,hod⟩:=id hst'.1;have J:Inv X.in1 ((It,M)::(S,seqObj "list" #[h,g] c)::pins) σ H { s with heap:=h',toks:=y } :=
   I.swap.turnPin (λb o Z e=>Y b o (by simpa using Z) e) hoI' zI (λp a=>by
    rcases Ki.mp a with a|a
    ·exact O p (Kl _ a)
    ·rcases J7.mp a with rfl|a
     ·exact i
     ·exact O p (JS _ a)) λvv z=>by rw[hod]at z;cases z
  show wpAny _ X.A.in1 (tryCatch (holding [v] (call (.ref q) [v])) _ >>= _) _ _ _;refine wpAny_bind (wpAny_tryCatch (wpAny_holding (wpAny_mono (KK.turn (j+1) x hx _ H _ v (λp a=>.tail _ (.tail _ a)) J C rx) (λf s2 he=>?_) λ_ _ hF=>hF.elim)));obtain⟨kv,H2,J2,rk2,E,N,hst⟩:=he;show wpAny _ X.A.in1 (tryCatch (holding [v,f] (richCompare .Lt f g >>= _)) _ >>= _) _ _ _;refine wpAny_bind (wpAny_tryCatch (wpAny_holding (wpAny_bind (wpAny_mono (KK.cmp (j+1) (bst lt j) kv kb _ H2 s2 f g J2 E N (hst _ _ T) rk2 rk) (λrr s3 hc3=>?_) λ_ _ hF=>hF.elim))));obtain⟨rfl,J3⟩:=hc3;refine wpAny_bind (wpAny_holding (wpAny_truthy_bool ?_));refine wpAny_bind (wpAny_letGo (wpAny_pure ?_));have pS3:=J3.pin (S,seqObj "list" #[h,g] c) (JS _ (.tail _ (.head _)));cases hb':lt (j+1) (bst lt j) with
  |true =>
   have s1:=Heap.SameBut.update s3.heap S (Obj.mapSeq λ_=>#[v,f]);obtain⟨c2,hc2⟩:∃c2,(s3.heap.update S (Obj.mapSeq λ_=>#[v,f])).get? S=some (seqObj "list" #[v,f] c2):=⟨_,get?_update_seq pS3.1 λ_=>#[v,f]⟩
   simp only[if_true];refine wpAny_bind ?_;refine wpAny_updateSeq pS3.1 rfl (wpAny_bind (wpAny_letGo ?_));rw[B];have J4:Inv X.in1 ((S,seqObj "list" #[v,f] c2)::(It,M)::pins) σ H2 { s3 with heap:=s3.heap.update S (Obj.mapSeq λ_=>#[v,f]),toks:=s3.toks } :=
    J3.swap.turnPin (λb o Z e=>(s1.2 b Z).trans e) hc2 zS (λp a=>by
     rcases Ki.mp a with a|a
     ·exact nS p (Kl _ a)
     ·rcases J7.mp a with rfl|a
      ·exact i.symm
      ·exact nS p (JS _ a)) λvv z=>by cases z
   have eb:bst lt (j+1)=j+1:=by unfold bst;rw[if_pos hb']
   exact wpAny_pure ⟨plainId_quiet PySem.F.plain_min_loop _,ih (j+1) H2 _ v f x kv c2 It S M (by omega) L zI zS i O nS J4 hoc hod E (by rw[eb];exact hx) rx (by rw[eb];exact N) rk2⟩
  |false =>
   simp only[Kh,if_false];refine wpAny_bind (wpAny_letGo ?_);rw[B];have eb:bst lt (j+1)=bst lt j:=by rw[bst,if_neg (by rw[hb'];decide)]
   exact wpAny_pure ⟨plainId_quiet PySem.F.plain_min_loop _,ih (j+1) H2 _ h g xb kb c It S M (by omega) L zI zS i O nS J3.swap hoc hod E (by rw[eb];exact hb) rb (by rw[eb];exact hst _ _ T) rk⟩
theorem GN {E:Value->Shared->Prop} (KK:j8 X σ pins q l xs Φ κ lt) (hh:X.A.handled=none) (I:Inv X pins σ H s) (y:Φ H) (h:0<xs.length)
  (hQ:∀H' s' x u,xs[bst lt (xs.length-1)]?=some x->RelV x u->Inv X pins σ H' s'->Φ H'->Q u s') :
  wpAny (model X.prog X.w) X.A (call (.builtin "min") [.ref l] [(Str.ofString "key",.ref q)]) Q E s:=by
 have f:(toString "min"++toString ".loop":String)="min.loop":=by decide
 have hl:=KK.lst H y;obtain⟨g,n,rv,P,_⟩:=I.lst hl;have R:s.heap.IsList l g.toArray:=⟨_,P,rfl,n,rfl⟩
 refine kmk_tree PySem.F.kind_min PySem.F.plain_min PySem.F.entry_min (kmk_min_key _ _) ?_;show wpAny _ X.A.in1 (Builtin.Builtins.bindParams "min" ["key", "default"] 0 ⟨[],[(Str.ofString "key",.ref q)]⟩ >>= _) _ _ s;refine wpAny_bind (wpAny_of_eq (show Builtin.Builtins.bindParams "min" ["key", "default"] 0 ⟨[],[(Str.ofString "key",.ref q)]⟩=pure [some (.ref q),none] from rfl) ?_);refine wpAny_bind (wpAny_pure ?_);refine wpAny_bind (wpAny_pyIter_list R ?_);refine wpAny_bind (wpAny_newList ?_ (Ks _));rw[f];have T:(s.heap.push { cls:=.type "list_iterator",data:=.fields #[.ref l,.int 0 0] }).objs.size=s.heap.objs.size+1:=size_push' ..;have U:l<s.heap.objs.size:=JV P;have Y:l≠s.heap.objs.size:=JX U;have i:(s.heap.push { cls:=.type "list_iterator",data:=.fields #[.ref l,.int 0 0] }).objs.size≠s.heap.objs.size:=by rw[T];exact KA (KU _)
 have Z:∀p∈X.pn++pins,p.1≠s.heap.objs.size:=λp a=>JX (JV (I.pin p a).1)
 have nS:∀p∈X.pn++pins,p.1≠(s.heap.push { cls:=.type "list_iterator",data:=.fields #[.ref l,.int 0 0] }).objs.size:=λp a=>by rw[T];exact JX (KH (JV (I.pin p a).1))
 refine wpAny_pure ⟨plainId_quiet PySem.F.plain_min_loop _,?_⟩;have gI:((s.heap.push { cls:=.type "list_iterator",data:=.fields #[.ref l,.int 0 0] }).push (seqObj "list" #[] 0)).get? s.heap.objs.size=some { cls:=.type "list_iterator",data:=.fields #[.ref l,.int 0 0] } :=
  J1 _ (K2 _ rfl)
 have gS:((s.heap.push { cls:=.type "list_iterator",data:=.fields #[.ref l,.int 0 0] }).push (seqObj "list" #[] 0)).get? (s.heap.push { cls:=.type "list_iterator",data:=.fields #[.ref l,.int 0 0] }).objs.size=some (seqObj "list" #[] 0):=K2 _ rfl;have zI:X.s₀.heap.objs.size<=s.heap.objs.size:=I.sz;have zS:X.s₀.heap.objs.size<=(s.heap.push { cls:=.type "list_iterator",data:=.fields #[.ref l,.int 0 0] }).objs.size:=by rw[T];exact Nat.le_succ_of_le zI
 generalize eSa:(s.heap.push { cls:=.type "list_iterator",data:=.fields #[.ref l,.int 0 0] }).objs.size=S at *;generalize eIa:s.heap.objs.size=It at *;have I0:Inv X.in1 pins σ H { s with heap:=(s.heap.push { cls:=.type "list_iterator",data:=.fields #[.ref l,.int 0 0] }).push (seqObj "list" #[] 0),toks:=s.toks }:=I.in1.kept λb u e=>J1 _ (J1 _ e)
 have j:s.heap.objs.size<=It:=Nat.le_of_eq eIa;have m:s.heap.objs.size<=S:=by omega
 have I1:Inv X.in1 ((S,seqObj "list" #[] 0)::(It,{ cls:=.type "list_iterator",data:=.fields #[.ref l,.int 0 0] })::pins) σ H { s with heap:=(s.heap.push { cls:=.type "list_iterator",data:=.fields #[.ref l,.int 0 0] }).push (seqObj "list" #[] 0),toks:=s.toks }:=by
  refine I0.pins_of λp a=>?_
  rcases J7.mp a with rfl|a
  ·exact⟨gS,I.hok.fresh m,KA (K4 I.lt m),I.nofs m,λv z=>by cases z⟩
  ·rcases J7.mp a with rfl|a
   ·exact⟨gI,I.hok.fresh j,KA (K4 I.lt j),I.nofs j,λv z=>by cases z⟩
   ·exact I0.pin p (JS _ a)
 have hsz:g.toArray.size=xs.length:=by rw[K3,<-rv.length]
 have W:=Walks.list (prog:=X.prog) (w:=X.w) (A:=X.A.in1) hh It l Y g.toArray;refine codeAny_builtin PySem.F.entry_min_loop ?_;rw[Around.under_plainId PySem.F.plain_min_loop _];show wpAny _ X.A.in1 (seqItems? (.ref _) >>= _) _ _ _;refine wpAny_bind (wpAny_seqItems gS rfl ?_);show wpAny _ X.A.in1 (tryCatch (pyNext (.ref It)) _ >>= _) _ _ _;refine wpAny_bind (wpAny_tryCatch (W.item 0 _ _ _ (by rw[hsz];exact h) ⟨⟨_,gI,rfl,rfl⟩,⟨_,J1 _ (J1 _ P),rfl,n,rfl⟩⟩ λv h' tk' hP B hk'=>?_));have hv:g[0]?=some v:=by simpa using hP
 obtain⟨x,C⟩:∃x,xs[0]?=some x:=⟨_,J0 h⟩
 obtain⟨v',D,rx⟩:=rv.get C;rw[hv]at D;cases D;obtain⟨r,G,hoc,K⟩:=id B.1;have J:Inv X.in1 ((It,r)::(S,seqObj "list" #[] 0)::pins) σ H { s with heap:=h',toks:=tk' } :=
  I1.swap.turnPin (λb o nb e=>hk' b o (by simpa using nb) e) G zI (λp a=>by
   rcases Ki.mp a with a|a
   ·exact Z p (Kl _ a)
   ·rcases J7.mp a with rfl|a
    ·exact i
    ·exact Z p (JS _ a)) λvv z=>by rw[K]at z;cases z
 show wpAny _ X.A.in1 (tryCatch (holding [v] (call (.ref q) [v])) _ >>= _) _ _ _;refine wpAny_bind (wpAny_tryCatch (wpAny_holding (wpAny_mono (KK.turn 0 x C _ H _ v (λp a=>.tail _ (.tail _ a)) J y rx) (λc s2 he=>?_) λ_ _ hF=>hF.elim)));obtain⟨kv,H2,J2,rk2,L,M,_⟩:=he;have N:=J2.pin (S,seqObj "list" #[] 0) (JS _ (.tail _ (.head _)));have s1:=Heap.SameBut.update s2.heap S (Obj.mapSeq λ_=>#[v,c]);obtain⟨O,hc2⟩:∃O,(s2.heap.update S (Obj.mapSeq λ_=>#[v,c])).get? S=some (seqObj "list" #[v,c] O):=⟨_,get?_update_seq N.1 λ_=>#[v,c]⟩
 show wpAny _ X.A.in1 (updateSeq S (λ_=>#[v,c]) >>= _) _ _ _;refine wpAny_bind ?_;refine wpAny_updateSeq N.1 rfl ?_;rw[f];have J4:Inv X.in1 ((S,seqObj "list" #[v,c] O)::(It,r)::pins) σ H2 { s2 with heap:=s2.heap.update S (Obj.mapSeq λ_=>#[v,c]),toks:=s2.toks } :=
  J2.swap.turnPin (λb o nb e=>(s1.2 b nb).trans e) hc2 zS (λp a=>by
   rcases Ki.mp a with a|a
   ·exact nS p (Kl _ a)
   ·rcases J7.mp a with rfl|a
    ·exact i.symm
    ·exact nS p (JS _ a)) λvv z=>by cases z
 exact wpAny_pure ⟨plainId_quiet PySem.F.plain_min_loop _,Eg KK hh (λH' s' x u C ru J a=>hQ H' s' x u C ru J a) _ 0 H2 _ v c x kv O It S r rfl h zI zS i Z nS J4 hoc K L C rx M rk2⟩
end
def af (i:Nat):Ds->Rs PyData:=λδ=>match δ[i]? with
 |some (some d)=>.ok d
 |_=>.no
def gC (d:PyData):Ds->Rs PyData:=λ_=>.ok d
def g1 (f:PyData->Option PyData) (a:Ds->Rs PyData):Ds->Rs PyData:=λδ=>(a δ).bind λx=>Rs.dz (f x)
def g2 (f:PyData->PyData->Option PyData) (a b:Ds->Rs PyData):Ds->Rs PyData:=λδ=>(a δ).bind λx=>(b δ).bind λy=>Rs.dz (f x y)
def gF (f:List PyData->Option PyData) (as:Ds->Rs (List PyData)):Ds->Rs PyData:=λδ=>(as δ).bind λds=>Rs.dz (f ds)
def ah:Ds->Rs (List PyData):=λ_=>.ok []
def ae (a:Ds->Rs PyData) (r:Ds->Rs (List PyData)):Ds->Rs (List PyData):=λδ=>(a δ).bind λx=>(r δ).bind λxs=>.ok (x::xs)
def fZ (as:Ds->Rs (List PyData)):Ds->Rs PyData:=λδ=>(as δ).bind λds=>.ok (.tuple ds)
def mH (as:Ds->Rs (List PyData)):Ds->Rs PyData:=λδ=>(as δ).bind λds=>.ok (.list ds)
def ar (gf:List PyData->Rs PyData) (as:Ds->Rs (List PyData)):Ds->Rs PyData:=λδ=>(as δ).bind gf
def truth:PyData->Rs Bool
 |.bool b=>.ok b
 |_=>.no
def gT (a:Ds->Rs PyData):Ds->Rs Bool:=λδ=>(a δ).bind truth
def fQ (a:Ds->Rs Bool):Ds->Rs Bool:=λδ=>(a δ).bind λb=>.ok (!b)
def Dg (a b:Ds->Rs Bool):Ds->Rs Bool:=λδ=>(a δ).bind λx=>if x=true then b δ else .ok false
def cOr (a b:Ds->Rs Bool):Ds->Rs Bool:=λδ=>(a δ).bind λx=>if x=true then .ok true else b δ
def vS (a b:Ds->Rs PyData):Ds->Rs PyData:=λδ=>(a δ).bind λx=>(truth x).bind λt=>if t=true then b δ else .ok (.bool false)
def gOr (a b:Ds->Rs PyData):Ds->Rs PyData:=λδ=>(a δ).bind λx=>(truth x).bind λt=>if t=true then .ok (.bool true) else b δ
def JB (a:Ds->Rs PyData):Ds->Rs PyData:=λδ=>(a δ).bind λx=>(truth x).bind λt=>.ok (.bool (!t))
def gIf (c:Ds->Rs Bool) (a b:Ds->Rs PyData):Ds->Rs PyData:=λδ=>(c δ).bind λx=>if x=true then a δ else b δ
section
variable {a b c:Expr} {ga gb gc:Ds->Rs PyData}
theorem Ge (i:Nat) (c:X.N[i]?=some x) (hv:Vis X.env.scope x) (hd:(x==("__debug__":Str))=false)
  (a:(x==("__classdict__":Str))=false):PD X E (.Name x pos) (af i) :=
 (ic c hv hd a).imp λσ H Q b=>by
  obtain⟨A,δ,R,o⟩:=b;unfold af at o;split at o
  ·rename_i d e;obtain⟨v,e1,h⟩:=R.get i d e;exact⟨v,e1,o v H (ao.refl H) h⟩
  ·exact o.elim
theorem AA {d:PyData} (h:PE X e (tC v)) (hi:∀K H,Is K H d v):PD X E e (gC d):=h.imp λσ H Q a=>(by obtain⟨A,δ,R,o⟩:=a;exact o v H (ao.refl H) (hi _ _))
theorem GV {i j pos}:PD X E (.Constant (.int i) j pos) (gC (.int i)):=AA fi λ_ _=>bB
theorem ID {i j pos}:PD X E (.Constant (.bool i) j pos) (gC (.bool i)):=AA Io λ_ _=>is_bool
theorem Fc {j pos}:PD X E (.Constant .none j pos) (gC .none):=AA G4 λ_ _=>is_none
theorem Hc {i j pos}:PD X E (.Constant (.str i) j pos) (gC (.str i)):=AA F5 λ_ _=>Bl
theorem Ck {i:Int} (hm:∃t,X.mg x=some (.int i t)) (a:Gl X x) (hd:(x==("__debug__":Str))=false):PD X E (.Name x pos) (gC (.int i)):=by obtain⟨t,hm⟩:=hm;exact AA (Em (v:=.int i) a hm ⟨_,rfl⟩ hd) λ_ _=>bB
def OpD (K:PySem.W.Frag) (f:PyData->PyData->Option PyData) (r:R2):Prop :=
 ∀(d1 d2 d:PyData) (x y:V) (H:Hp) (A:List Addr) (Q:VK),f d1 d2=some d->Ls H A->Is K (del H A) d1 x->Is K (del H A) d2 y->(∀v H',ao H H'->Is K (del H' A) d v->Q v H')->r x y H Q
theorem g2.read {r:R2} {Q:VK} (b:OpD K f r) (R:cT K H A δ σ) (o:f7 K E A H (g2 f ga gb δ) Q) :
  tOp r (eD K E ga) (eD K E gb) σ H Q:=by
 unfold g2 at o;refine eD.run R (λd1 e1 v H1 a c h1=>?_) (λC e1 H' s'=>?_) (λe1=>?_)
 ·rw[e1]at o;refine eD.run c (λd2 e2 u H2 s2 R2 h2=>?_) (λC e2 H' s'=>?_) (λe2=>?_)
  ·simp only[Rs.ag,e2]at o;cases e3:f d1 d2 with
   |none=>rw[e3]at o;exact o.elim
   |some d =>rw[e3]at o;exact b d1 d2 d v u H2 A Q e3 R2.ls (h1.same s2.del) h2 λw H' s q=>o w H' (a.trans (s2.trans s)) q
  ·simp only[Rs.ag,e2,Rs.cN]at o;exact o H' (a.trans s')
  ·simp only[Rs.ag,e2,Rs.aY]at o;exact o
 ·rw[e1]at o;exact o H' s'
 ·rw[e1]at o;exact o
theorem fO {r:R2} (g:OpD X.K f r) (ha:PD X E a ga) (h:PD X E b gb) (mk:∀{ta tb:TE},PE X a ta->PE X b tb->PE X e (tOp r ta tb)):PD X E e (g2 f ga gb) :=
 (mk ha h).imp λσ H Q c=>(by obtain⟨A,δ,R,o⟩:=c;exact g2.read g R o)
theorem mR {r:R2} (g:OpD X.K f r) (ha:PD X E a ga) (i:PD X E b gb) (mk:∀{ta tb:TE},PE X a ta->PE X b tb->PT X e (E1 (tOp r ta tb))):PCD X E e (gT (g2 f ga gb)) :=
 (mk ha i).imp λσ H Q c=>by
  obtain⟨A,δ,R,o⟩:=c;refine g2.read (Q:=λx H'=>∃k,x=.bl k/\Q k H') g R ?_;unfold gT at o;cases q:g2 f ga gb δ with
  |no=>rw[q]at o;exact o
  |rz C=>rw[q]at o;exact o
  |ok d =>
   rw[q]at o;cases d with
   |bool k=>exact λv H' s h=>⟨k,h.ofBool,o H' s⟩
   |_=>exact o.elim
noncomputable def dI (f:Int->Int->Option PyData):PyData->PyData->Option PyData
 |.int i,.int j=>f i j
 |_,_=>none
theorem wI {f:Int->Int->Option PyData} {d1 d2 d:PyData} (h:dI f d1 d2=some d):∃i j,d1=.int i/\d2=.int j/\f i j=some d:=by
 unfold dI at h;split at h
 ·exact⟨_,_,rfl,rfl,h⟩
 ·cases h
def fA:=dI λi j=>some (.int (i-j))
def dq:=dI λi j=>if 0<j then some (.int (i % j)) else none
def ik:=dI λi j=>if 0<j/\j<1073741824 then some (.int (i / j)) else none
def Bb:=dI λi j=>if 0<=j/\j<=1000000/\i.natAbs<2 ^ 64 then some (.int (i ^ j.toNat)) else none
def dLt:=dI λi j=>some (.bool (decide (i<j)))
def dLe:=dI λi j=>some (.bool (decide (i<=j)))
def dGt:=dI λi j=>some (.bool (decide (j<i)))
def dGe:=dI λi j=>some (.bool (decide (j<=i)))
theorem jK {f:Int->Int->PyData} {v:Int->Int->V} (hv:∀i j K H,Is K H (f i j) (v i j)):OpD K (dI λi j=>some (f i j)) (rI0 v):=λd1 d2 d x y H A Q e hA h1 h2 k=>by obtain⟨i,j,rfl,rfl,e⟩:=wI e;cases e;exact⟨i,j,h1.ofInt,h2.ofInt,k _ H (ao.refl H) (hv _ _ _ _)⟩
theorem BD {C a:Int->Int->Prop} [∀i j,Decidable (a i j)] {f:Int->Int->PyData} {v:Int->Int->V} (hc:∀i j,a i j->C i j) (hv:∀i j K H,Is K H (f i j) (v i j)):OpD K (dI λi j=>if a i j then some (f i j) else none) (rI C v):=λd1 d2 d x y H A Q e hA h1 h2 k=>by
 obtain⟨i,j,rfl,rfl,e2⟩:=wI e;by_cases z:a i j
 ·simp only[if_pos z]at e2;cases e2;exact⟨i,j,h1.ofInt,h2.ofInt,hc i j z,k _ H (ao.refl H) (hv _ _ _ _)⟩
 ·simp only[if_neg z]at e2;cases e2
theorem GG (ha:PD X E a ga) (c:PD X E b gb):PD X E (.BinOp a .Sub b pos) (g2 fA ga gb):=fO (jK λ_ _ _ _=>bB) ha c (dX Fs)
theorem Hg (ha:PD X E a ga) (c:PD X E b gb):PD X E (.BinOp a .Mod b pos) (g2 dq ga gb):=fO (BD (λ_ _ h=>h) λ_ _ _ _=>bB) ha c (dX n8)
theorem F2 (ha:PD X E a ga) (c:PD X E b gb):PD X E (.BinOp a .FloorDiv b pos) (g2 ik ga gb):=fO (BD (C:=HB) (λ_ _ h=>h) λ_ _ _ _=>bB) ha c (dX Es)
theorem GW (ha:PD X E a ga) (c:PD X E b gb):PD X E (.BinOp a .Pow b pos) (g2 Bb ga gb):=fO (BD (C:=HN) (λ_ _ h=>h) λ_ _ _ _=>bB) ha c (dX FN)
theorem IH (ha:PD X E a ga) (c:PD X E b gb):PD X E (.Compare a [.Lt] [b] pos) (g2 dLt ga gb):=fO (jK λ_ _ _ _=>is_bool) ha c λh1 h2=>mX BB h1 h2 (jc _)
theorem HQ (ha:PD X E a ga) (c:PD X E b gb):PD X E (.Compare a [.LtE] [b] pos) (g2 dLe ga gb):=fO (jK λ_ _ _ _=>is_bool) ha c λh1 h2=>mX zU h1 h2 (jc _)
theorem Gd (ha:PD X E a ga) (c:PD X E b gb):PCD X E (.Compare a [.Lt] [b] pos) (gT (g2 dLt ga gb)):=mR (jK λ_ _ _ _=>is_bool) ha c λh1 h2=>kz BB h1 h2 (jc _)
theorem FK (ha:PD X E a ga) (c:PD X E b gb):PCD X E (.Compare a [.Gt] [b] pos) (gT (g2 dGt ga gb)):=mR (jK λ_ _ _ _=>is_bool) ha c λh1 h2=>kz Ih h1 h2 (jc _)
open PySem.SeqAt in
def dEq (x y:PyData):Option PyData:=if aA x&&aA y&&shaped x&&shaped y then some (.bool (PyData.eqv x y)) else none
open PySem.SeqAt in
def dNe (x y:PyData):Option PyData:=if aA x&&aA y&&shaped x&&shaped y then some (.bool (!PyData.eqv x y)) else none
open PySem.SeqAt in
theorem Bu:OpD K dEq (λx y H Q=>∃d e,IsD K H d x/\IsD K H e y/\shaped d=true/\shaped e=true/\Q (.bl (PyData.eqv d e)) H):=λd1 d2 d x y H A Q e hA h1 h2 k=>by
 unfold dEq at e;split at e
 ·rename_i z;simp only[JZ]at z;cases e;exact⟨d1,d2,(h1.same av).isd z.1.1.1,(h2.same av).isd z.1.1.2,z.1.2,z.2,k _ H (ao.refl H) is_bool⟩
 ·cases e
open PySem.SeqAt in
theorem F7:OpD K dNe (λx y H Q=>∃d e,IsD K H d x/\IsD K H e y/\shaped d=true/\shaped e=true/\Q (.bl (!PyData.eqv d e)) H):=λd1 d2 d x y H A Q e hA h1 h2 k=>by
 unfold dNe at e;split at e
 ·rename_i z;simp only[JZ]at z;cases e;exact⟨d1,d2,(h1.same av).isd z.1.1.1,(h2.same av).isd z.1.1.2,z.1.2,z.2,k _ H (ao.refl H) is_bool⟩
 ·cases e
theorem HI (c:X.A.units+64<cLine) (ha:PD X E a ga) (e:PD X E b gb):PD X E (.Compare a [.Eq] [b] pos) (g2 dEq ga gb):=fO Bu ha e λh1 h2=>mX (vJ c) h1 h2 (jc _)
theorem Gs (c:X.A.units+64<cLine) (ha:PD X E a ga) (e:PD X E b gb):PCD X E (.Compare a [.Eq] [b] pos) (gT (g2 dEq ga gb)):=mR Bu ha e λh1 h2=>kz (vJ c) h1 h2 (jc _)
theorem FE (c:X.A.units+64<cLine) (ha:PD X E a ga) (e:PD X E b gb):PCD X E (.Compare a [.NotEq] [b] pos) (gT (g2 dNe ga gb)):=mR F7 ha e λh1 h2=>kz (Gp c) h1 h2 (jc _)
noncomputable def eB:PyData->Bool
 |.none=>true
 |_=>false
def mI (x:PyData):Option PyData:=some (.bool (eB x))
def ji (x:PyData):Option PyData:=some (.bool (!eB x))
theorem g1.read {tt:(VK)->VK} {f:PyData->Option PyData} {Q:VK} (R:cT K H A δ σ) (o:f7 K E A H (g1 f ga δ) Q)
  (b:∀d1 d x H',f d1=some d->Ls H' A->ao H H'->Is K (del H' A) d1 x->(∀v H2,ao H' H2->Is K (del H2 A) d v->Q v H2)->tt Q x H'):eD K E ga σ H (tt Q):=by
 unfold g1 at o;refine eD.run R (λd1 e1 v H1 a c h1=>?_) (λC e1 H' s'=>?_) (λe1=>?_)
 ·simp only[e1,Rs.ag]at o;cases e3:f d1 with
  |none=>rw[e3]at o;exact o.elim
  |some d=>rw[e3]at o;exact b d1 d v H1 e3 c.ls a h1 λw H' s q=>o w H' (a.trans s) q
 ·rw[e1]at o;exact o H' s'
 ·rw[e1]at o;exact o
theorem vQ {d:PyData} (h:Is K H d v):decide (v=.non)=eB d:=by
 by_cases z:v=.non
 ·rw[decide_eq_true z,h.isNone.mp z];rfl
 ·rw[decide_eq_false z];have:d≠.none:=λq=>z (h.isNone.mpr q)
  cases d <;> first|(exact absurd rfl this)|rfl
theorem Gw {j pos'} (ha:PD X E a ga):PD X E (.Compare a [.Is] [.Constant .none j pos'] pos) (g1 mI ga) :=
 (GX (zK ha)).imp λσ H Q ⟨A,δ,R,o⟩=>g1.read (tt:=λQ x H1=>Q (.bl (decide (x=.non))) H1) R o λd1 d x H' e _ _ h k=>by cases e;rw[vQ h];exact k _ H' (ao.refl _) is_bool
theorem vb {t:TE} (h:PT X e (tB t)) (k:∀σ H Q,eD X.K E ga σ H Q->t σ H Q):PCD X E e (gT ga):=h.imp λσ H Q ⟨A,δ,R,o⟩=>k σ H _ ⟨A,δ,R,by
 unfold gT at o;cases q:ga δ with
 |no=>rw[q]at o;exact o
 |rz C=>rw[q]at o;exact o
 |ok d =>
  rw[q]at o;cases d with
  |bool c=>exact λv H' s h=>⟨c,h.ofBool,o H' s⟩
  |_=>exact o.elim⟩
theorem Dz (h:PD X E e ga) (a:∀whole,isTrue e X.env whole=(do let v <-whole;standAt e.pos;holding [v] (truthy v))):PCD X E e (gT ga):=vb (Ga h a) λ_ _ _ h=>h
theorem DG {j pos'} (ha:PD X E a ga):PCD X E (.Compare a [.Is] [.Constant .none j pos'] pos) (gT (g1 mI ga)) :=
 vb (vT (zK ha)) λσ H Q ⟨A,δ,R,o⟩=>g1.read (tt:=λQ x H1=>Q (.bl (decide (x=.non))) H1) R o λd1 d x H' e _ _ h k=>by cases e;rw[vQ h];exact k _ H' (ao.refl _) is_bool
theorem AE {j pos'} (ha:PD X E a ga):PCD X E (.Compare a [.IsNot] [.Constant .none j pos'] pos) (gT (g1 ji ga)) :=
 vb (vT (Eh ha)) λσ H Q ⟨A,δ,R,o⟩=>g1.read (tt:=λQ x H1=>Q (.bl (!decide (x=.non))) H1) R o λd1 d x H' e _ _ h k=>by cases e;rw[vQ h];exact k _ H' (ao.refl _) is_bool
theorem Az {ca:Ds->Rs Bool} {f:Bool->Rs Bool} {Q:Bool->Hp->Prop} {t:Bool->Hp->Prop} (R:cT K H A δ σ) (o:tY E H ((ca δ).bind f) Q)
  (k:∀b H1,ao H H1->cT K H1 A δ σ->tY E H1 (f b) Q->t b H1):cD K E ca σ H t:=by
 refine cD.run R (λb e H1 a c=>?_) (λC e H' s'=>?_) (λe=>?_)
 ·rw[e]at o;exact k b H1 a c (tY.mono (show tY E H (f b) Q from o) a)
 ·rw[e]at o;exact o H' s'
 ·rw[e]at o;exact o
variable {ca cb:Ds->Rs Bool} {rest:List Expr}
theorem DI (ha:PCD X E a ca):PCD X E (.UnaryOp .Not a pos) (fQ ca):=(FI ha).imp λσ H Q c=>(by obtain⟨A,δ,R,o⟩:=c;exact Az R o λb H1 s1 R1 o=>o H1 (ao.refl _))
theorem Ag (ha:PCD X E a ca):PWD X E (.BoolOp .And [a] pos) ca:=Dw ha
theorem Ed (ha:PCD X E a ca):PWD X E (.BoolOp .Or [a] pos) ca:=Fw ha
theorem xo (ha:PCD X E a ca) (c:PWD X E (.BoolOp .And (b::rest) pos) cb):PWD X E (.BoolOp .And (a::b::rest) pos) (Dg ca cb):=PW.imp (E9 ha c) λσ H Q ⟨A,δ,R,o⟩=>Az R o λb H1 s1 e o=>by
 cases b with
 |true=>exact⟨A,δ,e,o⟩
 |false=>exact o H1 (ao.refl _)
theorem zR (ha:PCD X E a ca) (c:PWD X E (.BoolOp .Or (b::rest) pos) cb):PWD X E (.BoolOp .Or (a::b::rest) pos) (cOr ca cb):=PW.imp (IE ha c) λσ H Q ⟨A,δ,R,o⟩=>Az R o λb H1 s1 e o=>by
 cases b with
 |false=>exact⟨A,δ,e,o⟩
 |true=>exact o H1 (ao.refl _)
theorem EM (h:PWD X E e ca):PCD X E e ca:=PW.pt h
theorem EX {f:PyData->Rs PyData} {Q:VK} {t:VK} (R:cT K H A δ σ) (o:f7 K E A H ((ga δ).bind f) Q)
  (k:∀d v H1,ao H H1->cT K H1 A δ σ->Is K (del H1 A) d v->f7 K E A H1 (f d) Q->t v H1):eD K E ga σ H t:=by
 refine eD.run R (λd e v H1 a b h1=>?_) (λC e H' s'=>?_) (λe=>?_)
 ·rw[e]at o;exact k d v H1 a b h1 (f7.mono (show f7 K E A H (f d) Q from o) a)
 ·rw[e]at o;exact o H' s'
 ·rw[e]at o;exact o
theorem oY {d:PyData} {f:Bool->Rs PyData} {Q:VK} (o:f7 K E A H ((truth d).bind f) Q):∃t,d=.bool t/\f7 K E A H (f t) Q:=by
 cases d with
 |bool t=>exact⟨t,rfl,o⟩
 |_=>exact o.elim
theorem FQ {op} (ha:PD X E a ga):PD X E (.BoolOp op [a] pos) ga:=Gk ha
theorem Gi (ha:PD X E a ga) (c:PD X E (.BoolOp .And (b::rest) pos) gb):PD X E (.BoolOp .And (a::b::rest) pos) (vS ga gb):=(FU ha c).imp λσ H Q ⟨A,δ,R,o⟩=>EX R o λd v H1 s1 e h1 o=>by
 obtain⟨t,rfl,o⟩:=oY o;refine⟨t,h1.ofBool,?_⟩;cases t with
 |true=>exact⟨A,δ,e,o⟩
 |false=>exact o _ H1 (ao.refl _) is_bool
theorem IJ (ha:PD X E a ga) (c:PD X E (.BoolOp .Or (b::rest) pos) gb):PD X E (.BoolOp .Or (a::b::rest) pos) (gOr ga gb):=(IB ha c).imp λσ H Q ⟨A,δ,R,o⟩=>EX R o λd v H1 s1 e h1 o=>by
 obtain⟨t,rfl,o⟩:=oY o;refine⟨t,h1.ofBool,?_⟩;cases t with
 |false=>exact⟨A,δ,e,o⟩
 |true=>exact o _ H1 (ao.refl _) is_bool
theorem HA (hc:PCD X E c ca) (ha:PD X E a ga) (h:PD X E b gb):PD X E (.IfExp c a b pos) (gIf ca ga gb):=(AU hc ha h).imp λσ H Q f=>by
 obtain⟨A,δ,R,o⟩:=f;unfold gIf at o;refine cD.run R (λt e H1 i g=>?_) (λC e H' s'=>?_) (λe=>?_)
 ·rw[e]at o;have o:=f7.mono (show f7 X.K E A H (if t=true then ga δ else gb δ) Q from o) i;cases t with
  |true=>exact⟨A,δ,g,o⟩
  |false=>exact⟨A,δ,g,o⟩
 ·rw[e]at o;exact o H' s'
 ·rw[e]at o;exact o
def mF:PyData->Option PyData
 |.int i=>some (.int (-i))
 |_=>none
theorem FV (ha:PD X E a ga):PD X E (.UnaryOp .USub a pos) (g1 mF ga):=(IQ Fh ha).imp λσ H Q ⟨A,δ,R,o⟩=>g1.read (tt:=λQ x H1=>∃i,x=.int i/\Q (.int (-i)) H1) R o λd1 d x H' e _ _ h k=>by
 cases d1 with
 |int i=>cases e;exact⟨i,h.ofInt,k _ H' (ao.refl _) bB⟩
 |_=>cases e
theorem Dn:PAD X E [] ah:=⟨fU.imp λσ H Q a=>(by obtain⟨A,δ,R,o⟩:=a;exact o [] H (ao.refl _) cq),λδ ds e=>by cases e;rfl⟩
theorem B0 (ha:PD X E a ga) (b:PAD X E es gs) (f:starEach (a::es) X.env=(false,eval a X.env)::starEach es X.env):PAD X E (a::es) (ae ga gs):=by
 refine⟨(dJ ha b.1 f).imp λσ H Q ⟨A,δ,R,o⟩=>?_,λδ ds e=>?_⟩
 ·unfold ae at o;refine eD.run R (λd e v H1 c g h1=>?_) (λC e H' s'=>?_) (λe=>?_)
  ·simp only[e,Rs.ag]at o;refine aD.run g (λds e2 vs H2 s2 R2 h2=>?_) (λC e2 H' s'=>?_) (λe2=>?_)
   ·simp only[e2,Rs.ag]at o;exact o _ H2 (c.trans s2) (bT (h1.same s2.del) h2)
   ·simp only[e2,Rs.cN]at o;exact o H' (c.trans s')
   ·simp only[e2,Rs.aY]at o;exact o
  ·simp only[e,Rs.cN]at o;exact o H' s'
  ·simp only[e,Rs.aY]at o;exact o
 ·unfold ae at e;cases q:ga δ with
  |ok d =>
   cases q2:gs δ with
   |ok l =>simp only[q,q2,Rs.ag]at e;cases e;simp[b.2 δ l q2]
   |rz C=>simp only[q,q2,Rs.ag,Rs.cN]at e;cases e
   |no=>simp only[q,q2,Rs.ag,Rs.aY]at e;cases e
  |rz C=>simp only[q,Rs.cN]at e;cases e
  |no=>simp only[q,Rs.aY]at e;cases e
theorem tR {f:List PyData->Rs PyData} {Q:VK} {t:List V->Hp->Prop} (R:cT K H A δ σ) (o:f7 K E A H ((gs δ).bind f) Q)
  (k:∀ds vs H1,gs δ=.ok ds->ao H H1->cT K H1 A δ σ->Iss K (del H1 A) ds vs->f7 K E A H1 (f ds) Q->t vs H1):aD K E gs σ H t:=by
 refine aD.run R (λd e v H1 a b h1=>?_) (λC e H' s'=>?_) (λe=>?_)
 ·rw[e]at o;exact k d v H1 e a b h1 (f7.mono (show f7 K E A H (f d) Q from o) a)
 ·rw[e]at o;exact o H' s'
 ·rw[e]at o;exact o
theorem F3 {x1} (h:PAD X E es gs) (hl:es.length<=1000):PD X E (.Tuple es x1 pos) (fZ gs):=(Hm h.1).imp λσ H Q ⟨A,δ,R,o⟩=>tR R o λds vs H1 e s1 b h1 o=>by have n:=h.2 δ ds e;have m:=h1.length;exact⟨by rw[sizeLine_eq];omega,λp a=>o _ _ (bp a) (mM b.ls a h1)⟩
theorem Hd (h:PAD X E es gs) (hl:es.length<=1000):PD X E (.List es pos) (mH gs):=(vz h.1).imp λσ H Q ⟨A,δ,R,o⟩=>tR R o λds vs H1 e s1 b h1 o=>by have n:=h.2 δ ds e;have m:=h1.length;exact⟨by rw[sizeLine_eq];omega,λp a=>o _ _ (bp a) (kI b.ls a h1)⟩
def spD (K:PySem.W.Frag) (n:Nat) (gf:List PyData->Rs PyData):Sp:=λvs H Q E=>∃A ds,Ls H A/\Iss K (del H A) ds vs/\ds.length=n/\f7 K E A H (gf ds) Q
structure gA (P:Program) (w:World) (K:PySem.W.Frag) (mg:Str->Option Value) (base:Heap) (k:Nat) (x:Str) (n:Nat) (gf:List PyData->Rs PyData):Prop where
 ex:∃f fd ps,fD P w K mg base (CXW P w) k f fd ps (spD K n gf)/\mg x=some (.ref f)/\PySem.W.keepIn K (.ref f)=true/\Binds K fd ps []
theorem sW:Passes (CXW X.prog X.w) X E0:=λ_ _ _ _ _ _ _ a=>(by obtain⟨_,_,_,_,_,_,h,_⟩:=a;exact h.elim)
theorem C4 {k:Nat} (D:gA X.prog X.w X.K X.mg X.base k x (e::es).length gf) (h:bU j X.A) (i:Passes (CXW X.prog X.w) X E) (ha:PAD X E (e::es) gs) (l:k<=j) (m:Gl X x)
  (a:(x==("__debug__":Str))=false) (n:starEach (e::es) X.env=(false,eval e X.env)::starEach es X.env) (b:(backTo pos (starEach es X.env)).any (·.1)=false) :
  PD X E (.Call (.Name x p) (e::es) [] pos) (ar gf gs):=by
 obtain⟨f,fd,ps,F,hm,c,q⟩:=D.ex;refine (xq F (h.mono l) m hm c q .nil i ha.1 a n b).imp λσ H Q g=>?_
 obtain⟨A,δ,R,o⟩:=g;refine tR R o λds vs H1 e s1 r h1 o=>?_
 refine⟨A,ds,r.ls,by simpa using h1,ha.2 δ ds e,o⟩
def FnD (K:PySem.W.Frag) (f:List PyData->Option PyData) (r:List V->Hp->VK->Prop):Prop :=
 ∀(ds:List PyData) (d:PyData) (vs:List V) (H:Hp) (A:List Addr) (Q:VK),f ds=some d->Ls H A->Iss K (del H A) ds vs->(∀v H',ao H H'->Is K (del H' A) d v->Q v H')->r vs H Q
theorem fN {r:List V->Hp->VK->Prop} {f:List PyData->Option PyData} (a:FnD X.K f r) (ha:PAD X E es gs) (mk:∀{t:TA},PA X es t->PE X e (tCB r t)):PD X E e (gF f gs) :=
 (mk ha.1).imp λσ H Q ⟨A,δ,R,o⟩=>tR R o λds vs H1 e s1 b h1 o=>by
  cases q:f ds with
  |none=>rw[q]at o;exact o.elim
  |some d=>rw[q]at o;exact a ds d vs H1 A Q q b.ls h1 o
end
section
variable {a b c:Expr} {ga gb gc:Ds->Rs PyData}
def ET (K:PySem.W.Frag):R2:=λx y H Q=>∃a b xs ys,x=.ref a/\y=.ref b/\SqT K H a xs/\SqT K H b ys/\xs.length+ys.length<=sizeLine /\
 (xs=[]->Q (.ref b) H)/\(xs≠[]->ys=[]->Q (.ref a) H)/\(xs≠[]->ys≠[]->∀p,H p=none->Q (.ref p) (upd H p (.tup (xs++ys))))
theorem CK:OpR X (binaryOp .Add) (ET X.K):=by
 intro pins s σ H x y v u Q I i j h;obtain⟨a,b,xs,ys,rfl,rfl,ha,l,o,p,q,r⟩:=h;by_cases hx:xs=[]
 ·cases i;cases j;obtain⟨vs,w,p1,_⟩:=I.tuple ha;obtain⟨ws,r2,p2,_⟩:=I.tuple l;obtain⟨⟨cls,dd,data,z⟩,m,hc,n,hd⟩:=id p1;obtain⟨⟨cls2,f,data2,g⟩,c,e,n2,hd2⟩:=id p2;simp only at hc hd e hd2;subst hc hd e hd2;have hv:vs=[]:=w.nil_iff.mpr hx;exact concat_meets ⟨_,m,rfl⟩ ⟨_,c,rfl⟩ noFill_tuple_add seq_tuple_add PySem.F.slot_tuple_add PySem.F.entry_tuple_add (PySem.F.args_tuple_add_2 _ _)
   (tuple_addW0 a b vs.toArray ws.toArray n n2 dd f z g (by simp[hv])) ⟨m,c,⟨.ref b,H,I,rfl,p hx⟩⟩
 ·exact Ei pins s σ H _ _ v u Q I i j ⟨a,b,xs,ys,rfl,rfl,ha,l,hx,o,q hx,r hx⟩
def aV:PyData->PyData->Option PyData
 |.int i,.int j=>some (.int (i+j))
 |.list x,.list y=>if x.length+y.length<=1000000 then some (.list (x++y)) else none
 |.tuple x,.tuple y=>if x.length+y.length<=1000000 then some (.tuple (x++y)) else none
 |_,_=>none
theorem Ee:OpD K aV (λx y H Q=>rI0 (λi j=>.int (i+j)) x y H Q\/IV x y H Q\/ET K x y H Q):=λd1 d2 d x y H A Q e h h1 h2 k=>by
 unfold aV at e;split at e
 ·cases e;exact .inl ⟨_,_,h1.ofInt,h2.ofInt,k _ H (ao.refl _) bB⟩
 ·rename_i l1 l2;split at e
  ·rename_i l;cases e;obtain⟨p,xs,rfl,f,a⟩:=h1.ofLst;obtain⟨q,ys,rfl,g,b⟩:=h2.ofLst;refine .inr (.inl ⟨p,q,xs,ys,rfl,rfl,av _ _ f,av _ _ g,by rw[a.length,b.length,sizeLine_eq];omega,λr c=>k _ _ (bp c) (kI h c (a.append b))⟩)
  ·cases e
 ·rename_i l1 l2;split at e
  ·rename_i l;cases e;obtain⟨p,xs,rfl,f,a⟩:=h1.ofTup;obtain⟨q,ys,rfl,g,b⟩:=h2.ofTup;refine .inr (.inr ⟨p,q,xs,ys,rfl,rfl,SqT.of (av _ _ f),SqT.of (av _ _ g),by rw[a.length,b.length,sizeLine_eq];omega,λz=>?_,λ_ z=>?_,λ_ _ r c=>k _ _ (bp c) (mM h c (a.append b))⟩)
   ·subst z;have:l1=[]:=L6.mp (by rw[<-a.length];rfl);subst this;exact k _ H (ao.refl _) (iA g b)
   ·subst z;have:l2=[]:=L6.mp (by rw[<-b.length];rfl);subst this;rw[KY]at k;exact k _ H (ao.refl _) (iA f a)
  ·cases e
 ·cases e
theorem F9 (ha:PD X E a ga) (c:PD X E b gb):PD X E (.BinOp a .Add b pos) (g2 aV ga gb):=fO Ee ha c (dX (lA.or (Fq.or CK)))
def dIx:PyData->PyData->Option PyData
 |.list x,.int i=>atI x i
 |.tuple x,.int i=>atI x i
 |_,_=>none
theorem wJ {i:Int} {d:PyData} (h:Iss K H ds vs) (e:atI ds i=some d):∃v,atI vs i=some v/\Is K H d v:=by
 unfold atI at e ⊢;rw[h.length];cases q:ixN ds.length i with
 |none=>rw[q]at e;cases e
 |some j=>rw[q]at e;exact h.getD e
theorem FT:OpD K dIx (λx y H Q=>Iz K x y H Q\/Hw K x y H Q):=λd1 d2 d x y H A Q e hA h1 h2 k=>by
 unfold dIx at e;split at e
 ·obtain⟨p,xs,rfl,a,b⟩:=h1.ofLst;obtain⟨v,c,hv⟩:=wJ b e;exact .inl ⟨p,xs,_,v,rfl,h2.ofInt,SqL.of (av _ _ a),c,k _ H (ao.refl _) hv⟩
 ·obtain⟨p,xs,rfl,a,b⟩:=h1.ofTup;obtain⟨v,c,hv⟩:=wJ b e;exact .inr ⟨p,xs,_,v,rfl,h2.ofInt,SqT.of (av _ _ a),c,k _ H (ao.refl _) hv⟩
 ·cases e
theorem HJ (ha:PD X E a ga) (c:PD X E b gb) (e:sJ b):PD X E (.Subscript a b pos) (g2 dIx ga gb):=fO FT ha c λh1 h2=>wF (mZ.or E7) h1 h2 e
def b8:List PyData->Option PyData
 |[.list x]=>some (.int x.length)
 |[.tuple x]=>some (.int x.length)
 |_=>none
theorem jW {d:PyData} (h:Iss K H [d] vs):∃v,vs=[v]/\Is K H d v:=by obtain⟨v,r,rfl,h1,h2⟩:=h.cons_of;rw[h2.nil_of];exact⟨v,rfl,h1⟩
theorem CD {d e:PyData} (h:Iss K H [d,e] vs):∃v u,vs=[v,u]/\Is K H d v/\Is K H e u:=by obtain⟨v,r,rfl,h1,h2⟩:=h.cons_of;obtain⟨u,rfl,a⟩:=jW h2;exact⟨v,u,rfl,h1,a⟩
theorem CV:FnD K b8 (λxs H Q=>∃p ys,xs=[.ref p]/\(SqL K H p ys\/SqT K H p ys)/\Q (.int ys.length) H):=λds d vs H A Q e hA h k=>by
 unfold b8 at e;split at e
 ·cases e;obtain⟨v,rfl,a⟩:=jW h;obtain⟨p,xs,rfl,b,c⟩:=a.ofLst;exact⟨p,xs,rfl,.inl (SqL.of (av _ _ b)),k _ H (ao.refl _) (by rw[c.length];exact bB)⟩
 ·cases e;obtain⟨v,rfl,a⟩:=jW h;obtain⟨p,xs,rfl,b,c⟩:=a.ofTup;exact⟨p,xs,rfl,.inr (SqT.of (av _ _ b)),k _ H (ao.refl _) (by rw[c.length];exact bB)⟩
 ·cases e
theorem Gu (hm:X.mg "len"=none) (ha:PAD X E (a::es) gs) (c:Gl X "len") (e:starEach (a::es) X.env=(false,eval a X.env)::starEach es X.env) (b:(backTo pos (starEach es X.env)).any (·.1)=false) :
 PD X E (.Call (.Name "len" p) (a::es) [] pos) (gF b8 gs):=fN CV ha λh=>fR iz c hm PySem.boot_len h (by decide) (by decide) e b
theorem BQ:bootBuiltins "int"=some (.type "int"):=by decide +kernel
theorem ux:bootBuiltins "tuple"=some (.type "tuple"):=by decide +kernel
theorem rS:bootBuiltins "list"=some (.type "list"):=by decide +kernel
theorem yC:bootBuiltins "isinstance"=some (.builtin "isinstance"):=by decide +kernel
theorem G3:bootBuiltins "all"=some (.builtin "all"):=by decide +kernel
theorem He:bootBuiltins "min"=some (.builtin "min"):=by decide +kernel
theorem Hb:bootBuiltins "max"=some (.builtin "max"):=by decide +kernel
noncomputable def gU:List PyData->Option (List Int)
 |[]=>some []
 |.int i::r=>(gU r).map (i::·)
 |_::_=>none
theorem eP:∀{ds:List PyData} {ns:List Int},gU ds=some ns->ds=ns.map PyData.int
 |[],_,h=>by cases h;rfl
 |.int i::r,ns,h=>by
  unfold gU at h;cases q:gU r with
  |none=>rw[q]at h;cases h
  |some l=>rw[q]at h;cases h;rw[eP q];rfl
 |.none::_,_,h=>by cases h
 |.bool _::_,_,h=>by cases h
 |.str _::_,_,h=>by cases h
 |.list _::_,_,h=>by cases h
 |.tuple _::_,_,h=>by cases h
 |.dict _::_,_,h=>by cases h
theorem fK:∀(ns:List Int),gU (ns.map PyData.int)=some ns
 |[]=>rfl
 |n::r=>by rw[J5];unfold gU;rw[fK r];rfl
def gy:List PyData->Option (List Bool)
 |[]=>some []
 |.bool i::r=>(gy r).map (i::·)
 |_::_=>none
theorem mh:∀{ds:List PyData} {ns:List Bool},gy ds=some ns->ds=ns.map PyData.bool
 |[],_,h=>by cases h;rfl
 |.bool i::r,ns,h=>by
  unfold gy at h;cases q:gy r with
  |none=>rw[q]at h;cases h
  |some l=>rw[q]at h;cases h;rw[mh q];rfl
 |.none::_,_,h=>by cases h
 |.int _::_,_,h=>by cases h
 |.str _::_,_,h=>by cases h
 |.list _::_,_,h=>by cases h
 |.tuple _::_,_,h=>by cases h
 |.dict _::_,_,h=>by cases h
theorem n6:∀(ns:List Bool),gy (ns.map PyData.bool)=some ns
 |[]=>rfl
 |n::r=>by rw[J5];unfold gy;rw[n6 r];rfl
def mD:List PyData->Option PyData
 |[.list x]=>(gy x).map λns=>.bool (ns.all id)
 |_=>none
theorem DB:FnD K mD (λxs H Q=>∃(a:Addr) (ns:List Bool),xs=[.ref a]/\SqL K H a (ns.map V.bl)/\Q (.bl (ns.all id)) H):=λds d vs H A Q e hA h k=>by
 unfold mD at e;split at e
 ·rename_i x;cases q:gy x with
  |none=>rw[q]at e;cases e
  |some ns =>rw[q]at e;cases e;obtain⟨v,rfl,f⟩:=jW h;obtain⟨p,xs,rfl,b,c⟩:=f.ofLst;rw[mh q]at c;rw[c.ofBools]at b;exact⟨p,ns,rfl,SqL.of (av _ _ b),k _ H (ao.refl _) is_bool⟩
 ·cases e
theorem Fx (hc:X.calm=true) (hm:X.mg "all"=none) (ha:PAD X E (a::es) gs) (c:Gl X "all") (e:starEach (a::es) X.env=(false,eval a X.env)::starEach es X.env) (b:(backTo pos (starEach es X.env)).any (·.1)=false) :
 PD X E (.Call (.Name "all" p) (a::es) [] pos) (gF mD gs):=fN DB ha λh=>fR (As hc) c hm G3 h (by decide) (by decide) e b
def jE:List PyData->Option PyData
 |[.int i,.int j]=>some (.int (if j<i then j else i))
 |_=>none
def gK:List PyData->Option PyData
 |[.int i,.int j]=>some (.int (if j>i then j else i))
 |_=>none
theorem Aw:FnD K jE (λxs H Q=>∃i j,xs=[.int i,.int j]/\Q (.int (if j<i then j else i)) H):=λds d vs H A Q e hA h k=>by
 unfold jE at e;split at e
 ·cases e;obtain⟨v,u,rfl,h1,h2⟩:=CD h;rw[h1.ofInt,h2.ofInt];exact⟨_,_,rfl,k _ H (ao.refl _) bB⟩
 ·cases e
theorem BY:FnD K gK (λxs H Q=>∃i j,xs=[.int i,.int j]/\Q (.int (if j>i then j else i)) H):=λds d vs H A Q e hA h k=>by
 unfold gK at e;split at e
 ·cases e;obtain⟨v,u,rfl,h1,h2⟩:=CD h;rw[h1.ofInt,h2.ofInt];exact⟨_,_,rfl,k _ H (ao.refl _) bB⟩
 ·cases e
theorem Ec (hc:X.calm=true) (hm:X.mg "min"=none) (ha:PAD X E (a::es) gs) (c:Gl X "min") (e:starEach (a::es) X.env=(false,eval a X.env)::starEach es X.env) (b:(backTo pos (starEach es X.env)).any (·.1)=false) :
 PD X E (.Call (.Name "min" p) (a::es) [] pos) (gF jE gs):=fN Aw ha λh=>fR (yF hc) c hm He h (by decide) (by decide) e b
theorem DQ (hc:X.calm=true) (hm:X.mg "max"=none) (ha:PAD X E (a::es) gs) (c:Gl X "max") (e:starEach (a::es) X.env=(false,eval a X.env)::starEach es X.env) (b:(backTo pos (starEach es X.env)).any (·.1)=false) :
 PD X E (.Call (.Name "max" p) (a::es) [] pos) (gF gK gs):=fN BY ha λh=>fR (yD hc) c hm Hb h (by decide) (by decide) e b
def zr:List PyData->Option PyData
 |[.int i]=>some (.int i)
 |[.bool k]=>some (.int (if k then 1 else 0))
 |_=>none
theorem CU:FnD K zr (λxs H Q=>(∃i,xs=[.int i]/\Q (.int i) H)\/∃k,xs=[.bl k]/\Q (.int (if k then 1 else 0)) H):=λds d vs H A Q e hA h k=>by
 unfold zr at e;split at e
 ·cases e;obtain⟨v,rfl,h1⟩:=jW h;rw[h1.ofInt];exact .inl ⟨_,rfl,k _ H (ao.refl _) bB⟩
 ·cases e;obtain⟨v,rfl,h1⟩:=jW h;rw[h1.ofBool];exact .inr ⟨_,rfl,k _ H (ao.refl _) bB⟩
 ·cases e
theorem AO (hm:X.mg "int"=none) (ha:PAD X E (a::es) gs) (c:Gl X "int") (e:starEach (a::es) X.env=(false,eval a X.env)::starEach es X.env) (b:(backTo pos (starEach es X.env)).any (·.1)=false) :
 PD X E (.Call (.Name "int" p) (a::es) [] pos) (gF zr gs):=fN CU ha λh=>lq yT c hm BQ h (by decide) (by decide) e b
def i9:List PyData->Option PyData
 |[.list x]=>some (.tuple x)
 |[.tuple x]=>some (.tuple x)
 |_=>none
def uJ:List PyData->Option PyData
 |[.list x]=>some (.list x)
 |[.tuple x]=>some (.list x)
 |_=>none
theorem xX:FnD K i9 (λxs H Q=>∃p ys,xs=[.ref p]/\((SqL K H p ys/\∀l,H l=none->Q (.ref l) (upd H l (.tup ys)))\/(SqT K H p ys/\Q (.ref p) H))):=λds d vs H A Q e f h k=>by
 unfold i9 at e;split at e
 ·cases e;obtain⟨v,rfl,b⟩:=jW h;obtain⟨p,xs,rfl,a,c⟩:=b.ofLst;exact⟨p,xs,rfl,.inl ⟨SqL.of (av _ _ a),λl hl=>k _ _ (bp hl) (mM f hl c)⟩⟩
 ·cases e;obtain⟨v,rfl,b⟩:=jW h;obtain⟨p,xs,rfl,a,c⟩:=b.ofTup;exact⟨p,xs,rfl,.inr ⟨SqT.of (av _ _ a),k _ H (ao.refl _) (iA a c)⟩⟩
 ·cases e
theorem zQ:FnD K uJ (λxs H Q=>∃p ys,xs=[.ref p]/\(SqL K H p ys\/SqT K H p ys)/\∀l,H l=none->Q (.ref l) (upd H l (.lst ys))):=λds d vs H A Q e f h k=>by
 unfold uJ at e;split at e
 ·cases e;obtain⟨v,rfl,a⟩:=jW h;obtain⟨p,xs,rfl,b,c⟩:=a.ofLst;exact⟨p,xs,rfl,.inl (SqL.of (av _ _ b)),λl hl=>k _ _ (bp hl) (kI f hl c)⟩
 ·cases e;obtain⟨v,rfl,a⟩:=jW h;obtain⟨p,xs,rfl,b,c⟩:=a.ofTup;exact⟨p,xs,rfl,.inr (SqT.of (av _ _ b)),λl hl=>k _ _ (bp hl) (kI f hl c)⟩
 ·cases e
theorem vB (hm:X.mg "tuple"=none) (ha:PAD X E (a::es) gs) (c:Gl X "tuple") (e:starEach (a::es) X.env=(false,eval a X.env)::starEach es X.env) (b:(backTo pos (starEach es X.env)).any (·.1)=false) :
 PD X E (.Call (.Name "tuple" p) (a::es) [] pos) (gF i9 gs):=fN xX ha λh=>lq pT c hm ux h (by decide) (by decide) e b
theorem yN (hm:X.mg "list"=none) (ha:PAD X E (a::es) gs) (c:Gl X "list") (e:starEach (a::es) X.env=(false,eval a X.env)::starEach es X.env) (b:(backTo pos (starEach es X.env)).any (·.1)=false) :
 PD X E (.Call (.Name "list" p) (a::es) [] pos) (gF uJ gs):=fN zQ ha λh=>lq sv c hm rS h (by decide) (by decide) e b
def gz (T:String) (d:PyData):Option PyData:=if aA d then some (.bool (rB d T)) else none
theorem zA {T:Str} {b:String} {c:Pos} (hm:X.mg "isinstance"=none) (f:X.mg T=none) (q:bootBuiltins T=some (.type b)) (r:b∈["bool", "int", "list", "tuple"]) (ha:PD X E a ga)
  (s:Gl X "isinstance") (g:Gl X T) (hn:T≠"__name__") (i:(T==("__debug__":Str))=false) (n:starEach [a,.Name T c] X.env=(false,eval a X.env)::starEach [.Name T c] X.env)
  (j:starEach [.Name T c] X.env=(false,eval (.Name T c) X.env)::starEach [] X.env) (l:(backTo pos (starEach [.Name T c] X.env)).any (·.1)=false) :
  PD X E (.Call (.Name "isinstance" p) [a,.Name T c] [] pos) (g1 (gz b) ga):=by
 refine (fR t9 s hm yC (dJ ha (dJ (EK (v:=.ty b) g f q rfl hn i) fU j) n) (by decide) (by decide) n l).imp λσ H Q m=>?_
 obtain⟨A,δ,R,o⟩:=m;refine g1.read (tt:=λQ x H1=>∃d v T,[x,V.ty b]=[v,.ty T]/\IsD X.K H1 d v/\T∈["bool", "int", "list", "tuple"]/\Q (.bl (rB d T)) H1) R o λd1 d x H' e _ _ h k=>?_
 unfold gz at e;split at e
 ·rename_i z;cases e;exact⟨d1,x,b,rfl,(h.same av).isd z,r,k _ H' (ao.refl _) is_bool⟩
 ·cases e
end
def zy (K:PySem.W.Frag) (J:It) (ds:List PyData) (G:Hp):Prop:=∀(H1:Hp) (B:List Addr),ao G H1->Ls H1 B->(∀b∈B,G b=none) ->
 (∀i,i<ds.length->J.go i H1)/\J.stop ds.length H1/\∀i x H2,i<ds.length->J.yld i H1 x H2->ao H1 H2/\∃d,ds[i]?=some d/\Is K (del H2 B) d x
def outI (K:PySem.W.Frag) (E:XK) (A:List Addr) (H:Hp) (r:Rs (List PyData)) (R:It->Hp->Prop):Prop:=match r with
 |.ok ds=>∀J H',ao H H'->zy K J ds (del H' A)->R J H'
 |.rz C=>∀H',ao H H'->E (.ref C) none H'
 |.no=>False
def iD (K:PySem.W.Frag) (E:XK) (g:Ds->Rs (List PyData)):TI:=λσ H R=>∃A δ,cT K H A δ σ/\outI K E A H (g δ) R
def PID (X:Cx) (E:XK) (tg iter:Expr) (g:Ds->Rs (List PyData)):Prop:=PI X tg iter (iD X.K E g)
theorem PI.imp {it:Expr} {t t':TI} (h:PI X tg it t) (k:∀σ H R,t' σ H R->t σ H R):PI X tg it t':=λpins s σ H R I q=>h pins s σ H R I (k σ H R q)
theorem PI.or {it:Expr} {t t':TI} (h:PI X tg it t) (h':PI X tg it t'):PI X tg it (λσ H R=>t σ H R\/t' σ H R):=λpins s σ H R I q=>q.elim (h pins s σ H R I) (h' pins s σ H R I)
section
variable {a:Expr} {ga:Ds->Rs PyData}
def wX:PyData->Rs (List PyData)
 |.list ds=>.ok ds
 |.tuple ds=>.ok ds
 |_=>.no
theorem jo (s:ao G H1) (hB:∀b∈B,G b=none):ao G (del H1 B):=λb o e=>by rw[aB (λz=>by rw[hB b z]at e;cases e)];exact s b o e
theorem zv {p:Addr} (b:G p=some (.lst xs)) (h:Iss K G ds xs):zy K (Itl K p) ds G:=λH1 B s _ hB=>by have hl:=h.length;have a:SqL K H1 p xs:=SqL.of (s _ _ b);refine⟨λi hi=>⟨xs,xs[i]'(by omega),a,J0 _⟩,⟨xs,a,by omega⟩,λi x H2 hi y=>?_⟩;obtain⟨rfl,y⟩:=y;obtain⟨d,e,hd⟩:=h.get (y xs a);exact⟨ao.refl _,d,e,hd.same (jo s hB)⟩
theorem BJ {p:Addr} (b:G p=some (.tup xs)) (h:Iss K G ds xs):zy K (Itt K p) ds G:=λH1 B s _ hB=>by have hl:=h.length;have a:SqT K H1 p xs:=SqT.of (s _ _ b);refine⟨λi hi=>⟨xs,xs[i]'(by omega),a,J0 _⟩,⟨xs,a,by omega⟩,λi x H2 hi y=>?_⟩;obtain⟨rfl,y⟩:=y;obtain⟨d,e,hd⟩:=h.get (y xs a);exact⟨ao.refl _,d,e,hd.same (jo s hB)⟩
def cn (g:Ds->Rs PyData):Ds->Rs (List PyData):=λδ=>(g δ).bind wX
theorem Ex (h:PD X E a ga):PID X E tg a (cn ga):=(PI.or (DH h) (Fd h)).imp λσ H R c=>by
 obtain⟨A,δ,f,o⟩:=c;unfold cn at o;cases q:ga δ with
 |no=>rw[q]at o;exact o.elim
 |rz C=>rw[q]at o;exact .inl (eD.run f (λd e=>by rw[q]at e;cases e) (λj e H' s=>by rw[q]at e;cases e;exact o H' s) (λe=>by rw[q]at e;cases e))
 |ok d =>
  rw[q]at o;cases d with
  |list ds =>refine .inl (eD.run f (λd e v H1 g l h1=>?_) (λj e=>by rw[q]at e;cases e) (λe=>by rw[q]at e;cases e));rw[q]at e;cases e;obtain⟨p,xs,rfl,b,i⟩:=h1.ofLst;exact⟨p,rfl,⟨xs,SqL.of (av _ _ b)⟩,o _ H1 g (zv b i)⟩
  |tuple ds =>refine .inr (eD.run f (λd e v H1 g l h1=>?_) (λj e=>by rw[q]at e;cases e) (λe=>by rw[q]at e;cases e));rw[q]at e;cases e;obtain⟨p,xs,rfl,b,i⟩:=h1.ofTup;exact⟨p,rfl,⟨xs,SqT.of (av _ _ b)⟩,o _ H1 g (BJ b i)⟩
  |_=>exact o.elim
noncomputable def bF (lo:Int) (n:Nat):List PyData:=(List.range n).map λ(i:Nat)=>PyData.int (lo+(i:Int))
theorem cM (lo:Int) (n:Nat):(bF lo n).length=n:=by simp[bF]
theorem vh:zy K (Itr lo n) (bF lo n) G:=λH1 B s _ hB=>by refine⟨λi hi=>by rw[cM]at hi;exact hi,by rw[cM];exact JU _,λi x H2 hi y=>?_⟩;obtain⟨rfl,rfl⟩:=y;rw[cM]at hi;exact⟨ao.refl _,_,by simp[bF,hi],bB⟩
def DV:List PyData->Rs (List PyData)
 |[.int j]=>if -(2 ^ 62)<=j/\j<2 ^ 62 then .ok (bF 0 j.toNat) else .no
 |_=>.no
def Im:List PyData->Rs (List PyData)
 |[.int i,.int j]=>if -(2 ^ 62)<=i/\i<2 ^ 62/\-(2 ^ 62)<=j/\j<2 ^ 62 then .ok (bF i (j-i).toNat) else .no
 |_=>.no
def gQ (g:Ds->Rs (List PyData)):Ds->Rs (List PyData):=λδ=>(g δ).bind DV
def Ik (g:Ds->Rs (List PyData)):Ds->Rs (List PyData):=λδ=>(g δ).bind Im
theorem vY {f:List PyData->Rs (List PyData)} {R:It->Hp->Prop} {t:List V->Hp->Prop} (b:cT K H A δ σ) (o:outI K E A H ((gs δ).bind f) R)
  (k:∀ds vs H1,gs δ=.ok ds->ao H H1->cT K H1 A δ σ->Iss K (del H1 A) ds vs->outI K E A H1 (f ds) R->t vs H1):aD K E gs σ H t:=by
 refine aD.run b (λd e v H1 a c h1=>?_) (λC e H' s'=>?_) (λe=>?_)
 ·rw[e]at o;refine k d v H1 e a c h1 ?_;have o:outI K E A H (f d) R:=o;cases q:f d with
  |ok ds=>rw[q]at o;exact λJ H' s j=>o J H' (a.trans s) j
  |rz C=>rw[q]at o;exact λH' s=>o H' (a.trans s)
  |no=>rw[q]at o;exact o
 ·rw[e]at o;exact o H' s'
 ·rw[e]at o;exact o
theorem vj (hm:X.mg "range"=none) (ha:PAD X E [a] gs) (b:Gl X "range") (c:starEach [a] X.env=[(false,eval a X.env)]) :
  PID X E tg (.Call (.Name "range" p) [a] [] pos) (gQ gs):=(yE b hm ha.1 c).imp λσ H R ⟨A,δ,Rp,o⟩=>vY Rp o λds vs H1 e s1 R1 h1 o=>by
 unfold DV at o;split at o
 ·split at o
  ·rename_i z;obtain⟨v,rfl,h⟩:=jW h1;rw[h.ofInt];exact⟨_,rfl,z.1,z.2,o _ H1 (ao.refl _) vh⟩
  ·exact o.elim
 ·exact o.elim
def TgD (K:PySem.W.Frag) (n0 n:Nat) (tgt:PyData->Option Ds) (g:TG):Prop:=∀(d:PyData) (v:V) (σ a:St) (H:Hp) (A:List Addr) (Q:St->Hp->Prop) (own:Ds),σ.length=n0->a.length=n->Ls H A->Is K (del H A) d v->tgt d=some own ->
 own.length=n/\((∀vs:St,vs.length=n->(∀(i:Nat) e,own[i]?=some (some e)->∃u,vs[i]?=some (some u)/\Is K (del H A) e u)->Q (σ++vs) H)->g v (σ++a) H Q)
def aO:PyData->Option Ds:=λd=>some [some d]
theorem AQ:TgD K n0 1 aO (gJ n0):=λd v σ a H A Q own h1 h2 hA hd e=>by
 cases e;refine⟨rfl,λk=>?_⟩;unfold gJ;subst h1;rw[set_own σ none v a h2];refine k _ rfl λi e z=>?_
 match i,z with
 |0,z=>cases z;exact⟨v,rfl,hd⟩
def dS:PyData->Option Ds
 |.tuple [x,y]=>some [some x,some y]
 |_=>none
theorem tj:TgD K n0 2 dS (L2.De K 2 (L2.xn (gJ n0) (L2.xn (gJ (n0+1)) L2.GQ))):=λd v σ a H A Q own h1 h2 hA hd e=>by
 unfold dS at e;split at e
 ·rename_i x y;cases e;refine⟨rfl,λk=>?_⟩;obtain⟨p,xs,rfl,b,c⟩:=hd.ofTup;obtain⟨u,w,rfl,f,hw⟩:=CD c;subst h1;refine⟨p,_,rfl,SqT.of (av _ _ b),rfl,u,[w],rfl,w,[],rfl,rfl,?_⟩
  match a,h2 with
  |[s1,s2],_ =>
   have:((σ++[s1,s2]).set σ.length (some u)).set (σ.length+1) (some w)=σ++[some u,some w]:=by rw[LD _ _ (JU _),LD _ _ (by omega)];simp
   rw[this];refine k _ rfl λi e z=>?_
   match i,z with
   |0,z=>cases z;exact⟨u,rfl,f⟩
   |1,z=>cases z;exact⟨w,rfl,hw⟩
 ·cases e
def cJ (cond:Ds->Rs Bool) (elt:Ds->Rs PyData) (tgt:PyData->Option Ds) (δ:Ds):List PyData->Rs (List PyData)
 |[]=>.ok []
 |d::r=>match tgt d with
  |none=>.no
  |some own=>(cond (δ++own)).calm.bind λb=>if b=true then (elt (δ++own)).calm.bind λx=>(cJ cond elt tgt δ r).bind λxs=>.ok (x::xs) else cJ cond elt tgt δ r
def a9 (n0:Nat) (src:Ds->Rs (List PyData)) (cond:Ds->Rs Bool) (elt:Ds->Rs PyData) (tgt:PyData->Option Ds):Ds->Rs (List PyData):=λδ=>if δ.length=n0 then (src δ).bind λds=>if ds.length<=1000000 then cJ cond elt tgt δ ds else .no else .no
def bc:Ds->Rs Bool:=λ_=>.ok true
def Dp (K:PySem.W.Frag) (E:XK) (A:List Addr) (H:Hp) (r:Rs (List PyData)) (Q:VK):Prop:=match r with
 |.ok ds=>∀a xs H',H a=none->ao H H'->H' a=some (.lst xs)->Iss K (del H' (a::A)) ds xs->Q (.ref a) H'
 |.rz C=>∀H',ao H H'->E (.ref C) none H'
 |.no=>False
def lD (K:PySem.W.Frag) (E:XK) (g:Ds->Rs (List PyData)):TE:=λσ H Q=>∃A δ,cT K H A δ σ/\Dp K E A H (g δ) Q
def PLD (X:Cx) (E:XK) (e:Expr) (g:Ds->Rs (List PyData)):Prop:=PE X e (lD X.K E g)
def gL (g:Ds->Rs (List PyData)):Ds->Rs PyData:=λδ=>(g δ).bind λds=>.ok (.list ds)
theorem lH {a:Addr}:ao (del H (a::A)) (del H A):=λb o e=>by obtain⟨z,e⟩:=aS e;rw[aB (λq=>z (J8 _ q))];exact e
theorem E6 {g:Ds->Rs (List PyData)} (h:PLD X E e g):PD X E e (gL g):=PE.imp h λσ H Q ⟨A,δ,R,o⟩=>⟨A,δ,R,by
 unfold gL at o;cases q:g δ with
 |no=>rw[q]at o;exact o
 |rz C=>rw[q]at o;exact o
 |ok ds =>rw[q]at o;intro a xs H' hn s hl hi;exact o _ H' s (gx (by rw[aB (R.ls.new hn)];exact hl) (hi.same lH))⟩
theorem EG (h:PAD X E es gs) (hl:es.length<=1000):PLD X E (.List es pos) gs:=(vz h.1).imp λσ H Q a=>by
 obtain⟨A,δ,R,o⟩:=a;refine aD.run R (λds e vs H1 f R1 h1=>?_) (λC e H' s'=>by rw[e]at o;exact o H' s') (λe=>by rw[e]at o;exact o);rw[e]at o;have n:=h.2 δ ds e;have m:=h1.length;refine⟨by rw[sizeLine_eq];omega,λp c=>o p vs _ (f.free c) (f.trans (bp c)) ay (h1.same ?_)⟩;refine λb o e=>?_
 obtain⟨z,e⟩:=aS e;have:b≠p:=aG e c;rw[aB (by simp[this,z]),au this];exact e
theorem zL {own:List Str} {tt:TT} (hT:TgD K n0 own.length tgt g) (U:∀σ H Q,cD K E0 cond σ H Q->tt σ H Q) :
  ∀σ H Q,lD K E (a9 n0 gi cond ge tgt) σ H Q->tLC own.length (iD K E gi) g tt (eD K E0 ge) σ H Q:=by
 intro σ H Q ⟨A,δ,R,o⟩;unfold a9 at o;by_cases hn0:δ.length=n0
 case neg=>rw[if_neg hn0]at o;exact o.elim
 rw[if_pos hn0]at o;have X:σ.length=n0:=by rw[<-R.len];exact hn0
 refine⟨A,δ,R,?_⟩;cases q:gi δ with
 |no=>rw[q]at o;exact o
 |rz C=>rw[q]at o;exact o
 |ok ds =>
  rw[q]at o;have o:Dp K E A H (if ds.length<=1000000 then cJ cond ge tgt δ ds else .no) Q:=o;by_cases hz:ds.length<=1000000
  case neg=>rw[if_neg hz]at o;exact o.elim
  rw[if_pos hz]at o;intro J H1 Y hJ D p;have S:=R.same Y;have nD:D∉A:=S.ls.new p;cases qo:cJ cond ge tgt δ ds with
  |rz C =>
   exfalso;have:∀l,cJ cond ge tgt δ l≠.rz C:=by
    intro l
    induction l with
    |nil=>intro z;cases z
    |cons d r ih =>
     intro z;unfold cJ at z;split at z
     ·cases z
     ·rename_i f _;cases c1:cond (δ++f) with
      |ok b =>
       simp only[c1,Rs.b9,Rs.ag]at z;split at z
       ·cases h:ge (δ++f) with
        |ok x =>
         simp only[h,Rs.b9,Rs.ag]at z;cases j:cJ cond ge tgt δ r with
         |ok l=>simp only[j,Rs.ag]at z;cases z
         |rz C'=>simp only[j,Rs.cN]at z;cases z;exact ih j
         |no=>simp only[j,Rs.aY]at z;cases z
        |rz C'=>simp only[h,Rs.calm,Rs.aY]at z;cases z
        |no=>simp only[h,Rs.calm,Rs.aY]at z;cases z
       ·exact ih z
      |rz C'=>simp only[c1,Rs.calm,Rs.aY]at z;cases z
      |no=>simp only[c1,Rs.calm,Rs.aY]at z;cases z
   exact this ds qo
  |no=>rw[qo]at o;exact o.elim
  |ok out =>
   rw[qo]at o;have base:ao (del H1 A) (del (upd H1 D (.lst [])) (D::A)):=λb o e=>by obtain⟨z,e⟩:=aS e;have nb:b≠D:=aG e p;rw[aB (by simp[nb,z]),au nb];exact e
   refine⟨λi m ys H'=>m=ds.length-i/\i<=ds.length/\ao H1 H'/\H' D=some (.lst ys)/\ys.length<=i/\∃B rest,cJ cond ge tgt δ (ds.drop i)=.ok rest/\out=B++rest/\Iss K (del H' (D::A)) B ys,
    ⟨ds.length,by simp,Ks _,bp p,ay,JU _,[],out,qo,rfl,cq⟩,?_⟩
   rintro i m ys H' ⟨rfl,hi,s,hl,hy,B,rest,c1,h,j⟩
   refine⟨hl,?_⟩;have sG:ao (del H1 A) H':=av.trans s;have F:∀b∈D::A,(del H1 A) b=none:=λb G=>by
    rcases J7.mp G with z|z
    ·rw[z,aB nD];exact p
    ·exact eQ z
   obtain⟨jg,js,jy⟩:=hJ H' (D::A) sG (λb G=>by
    rcases J7.mp G with z|z
    ·exact⟨_,by rw[z];exact hl,rfl⟩
    ·exact (S.ls.same s) b z) F
   by_cases hlt:i<ds.length
   ·refine .inr ⟨jg i hlt,λx H2 Z I y=>?_⟩;obtain⟨s2,d,ed,hd⟩:=jy i x H2 hlt y;have edr:ds.drop i=d::ds.drop (i+1):=by
     rw[L3 hlt];have:ds[i]=d:=by have:=J0 hlt;rw[this]at ed;exact Option.some.inj ed
     rw[this]
    rw[edr]at c1;unfold cJ at c1;cases et:tgt d with
    |none=>rw[et]at c1;cases c1
    |some ow =>
     rw[et]at c1;have l2:H2 D=some (.lst ys):=s2 _ _ hl;have L:Ls H2 (D::A):=λb G=>by
      rcases J7.mp G with z|z
      ·exact⟨_,by rw[z];exact l2,rfl⟩
      ·exact (S.ls.same (s.trans s2)) b z
     obtain⟨hol,hgo⟩:=hT d x σ Z H2 (D::A) (λc H2=>tt c H2 λb H3 =>
      if b=true then eD K E0 ge c H3 λv M=>M D=some (.lst ys)/\ys.length<sizeLine/\(∃a,c=σ++a/\a.length=own.length)/\∃m',m' < ds.length-i/\_
      else (∃a,c=σ++a/\a.length=own.length)/\∃m',m' < ds.length-i/\_) ow X I L hd et
     refine hgo λvs n N=>?_
     have O:ao (del H1 A) (del H2 (D::A)):=jo (sG.trans s2) F;have RE:cT K H2 (D::A) (δ++ow) (σ++vs):=by
      refine⟨L,by rw[K0,K0,R.len,n,hol],λk e T=>?_⟩;by_cases hk:k<δ.length
      ·rw[K8 hk]at T;obtain⟨u,e1,hu⟩:=S.get k e T;exact⟨u,by rw[K8 (by rw[<-R.len];exact hk)];exact e1,hu.same O⟩
      ·rw[Kc (by omega)]at T;obtain⟨u,e1,hu⟩:=N _ e T;exact⟨u,by rw[Kc (by rw[<-R.len];omega),<-R.len];exact e1,hu⟩
     have bad:∀r:Rs Bool,r=.rz 0->r.calm=.no:=λr e=>by rw[e];rfl
     refine U _ _ _ (cD.run RE (λb P H3 w R3=>?_) (λC P=>?_) (λP=>?_))
     ·simp only[P,Rs.b9,Rs.ag]at c1;cases b with
      |true =>
       simp only[if_true]at c1;refine eD.run R3 (λxd ex v M s4 R4 hv=>?_) (λC ex=>?_) (λex=>?_)
       ·simp only[ex,Rs.b9,Rs.ag]at c1;cases cr:cJ cond ge tgt δ (ds.drop (i+1)) with
        |ok rs =>
         simp only[cr,Rs.ag]at c1;cases c1;have l4:M D=some (.lst ys):=s4 _ _ (w _ _ l2);have dU:del (upd M D (.lst (ys++[v]))) (D::A)=del M (D::A):=hV (J9);refine⟨l4,by rw[sizeLine_eq];omega,⟨vs,rfl,n⟩,ds.length-(i+1),by omega,rfl,hlt,?_,ay,by simp;omega,B++[xd],rs,cr,by rw[h];simp,?_⟩
         ·exact ao.put (((s.trans s2).trans w).trans s4) p
         ·rw[dU];exact (j.same (ao.del (s2.trans (w.trans s4)))).append (ix hv)
        |rz C=>simp only[cr,Rs.cN]at c1;cases c1
        |no=>simp only[cr,Rs.aY]at c1;cases c1
       ·simp only[ex,Rs.calm,Rs.aY]at c1;cases c1
       ·simp only[ex,Rs.calm,Rs.aY]at c1;cases c1
      |false =>simp only[Kh,if_false]at c1;exact⟨⟨vs,rfl,n⟩,ds.length-(i+1),by omega,rfl,hlt,(s.trans s2).trans w,w _ _ l2,by omega,B,rest,c1,h,j.same (ao.del (s2.trans w))⟩
     ·simp only[P,Rs.calm,Rs.aY]at c1;cases c1
     ·simp only[P,Rs.calm,Rs.aY]at c1;cases c1
   ·have e:i=ds.length:=by omega
    subst e;rw[LB]at c1;cases c1;rw[KY]at h;subst h;exact .inl ⟨js,o D ys H' (Y.free p) (Y.trans s) hl j⟩
def dH:Expr->List Str
 |.Name x _=>[x]
 |.Tuple [.Name x _,.Name y _] _ _=>[x,y]
 |_=>[]
def EU (own N:List Str):List Str:=N.map λx=>bif own.elem x then x++"__" else x
abbrev bk (X:Cx) (tg:Expr) (scope:Scope):=blk X (EU (dH tg) X.N) scope (dH tg)
abbrev Dc (X:Cx) (tg:Expr) (scope:Scope):Bool:=qj X.N (EU (dH tg) X.N) X.env.scope scope (dH tg)
inductive PIf (X:Cx):List Expr->(Ds->Rs Bool)->Prop
 |nil:PIf X [] bc
 |one {c:Expr} {g:Ds->Rs Bool} (h:PCD X E0 c g):PIf X [c] g
def Iw (K:PySem.W.Frag) (ifs:List Expr) (g:Ds->Rs Bool):TT:=match ifs with
 |[]=>tw
 |_=>cD K E0 g
theorem PIf.pts {g:Ds->Rs Bool} (h:PIf X ifs g):PTs X ifs (Iw X.K ifs g):=by
 cases h with
 |nil=>exact .nil
 |one h=>exact .one h
theorem PIf.tt {g:Ds->Rs Bool} (h:PIf X ifs g):∀σ H Q,cD K E0 g σ H Q->Iw K ifs g σ H Q:=by
 cases h with
 |nil=>exact λσ H Q a=>(by obtain⟨A,δ,R,o⟩:=a;exact o H (ao.refl _))
 |one h=>exact λ_ _ _ h=>h
theorem AI (hc:X.calm=true) (hi:PID X E tg iter gi)
  (b:TgD X.K n0 (dH tg).length tgt g) (c:∀C s2 H2 fp,PG (bk X tg scope C s2 H2 fp) tg g) (a:∀C s2 H2 fp,PIf (bk X tg scope C s2 H2 fp) ifs cond) (e:∀C s2 H2 fp,PD (bk X tg scope C s2 H2 fp) E0 elt ge)
  (hB:Dc X tg scope=true) (f:∀x,foldedSetIterable iter X.env x=pure x):PLD X E (.ListComp elt [⟨tg,iter,ifs,0⟩] scope pos) (a9 n0 gi cond ge tgt) :=
 (Bi (own:=dH tg) (te:=eD X.K E0 ge) hc hi c (λC s2 H2 fp=>(a C s2 H2 fp).pts) (λC s2 H2 fp=>e C s2 H2 fp) hB f).imp (zL b (PIf.tt (a 0 X.s₀ X.H₀ [])))
def PLS (X:Cx) (E:XK) (i:Nat) (st:Stmt) (a:Ds->Rs (List PyData)):Prop:=PS X st (wA (lD X.K E a) (gJ i))
theorem BK (a:swapsWith (.ListComp elt [⟨tg,iter,ifs,0⟩] scope pos) (some (.Name x pos')) spos.line X.env=pure true) (hc:X.calm=true) (e:X.N.Nodup) (hi:PID X E tg iter gi)
  (f:TgD X.K n0 (dH tg).length tgt g) (j:∀C s2 H2 fp,PG (bk X tg scope C s2 H2 fp) tg g) (c:∀C s2 H2 fp,PIf (bk X tg scope C s2 H2 fp) ifs cond) (l:∀C s2 H2 fp,PD (bk X tg scope C s2 H2 fp) E0 elt ge)
  (b:X.N[i]?=some x) (m:Loc X.env.scope x) (hB:Dc X tg scope=true) (n:∀x,foldedSetIterable iter X.env x=pure x) (o:X.fn x=true\/X.env.scope.names.lookup x=some .local) :
  PLS X E i (.Assign [.Name x pos'] (.ListComp elt [⟨tg,iter,ifs,0⟩] scope pos) spos) (a9 n0 gi cond ge tgt) :=
 PS.imp (kJ (own:=dH tg) (te:=eD X.K E0 ge) hc e b m a hi j (λC s2 H2 fp=>(c C s2 H2 fp).pts) (λC s2 H2 fp=>l C s2 H2 fp) hB n o) λD σ H h=>zL f (PIf.tt (c 0 X.s₀ X.H₀ [])) σ H _ h
end
inductive Sr where
 |nx (δ:Ds)
 |rt (d:PyData)
 |rz (C:Addr)
 |bk (δ:Ds)
 |ct (δ:Ds)
 |no
def gu (K:PySem.W.Frag) (G:Hp):PyData->HO->Prop
 |.list ds,.lst xs=>Iss K G ds xs
 |.dict kvs,o=>Dr kvs o
 |_,_=>False
theorem gu.same {G':Hp} {d:PyData} (h:gu K G d o) (s:ao G G'):gu K G' d o:=by
 unfold gu at h ⊢;split at h
 ·exact Iss.same s h
 ·exact h
 ·exact h.elim
theorem gu.is {d:PyData} (h:gu K G d o) (ha:G a=some o):Is K G d (.ref a):=by
 unfold gu at h;split at h
 ·exact gx ha h
 ·unfold Is;exact .inl (.inr ⟨a,_,rfl,h,ha⟩)
 ·exact h.elim
theorem gu.lst (h:gu K G (.list ds) o):∃xs,o=.lst xs/\Iss K G ds xs:=by
 unfold gu at h;split at h
 ·rename_i e;cases e;exact⟨_,rfl,h⟩
 ·rename_i e;cases e
 ·exact h.elim
structure bf (K:PySem.W.Frag) (H0:Hp) (A0:List Addr) (H:Hp) (A:List Addr) (O:List Nat) (δ:Ds) (σ:St):Prop where
 same:ao H0 H
 ls0:Ls H0 A0
 new:∀a∈A,H0 a=none
 ls:Ls H A
 len:δ.length=σ.length
 pl:∀(i:Nat) d,i∉O->δ[i]?=some (some d)->∃v,σ[i]?=some (some v)/\Is K (del H (A++A0)) d v
 own:∀(i:Nat) d,i∈O->δ[i]?=some (some d)->∃a o d',σ[i]?=some (some (.ref a))/\a∈A/\H a=some o/\d=d'/\gu K (del H (A++A0)) d' o
 inj:∀(i j:Nat) d e a,i∈O->j∈O->δ[i]?=some (some d)->δ[j]?=some (some e)->σ[i]?=some (some (.ref a))->σ[j]?=some (some (.ref a))->i=j
def mask (O:List Nat) (δ:Ds):Ds:=if O=[] then δ else δ.mapIdx λi d=>if i∈O then none else d
theorem kq (δ:Ds):mask [] δ=δ:=by simp[mask]
theorem AV {d:PyData} (h:(mask O δ)[i]?=some (some d)):i∉O/\δ[i]?=some (some d):=by
 unfold mask at h;split at h
 ·rename_i z;subst z;exact⟨by simp,h⟩
 ·rw[Kd]at h;cases q:δ[i]? with
  |none=>rw[q]at h;cases h
  |some x =>
   rw[q]at h;simp only[Ln,Option.some.injEq]at h;by_cases z:i∈O
   ·rw[if_pos z]at h;cases h
   ·rw[if_neg z]at h;exact⟨z,by rw[h]⟩
theorem uX:(mask O δ).length=δ.length:=by unfold mask;split <;> simp
theorem nP:ao (del H (A++B)) (del H B):=λb o e=>by obtain⟨z,e⟩:=aS e;rw[aB (λq=>z (JS _ q))];exact e
section
theorem bf.lsA (R:bf K H0 A0 H A O δ σ):Ls H (A++A0):=λa h=>(Ki.mp h).elim (R.ls a) λz=>(R.ls0.same R.same) a z
theorem bf.step (R:bf K H0 A0 H A O δ σ) (s:ao H H1):bf K H0 A0 H1 A O δ σ where
 same:=R.same.trans s
 ls0:=R.ls0
 new:=R.new
 ls:=R.ls.same s
 len:=R.len
 pl:=λi d h e=>by obtain⟨v,e1,h1⟩:=R.pl i d h e;exact⟨v,e1,h1.same s.del⟩
 own:=λi d h e=>by obtain⟨a,xs,ds,e1,h1,h2,b,c⟩:=R.own i d h e;exact⟨a,xs,ds,e1,h1,s _ _ h2,b,c.same s.del⟩
 inj:=R.inj
theorem bf.apart (R:bf K H0 A0 H A O δ σ) (h:a∈A):a∉A0:=λz=>by obtain⟨xs,e,_⟩:=R.ls0 a z;rw[R.new a h]at e;cases e
theorem bf.ownL (R:bf K H0 A0 H A O δ σ) (h:i∈O) (e:δ[i]?=some (some (.list ds))):∃a xs b,σ[i]?=some (some (.ref a))/\a∈A/\H a=some (.lst xs)/\PyData.list ds=.list b/\Iss K (del H (A++A0)) b xs:=by obtain⟨a,o,d',e1,h1,h2,c,f⟩:=R.own i _ h e;subst c;obtain⟨xs,rfl,g⟩:=f.lst;exact⟨a,xs,ds,e1,h1,h2,rfl,g⟩
theorem bf.full (R:bf K H0 A0 H A O δ σ):cT K H A0 δ σ where
 ls:=R.ls0.same R.same
 len:=R.len
 get:=λi d e=>by
  by_cases h:i∈O
  ·obtain⟨a,xs,ds,e1,h1,h2,b,c⟩:=R.own i d h e;subst b;exact⟨_,e1,(c.same nP).is (by rw[aB (R.apart h1)];exact h2)⟩
  ·obtain⟨v,e1,h1⟩:=R.pl i d h e;exact⟨v,e1,h1.same nP⟩
theorem bf.part (R:bf K H0 A0 H A O δ σ):cT K H (A++A0) (mask O δ) σ where
 ls:=R.lsA
 len:=by rw[uX];exact R.len
 get:=λi d e=>by obtain⟨h,e⟩:=AV e;exact R.pl i d h e
theorem get_set {l:List α} {x y:α} (h:(l.set i x)[j]?=some y):(i=j/\y=x)\/(i≠j/\l[j]?=some y):=by
 by_cases z:i=j
 ·subst z;rw[List.getElem?_set_self']at h;cases q:l[i]? with
  |none=>rw[q]at h;cases h
  |some w=>rw[q]at h;simp at h;exact .inl ⟨rfl,h.symm⟩
 ·rw[Kg z]at h;exact .inr ⟨z,h⟩
theorem ib {l:List α} {x y:α} (hn:i≠j) (h:l[j]?=some y):(l.set i x)[j]?=some y:=by rw[Kg hn];exact h
theorem bf.set {d:PyData} (R:bf K H0 A0 H A O δ σ) (hi:i∉O) (hl:i<δ.length) (h:Is K (del H (A++A0)) d v):bf K H0 A0 H A O (δ.set i (some d)) (σ.set i (some v)) where
 same:=R.same
 ls0:=R.ls0
 new:=R.new
 ls:=R.ls
 len:=by simp[R.len]
 pl:=λj e b q=>by
  rcases get_set q with⟨z,q⟩|⟨z,q⟩
  ·cases q;subst z;exact⟨v,by rw[Km (by rw[<-R.len];exact hl)],h⟩
  ·obtain⟨u,e1,h1⟩:=R.pl j e b q;exact⟨u,ib z e1,h1⟩
 own:=λj e b q=>by
  rcases get_set q with⟨z,q⟩|⟨z,q⟩
  ·subst z;exact absurd b hi
  ·obtain⟨a,xs,ds,e1,h1⟩:=R.own j e b q;exact⟨a,xs,ds,ib z e1,h1⟩
 inj:=λj k d' e a b c f g p1 p2=>by
  have n1:i≠j:=λz=>hi (z▸b)
  have n2:i≠k:=λz=>hi (z▸c)
  rw[Kg n1]at f p1;rw[Kg n2]at g p2;exact R.inj j k d' e a b c f g p1 p2
theorem bf.setOwn (R:bf K H0 A0 H A O δ σ) (hi:i∈O) (hl:i<δ.length) (hn:H a=none) (s:ao H H1) (ha:H1 a=some (.lst xs)) (h:Iss K (del H1 (a::(A++A0))) ds xs) :
  bf K H0 A0 H1 (a::A) O (δ.set i (some (.list ds))) (σ.set i (some (.ref a))) where
 same:=R.same.trans s
 ls0:=R.ls0
 new:=λb m=>by
  rcases J7.mp m with z|z
  ·rw[z];exact R.same.free hn
  ·exact R.new b z
 ls:=λb m=>by
  rcases J7.mp m with z|z
  ·exact⟨_,by rw[z];exact ha,rfl⟩
  ·exact (R.ls.same s) b z
 len:=by simp[R.len]
 pl:=λj e c q=>by
  rcases get_set q with⟨z,q⟩|⟨z,q⟩
  ·subst z;exact absurd hi c
  ·obtain⟨u,e1,h1⟩:=R.pl j e c q;refine⟨u,ib z e1,h1.same λb o e=>?_⟩;obtain⟨y,e⟩:=aS e;have n:b≠a:=aG e hn;rw[aB (by simpa[n] using y)];exact s _ _ e
 own:=λj e c q=>by
  have r:∀b o,del H (A++A0) b=some o->del H1 (a::A++A0) b=some o:=λb o e=>by obtain⟨y,e⟩:=aS e;have n:b≠a:=aG e hn;rw[aB (by simpa[n] using y)];exact s _ _ e
  rcases get_set q with⟨z,q⟩|⟨z,q⟩
  ·cases q;subst z;exact⟨a,_,_,by rw[Km (by rw[<-R.len];exact hl)],J9,ha,rfl,h⟩
  ·obtain⟨b,ys,es,e1,h1,h2,v,w⟩:=R.own j e c q;exact⟨b,ys,es,ib z e1,J8 _ h1,s _ _ h2,v,w.same r⟩
 inj:=λj k d' e b c f g l p1 p2=>by
  have old:∀k,k∈O->i≠k->∀e,δ[k]?=some (some e)->σ[k]?=some (some (.ref a))->False:=λk f _ e q p=>by obtain⟨b,ys,es,e1,h1,h2,_⟩:=R.own k e f q;rw[p]at e1;cases e1;rw[hn]at h2;cases h2
  by_cases z1:i=j
  ·by_cases z2:i=k
   ·rw[<-z1,z2]
   ·subst z1;rw[Km (by rw[<-R.len];exact hl)]at p1;cases p1;rw[Kg z2]at l p2;exact (old k f z2 e l p2).elim
  ·by_cases z2:i=k
   ·subst z2;rw[Km (by rw[<-R.len];exact hl)]at p2;cases p2;rw[Kg z1]at g p1;exact (old j c z1 d' g p1).elim
   ·rw[Kg z1]at g p1;rw[Kg z2]at l p2;exact R.inj j k d' e b c f g l p1 p2
theorem bf.put {l:PyData} (R:bf K H0 A0 H A O δ σ) (hi:i∈O) (hd:δ[i]?=some (some l)) (p:σ[i]?=some (some (.ref a))) (ha:a∈A) (h:Iss K (del H (A++A0)) ds ys) :
  bf K H0 A0 (upd H a (.lst ys)) A O (δ.set i (some (.list ds))) σ:=by
 have m:del (upd H a (.lst ys)) (A++A0)=del H (A++A0):=hV (Kl _ ha);have hl:i<δ.length:=(K5.mp hd).1;refine⟨λb o e=>?_,R.ls0,R.new,λb s=>?_,by simp[R.len],λj e c q=>?_,λj e c q=>?_,λj k d' e b c r f g p1 p2=>?_⟩
 ·have n:b≠a:=λz=>by rw[z,R.new a ha]at e;cases e
  rw[au n];exact R.same b o e
 ·by_cases z:b=a
  ·exact⟨_,by rw[z,ay],rfl⟩
  ·rw[au z];exact R.ls b s
 ·rcases get_set q with⟨z,q⟩|⟨z,q⟩
  ·subst z;exact absurd hi c
  ·rw[m];exact R.pl j e c q
 ·rcases get_set q with⟨z,q⟩|⟨z,q⟩
  ·cases q;subst z;exact⟨a,_,_,p,ha,ay,rfl,by rw[m];exact h⟩
  ·obtain⟨b,zs,es,e1,h1,h2,u,v⟩:=R.own j e c q;have n:b≠a:=λw=>z (R.inj i j _ _ a hi c hd q p (by rw[<-w];exact e1))
   exact⟨b,zs,es,e1,h1,by rw[au n];exact h2,u,by rw[m];exact v⟩
 ·rcases get_set f with⟨z1,f⟩|⟨z1,f⟩ <;> rcases get_set g with⟨z2,g⟩|⟨z2,g⟩
  ·rw[<-z1,z2]
  ·subst z1;exact R.inj i k l e b hi r hd g p1 p2
  ·subst z2;exact R.inj j i d' l b c hi f hd p1 p2
  ·exact R.inj j k d' e b c r f g p1 p2
def un (H0 G:Hp):Hp:=λb=>match H0 b with|some o=>some o|none=>G b
theorem yR:ao H0 (un H0 G):=λb o e=>by unfold un;rw[e]
theorem Iv (a:ao H0 H) (c:ao G H):ao G (un H0 G):=λb o e=>by
 unfold un;cases q:H0 b with
 |none=>exact e
 |some o2=>have h2:=a b o2 q;rw[c b o e]at h2;exact h2.symm
theorem IM (a:ao H0 H) (c:ao G H):ao (un H0 G) H:=λb o e=>by
 unfold un at e;cases q:H0 b with
 |none=>rw[q]at e;exact c b o e
 |some o2=>rw[q]at e;rw[<-Option.some.inj e];exact a b o2 q
theorem bf.more (R:bf K H0 A0 H A O δ σ):bf K (un H0 (del H (A++A0))) A0 H A O δ σ :=
 ⟨IM R.same av,R.ls0.same yR,λa h=>by unfold un;rw[R.new a h];exact eQ (Kl _ h),R.ls,R.len,R.pl,R.own,R.inj⟩
theorem bf.less {b:Hp} (R:bf K b A0 H A O δ σ) (s:ao H0 b) (l:Ls H0 A0):bf K H0 A0 H A O δ σ:=⟨s.trans R.same,l,λa h=>s.free (R.new a h),R.ls,R.len,R.pl,R.own,R.inj⟩
end
def lC (K:PySem.W.Frag) (E:XK) (H0:Hp) (A0:List Addr) (O:List Nat) (r:Sr) (D:Ends):Prop:=match r with
 |.nx δ=>∀A σ H,bf K H0 A0 H A O δ σ->D.nx σ H
 |.rt d=>∀v H,ao H0 H->Is K (del H A0) d v->D.rt v H
 |.rz C=>∀H,ao H0 H->E (.ref C) none H
 |.bk δ=>∀A σ H,bf K H0 A0 H A O δ σ->D.bk σ H
 |.ct δ=>∀A σ H,bf K H0 A0 H A O δ σ->D.ct σ H
 |.no=>False
def sD (K:PySem.W.Frag) (E:XK) (O:List Nat) (G:Ds->Sr):TS:=λD σ H=>∃H0 A0 A δ,bf K H0 A0 H A O δ σ/\lC K E H0 A0 O (G δ) D
def PSD (X:Cx) (E:XK) (O:List Nat) (s:Stmt) (G:Ds->Sr):Prop:=PS X s (sD X.K E O G)
def PBD (X:Cx) (E:XK) (O:List Nat) (ss:List Stmt) (G:Ds->Sr):Prop:=PSs X ss (sD X.K E O G)
def bg:Ds->Sr:=λδ=>.nx δ
def aF (a b:Ds->Sr):Ds->Sr:=λδ=>match a δ with
 |.nx δ'=>b δ'
 |r=>r
noncomputable def ofR {α:Type} (r:Rs α) (k:α->Sr):Sr:=match r with
 |.ok a=>k a
 |.rz C=>.rz C
 |.no=>.no
@[simp]theorem az (a:α) (k:α->Sr):ofR (.ok a) k=k a:=rfl
@[simp]theorem jN (C:Addr) (k:α->Sr):ofR (.rz C) k=.rz C:=rfl
@[simp]theorem jI (k:α->Sr):ofR (.no:Rs α) k=.no:=rfl
def sIf (c:Ds->Rs Bool) (a b:Ds->Sr):Ds->Sr:=λδ=>ofR (c δ) λt=>if t=true then a δ else b δ
def bw (g:Ds->Rs PyData):Ds->Sr:=λδ=>ofR (g δ) .rt
def qF (g:Ds->Rs PyData):Ds->Sr:=λδ=>ofR (g δ) λ_=>.nx δ
def aQ (O:List Nat) (i:Nat) (g:Ds->Rs PyData):Ds->Sr:=λδ=>if i<δ.length then ofR (g (mask O δ)) λd=>.nx (δ.set i (some d)) else .no
def oP (i:Nat) (g:Ds->Rs PyData):Ds->Sr:=λδ=>if i<δ.length then ofR (g δ) λd=>if eM d then .nx (δ.set i (some d)) else .no else .no
def jq (O:List Nat) (i:Nat) (g:Ds->Rs (List PyData)):Ds->Sr:=λδ=>if i<δ.length then ofR (g (mask O δ)) λds=>.nx (δ.set i (some (.list ds))) else .no
def jM (O:List Nat) (i:Nat) (g:Ds->Rs PyData):Ds->Sr:=λδ=>match δ[i]? with
 |some (some (.list ds))=>ofR (g (mask O δ)) λd=>if ds.length<1000000 then .nx (δ.set i (some (.list (ds++[d])))) else .no
 |_=>.no
section
variable {ss:List Stmt} {G G':Ds->Sr} {a b c:Expr} {ga gb:Ds->Rs PyData} {ca:Ds->Rs Bool}
theorem sI:PBD X E O [] bg:=mU.imp λD σ H a=>(by obtain⟨H0,A0,A,δ,R,o⟩:=a;exact o A σ H R)
theorem g9 (h1:PSD X E O st G) (h2:PBD X E O ss G'):PBD X E O (st::ss) (aF G G'):=(cu h1 h2).imp λD σ H ⟨H0,A0,A,δ,R,o⟩=>⟨H0,A0,A,δ,R,by
 unfold aF at o;cases q:G δ with
 |nx δ'=>rw[q]at o;exact λa σ' H' b=>⟨H0,A0,a,δ',b,o⟩
 |rt d=>rw[q]at o;exact o
 |rz C=>rw[q]at o;exact o
 |bk d=>rw[q]at o;exact o
 |ct d=>rw[q]at o;exact o
 |no=>rw[q]at o;exact o⟩
theorem mS (h1:PSD X E O st G):PBD X E O [st] G:=(fz h1).imp λD σ H h=>h
theorem Ac {a:List Stmt} (hc:PCD X E c ca) (h1:PBD X E O ss G) (h2:PBD X E O a G'):PSD X E O (.If c ss a pos) (sIf ca G G'):=(ug hc h1 h2).imp λD σ H e=>by
 obtain⟨H0,A0,A,δ,R,o⟩:=e;unfold sIf at o;refine cD.run R.full (λt b H1 f R1=>?_) (λC b H' s'=>?_) (λb=>?_)
 ·rw[b]at o;cases t with
  |true=>exact⟨H0,A0,A,δ,R.step f,o⟩
  |false=>exact⟨H0,A0,A,δ,R.step f,o⟩
 ·rw[b]at o;exact o H' (R.same.trans s')
 ·rw[b]at o;exact o
theorem sH (h:PD X E e ga):PSD X E O (.Return (some e) pos) (bw ga):=(pD h).imp λD σ H a=>by
 obtain⟨H0,A0,A,δ,R,o⟩:=a;unfold bw at o;refine eD.run R.full (λd c v H1 f R1 hv=>?_) (λC b H' s'=>?_) (λb=>?_)
 ·rw[c]at o;exact o v H1 (R.same.trans f) hv
 ·rw[b]at o;exact o H' (R.same.trans s')
 ·rw[b]at o;exact o
theorem AD (h:PD X E e ga) (c:swapsWith e none pos.line X.env=pure false):PSD X E O (.Expr e pos) (qF ga):=(m8 h c).imp λD σ H a=>by
 obtain⟨H0,A0,A,δ,R,o⟩:=a;unfold qF at o;refine eD.run R.full (λd f v H1 g R1 hv=>?_) (λC b H' s'=>?_) (λb=>?_)
 ·rw[f]at o;exact o A σ H1 (R.step g)
 ·rw[b]at o;exact o H' (R.same.trans s')
 ·rw[b]at o;exact o
theorem Et (h:PD X E e ga) (c:X.N.Nodup) (f:i∉O) (hi:X.N[i]?=some x) (g:Loc X.env.scope x) (j:swapsWith e (some (.Name x pos')) pos.line X.env=pure false)
  (l:X.fn x=true\/X.env.scope.names.lookup x=some .local):PSD X E O (.Assign [.Name x pos'] e pos) (aQ O i ga):=(lP c hi g h j l).imp λD σ H a=>by
 obtain⟨H0,A0,A,δ,R,o⟩:=a;unfold aQ at o;split at o
 ·rename_i hl;refine eD.run R.part (λd m v H1 n R1 hv=>?_) (λC b H' s'=>?_) (λb=>?_)
  ·rw[m]at o;exact o A _ H1 ((R.step n).set f hl hv)
  ·rw[b]at o;exact o H' (R.same.trans s')
  ·rw[b]at o;exact o
 ·exact o.elim
theorem Bf (h:PD X E e ga) (f:X.N.Nodup) (g:i∉O) (hi:X.N[i]?=some x) (j:Loc X.env.scope x) (l:swapsWith e (some (.Name x pos')) pos.line X.env=pure false)
  (m:X.fn x=true\/X.env.scope.names.lookup x=some .local):PSD X E O (.Assign [.Name x pos'] e pos) (oP i ga):=(lP f hi j h l m).imp λD σ H a=>by
 obtain⟨H0,A0,A,δ,R,o⟩:=a;unfold oP at o;split at o
 ·rename_i hl;refine eD.run R.full (λd n v H1 c R1 hv=>?_) (λC b H' s'=>?_) (λb=>?_)
  ·rw[n]at o;have o:lC X.K E H0 A0 O (if eM d=true then .nx (δ.set i (some d)) else .no) D:=o;split at o
   ·rename_i hd;exact o A _ H1 ((R.step c).set g hl ((hv.same av).dl (R.step c).lsA hd))
   ·exact o.elim
  ·rw[b]at o;exact o H' (R.same.trans s')
  ·rw[b]at o;exact o
 ·exact o.elim
theorem Dx {a:Ds->Rs (List PyData)} (h:PLD X E e a) (f:X.N.Nodup) (g:i∈O) (hi:X.N[i]?=some x) (j:Loc X.env.scope x) (l:swapsWith e (some (.Name x pos')) pos.line X.env=pure false)
  (m:X.fn x=true\/X.env.scope.names.lookup x=some .local):PSD X E O (.Assign [.Name x pos'] e pos) (jq O i a):=(lP f hi j h l m).imp λD σ H b=>by
 obtain⟨H0,A0,A,δ,R,o⟩:=b;unfold jq at o;split at o
 ·rename_i hl;refine⟨A++A0,mask O δ,R.part,?_⟩;cases q:a (mask O δ) with
  |ok ds =>rw[q]at o;exact λp xs H' hn s n c=>o (p::A) _ H' (R.setOwn g hl hn s n c)
  |rz C=>rw[q]at o;exact λH' s'=>o H' (R.same.trans s')
  |no=>rw[q]at o;exact o
 ·exact o.elim
theorem Ar {a:Ds->Rs (List PyData)} (h:PLS X E i st a) (f:i∉O):PSD X E O st (aQ O i (gL a)):=PS.imp h λD σ H b=>by
 obtain⟨H0,A0,A,δ,R,o⟩:=b;unfold aQ gL at o;split at o
 ·rename_i hl;have e:=R.part;refine⟨A++A0,mask O δ,e,?_⟩;cases q:a (mask O δ) with
  |ok ds =>rw[q]at o;intro p xs H' hn s g c;exact o A _ H' ((R.step s).set f hl (gx (by rw[aB (e.ls.new hn)];exact g) (c.same lH)))
  |rz C=>rw[q]at o;exact λH' s'=>o H' (R.same.trans s')
  |no=>rw[q]at o;exact o
 ·exact o.elim
theorem tyL {p:Addr} (h:H p=some (.lst xs)):tyV K "list" (.ref p) H:=.inl ⟨rfl,xs,SqL.of h⟩
theorem Cq {j c:Pos} (h:PD X E e ga) (s:i∈O) (hi:X.N[i]?=some x) (hv:Vis X.env.scope x)
  (hd:(x==("__debug__":Str))=false) (l:(x==("__classdict__":Str))=false) (f:starEach [e] X.env=(false,eval e X.env)::starEach [] X.env)
  (a:attributeBase (.Name x pn) "append" X.env (eval (.Name x pn) X.env)=eval (.Name x pn) X.env)
  (g:((backTo c (starEach [e] X.env)).all (λx=>!x.1)&&(backToKw c (keywordEach [] X.env)).all (λx=>x.1.isSome)&&decide (([e]:List Expr).length+([]:List Keyword).length+(if ([]:List Keyword).isEmpty then 0 else 1)<30))=true)
  (b:(j.endLine==c.line)=true) (w:swapsWith (.Call (.Attribute (.Name x pn) "append" j) [e] [] c) none pos.line X.env=pure false) :
  PSD X E O (.Expr (.Call (.Attribute (.Name x pn) "append" j) [e] [] c) pos) (jM O i ga) :=
 (m8 (zG PySem.F.plainAttrs_list PySem.F.slot_list_append PySem.F.type_list_append lX (ic hi hv hd l) (dJ h fU f) a g b f rfl) w).imp λD σ H m=>by
  obtain⟨H0,A0,A,δ,R,o⟩:=m;unfold jM at o;split at o
  ·rename_i ds q;obtain⟨p,xs,ds',e1,y,hl,e2,u⟩:=R.ownL s q;cases e2;refine⟨_,e1,tyL hl,?_⟩;refine eD.run R.part (λd z v H1 n R1 hv=>?_) (λC r H' s'=>?_) (λr=>?_)
   ·rw[z]at o;have o:lC X.K E H0 A0 O (if ds.length<1000000 then .nx (δ.set i (some (.list (ds++[d])))) else .no) D:=o;split at o
    ·rename_i hz;refine⟨p,xs,v,rfl,rfl,n _ _ hl,by rw[u.length,sizeLine_eq];omega,?_⟩;exact o A _ _ ((R.step n).put s q e1 y ((u.same n.del).append (ix hv)))
    ·exact o.elim
   ·rw[r]at o;exact o H' (R.same.trans s')
   ·rw[r]at o;exact o
  ·exact o.elim
def TgS (K:PySem.W.Frag) (O:List Nat) (tgt:PyData->Ds->Option Ds) (g:TG):Prop:=∀(d:PyData) (v:V) (H0:Hp) (A0:List Addr) (H:Hp) (A:List Addr) (δ a:Ds) (σ:St) (Q:St->Hp->Prop),bf K H0 A0 H A O δ σ->Is K (del H (A++A0)) d v->tgt d δ=some a ->
 (∀b,bf K H0 A0 H A O a b->Q b H)->g v σ H Q
def bN (i:Nat):PyData->Ds->Option Ds:=λd δ=>if i<δ.length then some (δ.set i (some d)) else none
theorem AZ (hi:i∉O):TgS K O (bN i) (gJ i):=λd v H0 A0 H A δ δ' σ Q R h e k=>by
 unfold bN at e;split at e
 ·rename_i hl;cases e;exact k _ (R.set hi hl h)
 ·cases e
def lT:List Nat->List PyData->Ds->Option Ds
 |[],[],δ=>some δ
 |i::is,d::ds,δ=>if i<δ.length then lT is ds (δ.set i (some d)) else none
 |_,_,_=>none
def gj (is:List Nat):PyData->Ds->Option Ds
 |.tuple ds,δ=>lT is ds δ
 |_,_=>none
def lz:List Nat->TGs
 |[]=>L2.GQ
 |i::is=>L2.xn (gJ i) (lz is)
theorem mx {K:PySem.W.Frag}:∀(is:List Nat) (ds:List PyData) (vs:List V) (H0:Hp) (A0:List Addr) (H:Hp) (A:List Addr) (δ a:Ds) (σ:St) (Q:St->Hp->Prop),(∀i∈is,i∉O)->bf K H0 A0 H A O δ σ->Iss K (del H (A++A0)) ds vs->lT is ds δ=some a ->
  (∀b,bf K H0 A0 H A O a b->Q b H)->lz is vs σ H Q
 |[],[],vs,H0,A0,H,A,δ,a,σ,Q,_,R,h,e,k=>by cases e;exact⟨h.nil_of,k σ R⟩
 |i::is,d::ds,vs,H0,A0,H,A,δ,a,σ,Q,hO,R,h,e,k=>by
  obtain⟨v,r,rfl,h1,h2⟩:=h.cons_of;unfold lT at e;split at e
  ·rename_i hl;exact⟨v,r,rfl,mx is ds r H0 A0 H A _ a _ Q (λj c=>hO j (J8 _ c)) (R.set (hO i J9) hl h1) h2 e k⟩
  ·cases e
 |[],_::_,_,_,_,_,_,_,_,_,_,_,_,_,e,_=>by cases e
 |_::_,[],_,_,_,_,_,_,_,_,_,_,_,_,e,_=>by cases e
theorem oA:∀{is:List Nat} {ds:List PyData} {δ a:Ds},lT is ds δ=some a->ds.length=is.length
 |[],[],_,_,_=>rfl
 |_::is,_::ds,δ,a,e=>by
  unfold lT at e;split at e
  ·simp[oA e]
  ·cases e
 |[],_::_,_,_,e=>by cases e
 |_::_,[],_,_,e=>by cases e
theorem xM {is:List Nat} (hi:∀i∈is,i∉O):TgS K O (gj is) (L2.De K is.length (lz is)):=λd v H0 A0 H A δ a σ Q R h e k=>by
 unfold gj at e;split at e
 ·obtain⟨p,xs,rfl,c,b⟩:=h.ofTup;exact⟨p,xs,rfl,SqT.of (av _ _ c),by rw[b.length,oA e],mx is _ xs H0 A0 H A δ a σ Q hi R b e k⟩
 ·cases e
def forL (tgt:PyData->Ds->Option Ds) (body:Ds->Sr):List PyData->Ds->Sr
 |[],δ=>.nx δ
 |d::r,δ=>match tgt d δ with
  |none=>.no
  |some δ1=>match body δ1 with
   |.nx δ2=>forL tgt body r δ2
   |.ct δ2=>forL tgt body r δ2
   |.bk δ2=>.nx δ2
   |.rt v=>.rt v
   |.rz C=>.rz C
   |.no=>.no
def iy (O:List Nat) (src:Ds->Rs (List PyData)) (tgt:PyData->Ds->Option Ds) (body:Ds->Sr):Ds->Sr:=λδ=>ofR (src (mask O δ)) λds=>forL tgt body ds δ
theorem DA {tgt:PyData->Ds->Option Ds} (Q:PassesOwn (model X.prog X.w) X.A X.env X.xe) (hc:X.calm=true) (hi:PID X E tg iter gi) (S:TgS X.K O tgt g) (T:PG X tg g) (u:PBD X E O ss G)
  (U:∀x,foldedSetIterable iter X.env x=pure x):PSD X E O (.For tg iter ss [] pos) (iy O gi tgt G):=(BM Q hc hi T u U).imp λD σ H B=>by
 obtain⟨H0,A0,A,δ,R,o⟩:=B;unfold iy at o;refine⟨A++A0,mask O δ,R.part,?_⟩;cases q:gi (mask O δ) with
 |no=>rw[q]at o;exact o
 |rz C=>rw[q]at o;exact λH' s'=>o H' (R.same.trans s')
 |ok ds =>
  rw[q]at o;intro J H1 M W;have Y:=(R.step M).more;have o:lC X.K E H0 A0 O (forL tgt G ds δ) D:=o;refine⟨λi m f H'=>m=ds.length-i/\i<=ds.length/\∃l c,bf X.K (un H0 (del H1 (A++A0))) A0 H' l O c f/\lC X.K E H0 A0 O (forL tgt G (ds.drop i) c) D,⟨ds.length,by simp,Ks _,A,δ,Y,o⟩,?_⟩
  rintro i m f H' ⟨rfl,hi',l,c,n,o'⟩
  have N:ao (del H1 (A++A0)) (un H0 (del H1 (A++A0))):=Iv (R.same.trans M) av;have hB:∀b∈l++A0,(del H1 (A++A0)) b=none:=λb u=>by
   rcases Ki.mp u with z|z
   ·exact N.free (n.new b z)
   ·exact eQ (JS _ z)
  obtain⟨Z,js,jy⟩:=W H' (l++A0) (N.trans n.same) n.lsA hB;by_cases hlt:i<ds.length
  ·refine .inr ⟨Z i hlt,?_⟩;have F:ds.drop i=ds[i]::ds.drop (i+1):=L3 hlt;rw[F]at o';unfold forL at o';refine⟨λp H2=>∃I a,bf X.K (un H0 (del H1 (A++A0))) A0 H2 I O a p/\lC X.K E H0 A0 O (forL tgt G (ds.drop (i+1)) a) D,λp H2 ⟨I,a,R2,o2⟩=>⟨ds.length-(i+1),by omega,rfl,hlt,I,a,R2,o2⟩,λx H2 y=>?_⟩;obtain⟨s2,d,P,hd⟩:=jy i x H2 hlt y;have:ds[i]=d:=by have:=J0 hlt;rw[this]at P;exact Option.some.inj P
   rw[this]at o';cases et:tgt d c with
   |none=>rw[et]at o';exact o'.elim
   |some δ1 =>
    simp only[et]at o';refine S d x _ _ _ _ _ _ _ _ (n.step s2) hd et λσ3 R3=>⟨_,_,_,_,R3,?_⟩
    cases eb:G δ1 with
    |nx a=>rw[eb]at o';exact λr h j s=>⟨r,a,s,o'⟩
    |ct a=>rw[eb]at o';exact λr h j s=>⟨r,a,s,o'⟩
    |bk a=>rw[eb]at o';exact λr h j s=>o' r h j (s.less yR R.ls0)
    |rt v=>rw[eb]at o';exact λv4 j L h4=>o' v4 j (yR.trans L) h4
    |rz C=>rw[eb]at o';exact λj L=>o' j (yR.trans L)
    |no=>rw[eb]at o';exact o'
  ·have e:i=ds.length:=by omega
   subst e;rw[LB]at o';exact .inl ⟨js,o' l f H' (n.less yR R.ls0)⟩
end
section
variable {ss:List Stmt} {G G':Ds->Sr} {a b c:Expr} {ga gb gk:Ds->Rs PyData} {ca:Ds->Rs Bool}
def bV (c:Ds->Rs Bool) (b:Ds->Sr):Nat->Ds->Sr
 |0,_=>.no
 |n+1,δ=>ofR (c δ) λt=>if t=true then (match b δ with
  |.nx δ2=>bV c b n δ2
  |.ct δ2=>bV c b n δ2
  |.bk δ2=>.nx δ2
  |.rt v=>.rt v
  |.rz C=>.rz C
  |.no=>.no) else .nx δ
theorem ye (fuel:Nat) (j:PassesOwn (model X.prog X.w) X.A X.env X.xe) (hc:PCD X E c ca) (l:PBD X E O ss G):PSD X E O (.While c ss [] pos) (λδ=>bV ca G fuel δ):=(uU j hc l).imp λD σ H e=>by
 obtain⟨H0,A0,A,δ,R,o⟩:=e;refine⟨λm σ H=>∃A δ,bf X.K H0 A0 H A O δ σ/\lC X.K E H0 A0 O (bV ca G m δ) D,⟨fuel,A,δ,R,o⟩,?_⟩
 rintro m σ H ⟨A,δ,R,o⟩
 cases m with
 |zero=>exact o.elim
 |succ m =>
  unfold bV at o;refine cD.run R.full (λt a H1 i R1=>?_) (λC a H' s'=>?_) (λa=>?_)
  ·rw[a]at o;cases t with
   |false=>exact o A σ H1 (R.step i)
   |true =>
    refine⟨λb H'=>∃A δ,bf X.K H0 A0 H' A O δ b/\lC X.K E H0 A0 O (bV ca G m δ) D,λb H' q=>⟨m,KU m,q⟩,H0,A0,A,δ,R.step i,?_⟩;have o:lC X.K E H0 A0 O (match G δ with
     |.nx δ2=>bV ca G m δ2
     |.ct δ2=>bV ca G m δ2
     |.bk δ2=>.nx δ2
     |.rt v=>.rt v
     |.rz C=>.rz C
     |.no=>.no) D:=o
    cases eb:G δ with
    |nx δ2=>rw[eb]at o;exact λf g n h=>⟨f,δ2,h,o⟩
    |ct δ2=>rw[eb]at o;exact λf g n h=>⟨f,δ2,h,o⟩
    |bk δ2=>rw[eb]at o;exact o
    |rt v=>rw[eb]at o;exact o
    |rz C=>rw[eb]at o;exact o
    |no=>rw[eb]at o;exact o
  ·rw[a]at o;exact o H' (R.same.trans s')
  ·rw[a]at o;exact o
def yQ (i:Nat) (gk ge:Ds->Rs PyData):Ds->Sr:=λδ=>match δ[i]? with
 |some (some (.list ds))=>ofR (ge δ) λd=>ofR (gk δ) λk=>match k with
  |.int k=>match ixN ds.length k with
   |some j=>if eM d then .nx (δ.set i (some (.list (ds.set j d)))) else .no
   |none=>.no
  |_=>.no
 |_=>.no
theorem CG {k:Expr} {ps:Pos} (h:PD X E e ga) (n:PD X E k gk) (g:i∈O) (hi:X.N[i]?=some x) (hv:Vis X.env.scope x)
  (hd:(x==("__debug__":Str))=false) (c:(x==("__classdict__":Str))=false)
  (ha:∀v,assign (.Subscript (.Name x pn) k ps) X.env v=(do
   let ov <-holding [v] (eval (.Name x pn) X.env);let iv <-holding [v,ov] (eval k X.env)
   standAt ps
   holding [v,ov,iv] (setItem ov iv v)
   release [v,ov,iv] []))
  (r:swapsWithSole [.Subscript (.Name x pn) k ps] e pos.line X.env=pure false) (hw:swappedStores [.Subscript (.Name x pn) k ps] e X.env=pure none)
  (h1:(assignEach [.Subscript (.Name x pn) k ps] X.env).map (·.2)=[assign (.Subscript (.Name x pn) k ps) X.env]):PSD X E O (.Assign [.Subscript (.Name x pn) k ps] e pos) (yQ i gk ga) :=
 (Ca h (Aj (ic hi hv hd c) n set_list ha) r hw h1).imp λD σ H f=>by
  obtain⟨H0,A0,A,δ,R,o⟩:=f;unfold yQ at o;split at o
  ·rename_i ds q;obtain⟨p,xs,ds',e1,s,hl,e2,l⟩:=R.ownL g q;cases e2;refine eD.run R.full (λd w v H1 m y hv=>?_) (λC b H' s'=>?_) (λb=>?_)
   ·simp only[w,az]at o;refine⟨_,e1,?_⟩;refine eD.run y (λkd z u H2 s2 R2 B=>?_) (λC b H' s'=>?_) (λb=>?_)
    ·simp only[z,az]at o;split at o
     ·rename_i F;split at o
      ·rename_i j G;split at o
       ·rename_i hn;have a:=m.trans s2;refine⟨p,xs,F,j,rfl,B.ofInt,a _ _ hl,by rw[l.length];exact G,?_⟩;exact o A _ _ ((R.step a).put g q e1 s (Iss.set (((hv.same s2.del).same av).dl (R.step a).lsA hn) j (l.same a.del)))
       ·exact o.elim
      ·exact o.elim
     ·exact o.elim
    ·simp only[b,jN]at o;exact o H' (R.same.trans (m.trans s'))
    ·simp only[b,jI]at o;exact o
   ·simp only[b,jN]at o;exact o H' (R.same.trans s')
   ·simp only[b,jI]at o;exact o
  ·exact o.elim
structure tH (K:PySem.W.Frag) (mg:Str->Option Value) (x:Str) (C:Addr):Prop where
 m:mg x=some (.ref C)
 e:PySem.W.excIn K C [.type "ValueError",.type "Exception",.type "BaseException",.type "object"] "ValueError.__new__"=true
def iV (C:Addr) (gs:Ds->Rs (List PyData)):Ds->Sr:=λδ=>ofR (gs δ) λ_=>.rz C
theorem yZ {i:Pos} (hc:X.calm=true) (M:vR X E) (g:tH X.K X.mg x C) (ha:PAD X E (e::es) gs) (hl:(e::es).length<=1000) (j:Gl X x)
  (a:(x==("__debug__":Str))=false) (l:starEach (e::es) X.env=(false,eval e X.env)::starEach es X.env) (b:(backTo cpos (starEach es X.env)).any (·.1)=false) :
  PSD X E O (.Raise (some (.Call (.Name x i) (e::es) [] cpos)) none pos) (iV C gs) :=
 (BA hc M PySem.F.excBase_ValueError j g.m g.e ha.1 a l b).imp λD σ H c=>by
  obtain⟨H0,A0,A,δ,R,o⟩:=c;unfold iV at o;refine aD.run R.full (λds h vs H1 n R1 hv=>?_) (λC f H' s'=>?_) (λf=>?_)
  ·simp only[h,az]at o;exact⟨by rw[hv.length,ha.2 δ ds h,sizeLine_eq];omega,o H1 (R.same.trans n)⟩
  ·simp only[f,jN]at o;exact o H' (R.same.trans s')
  ·simp only[f,jI]at o;exact o
end
section
theorem mW {f:Addr} {k:Nat} (F:Fun K x qual st f fd) (S:cB N ps (ax st)) (len:∀vs H Q E,sp vs H Q E->vs.length=ps.length)
  (a:∀(cdv:Value) (A:Around) (outer:List Env) (s:Shared) (H:Hp) (vs:List V) (Q:VK) (E:XK),bU k (A.deeper (envOfC qual (ax st) s.heap.objs.size f cdv))->sp vs H Q E ->
   ∃t,PSs (cH CX P w K mg base N qual (ax st) f cdv A outer s H E) (bK st) t/\t { nx:=λ_ H'=>Q .non H',rt:=Q } (start N vs) H):fD P w K mg base CX (k+1) f fd ps sp:=by
 obtain⟨oc,od,kV,doc,pm,an,cdv,ct,osl,rfl,e,b⟩:=F.ex;exact AF e b S len λA outer s H vs Q E g c=>a cdv A outer s H vs Q E g c
def bq:Sr->Rs PyData
 |.rt d=>.ok d
 |.nx _=>.ok .none
 |.rz C=>.rz C
 |_=>.no
theorem FJ {f:Addr} {A:Around}:vR (cH (CXW P w) P w K mg base N qual scope f cd A outer s H E) E :=
 λ_ _ _ _ _ _ _ _ I a b=>uo (CX:=CX0) I a b
theorem bf.start (f:Ls H A0) (hi:Iss K (del H A0) ds vs) (hl:ds.length=ps.length) (c:∀i∈O,ps.length<=i) :
  bf K H A0 H [] O (ds.map some++List.replicate (N.length-ps.length) none) (L2.start N vs):=by
 have hv:=hi.length;have at':∀(i:Nat) d,(ds.map some++List.replicate (N.length-ps.length) none)[i]?=some (some d)->i<ds.length/\ds[i]?=some d:=λi d e=>by
  by_cases h:i<ds.length
  ·rw[K8 (by simpa using h),JY]at e;refine⟨h,?_⟩;cases q:ds[i]? with
   |none=>rw[q]at e;cases e
   |some z=>rw[q]at e;simp at e;rw[e]
  ·rw[Kc (by simpa using h),Lx]at e;split at e <;> cases e
 refine⟨ao.refl _,f,(λa h=>by cases h),(λa h=>by cases h),?_,λi d _ e=>?_,λi d h e=>?_,λi j d e a h _ q _ _ _=>?_⟩
 ·unfold L2.start;simp[hv,hl]
 ·obtain⟨b,e⟩:=at' i d e;obtain⟨v,g,hd⟩:=hi.getD e;refine⟨v,?_,hd⟩;unfold L2.start;rw[K8 (by simp;omega),JY,g];rfl
 ·obtain⟨b,_⟩:=at' i d e;exact absurd (c i h) (by omega)
 ·obtain⟨b,_⟩:=at' i d q;exact absurd (c i h) (by omega)
theorem gA.of {f:Addr} {k:Nat} {G:Ds->Sr} (F:Fun K x qual st f fd) (S:cB N ps (ax st)) (b:Binds K fd ps []) (m:mg x=some (.ref f)) (e:∀i∈O,ps.length<=i)
  (body:∀(cdv:Value) (A:Around) (outer:List Env) (s:Shared) (H:Hp) (E:XK),bU k (A.deeper (envOfC qual (ax st) s.heap.objs.size f cdv))->PBD (cH (CXW P w) P w K mg base N qual (ax st) f cdv A outer s H E) E O (bK st) G)
  (g:∀ds,ds.length=ps.length->gf ds≠.no->bq (G (ds.map some++List.replicate (N.length-ps.length) none))=gf ds):gA P w K mg base (k+1) x ps.length gf:=by
 refine⟨f,fd,ps,mW F S (λvs H Q E h=>?_) (λcdv A outer s H vs Q E j h=>?_),m,F.kp,b⟩
 ·obtain⟨A,ds,c,hi,hl,o⟩:=h;rw[hi.length,hl]
 ·obtain⟨A0,ds,c,hi,hl,o⟩:=h;refine⟨_,body cdv A outer s H E j,H,A0,[],_,bf.start c hi hl e,?_⟩;have a:=g ds hl (λz=>by rw[z]at o;exact o);cases q:G (ds.map some++List.replicate (N.length-ps.length) none) with
  |rt d=>rw[q]at a;rw[<-a]at o;exact λv H' s' hv=>o v H' s' hv
  |nx δ=>rw[q]at a;rw[<-a]at o;exact λA' σ H' l=>o .non H' l.same is_none
  |rz C=>rw[q]at a;rw[<-a]at o;exact λH' s'=>o H' s'
  |bk δ=>rw[q]at a;rw[<-a]at o;exact o.elim
  |ct δ=>rw[q]at a;rw[<-a]at o;exact o.elim
  |no=>rw[q]at a;rw[<-a]at o;exact o.elim
theorem gA.old {f:Addr} {k:Nat} (F:fD P w K mg base CX0 k f fd ps sp) (m:mg x=some (.ref f)) (kp:PySem.W.keepIn K (.ref f)=true) (b:Binds K fd ps [])
  (h:∀ds,ds.length=ps.length->gf ds≠.no->∃d,gf ds=.ok d/\fk d=true/\∀vs H Q,Iss K H ds vs->(∀v H',ao H H'->IsD K H' d v->Q v H')->sp vs H Q E0):gA P w K mg base k x ps.length gf:=by
 refine⟨f,fd,ps,⟨λvs H Q E h'=>?_,λA outer s H args us vs Q E j l n hv h'=>?_⟩,m,kp,b⟩
 ·obtain⟨A,ds,g,hi,hl,o⟩:=h';rw[hi.length,hl]
 ·obtain⟨A0,ds,g,hi,hl,o⟩:=h';obtain⟨d,e,i,c⟩:=h ds hl (λz=>by rw[z]at o;exact o);rw[e]at o;refine codeAny_mono (F.run A outer s H args us vs Q E0 j l n hv (c vs H Q (hi.same av) λv H' s' hd=>o v H' s' ((hd.is i).dl (g.same s') (v8 i)))) λr s' a=>?_
  cases r with
  |error ev=>exact False.elim a
  |ok fl =>
   cases fl with
   |ret u=>exact a
   |next=>exact False.elim a
   |brk=>exact False.elim a
   |cont=>exact False.elim a
end
open AutoSeq1 (wpAny_loadPart')
theorem lG:fillsNumberSlot (.type "tuple") "mul"=pure false :=
 PySem.fillsNumberSlot_seq (id:="tuple.__mul__") (r:=some (.builtin "tuple.__rmul__")) PySem.F.slot_tuple_mul.lookup (by decide +kernel) PySem.F.slot_tuple_rmul.lookup (by decide +kernel)
theorem sk:seqRepeat? (.type "tuple")=pure (some (.builtin "tuple.__mul__")):=by unfold seqRepeat?;rw[PySem.seqSlot_of (T:="tuple") (name:="__mul__") (id:="tuple.__mul__") PySem.F.slot_tuple_mul.lookup (by decide +kernel),PySem.seqSlot_of (T:="tuple") (name:="__rmul__") (id:="tuple.__rmul__") PySem.F.slot_tuple_rmul.lookup (by decide +kernel)];rfl
theorem sM (a:Int) (t:Tok) (l:Addr) (items:Array Value) (n:Nat) (dd:Option Addr) (b:Array (Option Value)) :
  Meets (Builtin.«int.__rmul__» ⟨[.int a t,.ref l],[]⟩) (λ_ R s=>s.heap.get? l=some { cls:=.type "tuple",dict:=dd,data:=.seq items n,slots:=b }/\R (.ok (.ret Value.notImplemented)) s) :=
 .of_wp λprog w A R s h=>by obtain⟨hp,g,d,tk,os⟩:=s;obtain⟨hl,h⟩:=h;wp_walk;exact⟨_,rfl,h⟩
theorem Ci (l:Addr) (items:Array Value) (n:Nat) (x:Int) (u:Tok) (dd:Option Addr) (a:Array (Option Value)) (h1:(decide (x < -(2 ^ 63))||decide (x≥2 ^ 63))=false) (h2:(items.isEmpty||x==1)=false) (h3:(decide (x<=0)||items.isEmpty)=false)
  (b:decide ((items.size:Int)*x>(2 ^ 63-1) / 8)=false) (h5:Builtin.Tuple.tupleTooMany ((items.size:Int)*x)=false) (hsz:(List.foldl (λx1 x2=>x1++x2) #[] (List.replicate x.toNat items)).size<=sizeLine) :
  Meets (Builtin.«tuple.__mul__» ⟨[.ref l,.int x u],[]⟩) (λ_ R s=>s.heap.get? l=some { cls:=.type "tuple",dict:=dd,data:=.seq items n,slots:=a }/\R (.ok (.ret (Value.ref s.heap.objs.size))) { s with heap:=s.heap.push { cls:=Value.type "tuple",data:=Data.seq (List.foldl (λx1 x2=>x1++x2) #[] (List.replicate x.toNat items)) } }) :=
 .of_wp λprog w A R s h=>by
  obtain⟨hp,g,d,tk,os⟩:=s;obtain⟨hl,h⟩:=h;have f1:=AutoSeq1.idx_int;have f2:=AutoSeq1.sub_tuple_tuple
  wp_walk using wpAny_loadPart' hl
  refine wpAny_ite_false (by rw[h1];rfl) ?_
  wp_walk using wpAny_loadPart' hl
  refine wpAny_ite_false b ?_
  wp_walk using wpAny_loadPart' hl
  exact⟨_,rfl,h⟩
section
variable {a b c:Expr} {ga gb gc:Ds->Rs PyData}
def EN (K:PySem.W.Frag):R2:=λx y H Q=>∃l k xs,x=.ref l/\y=.int k/\SqT K H l xs/\xs≠[]/\2<=k/\k<1000000/\xs.length*k.toNat<=1000000/\∀p,H p=none->Q (.ref p) (upd H p (.tup (List.replicate k.toNat xs).flatten))
theorem CL:OpR X (binaryOp .Mult) (EN X.K):=by
 intro pins s σ H x y v u Q I m p h;obtain⟨l,k,xs,rfl,rfl,hl,i,hk1,hk2,w,q⟩:=h;cases m;obtain⟨t,rfl⟩:=p;obtain⟨a,r,p1,_⟩:=I.tuple hl;obtain⟨⟨cls,dd,data,j⟩,g,hc,n,hd⟩:=id p1;simp only at hc hd;subst hc hd;have hlen:=r.length;have e:a≠[]:=λz=>i (r.nil_iff.mp z)
 have hpos:0<a.length:=KL.mpr e;have c:List.foldl (λx1 x2=>x1++x2) #[] (List.replicate k.toNat a.toArray)=(List.replicate k.toNat a).flatten.toArray:=by have:=foldl_rep a k.toNat [];rw[Kt]at this;exact this
 have f:a.toArray.isEmpty=false:=by simp[e]
 have hmul:(a.length:Int)*k<=1000000:=by
  have e1:((a.length*k.toNat:Nat):Int)=(a.length:Int)*k:=by rw[Int.natCast_mul,Li (by omega)]
  rw[<-e1,<-hlen];omega
 have hsz2:(List.replicate k.toNat a).flatten.length<=1000000:=by rw[len_rep,Nat.mul_comm,<-hlen];exact w
 refine wpAny_binaryOp_repeat_ref (T:="tuple") (U:="int") (by decide) ⟨_,g,rfl⟩ (λs'=>typeIs_int s' k t) lG PySem.F.fills_int_mul PySem.F.slot_int_rmul sk PySem.F.slot_int_index.lookup
  (call_meets PySem.F.slot_int_rmul (typeIs_int s k t) PySem.F.entry_int_rmul (PySem.F.args_int_rmul_2 _ _) (sM k t l a.toArray n dd j)
   ⟨g,rfl,⟨_,g,rfl⟩,call_meets PySem.F.slot_tuple_mul ⟨_,g,rfl⟩ PySem.F.entry_tuple_mul (PySem.F.args_tuple_mul_2 _ _) (Ci l a.toArray n k t dd j ?_ ?_ ?_ ?_ ?_ ?_) ⟨g,?_⟩⟩)
 ·rw[decide_eq_false (by omega),decide_eq_false (by omega)];rfl
 ·rw[f,Bool.false_or];simp;omega
 ·rw[f,Bool.or_false];exact decide_eq_false (by omega)
 ·rw[K3];exact decide_eq_false (by omega)
 ·rw[K3];unfold Builtin.Tuple.tupleTooMany;rw[sizeLine_eq];exact decide_eq_false (by omega)
 ·rw[c,K3,sizeLine_eq];omega
 ·rw[c];refine⟨.ref s.heap.objs.size,_,I.laid (t':=s.toks) (o:=.tup (List.replicate k.toNat xs).flatten) (λb ob q=>J1 _ q) (JU _) ?_,rfl,q _ (I.hok.fresh (JU _))⟩;exact⟨by rw[len_rep,Nat.mul_comm,sizeLine_eq];omega,_,r.rep k.toNat,sT.new _ _⟩
def eC:PyData->PyData->Option PyData
 |.int i,.int j=>if (-(2 ^ 64)<i/\i<2 ^ 64)\/(-(2 ^ 64)<j/\j<2 ^ 64) then some (.int (i*j)) else none
 |.list x,.int k=>if 0<=k/\k<1000000/\x.length*k.toNat<=1000000 then some (.list (List.replicate k.toNat x).flatten) else none
 |.tuple x,.int k=>if x≠[]/\2<=k/\k<1000000/\x.length*k.toNat<=1000000 then some (.tuple (List.replicate k.toNat x).flatten) else none
 |_,_=>none
theorem CS:OpD K eC (λx y H Q=>rI CC (λi j=>.int (i*j)) x y H Q\/HS x y H Q\/EN K x y H Q):=λd1 d2 d x y H A Q e f h1 h2 k=>by
 unfold eC at e;split at e
 ·split at e
  ·rename_i z;cases e;exact .inl ⟨_,_,h1.ofInt,h2.ofInt,z,k _ H (ao.refl _) bB⟩
  ·cases e
 ·split at e
  ·rename_i z;cases e;obtain⟨p,xs,rfl,c,a⟩:=h1.ofLst;exact .inr (.inl ⟨p,_,xs,rfl,h2.ofInt,av _ _ c,by omega,by omega,by rw[a.length,sizeLine_eq];omega,λr b=>k _ _ (bp b) (kI f b (a.rep _))⟩)
  ·cases e
 ·split at e
  ·rename_i z;cases e;obtain⟨p,xs,rfl,c,a⟩:=h1.ofTup;refine .inr (.inr ⟨p,_,xs,rfl,h2.ofInt,SqT.of (av _ _ c),λq=>z.1 ?_,z.2.1,z.2.2.1,by rw[a.length];exact z.2.2.2,λr b=>k _ _ (bp b) (mM f b (a.rep _))⟩);exact L6.mp (by rw[<-a.length,q];rfl)
  ·cases e
 ·cases e
theorem Ff (ha:PD X E a ga) (c:PD X E b gb):PD X E (.BinOp a .Mult b pos) (g2 eC ga gb):=fO CS ha c (dX (lY.or (F0.or CL)))
end
section
variable {A:Around} {E:Value->Shared->Prop}
end
end L2
variable {δ:L2.Ds} {ca cond:L2.Ds->L2.Rs Bool} {gf:List PyData->L2.Rs PyData} {gs gi src gw:L2.Ds->L2.Rs (List PyData)} {tgt tg1:PyData->Option L2.Ds} {ga gb gv:L2.Ds->L2.Rs PyData}
namespace L2
open PySem PySem.Spec PyProof.Rows
section
variable {E:XK} {a b c:Expr} {gc:Ds->Rs PyData} {es:List Expr}
def cutD (xs:List PyData) (lo hi:Option Int):List PyData:=(xs.drop (HT.sIx xs.length 0 lo)).take (HT.sIx xs.length xs.length hi-HT.sIx xs.length 0 lo)
def DE:PyData->Option Int->Option Int->Option PyData
 |.list x,lo,hi=>some (.list (cutD x lo hi))
 |.tuple x,lo,hi=>some (.tuple (cutD x lo hi))
 |_,_,_=>none
def BS:PyData->Rs (Option Int)
 |.int i=>.ok (some i)
 |_=>.no
def C3:Ds->Rs (Option Int):=λ_=>.ok none
def IL (g:Ds->Rs PyData):Ds->Rs (Option Int):=λδ=>(g δ).bind BS
def FH (g:Ds->Rs PyData) (lo hi:Ds->Rs (Option Int)):Ds->Rs PyData:=λδ=>(g δ).bind λd=>(lo δ).bind λl=>(hi δ).bind λh=>Rs.dz (DE d l h)
def toV:PyData->V
 |.none=>.non
 |.bool b=>.bl b
 |.int i=>.int i
 |.str x=>.str x
 |_=>.non
def inD (x:PyData) (xs:List PyData):Bool:=inV (toV x) (xs.map toV)
def A9 (neg:Bool):PyData->PyData->Option PyData
 |x,.list xs=>if fk x&&xs.all fk then some (.bool (if neg then !inD x xs else inD x xs)) else none
 |x,.tuple xs=>if fk x&&xs.all fk then some (.bool (if neg then !inD x xs else inD x xs)) else none
 |_,_=>none
theorem Is.flat {d:PyData} (h:Is K H d v) (f:fk d=true):v=toV d/\iJ v=true:=by
 cases d with
 |none=>rw[h.ofNone];exact⟨rfl,rfl⟩
 |bool b=>rw[h.ofBool];exact⟨rfl,rfl⟩
 |int i=>rw[h.ofInt];exact⟨rfl,rfl⟩
 |str x=>rw[h.ofStr];exact⟨rfl,rfl⟩
 |_=>cases f
theorem Iss.flat {K:PySem.W.Frag} {H:Hp}:∀{ds:List PyData} {vs:List V},Iss K H ds vs->ds.all fk=true->vs=ds.map toV/\vs.all iJ=true
 |[],_,h,_=>by rw[h.nil_of];exact⟨rfl,rfl⟩
 |d::ds,_,h,f=>by rw[Lc,JZ]at f;obtain⟨v,r,rfl,h1,h2⟩:=h.cons_of;obtain⟨e1,f1⟩:=h1.flat f.1;obtain⟨e2,f2⟩:=Iss.flat h2 f.2;exact⟨by rw[e1,e2];rfl,by rw[Lc,f1,f2];rfl⟩
theorem Gx {neg:Bool}:OpD K (A9 neg) (rIn K neg):=λd1 d2 d x y H A Q e hA h1 h2 k=>by
 unfold A9 at e;split at e
 ·split at e
  ·rename_i z;rw[JZ]at z;cases e;obtain⟨p,xs,rfl,a,b⟩:=h2.ofLst;obtain⟨e1,f1⟩:=h1.flat z.1;obtain⟨e2,f2⟩:=b.flat z.2;refine⟨p,xs,rfl,.inl (SqL.of (av _ _ a)),f1,f2,?_⟩;rw[e1,e2];exact k _ H (ao.refl _) is_bool
  ·cases e
 ·split at e
  ·rename_i z;rw[JZ]at z;cases e;obtain⟨p,xs,rfl,a,b⟩:=h2.ofTup;obtain⟨e1,f1⟩:=h1.flat z.1;obtain⟨e2,f2⟩:=b.flat z.2;refine⟨p,xs,rfl,.inr (SqT.of (av _ _ a)),f1,f2,?_⟩;rw[e1,e2];exact k _ H (ao.refl _) is_bool
  ·cases e
 ·cases e
theorem HL (ha:PD X E a ga) (c:PD X E b gb) (hm:behindInMarks .In b=false):PD X E (.Compare a [.In] [b] pos) (g2 (A9 false) ga gb):=fO Gx ha c λh1 h2=>mX yj h1 h2 hm
def k7 (f e:PyData->PyData->Option PyData) (a b c:Ds->Rs PyData):Ds->Rs PyData:=λδ=>(a δ).bind λx=>(b δ).bind λy=>(Rs.dz (f x y)).bind λz=>(truth z).bind λt=>if t=true then (c δ).bind λw=>Rs.dz (e y w) else .ok (.bool false)
theorem B2 {g:CmpOp} {r p:R2} {f i:PyData->PyData->Option PyData} (y:OpR X (compareOp op) r) (l:OpR X (compareOp g) p) (B:OpD X.K f r) (m:OpD X.K i p) (ha:PD X E a ga) (D:PD X E b gb) (hc:PD X E c gc)
  (hm:lastMarks [op,g] [b,c]=false:=by with_unfolding_all rfl):PD X E (.Compare a [op,g] [b,c] pos) (k7 f i ga gb gc):=(BU y l ha D hc hm).imp λσ H Q n=>by
 obtain⟨A,δ,R,o⟩:=n;unfold k7 at o;refine eD.run R (λd1 e1 v H1 j F h1=>?_) (λC e H' s'=>by rw[e]at o;exact o H' s') (λe=>by rw[e]at o;exact o);simp only[e1,Rs.ag]at o;refine eD.run F (λd2 e2 u H2 s2 R2 h2=>?_) (λC e H' s'=>by rw[e]at o;exact o H' (j.trans s')) (λe=>by rw[e]at o;exact o);simp only[e2,Rs.ag]at o;cases e3:f d1 d2 with
 |none=>rw[e3]at o;exact o.elim
 |some z =>
  simp only[e3,Rs.ak,Rs.ag]at o;refine B d1 d2 z v u H2 A _ e3 R2.ls (h1.same s2.del) h2 λw G h I=>?_
  obtain⟨t,rfl,o⟩:=oY o;refine⟨t,I.ofBool,?_⟩;cases t with
  |false=>exact o _ G (j.trans (s2.trans h)) is_bool
  |true =>
   have o:f7 X.K E A H ((gc δ).bind λw=>Rs.dz (i d2 w)) Q:=o;refine eD.run (R2.same h) (λq J L M s N O=>?_) (λC e H' s'=>by rw[e]at o;exact o H' (j.trans (s2.trans (h.trans s')))) (λe=>by rw[e]at o;exact o);simp only[J,Rs.ag]at o;cases e5:i d2 q with
   |none=>rw[e5]at o;exact o.elim
   |some d=>rw[e5]at o;exact m d2 q d u L M A Q e5 N.ls (h2.same (h.trans s).del) O λx P S T=>o x P (j.trans (s2.trans (h.trans (s.trans S)))) T
theorem EB (ha:PD X E a ga) (e:PD X E b gb) (hc:PD X E c gc) (hm:lastMarks [.LtE,.LtE] [b,c]=false):PD X E (.Compare a [.LtE,.LtE] [b,c] pos) (k7 dLe dLe ga gb gc):=B2 zU zU (jK λ_ _ _ _=>is_bool) (jK λ_ _ _ _=>is_bool) ha e hc hm
end
section
variable {E:XK} {a b c:Expr}
def Je (i j c:Int):Nat:=(Builtin.Range.rangeSize i j c).toNat
noncomputable def GP (i j c:Int):Bool:=decide (-(1000000)<=i/\i<=1000000/\-(1000000)<=j/\j<=1000000/\-(1000000)<=c/\c<=1000000/\c≠0)&&Builtin.Range.small i j c
def FG (lo c:Int) (n:Nat):List PyData:=(List.range n).map λ(i:Nat)=>PyData.int (lo+(i:Int)*c)
def Ie:List PyData->Rs (List PyData)
 |[.int i,.int j,.int c]=>if GP i j c then .ok (FG i c (Je i j c)) else .no
 |_=>.no
def HV (g:Ds->Rs (List PyData)):Ds->Rs (List PyData):=λδ=>(g δ).bind Ie
def tLR (ta:TA):TE:=λσ H Q=>ta σ H λvs H1=>∃j:Int,vs=[.int j]/\0<=j/\j<=1000000/\∀p,H1 p=none->Q (.ref p) (upd H1 p (.lst ((List.range j.toNat).map λ(i:Nat)=>V.int (i:Int))))
theorem FP {s2:Shared} {Q:VK} {j:Int} {tk:Nat} {a:Array Value} {c':Nat} (c:Inv X pins σ H1 s2) (g:∀b o,s2.heap.get? b=some o->h'.get? b=some o)
 (hl:h'.get? s2.heap.objs.size=some { cls:=.type "list",dict:=none,data:=.seq a c',slots:=#[] }) (hi:ItemsOf (λi v=>∃t,v=.int ((0:Int)+(i:Int)*1) t) a j.toNat) (q1:0<=j) (q2:j<=1000000)
 (q:∀p,H1 p=none->Q (.ref p) (upd H1 p (.lst ((List.range j.toNat).map λ(i:Nat)=>V.int (i:Int))))):EP X pins σ Q (.ref s2.heap.objs.size) { s2 with heap:=h',toks:=tk }:=by
 have hv:Vals ((List.range j.toNat).map λ(i:Nat)=>V.int (i:Int)) a.toList:=by
  have aux:∀(l:List Value) (k:Nat),(∀(m:Nat) v,l[m]?=some v->∃t,v=.int ((0:Int)+((k+m:Nat):Int)*1) t)->Vals ((List.range' k l.length).map λ(i:Nat)=>V.int (i:Int)) l:=by
   intro l
   induction l with
   |nil=>intro k _;exact .nil
   |cons x r ih =>
    intro k f;rw[Ka,LP,J5];refine .cons ?_ (ih (k+1) λm v hm=>?_)
    ·obtain⟨t,e⟩:=f 0 x rfl;exact⟨t,by rw[e];simp⟩
    ·obtain⟨t,e⟩:=f (m+1) v (by simpa using hm);exact⟨t,by rw[e,show k+(m+1)=k+1+m by omega]⟩
  have h1:=aux a.toList 0 (λm v hm=>by obtain⟨t,e⟩:=hi.2 m v (by rw[<-LC];exact hm);exact⟨t,by rw[e];simp⟩)
  rw[LF,hi.1]at h1;rw[List.range_eq_range'];exact h1
 exact⟨.ref s2.heap.objs.size,_,c.laid (t':=tk) g (JU _) (show cE X.prog X.w _ h' _ (.lst ((List.range j.toNat).map λ(i:Nat)=>V.int (i:Int))) from⟨by rw[J6,LN,sizeLine_eq];omega,a.toList,c',hv,by simpa using hl⟩),rfl,q _ (c.hok.fresh (JU _))⟩
theorem rY {c:Pos} (hc:X.calm=true) (v:Gl X "range") (hm:X.mg "range"=none) (g:Gl X "list") (i:X.mg "list"=none) (ha:PA X [a] ta) (w:starEach [a] X.env=[(false,eval a X.env)]:=by rfl)
  (f:starEach [.Call (.Name "range" p) [a] [] pos] X.env=[(false,eval (.Call (.Name "range" p) [a] [] pos) X.env)]:=by rfl) :
  PE X (.Call (.Name "list" p2) [.Call (.Name "range" p) [a] [] pos] [] c) (tLR ta):=by
 intro pins s σ H Q I h;refine Call_ (fP I g i rS (PyProof.Rows.callWith_type1 ?_ f rfl));rw[f];show wpAny _ _ (spliced ((false,eval (.Call (.Name "range" p) [a] [] pos) X.env)::backTo c [])) _ _ s;refine Calls.spliced_cons (Call_ (fP I v hm boot_range (PyProof.Rows.callWith_type1 (thn (ha pos pins s σ H _ I h) λus s1 l=>?_) w rfl)));obtain⟨vs,H1,u,x,m⟩:=l;obtain⟨j,e,m,y,q⟩:=m;subst e;cases x with
 |cons r rr =>
  cases rr;obtain⟨t,rfl⟩:=r;refine call_range_1 (Calls.spliced_nil ?_);have e2:Builtin.Range.rangeSize 0 j 1=((j.toNat:Nat):Int):=by rw[rangeSize_one];split <;> omega
  refine call_list_range (n:=j.toNat) (u.ok.hd hc) (IsRange.new ..) (small_one (by omega) (by omega) (by omega) (by omega)) e2 (by omega) λh' tk acc' c' z hl hi=>?_
  exact FP (u.kept λb o e=>J1 _ e) z hl hi m y q
def sA:List PyData->Rs (List PyData)
 |[.int j]=>if 0<=j/\j<=1000000 then .ok (bF 0 j.toNat) else .no
 |_=>.no
def gLR (g:Ds->Rs (List PyData)):Ds->Rs (List PyData):=λδ=>(g δ).bind sA
theorem yz {b:Pos} (hc:X.calm=true) (hm:X.mg "range"=none) (c:X.mg "list"=none) (ha:PAD X E [a] gs) (r:Gl X "range") (f:Gl X "list") (s:starEach [a] X.env=[(false,eval a X.env)])
  (g:starEach [.Call (.Name "range" p) [a] [] pos] X.env=[(false,eval (.Call (.Name "range" p) [a] [] pos) X.env)]):PLD X E (.Call (.Name "list" p2) [.Call (.Name "range" p) [a] [] pos] [] b) (gLR gs) :=
 (rY hc r hm f c ha.1 s g).imp λσ H Q l=>by
  obtain⟨A,δ,R,o⟩:=l;unfold gLR at o;refine aD.run R (λds e vs H1 m R1 h1=>?_) (λC e H' s'=>by rw[e]at o;exact o H' s') (λe=>by rw[e]at o;exact o);simp only[e,Rs.ag]at o;unfold sA at o;split at o
  ·split at o
   ·rename_i j z;obtain⟨v,rfl,h⟩:=jW h1;rw[h.ofInt];refine⟨j,rfl,z.1,z.2,λq n=>o q _ _ (m.free n) (m.trans (bp n)) ay ?_⟩;have:bF 0 j.toNat=((List.range j.toNat).map λ(i:Nat)=>(i:Int)).map PyData.int:=by unfold bF;rw[Kb];congr 1;funext i;simp
    rw[this,show ((List.range j.toNat).map λ(i:Nat)=>V.int (i:Int))=((List.range j.toNat).map λ(i:Nat)=>(i:Int)).map V.int by rw[Kb];rfl];exact nz _
   ·exact o.elim
  ·exact o.elim
end
theorem va (t:Addr) (xs:Array Value):Meets (Builtin.«enumerate.__new__» ⟨[.type "enumerate",.ref t],[]⟩) (λ_ R s=>s.heap.IsTuple t xs /\
   R (.ok (.ret (.ref (s.heap.push { cls:=.type "tuple_iterator",data:=.fields #[.ref t,.int 0 0] }).objs.size)))
    { s with heap:=(s.heap.push { cls:=.type "tuple_iterator",data:=.fields #[.ref t,.int 0 0] }).push { cls:=.type "enumerate",data:=.fields #[.none,.bool false,.ref s.heap.objs.size,rawInt 0,.none,.none] } }) :=
 .of_wp λprog w A R s h=>by
  obtain⟨b,g,d,tk,os⟩:=s;obtain⟨hl,h⟩:=h;have hsub:=sub_enumerate;have a:Heap.IsTuple (Shared.heap ⟨b,g,d,tk,os⟩) t xs:=hl
  wp_walk
  refine wpAny_stack_any λst=>wpAny_pure ?_
  split
  ·rename_i c _ _ _ _ _;cases (c==Value.type "enumerate")
   ·wp_walk using wpAny_pyIter_tuple a
    exact⟨_,rfl,h⟩
   ·wp_walk using wpAny_pyIter_tuple a
    exact⟨_,rfl,h⟩
  ·wp_walk using wpAny_pyIter_tuple a
   exact⟨_,rfl,h⟩
theorem vq {A:Around} {l:Addr} (f:s.heap.IsTuple l items)
  (h:∀h',IsEnum h' (s.heap.objs.size+1) s.heap.objs.size 0 .none->h'.IsTupleIter s.heap.objs.size l 0->(∀b o,s.heap.get? b=some o->h'.get? b=some o)->Q (.ref (s.heap.objs.size+1)) { s with heap:=h' }) :
  wpAny (model prog w) A (call (.type "enumerate") [.ref l]) Q E s:=by
 refine callType_new PySem.F.called_enumerate (by decide) (PySem.F.typeCall_enumerate_1 _) (PySem.F.newCall_enumerate_1 _) (λobj=>PySem.F.args_object_init_2 obj _) PySem.F.entry_enumerate_new (va l items) ⟨f,?_⟩;have a:(s.heap.push { cls:=.type "tuple_iterator",data:=.fields #[.ref l,.int 0 0] }).objs.size=s.heap.objs.size+1:=Heap.size_push ..;show _/\_;rw[a];have c:IsEnum ((s.heap.push { cls:=.type "tuple_iterator",data:=.fields #[.ref l,.int 0 0] }).push
   { cls:=.type "enumerate",data:=.fields #[.none,.bool false,.ref s.heap.objs.size,rawInt 0,.none,.none] }) (s.heap.objs.size+1) s.heap.objs.size 0 .none:=by
  have:=K2 (s.heap.push { cls:=.type "tuple_iterator",data:=.fields #[.ref l,.int 0 0] })
   (o:={ cls:=.type "enumerate",data:=.fields #[.none,.bool false,.ref s.heap.objs.size,rawInt 0,.none,.none] }) rfl
  rw[a]at this;exact this
 refine⟨⟨_,c,rfl⟩,h _ c ⟨_,J1 _ (K2 _ rfl),rfl,rfl⟩ λb o e=>J1 _ (J1 _ e)⟩
def Ite (P:Hp->List V->Prop) (n:Nat):It :=
 ⟨λi H=>i<n/\∃xs,P H xs/\xs.length=n,
  λi H v H'=>∃t x,v=.ref t/\H t=none/\H'=upd H t (.tup [.int i,x])/\∀xs,P H xs->xs[i]?=some x,
  λi H=>i=n/\∃xs,P H xs/\xs.length=n⟩
theorem qt {e:Addr} {r:Hp->List V->Prop} {S:Nat->Heap->Prop} {B:Heap->Array Value->Prop} (f:e≠it) (C:e≠a)
  (M:∀(A:Around),A.handled=none->∀b:Array Value,Draws P w A it [it,a] b.size (λi v=>b[i]?=some v) (λi h=>S i h/\B h b))
  (hB:∀(X:Cx),X.prog=P->X.w=w->X.K=K->∀{pins:List (Addr×Obj)} {s:Shared} {σ:St} {H:Hp} {xs:List V},Inv X pins σ H s->r H xs->∃b:List Value,Vals xs b/\B s.heap b.toArray)
  (R:∀(X:Cx),X.prog=P->X.w=w->X.K=K->∀{pins:List (Addr×Obj)} {s:Shared} {σ:St} {H:Hp} {xs ys:List V},Inv X pins σ H s->r H xs->r H ys->xs=ys)
  (N:∀i h,S i h->∃o,h.get? it=some o/\∀v,o.data≠.cell v) (hK:∀i h h',S i h->(∀o,h.get? it=some o->h'.get? it=some o)->S i h') :
  Turn P w K (.Tuple elts x1 tp) (Ite r n) [e,it] e (λi h=>(∃old,IsEnum h e it i old)/\S i h) where
 mem:=by simp
 obj:=λi h st c hc=>by
  obtain⟨⟨old,h1⟩,h2⟩:=st;simp only[J7,K7,or_false]at hc;rcases hc with rfl|rfl
  ·exact⟨_,h1,λv q=>by cases q⟩
  ·exact N i h h2
 keep:=λi h h' st k=>by obtain⟨⟨old,h1⟩,h2⟩:=st;exact⟨⟨old,k e (by simp) _ h1⟩,hK i h h' h2 λo q=>k it (by simp) o q⟩
 item:=by
  intro X D hw g hc i pins s σ H E I u st F;subst D hw g;obtain⟨hi,xs,y,T⟩:=F;obtain⟨⟨old,h1⟩,h2⟩:=st;obtain⟨b,z,G⟩:=hB X rfl rfl rfl I y;have la:=z.length;refine wpAny_pyNext_enum_itemD (M X.A.in1 (I.ok.hd hc) b.toArray) h1 ⟨h2,G⟩ (by simp;omega) f (by simp[f,C]) λx h' tk U Y Z hT hsz hk=>⟨_,rfl,?_⟩
  refine wpAny_letOwnedTupleGo_enum (s:={ s with heap:=h',toks:=tk+1 }) Y λJ d1 d2=>?_
  have O:e<s.heap.objs.size:=JV h1;have il:it<s.heap.objs.size:=by obtain⟨o,q,_⟩:=N i _ h2;exact JV q
  have L:∀c o,c≠e->h'.get? c=some o->J.get? c=some o:=λc o hc q=>(d2.2 c hc).trans q
  obtain⟨l,ex,rx⟩:∃l,xs[i]?=some l/\RelV l x:=by
   have m:i<xs.length:=by omega
   obtain⟨u',e1,e2⟩:=z.get (J0 m);refine⟨xs[i],J0 m,?_⟩;have p:b[i]?=some x:=by simpa using U
   rw[e1]at p;cases p;exact e2
  have fr:H s.heap.objs.size=none:=I.hok.fresh (JU _);refine⟨.ref s.heap.objs.size,upd H s.heap.objs.size (.tup [.int i,l]),?_,rfl,⟨_,l,rfl,fr,rfl,λys h=>by rw[R X rfl rfl rfl I h y];exact ex⟩,?_,λc j=>?_⟩
  ·refine I.turnLay (t':=tk+1) (ch:=[e,it]) u (JU _) (λc o hn q=>?_) ⟨by show 2<=sizeLine;decide,[.int i tk,x],.cons ⟨tk,rfl⟩ (.cons rx .nil),⟨_,L _ _ (KA O) hT,rfl,rfl,_,rfl⟩⟩;simp only[J7,K7,or_false,not_or]at hn;exact L c o hn.1 (hk c o hn.1 hn.2 q)
  ·exact⟨⟨x,by simpa using d1⟩,hK _ _ _ Z.1 λo q=>L it o f.symm q⟩
  ·have Q:=(u c j).1;simp only[J7,K7,or_false]at j;rcases j with rfl|rfl
   ·rw[au (JX O)];exact Q
   ·rw[au (JX il)];exact Q
 done:=by
  intro X D hw g hc i pins s σ H E I u st F;subst D hw g;obtain⟨hi,xs,y,T⟩:=F;obtain⟨⟨old,h1⟩,h2⟩:=st;obtain⟨b,z,G⟩:=hB X rfl rfl rfl I y;have la:=z.length;have e':b.toArray.size=i:=by simp;omega
  refine wpAny_pyNext_enum_endD (M X.A.in1 (I.ok.hd hc) b.toArray) h1 ⟨by rw[e'];exact h2,G⟩ λh' k=>⟨rfl,?_⟩
  refine I.turneds (t':=s.toks) (ch:=[e,it]) u λc o hn q=>?_
  simp only[J7,K7,or_false,not_or]at hn;exact k c o hn.2 q
 self:=λ_ _ _ _ _ st h=>by obtain⟨⟨old,h1⟩,_⟩:=st;exact wpAny_pyIter_enum h1 h
theorem DJ:bootBuiltins "enumerate"=some (.type "enumerate"):=by decide +kernel
def Ic (K:PySem.W.Frag) (ta:TA):TI:=λσ H R=>ta σ H λvs H1=>∃a xs,vs=[.ref a]/\((SqT K H1 a xs/\R (Ite (λH ys=>SqT K H a ys) xs.length) H1)\/(SqL K H1 a xs/\R (Ite (λH ys=>SqL K H a ys) xs.length) H1))
theorem Du {a:Expr} (G:Gl X "enumerate") (hm:X.mg "enumerate"=none) (ha:PA X [a] ta) (J:starEach [a] X.env=[(false,eval a X.env)]:=by rfl) :
  PI X (.Tuple elts x1 tp) (.Call (.Name "enumerate" p) [a] [] pos) (Ic X.K ta):=by
 intro pins s σ H R I h;refine Call_ (fP I G hm DJ (PyProof.Rows.callWith_type1 (thn (ha pos pins s σ H _ I h) λus f y=>?_) J rfl));obtain⟨vs,H1,l,L,M⟩:=y;obtain⟨j,xs,e,q⟩:=M;subst e;obtain⟨u1,e1,N⟩:=vals1 L;subst e1;cases N;have big:∀c∈[f.heap.objs.size+1,f.heap.objs.size],f.heap.objs.size<=c:=λc hc=>by
  simp only[J7,K7,or_false]at hc;rcases hc with rfl|rfl
  ·exact Lg _
  ·exact JU _
 have m:f.heap.objs.size+1≠f.heap.objs.size:=Nat.succ_ne_self _;rcases q with⟨z,q⟩|⟨z,q⟩
 ·obtain⟨b,n,pt,_⟩:=l.tuple z;have u:f.heap.IsTuple j b.toArray:=pt;have w:j<f.heap.objs.size:=by obtain⟨_,g,_⟩:=u;exact JV g
  refine vq u λh' x hit C=>wpAny_pyIter_enum x ?_
  have D:Inv X pins σ H1 { f with heap:=h' }:=l.kept (t':=f.toks) C;refine⟨_,_,_,_,H1,rfl,D,qt (a:=j) (S:=λi h=>h.IsTupleIter f.heap.objs.size j i) (B:=λh b=>h.IsTuple j b) m (KA (KH w)) (λA E b=>kU E f.heap.objs.size j (JX w) b)
   (λX' _ _ hK {_ _ _ _ _} I h=>?_) (λX' _ _ hK {_ _ _ _ _ _} I h1 h2=>?_) (λi h st=>?_) (λi h F st k=>?_),⟨⟨_,x⟩,hit⟩,λc hc=>l.fpOk (big c hc) (l.hok.fresh (big c hc)),q⟩
  ·rw[<-hK]at h;obtain⟨b,n,p,_⟩:=I.tuple h;exact⟨b,n,p⟩
  ·rw[<-hK]at h1 h2;exact I.tuple_inj h1 h2
  ·obtain⟨o,g,_,d⟩:=st;exact⟨o,g,λv q=>by rw[d]at q;cases q⟩
  ·obtain⟨o,g,r⟩:=st;exact⟨o,k o g,r⟩
 ·obtain⟨b,n,pl,_⟩:=l.list z;have w:j<f.heap.objs.size:=by obtain⟨_,_,g,_⟩:=pl;exact JV g
  refine call_enumerate_list pl.isList λh' x hit hz C=>wpAny_pyIter_enum x ?_
  have D:Inv X pins σ H1 { f with heap:=h' }:=l.kept (t':=f.toks) C;refine⟨_,_,_,_,H1,rfl,D,qt (a:=j) (S:=λi h=>h.IsListIter f.heap.objs.size j i) (B:=λh b=>h.IsList j b) m (KA (KH w)) (λA E b=>Draws.list E f.heap.objs.size j (JX w) b)
   (λX' _ _ hK {_ _ _ _ _} I h=>?_) (λX' _ _ hK {_ _ _ _ _ _} I h1 h2=>?_) (λi h st=>?_) (λi h F st k=>?_),⟨⟨_,x⟩,hit⟩,λc hc=>l.fpOk (big c hc) (l.hok.fresh (big c hc)),q⟩
  ·rw[<-hK]at h;obtain⟨b,n,p,_⟩:=I.list h;exact⟨b,n,p.isList⟩
  ·rw[<-hK]at h1 h2;exact I.list_inj h1 h2
  ·obtain⟨o,g,_,d⟩:=st;exact⟨o,g,λv q=>by rw[d]at q;cases q⟩
  ·obtain⟨o,g,r⟩:=st;exact⟨o,k o g,r⟩
def fm (ds:List PyData):List PyData:=ds.mapIdx λi d=>.tuple [.int i,d]
theorem gH (ds:List PyData):(fm ds).length=ds.length:=by simp[fm]
theorem qd {f:Hp->List V->Prop} (h:Iss K G ds xs) (a:∀H1,ao G H1->f H1 xs):zy K (Ite f xs.length) (fm ds) G:=λH1 B s j hB=>by have hl:=h.length;rw[gH];refine⟨λi hi=>⟨by omega,xs,a H1 s,rfl⟩,⟨hl.symm,xs,a H1 s,rfl⟩,λi x H2 hi y=>?_⟩;obtain⟨t,x0,rfl,c,rfl,l⟩:=y;obtain⟨d,e,hd⟩:=h.get (l xs (a H1 s));refine⟨bp c,.tuple [.int i,d],by unfold fm;rw[Kd,e];rfl,?_⟩;have m:t∉B:=j.new c;exact iA (by rw[aB m];exact ay) (bT bB (ix (hd.same (λb o q=>by have g:=s b o q;have n:b≠t:=aG g c;rw[aB (λz=>by rw[hB b z]at q;cases q),au n];exact g))))
section
variable {E:XK} {a b c k:Expr} {gk:Ds->Rs PyData} {es:List Expr}
def nH:List PyData->Rs (List PyData)
 |[.list ds]=>.ok (fm ds)
 |[.tuple ds]=>.ok (fm ds)
 |_=>.no
def eZ (g:Ds->Rs (List PyData)):Ds->Rs (List PyData):=λδ=>(g δ).bind nH
theorem Bx (hm:X.mg "enumerate"=none) (ha:PAD X E [a] gs) (f:Gl X "enumerate") (g:starEach [a] X.env=[(false,eval a X.env)]) :
  PID X E (.Tuple elts x1 tp) (.Call (.Name "enumerate" p) [a] [] pos) (eZ gs):=(Du f hm ha.1 g).imp λσ H R ⟨A,δ,Rp,o⟩=>vY Rp o λds vs H1 e s1 R1 h1 o=>by
 unfold nH at o;split at o
 ·obtain⟨v,rfl,h⟩:=jW h1;obtain⟨p,xs,rfl,b,c⟩:=h.ofLst;exact⟨p,xs,rfl,.inr ⟨SqL.of (av _ _ b),o _ H1 (ao.refl _) (qd c λH2 s2=>SqL.of (s2 _ _ b))⟩⟩
 ·obtain⟨v,rfl,h⟩:=jW h1;obtain⟨p,xs,rfl,b,c⟩:=h.ofTup;exact⟨p,xs,rfl,.inl ⟨SqT.of (av _ _ b),o _ H1 (ao.refl _) (qd c λH2 s2=>SqT.of (s2 _ _ b))⟩⟩
 ·exact o.elim
def ig (y x:Nat) (gk:Ds->Rs PyData):Ds->Sr:=λδ=>match δ[y]?,δ[x]? with
 |some (some (.list ys)),some (some (.list xs))=>ofR (gk δ) λk=>match k with
  |.int k=>if -(1000000)<=k/\k<=1000000/\ys.length<1000000 then (match ixN xs.length k with
   |some j=>match xs[j]? with
    |some d=>.nx ((δ.set x (some (.list (xs.eraseIdx j)))).set y (some (.list (ys++[d]))))
    |none=>.no
   |none=>.no) else .no
  |_=>.no
 |_,_=>.no
theorem vt {y x:Nat} {a nx:Str} {v M B b h c:Pos} (hk:PD X E k gk) (G:x≠y) (i:y∈O) (l:x∈O) (P:X.N[y]?=some a) (Q:X.N[x]?=some nx)
  (S:Vis X.env.scope a) (T:Vis X.env.scope nx)
  (U:(a==("__debug__":Str))=false) (I:(a==("__classdict__":Str))=false) (W:(nx==("__debug__":Str))=false) (J:(nx==("__classdict__":Str))=false)
  (K:starEach [k] X.env=(false,eval k X.env)::starEach [] X.env) (g:starEach [.Call (.Attribute (.Name nx b) "pop" h) [k] [] c] X.env=(false,eval (.Call (.Attribute (.Name nx b) "pop" h) [k] [] c) X.env)::starEach [] X.env)
  (m:attributeBase (.Name nx b) "pop" X.env (eval (.Name nx b) X.env)=eval (.Name nx b) X.env) (e:attributeBase (.Name a v) "append" X.env (eval (.Name a v) X.env)=eval (.Name a v) X.env)
  (L:((backTo c (starEach [k] X.env)).all (λx=>!x.1)&&(backToKw c (keywordEach [] X.env)).all (λx=>x.1.isSome)&&decide (([k]:List Expr).length+([]:List Keyword).length+(if ([]:List Keyword).isEmpty then 0 else 1)<30))=true)
  (n:((backTo B (starEach [.Call (.Attribute (.Name nx b) "pop" h) [k] [] c] X.env)).all (λx=>!x.1)&&(backToKw B (keywordEach [] X.env)).all (λx=>x.1.isSome)&&decide (([.Call (.Attribute (.Name nx b) "pop" h) [k] [] c]:List Expr).length+([]:List Keyword).length+(if ([]:List Keyword).isEmpty then 0 else 1)<30))=true)
  (q:(h.endLine==c.line)=true) (f:(M.endLine==B.line)=true)
  (hs:swapsWith (.Call (.Attribute (.Name a v) "append" M) [.Call (.Attribute (.Name nx b) "pop" h) [k] [] c] [] B) none pos.line X.env=pure false) :
  PSD X E O (.Expr (.Call (.Attribute (.Name a v) "append" M) [.Call (.Attribute (.Name nx b) "pop" h) [k] [] c] [] B) pos) (ig y x gk) :=
 (m8 (zG PySem.F.plainAttrs_list PySem.F.slot_list_append PySem.F.type_list_append lX (ic P S U I) (dJ (zG PySem.F.plainAttrs_list PySem.F.slot_list_pop PySem.F.type_list_pop zH (ic Q T W J) (dJ hk fU K) m L q K rfl) fU g) e n f g rfl) hs).imp λD σ H Y=>by
  obtain⟨H0,A0,A,δ,R,o⟩:=Y;unfold ig at o;split at o
  ·rename_i ys xs Z qx;obtain⟨p,vy,dy,e1,hp,hl,e2,hx⟩:=R.ownL i Z;cases e2;obtain⟨r,vx,dx,f1,hr,hm,f2,hz⟩:=R.ownL l qx;cases f2;have npr:p≠r:=λz=>G (R.inj x y _ _ p l i qx Z (by rw[z];exact f1) e1)
   refine⟨_,e1,tyL hl,_,f1,tyL hm,?_⟩;refine eD.run R.full (λkd ek u H1 s R1 hu=>?_) (λC et H' s'=>by rw[et]at o;exact o H' (R.same.trans s')) (λet=>by rw[et]at o;exact o);simp only[ek,az]at o;split at o
   ·rename_i kk;split at o
    ·rename_i hb;split at o
     ·rename_i j hj;split at o
      ·rename_i d hd;obtain⟨w,hw,hwd⟩:=hz.getD hd;have hj':=hj;obtain⟨g1,g2,g3,g4⟩:=rJ hj;have RS:=R.step s;have RS2:=RS.put (ds:=xs.eraseIdx j) (ys:=vx.eraseIdx j) l qx f1 hr ((hz.same s.del).eraseIdx j);refine⟨r,vx,kk,j,w,rfl,by rw[hu.ofInt],s _ _ hm,by omega,by omega,by rw[hz.length];exact g1,hw,?_⟩;have dU:del (upd H1 r (.lst (vx.eraseIdx j))) (A++A0)=del H1 (A++A0):=hV (Kl _ hr);refine⟨p,vy,w,rfl,rfl,by rw[au npr];exact s _ _ hl,by rw[hx.length,sizeLine_eq];omega,?_⟩;refine o A _ _ (RS2.put (ds:=ys++[d]) i (by rw[Kg G];exact Z) e1 hp ?_);rw[dU];exact (hx.same s.del).append (ix (hwd.same s.del))
      ·exact o.elim
     ·exact o.elim
    ·exact o.elim
   ·exact o.elim
  ·exact o.elim
end
theorem tZ:isSubtype (.type "tuple") (.type "set")=pure false:=by rw[isSubtype_type];kernel_rfl
theorem uL:isSubtype (.type "tuple") (.type "frozenset")=pure false:=by rw[isSubtype_type];kernel_rfl
section
variable {A:Around}
noncomputable def seen (ns:List Int) (n:Nat):List Int:=firstMet (λi=>ns.getD i 0) n
theorem yt {a:Array Value} (G:A.handled=none) (H:s.heap.IsTuple f a) (hi:IntsAre a.toList ns) (l:a.size+1<scanBound)
  (I:∀(h':Heap) (tk:Nat),h'.SetOf (intKind prog w) s.heap.objs.size (λk=>(seen ns a.size).any (·==k)) (seen ns a.size).length->(∀b o,b<s.heap.objs.size->s.heap.get? b=some o->h'.get? b=some o)->Q (.ref s.heap.objs.size) { s with heap:=h',toks:=tk }) :
  wpAny (model prog w) A (call (.type "set") [.ref f]) Q E s:=by
 obtain⟨c,tl,mro⟩:=PySem.F.called_set.mro;have m1:=PySem.F.called_set.made;have m2:=PySem.F.called_set.sub;refine wpAny_call (codeAny_of_tree ?_);show wpAny _ _ (callAny (.type "set") _) _ _ _;refine wpAny_pure ⟨Code.quiet_builtin _ (by decide +kernel),codeAny_builtin PySem.F.entry_type_call ?_⟩;rw[Around.under_plain (weight_type_call_type "set" [.ref f] []) rfl];have m3:=PySem.F.called_set.notType;have m4:=PySem.F.called_set.canCreate;have m5:=PySem.F.typeCall_set_1 (.ref f)
 repeat (any_goals (first|assumption|wp_step))
 refine codeAny_mono (PySem.code_set_new_1 (.ref f) (E:=E) (Q₁:=λy z=>∃led:Bool,y=.ref s.heap.objs.size/\z={ s with heap:=s.heap.push { cls:=.type "set",dict:=none,data:=.set #[] 0 (.fresh 0 0 led) } }) λled=>⟨led,rfl,rfl⟩) λr z n=>?_
 cases r with
 |error ev=>exact n
 |ok fl =>
  cases fl with
  |ret y =>
   obtain⟨led,rfl,rfl⟩:=n;have B:(s.heap.push { cls:=.type "set",dict:=none,data:=.set #[] 0 (.fresh 0 0 led) }).get? s.heap.objs.size=some { cls:=.type "set",dict:=none,data:=.set #[] 0 (.fresh 0 0 led) }:=K2 _ rfl;have J:Shared.TypeIs { s with heap:=s.heap.push { cls:=.type "set",dict:=none,data:=.set #[] 0 (.fresh 0 0 led) } } (.ref s.heap.objs.size) "set":=⟨_,B,rfl⟩
   have m6:=PySem.F.called_set.init.lookup;have m7:=PySem.F.called_set.init.bind (.ref s.heap.objs.size)
   repeat (any_goals (first|assumption|wp_step))
   refine codeAny_mono (codeAny_call_builtin (R:=wants (λC s2=>C=.none/\∃h' tk,s2={ s with heap:=h',toks:=tk }/\h'.SetOf (intKind prog w) s.heap.objs.size (λk=>(seen ns a.size).any (·==k)) (seen ns a.size).length /\
     (∀b o,b<s.heap.objs.size->s.heap.get? b=some o->h'.get? b=some o)) E) PySem.F.called_set.init.plain PySem.F.entry_set_init (PySem.check_set_init_1 J ?_)) λK s2 g=>?_
   ·obtain⟨⟨oc,od,oda,osl⟩,go,gc,p,D⟩:=H;simp only at gc D;subst gc;subst D;have go':(s.heap.push { cls:=.type "set",dict:=none,data:=.set #[] 0 (.fresh 0 0 led) }).get? f=some { cls:=.type "tuple",dict:=od,data:=.seq a p,slots:=osl }:=J1 _ go;have n1:=tZ;have n2:=uL;have n3:(Value.type "tuple"==Value.type "dict")=false:=by decide
    have L:(s.heap.push { cls:=.type "set",dict:=none,data:=.set #[] 0 (.fresh 0 0 led) }).IsTuple f a:=⟨_,go',rfl,p,rfl⟩
    unfold Builtin.«set.__init__» noKeywords Builtin.Frozenset.updateFrom;generalize zz:pyIter=PI
    wp_walk
    subst zz;refine wpAny_pyIter_tuple L (wpAny_bind (wpAny_runValue ?_));have j:f<s.heap.objs.size:=JV go;have M:A.in1.in1.in1.handled=none:=by simp[G]
    have ne1:f≠(s.heap.push { cls:=.type "set",dict:=none,data:=.set #[] 0 (.fresh 0 0 led) }).objs.size:=by rw[Heap.size_push];exact JX (KH j)
    have q:s.heap.objs.size∉[(s.heap.push { cls:=.type "set",dict:=none,data:=.set #[] 0 (.fresh 0 0 led) }).objs.size,f]:=by rw[Heap.size_push];simp only[J7,JW,K7,or_false,not_or];exact⟨JX (KU _),KA j⟩
    have N:∀(i:Nat) (v:Value),a[i]?=some v->∃t,v=.int ((λi=>ns.getD i 0) i) t:=λi v hv=>IntsAre.int_at hi i v (by rw[LC];exact hv)
    refine codeAny_set_update_loopS ((Walks.tuple M _ f ne1 a).toS) s.heap.objs.size q (λi=>ns.getD i 0) N l (a.size-0) 0 _ (by omega) (Ks _) ⟨⟨_,K2 _ rfl,rfl,rfl⟩,⟨_,J1 _ go',rfl,p,rfl⟩⟩ ?_ ?_
    ·have O:((s.heap.push { cls:=.type "set",dict:=none,data:=.set #[] 0 (.fresh 0 0 led) }).push { cls:=.type "tuple_iterator",data:=.fields #[.ref f,.int 0 0] }).get? s.heap.objs.size=some { cls:=.type "set",dict:=none,data:=.set #[] 0 (.fresh 0 0 led) }:=J1 _ B;exact SetOf_congr ((setObjOf_fresh (knd:=intKind prog w) led).setOf O (by unfold scanBound;omega)) (λ_=>rfl) rfl
    ·intro s' m h;obtain⟨h',g',d',u,x⟩:=s';have e1:g'=s.gens:=m.gens;have e2:d'=s.drawn:=m.drawn;have P:x=s.os:=m.os;subst e1;subst e2;subst P;show wpAny _ _ _ _ _ _;refine wpAny_pure ?_;show wpAny _ _ (ret Value.none) _ _ _;refine wpAny_pure ⟨rfl,h',u,rfl,h,λb o l e=>?_⟩;have S:b≠(s.heap.push { cls:=.type "set",dict:=none,data:=.set #[] 0 (.fresh 0 0 led) }).objs.size:=by rw[Heap.size_push];exact JX (KH l)
     exact m.heap b o (by simp only[J7,JW,K7,or_false,not_or];exact⟨JX l,S⟩) (J1 _ (J1 _ e))
   ·cases K with
    |error ev=>exact g
    |ok fl2 =>
     cases fl2 with
     |ret C =>
      obtain⟨rfl,h',tk,rfl,h,T⟩:=g
      repeat (any_goals (first|assumption|wp_step))
      exact I _ _ h T
     |_=>exact g.elim
  |_=>exact n.elim
end
section
variable {E:XK} {a b c:Expr} {gc:Ds->Rs PyData} {es:List Expr}
theorem Hl:bootBuiltins "set"=some (.type "set"):=by decide +kernel
def tLS (K:PySem.W.Frag) (ta:TA):TE:=λσ H Q=>ta σ H λvs H1=>∃(p:Addr) (ns:List Int),vs=[.ref p]/\SqT K H1 p (ns.map V.int)/\ns.length<=1000/\Q (.int (seen ns ns.length).length) H1
theorem xT {c:Pos} (hc:X.calm=true) (y:Gl X "set") (hm:X.mg "set"=none) (i:Gl X "len") (j:X.mg "len"=none) (ha:PA X [a] ta) (z:starEach [a] X.env=[(false,eval a X.env)]:=by rfl)
  (f:starEach [.Call (.Name "set" p) [a] [] pos] X.env=(false,eval (.Call (.Name "set" p) [a] [] pos) X.env)::starEach [] X.env:=by rfl) (l:(backTo c (starEach [] X.env)).any (·.1)=false:=by rfl) :
  PE X (.Call (.Name "len" p2) [.Call (.Name "set" p) [a] [] pos] [] c) (tLS X.K ta):=by
 intro pins s σ H Q I h;refine wpAny_Call_Name_kw (fP I i j PySem.boot_len ?_);refine PyProof.Rows.callWith_builtin1 ?_ f l;rw[f];show wpAny _ _ (spliced ((false,eval (.Call (.Name "set" p) [a] [] pos) X.env)::backTo c [])) _ _ s;refine Calls.spliced_cons (Call_ (fP I y hm Hl (PyProof.Rows.callWith_type1 (thn (ha pos pins s σ H _ I h) λus v m=>?_) z rfl)));obtain⟨vs,H1,n,A,B⟩:=m;obtain⟨q,ns,e,C,hz,fin⟩:=B;subst e;obtain⟨u,rfl,D⟩:=vals1 A;cases D;obtain⟨g,w,pt,_⟩:=n.tuple C;have hl:=w.length;rw[J6]at hl;refine yt (n.ok.hd hc) (show v.heap.IsTuple q g.toArray from pt) (intsAre_of w) (by rw[K3];unfold scanBound;omega) λh' tk x E=>Calls.spliced_nil ?_
 have F:Inv X pins σ H1 { v with heap:=h',toks:=tk }:=n.kept λb o e=>E b o (JV e) e
 have r:g.toArray.size=ns.length:=by rw[K3];exact hl.symm
 rw[r]at x;obtain⟨o,es',ep,t,G,ex,hd,_,_,J,L,hsz⟩:=x;refine PySem.call_len_set G ex hd L (by unfold scanBound at J;omega) ⟨.int (seen ns ns.length).length,H1,F.tok _,⟨_,by rw[hsz]⟩,fin⟩
def ko:List PyData->Option PyData
 |[.tuple x]=>(gU x).bind λns=>if ns.length<=1000 then some (.int (seen ns ns.length).length) else none
 |_=>none
theorem zt {b:Pos} (hc:X.calm=true) (hm:X.mg "set"=none) (c:X.mg "len"=none) (ha:PAD X E [a] gs) (l:Gl X "set") (f:Gl X "len") (m:starEach [a] X.env=[(false,eval a X.env)])
  (g:starEach [.Call (.Name "set" p) [a] [] pos] X.env=(false,eval (.Call (.Name "set" p) [a] [] pos) X.env)::starEach [] X.env) (h:(backTo b (starEach [] X.env)).any (·.1)=false) :
  PD X E (.Call (.Name "len" p2) [.Call (.Name "set" p) [a] [] pos] [] b) (gF ko gs):=(xT hc l hm f c ha.1 m g h).imp λσ H Q ⟨A,δ,R,o⟩=>tR R o λds vs H1 e s1 R1 h1 o=>by
 unfold ko at o;split at o
 ·rename_i x;cases q:gU x with
  |none=>rw[q]at o;exact o.elim
  |some ns =>
   rw[q]at o;obtain⟨v,rfl,n⟩:=jW h1;obtain⟨p,xs,rfl,i,j⟩:=n.ofTup;rw[eP q]at j;rw[j.ofInts]at i;by_cases z:ns.length<=1000
   ·simp only[Ky,if_pos z]at o;exact⟨p,ns,rfl,SqT.of (av _ _ i),z,o _ H1 (ao.refl _) bB⟩
   ·simp only[Ky,if_neg z]at o;exact o.elim
 ·exact o.elim
end
open AutoSeq1 (wpAny_loadPart')
open SeqAt (EqAt)
theorem ud {prog:Program} {w:World} {A:Around} {E:Value->Shared->Prop} {s:Shared} {a:Array Value} {x:Value} {e:Value->Bool} {j:Nat} {Q:Option PySem.Fin×Unit->Shared->Prop} (f:j<a.size) (hit:e a[j]=true) (c:∀m (hm:m<a.size),m<j->e a[m]=false)
  (g:∀y,y∈a->EqAt A s y x (e y)) (h:Q (some (.done (.ret (.int j s.toks))),()) { s with toks:=s.toks+1 }):∀(k i m:Nat),i+k=j->j<i+m ->
  wpAny (model prog w) A (forIn (List.range' i m) ((none:Option PySem.Fin),()) λ(i:Nat) _=>match a[i]? with
   |some y=>do
    let b <-eqBool y x
    if b=true then do
      let r <-retInt (i:Int)
      pure (ForInStep.done (some r,()))
     else pure (ForInStep.yield (none,()))
   |_=>pure (ForInStep.yield (none,()))) Q E s
 |0,i,0,h1,h2=>by omega
 |0,i,m+1,h1,h2=>by
  have:i=j:=by omega
  subst this;rw[LP,Lm];have q:a[i]?=some a[i]:=by simp[f]
  simp only[q];refine wpAny_bind (wpAny_bind (g _ (Array.getElem_mem f) prog w _ _ ?_));rw[hit,if_pos rfl];unfold retInt;exact wpAny_bind (wpAny_bind (wpAny_mkInt (wpAny_pure (wpAny_pure (wpAny_pure h)))))
 |k+1,i,0,h1,h2=>by omega
 |k+1,i,m+1,h1,h2=>by
  have hi:i<a.size:=by omega
  rw[LP,Lm];have q:a[i]?=some a[i]:=by simp[hi]
  simp only[q];refine wpAny_bind (wpAny_bind (g _ (Array.getElem_mem hi) prog w _ _ ?_));rw[c i hi (by omega),if_neg Kf];exact wpAny_pure (ud f hit c g h k (i+1) m (by omega) (by omega))
theorem yk (c:Addr) (a:Array Value) (n:Nat) (dd:Option Addr) (f:Array (Option Value)) (x:Value) (e:Value->Bool) (j:Nat) (h:j<a.size) (hit:e a[j]=true) (b:∀m (hm:m<a.size),m<j->e a[m]=false) :
  Meets (Builtin.«tuple.index» ⟨[.ref c,x],[]⟩)
   (λA R s=>s.heap.get? c=some { cls:=.type "tuple",dict:=dd,data:=.seq a n,slots:=f }/\(∀y,y∈a->EqAt A.in1 s y x (e y))/\R (.ok (.ret (.int j s.toks))) { s with toks:=s.toks+1 }):=by
 intro prog w A R s i;obtain⟨hp,g,d,tk,os⟩:=s;obtain⟨hl,l,o⟩:=i;unfold Builtin.«tuple.index»;simp only[Std.Legacy.Range.forIn_eq_forIn_range',Std.Legacy.Range.size];generalize hF:(@forIn Sem (List Nat))=F
 wp_walk using wpAny_loadPart' hl
 subst hF;refine ud h hit b l ?_ j 0 _ (by omega) (by simp;omega);exact wpAny_pure o
section
variable {E:XK} {a o:Expr} {go:Ds->Rs PyData} {es:List Expr}
def G1:V->List V->Hp->VK->Prop:=λx vs H Q=>∃l xs y j,x=.ref l/\vs=[y]/\H l=some (.tup xs)/\iJ y=true/\xs.all iJ=true/\(xs.findIdx? λz=>eqV z y)=some j/\Q (.int j) H
def tIx (to:TE) (t:TA):TE:=λσ H Q=>to σ H λx H1=>(∃l xs,x=.ref l/\H1 l=some (.tup xs))/\t σ H1 λvs H2=>G1 x vs H2 Q
theorem zE {to:TE} {t:TA} {apos:Pos} (U:PE X o to) (ha:PA X [e] t) (c:attributeBase o "index" X.env (eval o X.env)=eval o X.env:=by rfl)
  (r:((backTo cpos (starEach [e] X.env)).all (λx=>!x.1)&&(backToKw cpos (keywordEach [] X.env)).all (λx=>x.1.isSome)&&decide (([e]:List Expr).length+([]:List Keyword).length+(if ([]:List Keyword).isEmpty then 0 else 1)<30))=true:=by rfl)
  (f:(apos.endLine==cpos.line)=true:=by rfl) (W:starEach [e] X.env=(false,eval e X.env)::starEach [] X.env:=by rfl) (b:(backTo cpos (starEach [] X.env)).any (·.1)=false:=by rfl) :
  PE X (.Call (.Attribute o "index" apos) [e] [] cpos) (tIx to t):=by
 intro pins s σ H Q I h;refine wpAny_Call_method_late c r f rfl (thn (U pins s σ H _ I h) λv Y g=>?_);obtain⟨x,H1,O,Z,⟨l,xs,hx,hl⟩,q1⟩:=g;subst hx;cases Z;obtain⟨P,its,rv,R,ge,gc,gd,n,gq⟩:=O.hok l _ hl;refine⟨"tuple", "tuple.index",PySem.F.plainAttrs_tuple,PySem.F.slot_tuple_index,PySem.F.type_tuple_index,⟨R,ge,gc⟩,λa ea=>by cases ea;exact⟨R,ge,gd⟩,?_⟩;have S:=ha cpos pins Y σ H1 _ O q1;rw[W]at S ⊢;refine Calls.callWith_builtin (by show (false||(backTo cpos (starEach [] X.env)).any (·.1))=false;rw[b];rfl) (Calls.evalArgs_plain ?_);refine thn S λus s2 g=>?_
 obtain⟨vs,H2,T,r2,q2⟩:=g;obtain⟨l',i,y,j,e1,e2,D,fy,fs,hj,q⟩:=q2;cases e1;subst e2;obtain⟨hz',its',p,E,w,A,B,n',C⟩:=T.hok l _ D;obtain⟨u,rfl,ru⟩:=vals1 r2;obtain⟨oc,od,oda,osl⟩:=E;simp only at A B C;subst A B C;have hlen:=p.length;obtain⟨G,J,K⟩:=List.findIdx?_eq_some_iff_getElem.mp hj;have at':∀(m:Nat) (hm:m<i.length),eqU y (its'[m]'(by omega))=eqV i[m] y:=λm hm=>by
  obtain⟨w',hw,L⟩:=p.get (J0 hm);have:its'[m]'(by omega)=w':=by have h2:=J0 (show m<its'.length by omega);rw[h2]at hw;exact Option.some.inj hw
  rw[this];exact vE L (K9.mp fs _ (Kr hm))
 refine call_meets PySem.F.slot_tuple_index ⟨_,w,rfl⟩ PySem.F.entry_tuple_index (PySem.F.args_tuple_index_2 _ _) (yk l its'.toArray n' none osl u (eqU y) j (by simp;omega) (by simpa[at' j G] using J) (λm hm M=>?_)) ⟨w,λz P=>kK ru fy p fs z (by simpa using P),⟨.int j,H2,T.tok _,⟨_,rfl⟩,q⟩⟩;have N:m<i.length:=by simp at hm;omega
 have:=K m M;simpa[at' m N] using this
def ll (xs:List PyData) (y:PyData):Option PyData:=if fk y&&xs.all fk then ((xs.map toV).findIdx? λz=>eqV z (toV y)).map λj=>.int j else none
def vW (go ga:Ds->Rs PyData):Ds->Rs PyData:=λδ=>(go δ).bind λd=>match d with
 |.tuple xs=>(ga δ).bind λy=>Rs.dz (ll xs y)
 |_=>.no
theorem Bo {apos:Pos} (r:PD X E o go) (ha:PD X E e ga) (c:attributeBase o "index" X.env (eval o X.env)=eval o X.env)
  (h:((backTo cpos (starEach [e] X.env)).all (λx=>!x.1)&&(backToKw cpos (keywordEach [] X.env)).all (λx=>x.1.isSome)&&decide (([e]:List Expr).length+([]:List Keyword).length+(if ([]:List Keyword).isEmpty then 0 else 1)<30))=true)
  (f:(apos.endLine==cpos.line)=true) (l:starEach [e] X.env=(false,eval e X.env)::starEach [] X.env) (b:(backTo cpos (starEach [] X.env)).any (·.1)=false) :
  PD X E (.Call (.Attribute o "index" apos) [e] [] cpos) (vW go ga):=(zE r (dJ ha fU l) c h f l b).imp λσ H Q i=>by
 obtain⟨A,δ,R,a⟩:=i;unfold vW at a;refine eD.run R (λd1 e1 v H1 m s h1=>?_) (λC g H' s'=>by rw[g]at a;exact a H' s') (λg=>by rw[g]at a;exact a);simp only[e1,Rs.ag]at a;cases d1 with
 |tuple xs =>
  obtain⟨p,vs,rfl,n,w⟩:=h1.ofTup;refine⟨⟨p,vs,rfl,av _ _ n⟩,?_⟩;have a:f7 X.K E A H ((ga δ).bind λy=>Rs.dz (ll xs y)) Q:=a;refine eD.run s (λd2 e2 u H2 s2 R2 h2=>?_) (λC g H' s'=>by rw[g]at a;exact a H' (m.trans s')) (λg=>by rw[g]at a;exact a);simp only[e2,Rs.ag]at a;unfold ll at a;split at a
  ·rename_i z;rw[JZ]at z;obtain⟨f1,f2⟩:=h2.flat z.1;obtain⟨B,D⟩:=w.flat z.2;cases q:((xs.map toV).findIdx? λz=>eqV z (toV d2)) with
   |none=>rw[q]at a;exact a.elim
   |some j =>rw[q]at a;exact⟨p,vs,u,j,rfl,rfl,s2 _ _ (av _ _ n),f2,D,by rw[f1,B];exact q,a _ H2 (m.trans s2) bB⟩
  ·exact a.elim
 |_=>exact a.elim
end
end L2
namespace L2
open PySem PySem.Spec PyProof.Rows
section
variable {E:XK} {a:Expr} {es:List Expr}
theorem Dy:bootBuiltins "min"=some (.builtin "min"):=by decide +kernel
end
section
variable {E:XK}
end
section
variable {E:XK} {a b c:Expr} {gc:Ds->Rs PyData}
end
section
variable {E:XK} {a:Expr} {es:List Expr}
end
section
variable {E:XK} {a:Expr}
end
end L2
namespace PyProof.Rows
open PySem
section
variable {A:Around}
end
end PyProof.Rows
namespace L2
open PySem PySem.Spec PyProof.Rows
section
variable {E:XK} {a:Expr} {es:List Expr}
end
end L2
namespace L2
open PySem PySem.Spec PySem.Calls PyProof.Rows PySem.W PySem.Builtin PySem.Builtin.ObjectAttr PySem.Builtin.Getset_descriptor
section
variable {A:Around} {K:Frag} {x:Addr} {ox:Obj}
structure E4 (h:Heap) (x:Addr) (D:Addr):Prop where
 ex:∃o,h.get? x=some o/\o.cls=.ref D
theorem E4.type {M:Model} (I:E4 h x D):Looks M h (typeOf (.ref x)) (.ref D):=by obtain⟨o,h1,h2⟩:=I.ex;exact h2▸(Looks.ld h1).andThen .now
end
end L2
namespace L2
open PySem PySem.Spec PyProof.Rows
section
variable {E:XK} {ea:Addr} {oe:Obj}
end
section
variable {E:XK} {ea:Addr} {oe:Obj}
end
section
variable {E:XK} {a b:Expr} {es:List Expr}
def i5 (f:Str):List (PyData×PyData)->Option PyData
 |[]=>none
 |(k,d)::r=>match k with
  |.str g=>if g=f then some d else i5 f r
  |_=>none
def br (C:Addr) (f:Str):PyData->Option PyData
 |.dict (k::r)=>match k with
  |(.str z,.int c)=>if z=""/\c=(C:Int) then i5 f r else none
  |_=>none
 |_=>none
theorem Isk.i5 {K:PySem.W.Frag} {H:Hp}:∀{r:List (PyData×PyData)} {fs:List (Str×V)} {f:Str} {d:PyData},Isk K H r fs->L2.i5 f r=some d->∃v,fs.lookup f=some v/\Is K H d v
 |[],_,f,d,_,l=>by simp[L2.i5]at l
 |(k,x)::r,fs,f,d,h,l=>by
  unfold Isk at h;obtain⟨g,v,fs',rfl,rfl,h1,h2⟩:=h;simp only[L2.i5]at l;rw[Kj];by_cases z:g=f
  ·subst z;rw[if_pos rfl]at l;cases l;exact⟨v,by simp,h1⟩
  ·rw[if_neg z]at l;have:(f==g)=false:=by simpa using λq=>z q.symm
   rw[this];exact Isk.i5 h2 l
theorem Cw {f:Str} {d x:PyData} (w:f≠"@") (e:br C f d=some x) (h:Is K H d v):∃a dx fs u,v=.ref a/\H a=some (.ins C dx fs)/\fs.lookup f=some u/\Is K H x u:=by
 unfold br at e;split at e
 ·rename_i k r;split at e
  ·rename_i z c;split at e
   ·rename_i q;obtain⟨rfl,rfl⟩:=q;unfold Is at h;rcases h with (⟨a,ns,_,b,_⟩|⟨a,l,_,b,_⟩)|⟨a,p,dx,fs,s,h1,hn,h2|h2⟩
    ·injection b with b _;cases b
    ·rcases b with⟨m,b,_⟩|⟨m,b,_⟩ <;> first|(cases b;done)|(cases m <;> cases b)
    ·unfold Isk at h2;obtain⟨g,u,fs',e1,e2,j,n⟩:=h2;cases e1;have i:=j.ofInt;injection i with i
     obtain rfl:p=C:=Int.ofNat.inj i;obtain⟨u,l,o⟩:=n.i5 e;exact⟨a,dx,fs,u,s,h1,l,o⟩
    ·unfold Isk at h2;obtain⟨g,u,fs',e1,e2,j,n⟩:=h2;cases e1;have i:=j.ofInt;injection i with i
     obtain rfl:p=C:=Int.ofNat.inj i;obtain⟨u,l,o⟩:=n.i5 e;rw[Kj,show (f==("@":Str))=false by simpa using w]at l;exact⟨a,dx,fs,u,s,h1,l,o⟩
   ·cases e
  ·cases e
 ·cases e
theorem GU {f:Str} (cl:Cls X.K C) (n:eO X.K C f) (ha:PD X E a ga) (b:attributeBase a f X.env (eval a X.env)=eval a X.env) (c:f≠"@"):PD X E (.Attribute a f pos) (g1 (br C f) ga) :=
 (Fj ha b).imp λσ H Q ⟨A,δ,R,o⟩=>g1.read (tt:=λQ x H1=>∃a C dx fs v,x=.ref a/\H1 a=some (.ins C dx fs)/\Cls X.K C/\eO X.K C f/\fs.lookup f=some v/\Q v H1) R o λd1 d x H' e _ _ h k=>by obtain⟨p,dx,fs,u,rfl,g,l,i⟩:=Cw c e h;exact⟨p,C,dx,fs,u,rfl,av _ _ g,cl,n,l,k _ H' (ao.refl _) i⟩
def FY (C:Addr) (names:List Str):Sp:=λvs H Q _=>∃(x dx:Addr) (args:List V),vs=.ref x::args/\args.length=names.length/\H x=some (.ins C dx []) /\
 ∀H':Hp,(∀b,b≠x->H' b=H b)->H' x=some (.ins C dx (names.zip args))->Q .non H'
structure Bj (P:Program) (w:World) (K:PySem.W.Frag) (mg:Str->Option Value) (base:Heap) (k:Nat) (x:Str) (C:Addr) (names:List Str):Prop where
 ex:∃f fd ps,Mk K C f/\fD P w K mg base (CXW P w) k f fd ps (FY C names)/\Binds K fd ps []/\mg x=some (.ref C)
theorem xc {K:PySem.W.Frag} {H:Hp}:∀{names:List Str} {ds:List PyData} {vs:List V},Iss K H ds vs->Isk K H ((names.zip ds).map λp=>(.str p.1,p.2)) (names.zip vs)
 |[],_,_,_=>by simpa using mY
 |_::_,[],_,h=>by rw[h.nil_of];simpa using mY
 |n::ns,d::ds,_,h=>by obtain⟨v,r,rfl,h1,h2⟩:=h.cons_of;simp only[Lo,J5];exact dB h1 (xc h2)
theorem BX {f:Str}:∀{names:List Str} {vs:List V},f∉names->(names.zip vs).lookup f=none
 |[],_,_=>rfl
 |_::_,[],_=>rfl
 |n::ns,v::vs,h=>by rw[Lo,Kj,show (f==n)=false by simpa using λq=>h (by rw[q];exact J9)];exact BX λq=>h (J8 _ q)
end
section
variable {A:Around} {R:Result->Shared->Prop} {I:Addr} {wr:List Addr} {T:Nat->Value->Prop} {St:Nat->Heap->Prop} {dv:Value}
variable {l:Addr} {xs:Array (Int×Tok)}
end
section
variable {E:XK} {a b:Expr} {es:List Expr}
theorem eD.weak {g:Ds->Rs PyData} {Q a:VK} (h:eD K E g σ H Q) (k:∀v H',Q v H'->a v H'):eD K E g σ H a:=by
 obtain⟨A,δ,R,o⟩:=h;refine⟨A,δ,R,?_⟩;cases q:g δ with
 |ok d=>rw[q]at o;exact λv H' b h1=>k v H' (o v H' b h1)
 |rz C=>rw[q]at o;exact o
 |no=>rw[q]at o;exact o
end
variable {G:List Addr->Ds->Sr} {xs:List (List Key×Addr×Value)}
theorem Df {b:Array (Option Value)} {kV e:Value}
  (g:∀(kV doc pm:Value) (an:Option Addr) (cdv ct:Value) (us:List Value),us.length=ps.length->bindArgs (PySem.W.fnOf "__init__" qual (eu st) (bK st) (ax st) .none kV doc pm an cdv ct) ⟨us,[]⟩=pure (ps.zip us))
  (a:PySem.W.findIn K (.ref C) "__init__"=some (some (.ref f))) (i:PySem.W.isFn K (.ref f)=true)
  (l:K.lookup f=some ⟨oc,od,.func (PySem.W.fnOf "__init__" qual (eu st) (bK st) (ax st) .none kV e pm an cd ct),b⟩)
  (c:PySem.W.codeIn K cd qual=true) (k:PySem.W.keepIn K (.ref f)=true) (mk:PySem.W.makesIn K C=true) (h:PySem.W.keepIn K (.ref C)=true):∃f fd,Mk K C f/\Fun K "__init__" qual st f fd/\Binds K fd ps [] :=
 have F:=vn (st:=st) l c k
 ⟨f,_,⟨mk,a,i,h⟩,F,F.binds g⟩
theorem j8.more {q l:Addr} {xs:List V} {Φ:Hp->Prop} {lt:Nat->Nat->Bool} (K:j8 X σ [] q l xs Φ κ lt):j8 X σ pins q l xs Φ κ lt :=
 ⟨K.lst,λi x a pins' H s u _=>K.turn i x a pins' H s u (λ_ h=>nomatch h),K.cmp⟩
def CP (X:Cx) (ta tb:TE):TE:=λσ H Q=>ta σ H λx H1=>tb σ H1 λy H2=>∃(l q:Addr) (xs:List V) (Φ:Hp->Prop) (κ:Nat->V->Hp->Prop) (lt:Nat->Nat->Bool),x=.ref l/\y=.ref q/\0<xs.length/\Φ H2/\j8 X σ [] q l xs Φ κ lt /\
 ∀a v,Φ a->xs[bst lt (xs.length-1)]?=some v->Q v a
section
variable {a b:Expr} {ta tb:TE}
theorem xR (hc:X.calm=true) (hm:X.mg "min"=none) (ha:PE X a ta) (j:PE X b tb) (m:Gl X "min":=by rfl) (f:starEach [a] X.env=[(false,eval a X.env)]:=by rfl) (wk:∀{σ H} {Q c:VK},ta σ H Q->(∀x H,Q x H->c x H)->ta σ H c) (g:∀{σ H} {Q c:VK},tb σ H Q->(∀x H,Q x H->c x H)->tb σ H c) :
  PE X (.Call (.Name "min" p) [a] [⟨some "key",b,kp⟩] pos) (CP X ta tb):=by
 intro pins s σ H Q I h;refine wpAny_Call_Name_kw (fP I m hm Dy ?_ (by decide) (by decide));refine callWith_kw ?_ (by rw[f];rfl) (by rw[f];rfl) rfl rfl;refine thn ((dJ ha fU f) pos pins s σ H (λvs H1=>∃x,vs=[x]/\tb σ H1 λy H2=>∃(l q:Addr) (xs:List V) (Φ:Hp->Prop) (κ:Nat->V->Hp->Prop) (lt:Nat->Nat->Bool),x=.ref l/\y=.ref q/\0<xs.length/\Φ H2/\j8 X σ [] q l xs Φ κ lt /\
   ∀e v,Φ e->xs[bst lt (xs.length-1)]?=some v->Q v e) I
  (wk h λx H1 q=>⟨x,rfl,q⟩)) λus s1 ⟨vs,H1,I1,r1,x,q0,q1⟩=>?_
 subst q0;obtain⟨u,rfl,i⟩:=vals1 r1;refine thn ((DZ j F6) pos pins s1 σ H1 (λvs H2=>∃y,vs=[y]/\∃(l q:Addr) (xs:List V) (Φ:Hp->Prop) (κ:Nat->V->Hp->Prop) (lt:Nat->Nat->Bool),x=.ref l/\y=.ref q/\0<xs.length/\Φ H2/\j8 X σ [] q l xs Φ κ lt /\
   ∀e v,Φ e->xs[bst lt (xs.length-1)]?=some v->Q v e) I1
  (g q1 λy H2 q=>⟨y,rfl,q⟩)) λws s2 ⟨zs,H2,I2,r2,y,q2,l,q,xs,Φ,κ,lt,ex,ey,hn,hΦ,KK,hQ⟩=>?_
 subst q2;obtain⟨v,rfl,n⟩:=vals1 r2;subst ex ey;obtain rfl:u=Value.ref l:=i;obtain rfl:v=Value.ref q:=n;exact GN KK.more (I2.ok.hd hc) I2 hΦ hn λH' s' x u o i J r=>⟨x,H',J,i,hQ H' x r o⟩
theorem yP {q l c':Addr} {xs:List V} {Φ:Hp->Prop} {lt:Nat->Nat->Bool} {k:Nat} {p:Str} {n:Value} {t:TE}
  (S:km N [p] scope) (T:bU (k+2) X.A) (f:∀x c,cl.lookup x=some c->X.env.cells.lookup x=some c) (has:∀x,scope.names.lookup x=some .free->∃c,cl.lookup x=some c) (U:N.length=1+cap.length)
  (B:∀(i m:Nat) (x:Str),N[1+i]?=some x->cap[i]?=some m->X.N[m]?=some x/\scope.names.lookup x=some .free/\(X.env.kindOf x=some .cell\/X.env.kindOf x=some .free)/\Vis X.env.scope x)
  (Y:∀u,bindArgs (PySem.W.kla_fn "<lambda>" qual params body scope cl pm (.ref c') n) ⟨[u],[]⟩=pure ([p].zip [u]))
  (D:∀H,Φ H->H l=some (.lst xs)) (L:∀H,Φ H->H q=some (.frz (PySem.W.kla_obj "<lambda>" qual params body scope cl pm c' n) (.own q))/\∃o vs t,H c'=some (.frz o (.own c'))/\o.data=.fields vs/\vs[1]?=some (.str qual t))
  (g:∀(s:Shared) (H:Hp),PE (qK (CXW X.prog X.w) X.prog X.w X.K X.mg X.base N qual scope q (.ref c') cl X.A.in1 X.stack s H E0) body t)
  (turn:∀(i:Nat) (x:V) (H:Hp),xs[i]?=some x->Φ H->t (some x::cap.map λm=>(σ[m]?).join) H λv H'=>Φ H'/\κ i v H'/\∀j O,κ j O H->κ j O H')
  (cmp:∀(i j:Nat) (x y:V) (pins':List (Addr×Obj)) (H:Hp) (s:Shared) (u v:Value),Inv X.in1 pins' σ H s->Φ H->κ i x H->κ j y H->RelV x u->RelV y v ->
   wpAny (model X.prog X.w) X.A.in1 (richCompare .Lt u v) (λr s'=>r=.bool (lt i j)/\Inv X.in1 pins' σ H s') (λ_ _=>False) s):j8 X σ [] q l xs Φ κ lt:=by
 refine⟨D,λi x Z pins' H s u _ I F ru=>?_,cmp⟩;obtain⟨h,oc,vs,tt,h1,h2,h3⟩:=L H F;have C:FX s H cl scope N [p].length (cap.map λm=>(σ[m]?).join):=by
  refine⟨λa b c e1 e2=>I.ok.inj a b c (f a c e1) (f b c e2),has,λa c e=>I.cell a c (f a c e),λa c e=>I.freeC a c (f a c e),by rw[J6];exact U,λj y v e1 e2=>?_⟩;rw[JY]at e2;cases hm:cap[j]? with
  |none=>rw[hm]at e2;cases e2
  |some m =>
   rw[hm]at e2;have G:(σ[m]?).join=some v:=by simpa using e2
   obtain⟨hX,P,J,hv⟩:=B j m y e1 hm;have e4:σ[m]?=some (some v):=by
    cases z:σ[m]? with
    |none=>rw[z]at G;cases G
    |some w=>rw[z]at G;cases w with
     |none=>cases G
     |some w=>cases G;rfl
   obtain⟨mm,hn,hl⟩:=I.loc;obtain⟨u,rv,lk⟩:=hl m y v hX e4 hv;rcases lk with⟨z,_⟩|⟨_,c,M,e6⟩
   ·have z:X.env.kindOf y=some .local:=z;rcases J with J|J <;> (rw[z]at J;cases J)
   ·obtain⟨c2,Q⟩:=has y P;have R:=f y c2 Q;have M:X.env.cells.lookup y=some c:=M;rw[M]at R;cases R;exact⟨u,c,rv,P,Q,e6⟩
 refine wpAny_call (codeAny_mono (Dh (CX:=CXW X.prog X.w) (E:=E0) S T.in1 I.env0 rfl (.cons ru .nil) C (I.hok q _ h).1 ⟨c',oc,vs,tt,rfl,(I.hok c' _ h1).1,h2,h3⟩ (Y u) (g s H) (turn i x H Z F)) λr s' h=>?_);cases r with
 |error e=>obtain⟨_,_,_,_,_,_,z,_⟩:=h;exact z.elim
 |ok fl =>
  cases fl with
  |ret u=>exact I.after h
  |next=>exact False.elim h
  |brk=>exact False.elim h
  |cont=>exact False.elim h
end
section
variable {E:XK} {a b:Expr}
end
section
variable {E:XK}
end
structure gR (P:Program) (w:World) (K:PySem.W.Frag) (mg:Str->Option Value) (base:Heap) (k:Nat) (C:Addr) (m:Str) (n:Nat) (gf:List PyData->Rs PyData):Prop where
 ex:∃f fd ps,Cls K C/\Meth K C m f/\fD P w K mg base (CXW P w) k f fd ps (spD K n gf)/\Binds K fd ps []
def iM (m:Str):List (PyData×PyData)->Bool
 |[]=>true
 |(k,_)::r=>match k with
  |.str g=>decide (g≠m)&&iM m r
  |_=>false
def isC (C:Addr) (m:Str):PyData->Bool
 |.dict (k::r)=>match k with
  |(.str z,.int c)=>decide (z="")&&decide (c=(C:Int))&&iM m r
  |_=>false
 |_=>false
theorem Isk.iM {K:PySem.W.Frag} {H:Hp} {m:Str}:∀{r:List (PyData×PyData)} {fs:List (Str×V)},Isk K H r fs->L2.iM m r=true->fs.lookup m=none
 |[],_,h,_=>by unfold Isk at h;rw[h];rfl
 |(k,d)::r,fs,h,n=>by unfold Isk at h;obtain⟨f,v,fs',rfl,rfl,h1,h2⟩:=h;simp only[L2.iM,JZ,decide_eq_true_eq]at n;rw[Kj,show (m==f)=false by simpa using λq=>n.1 q.symm];exact Isk.iM h2 n.2
theorem FF {d:PyData} (e:isC C m d=true) (h:Is K H d v):∃a dx fs,v=.ref a/\H a=some (.ins C dx fs)/\fs.lookup m=none:=by
 unfold isC at e;split at e
 ·rename_i k r;split at e
  ·rename_i z c;simp only[JZ,decide_eq_true_eq]at e;obtain⟨⟨rfl,rfl⟩,n⟩:=e;unfold Is at h;rcases h with (⟨a,ns,_,b,_⟩|⟨a,l,_,b,_⟩)|⟨a,o,dx,fs,p,h1,hn,h2|h2⟩
   ·injection b with b _;cases b
   ·rcases b with⟨m,b,_⟩|⟨m,b,_⟩ <;> first|(cases b;done)|(cases m <;> cases b)
   ·unfold Isk at h2;obtain⟨g,u,fs',e1,e2,i,j⟩:=h2;cases e1;have f:=i.ofInt;injection f with f
    obtain rfl:o=C:=Int.ofNat.inj f;exact⟨a,dx,fs,p,h1,j.iM n⟩
   ·unfold Isk at h2;obtain⟨g,u,fs',e1,e2,i,j⟩:=h2;cases e1;have f:=i.ofInt;injection f with f
    obtain rfl:o=C:=Int.ofNat.inj f;have l:=j.iM n;rw[Kj]at l;cases q:(m==("@":Str)) with
    |true=>rw[q]at l;cases l
    |false=>rw[q]at l;exact⟨a,dx,fs,p,h1,l⟩
  ·cases e
 ·cases e
def ba (C:Addr) (m:Str) (gf:List PyData->Rs PyData) (ga:Ds->Rs PyData) (gs:Ds->Rs (List PyData)):Ds->Rs PyData:=λδ=>(ga δ).bind λd=>if isC C m d then (gs δ).bind λds=>gf (d::ds) else .no
section
variable {E:XK} {o:Expr} {es:List Expr} {apos:Pos}
theorem ba.read {Q:VK} (hn:∀δ ds,gs δ=.ok ds->ds.length+1=n) (R:cT X.K H A δ σ) (b:f7 X.K E A H (ba C m gf ga gs δ) Q):xr C m (spD X.K n gf) [] E (eD X.K E ga) (aD X.K E gs) σ H Q:=by
 unfold ba at b;refine eD.run R (λd f v H1 e g h1=>?_) (λC c H' s'=>?_) (λc=>?_)
 ·simp only[f,Rs.ag]at b;split at b
  ·rename_i hc;obtain⟨a,dx,fs,rfl,h,l⟩:=FF hc h1;refine⟨a,dx,fs,rfl,av _ _ h,l,?_⟩;refine aD.run g (λds e2 vs H2 s2 R2 h2=>?_) (λC c H' s'=>?_) (λc=>?_)
   ·simp only[e2,Rs.ag]at b;refine⟨A,d::ds,R2.ls,?_,hn δ ds e2,b.mono (e.trans s2)⟩;rw[KY];exact bT (h1.same s2.del) h2
   ·rw[c]at b;exact b H' (e.trans s')
   ·rw[c]at b;exact b
  ·exact b.elim
 ·rw[c]at b;exact b H' s'
 ·rw[c]at b;exact b
theorem En {k:Nat} {pl:Sem Bool} (D:gR X.prog X.w X.K X.mg X.base k C m (es.length+2) gf) (c:bU j X.A) (g:Passes (CXW X.prog X.w) X E) (h:PD X E o ga) (ha:PAD X E (e::es) gs) (i:k<=j)
  (a:starEach (e::es) X.env=(false,eval e X.env)::starEach es X.env) (b:(backTo pos (starEach es X.env)).any (·.1)=false)
  (l:eval (.Call (.Attribute o m apos) (e::es) [] pos) X.env=(do
   let ov <-eval o X.env
   standAt apos.atName
   let (f,first) <-holding [ov] (getMethod ov m pl)
   callWith pos f first (backTo pos (starEach (e::es) X.env)) (backToKw pos (keywordEach [] X.env)))) :
  PD X E (.Call (.Attribute o m apos) (e::es) [] pos) (ba C m gf ga gs):=by
 obtain⟨f,fd,ps,cl,hm,F,n⟩:=D.ex;exact (Dv h cl hm F (c.mono i) n .nil g ha.1 a b l).imp λσ H Q ⟨A,δ,R,ou⟩=>ba.read (λδ ds e=>by rw[ha.2 δ ds e];rfl) R ou
theorem Ai {k:Nat} {pl:Sem Bool} (D:gR X.prog X.w X.K X.mg X.base k C m 1 gf) (c:bU j X.A) (g:Passes (CXW X.prog X.w) X E) (i:PD X E o ga) (p:k<=j)
  (r:eval (.Call (.Attribute o m apos) [] [] pos) X.env=(do
   let ov <-eval o X.env
   standAt apos.atName
   let (f,first) <-holding [ov] (getMethod ov m pl)
   callWith pos f first (backTo pos (starEach [] X.env)) (backToKw pos (keywordEach [] X.env)))) :
  PD X E (.Call (.Attribute o m apos) [] [] pos) (ba C m gf ga ah):=by
 obtain⟨f,fd,ps,cl,hm,F,s⟩:=D.ex;refine (uy i cl hm F (c.mono p) s .nil g r).imp λσ H Q b=>?_
 obtain⟨A,δ,R,u⟩:=b;have h:=ba.read (gs:=ah) (X:=X) (n:=1) (λδ ds e=>by cases e;rfl) R u;unfold xr at h ⊢;exact h.weak λv H1 ⟨a,dx,fs,e,hp,l,q⟩=>⟨a,dx,fs,e,hp,l,by obtain⟨A',δ',R',o'⟩:=q;exact o' [] H1 (ao.refl _) cq⟩
end
noncomputable def intsOf:List PyData->Option (List Int)
 |[]=>some []
 |.int a::r=>(intsOf r).map (a::·)
 |_::_=>none
def jZ:PyData->Option (Bool×List Int)
 |.int a=>some (false,[a])
 |.tuple ds=>(intsOf ds).map λl=>(true,l)
 |_=>none
def ltD (a b:PyData):Bool:=match jZ a,jZ b with
 |some (_,l),some (_,m)=>HT.lexLt l m
 |_,_=>false
def keysOk (ks:List PyData):Bool:=ks.all (λk=>match jZ k with|some (false,_)=>true|_=>false)||ks.all λk=>match jZ k with|some (true,_)=>true|_=>false
def allR (g:PyData->Rs PyData):List PyData->Rs (List PyData)
 |[]=>.ok []
 |d::r=>(g d).bind λk=>(allR g r).bind λks=>.ok (k::ks)
theorem uw {g:PyData->Rs PyData}:∀{ds ks:List PyData},allR g ds=.ok ks->ks.length=ds.length/\∀(i:Nat) (d:PyData),ds[i]?=some d->∃k,ks[i]?=some k/\g d=.ok k
 |[],ks,h=>by cases h;exact⟨rfl,λi d e=>by simp at e⟩
 |d::r,ks,h=>by
  unfold allR at h;cases e1:g d with
  |rz _=>rw[e1]at h;cases h
  |no=>rw[e1]at h;cases h
  |ok k =>
   rw[e1]at h;cases e2:allR g r with
   |rz _=>rw[Rs.ag,e2]at h;cases h
   |no=>rw[Rs.ag,e2]at h;cases h
   |ok t =>
    rw[Rs.ag,e2]at h;cases h;obtain⟨hl,a⟩:=uw e2;refine⟨by simp[hl],λi d' e=>?_⟩;cases i with
    |zero=>simp at e;subst e;exact⟨k,rfl,e1⟩
    |succ i=>simpa using a i d' (by simpa using e)
def r8 (cap:List Nat) (δ:Ds):Ds:=cap.map λm=>(δ[m]?).join
def okR:Rs (List PyData)->(List PyData->Rs PyData)->Rs PyData
 |.ok a,f=>f a
 |_,_=>.no
def iE (cap:List Nat) (ga gb:Ds->Rs PyData):Ds->Rs PyData:=λδ=>(ga δ).bind λd=>match d with
 |.list ds=>if 0<ds.length then okR (allR (λx=>gb (some x::r8 cap δ)) ds) λks=>if keysOk ks then .dz (ds[bst (λi j=>ltD (ks.getD i .none) (ks.getD j .none)) (ds.length-1)]?) else .no else .no
 |_=>.no
theorem xC {d:PyData} {l:List Int} (e:jZ d=some (false,l)) (h:Is K H d v):∃n,l=[n]/\v=.int n:=by
 unfold jZ at e;split at e
 ·cases e;exact⟨_,rfl,h.ofInt⟩
 ·rename_i ds;cases q:intsOf ds with
  |none=>rw[q]at e;cases e
  |some l=>rw[q]at e;cases e
 ·cases e
theorem kX:∀{ds:List PyData} {l:List Int},intsOf ds=some l->ds=l.map PyData.int
 |[],l,e=>by cases e;rfl
 |d::r,l,e=>by
  cases d <;> first|(cases e;done)|skip
  rename_i a;unfold intsOf at e;cases q:intsOf r with
  |none=>rw[q]at e;cases e
  |some t=>rw[q]at e;cases e;rw[kX q];rfl
theorem ur {d:PyData} {l:List Int} (e:jZ d=some (true,l)) (h:Is K H d v):∃a,v=.ref a/\H a=some (.tup (l.map V.int)):=by
 unfold jZ at e;split at e
 ·cases e
 ·rename_i ds;cases q:intsOf ds with
  |none=>rw[q]at e;cases e
  |some l' =>rw[q]at e;cases e;obtain⟨a,xs,c,f,b⟩:=h.ofTup;rw[kX q]at b;exact⟨a,c,by rw[f,b.ofInts]⟩
 ·cases e
section
theorem Af {ks:List PyData} (Q:X.A.in1.units<cLine) (g:keysOk ks=true) {x:V} {v:Value} {a b:PyData} (I:Inv X.in1 pins σ H s)
  (ea:ks[i]?=some a) (R:ks[j]?=some b) (G:Is X.K (del H A) a x) (L:Is X.K (del H A) b y) (M:RelV x u) (N:RelV y v) :
  wpAny (model X.prog X.w) X.A.in1 (richCompare .Lt u v) (λr s'=>r=.bool (ltD a b)/\Inv X.in1 pins σ H s') (λ_ _=>False) s:=by
 have J:=I.wish λ_ _=>False
 have O:a∈ks:=Kn ea;have P:b∈ks:=Kn R;unfold keysOk at g;rcases Bool.or_eq_true_iff.mp g with g|g
 ·have c:=K9.mp g a O;have f:=K9.mp g b P;cases ka:jZ a with
  |none=>rw[ka]at c;cases c
  |some p=>obtain⟨o,la⟩:=p;cases o with
   |true=>rw[ka]at c;cases c
   |false=>cases kb:jZ b with
    |none=>rw[kb]at f;cases f
    |some p=>obtain⟨B,l⟩:=p;cases B with
     |true=>rw[kb]at f;cases f
     |false =>
      obtain⟨n,rfl,rfl⟩:=xC ka G;obtain⟨m,rfl,rfl⟩:=xC kb L;have e:ltD a b=decide (n<m):=by
       unfold ltD;rw[ka,kb];show HT.lexLt [n] [m]=_;rw[HT.nZ,HT.jA];by_cases z:n=m
       ·subst z;simp
       ·simp[z]
      rw[e];refine thn (BB (X:=X.in1.wish λ_ _=>False) pins s σ H (.int n) (.int m) u v (λr H'=>r=.bl (decide (n<m))/\H'=H) J M N ⟨n,m,rfl,rfl,rfl,rfl⟩) λr s' h=>?_
      obtain⟨S,H',C,D,E,F⟩:=h;subst E F;exact⟨D,C.unwish⟩
 ·have c:=K9.mp g a O;have f:=K9.mp g b P;cases ka:jZ a with
  |none=>rw[ka]at c;cases c
  |some p=>obtain⟨o,la⟩:=p;cases o with
   |false=>rw[ka]at c;cases c
   |true=>cases kb:jZ b with
    |none=>rw[kb]at f;cases f
    |some p=>obtain⟨B,l⟩:=p;cases B with
     |false=>rw[kb]at f;cases f
     |true =>
      obtain⟨p,rfl,T⟩:=ur ka G;obtain⟨q,rfl,U⟩:=ur kb L;have e:ltD a b=HT.lexLt la l:=by unfold ltD;rw[ka,kb]
      rw[e];refine thn (Fu (X:=X.in1.wish λ_ _=>False) Q pins s σ H (.ref p) (.ref q) u v (λr H'=>r=.bl (HT.lexLt la l)/\H'=H) J M N ⟨p,q,la,l,rfl,rfl,SqT.of (av _ _ T),SqT.of (av _ _ U),rfl,rfl⟩) λr s' h=>?_
      obtain⟨S,H',C,D,E,F⟩:=h;subst E F;exact⟨D,C.unwish⟩
theorem yh {E:XK} {a:Expr} {G p0:Pos} {g:List (Str×Addr)} {P:Addr} {k:Nat} {p:Str}
  (hc:X.calm=true) (hm:X.mg "min"=none) (hr:bU (k+2) X.A) (ha:PD X E a ga) (T:zZ X c P) (U:closureFor scope X.env=pure g) (S:km N [p] scope)
  (J:∀x c,g.lookup x=some c->X.env.cells.lookup x=some c) (has:∀x,scope.names.lookup x=some .free->∃c,g.lookup x=some c) (hN:N.length=1+cap.length)
  (L:∀(i m:Nat) (x:Str),N[1+i]?=some x->cap[i]?=some m->X.N[m]?=some x/\scope.names.lookup x=some .free/\(X.env.kindOf x=some .cell\/X.env.kindOf x=some .free)/\Vis X.env.scope x)
  (hb:∀(c':Addr) (pm r u:Value),bindArgs (PySem.W.kla_fn "<lambda>" (X.env.qual++"<lambda>") params body scope g pm (.ref c') r) ⟨[u],[]⟩=pure ([p].zip [u]))
  (D:∀(q c':Addr) (s:Shared) (H:Hp),PD (qK (CXW X.prog X.w) X.prog X.w X.K X.mg X.base N (X.env.qual++"<lambda>") scope q (.ref c') g X.A.in1 X.stack s H E0) E0 body gb)
  (hg:Gl X "min":=by rfl) (he:starEach [a] X.env=[(false,eval a X.env)]:=by rfl) (M:defaultsOf params X.env=([],[]):=by rfl) :
  PD X E (.Call (.Name "min" p0) [a] [⟨some "key",.Lambda params body scope G,kp⟩] pos) (iE cap ga gb):=by
 refine (xR hc hm ha (F4 T U M) hg he (λh k=>eD.weak h k) (λh k f c' r H' n e s c=>k _ _ (h f c' r H' n e s c))).imp λσ H Q Y=>?_
 obtain⟨A,δ,R,b⟩:=Y;unfold iE at b;refine eD.run R (λd ed v H1 s1 R1 h1=>?_) (λC Z H' s'=>?_) (λZ=>?_)
 ·rw[ed,Rs.ag]at b;cases d with
  |list ds =>
   by_cases hpos:0<ds.length
   case neg=>simp only[if_neg hpos]at b;exact b.elim
   simp only[if_pos hpos]at b;cases ek:allR (λx=>gb (some x::r8 cap δ)) ds with
   |rz _=>rw[ek]at b;exact b.elim
   |no=>rw[ek]at b;exact b.elim
   |ok ks =>
    rw[ek]at b;cases hko:keysOk ks with
    |false=>simp only[okR,hko]at b;exact b.elim
    |true =>
     simp only[okR,hko,if_true]at b;intro f c' r H2 hn hf s2 F;obtain⟨l,xs,rfl,hl,hx⟩:=h1.ofLst;have hlen:=hx.length;obtain⟨hkl,hkg⟩:=uw ek;refine⟨l,f,xs,λH=>ao H2 H,λi v H=>∃O,ks[i]?=some O/\Is X.K (del H A) O v,λi j=>ltD (ks.getD i .none) (ks.getD j .none),rfl,rfl,by omega,ao.refl _,?_,λH3 v s3 ev=>?_⟩
     ·refine yP (t:=eD X.K E0 gb) (c':=c') (cap:=cap) S hr J has hN L (hb c' _ r) (λH s=>s _ _ (s2 _ _ (av _ _ hl))) (λH s=>⟨s _ _ hf,?_⟩) (λs H=>D f c' s H) (λi x H ex s=>?_) (λi j x y pins' H s u v I sΦ hx' hy' rx ry=>?_)
      ·obtain⟨o,vs,t,e1,e2,B⟩:=F;exact⟨o,vs,t,s _ _ e1,e2,B⟩
      ·obtain⟨d,e1,hd⟩:=hx.get ex;obtain⟨O,e2,gk⟩:=hkg i d e1;have R':cT X.K H A δ σ:=R.same (s1.trans (s2.trans s));refine⟨A,some d::r8 cap δ,⟨R'.ls,by simp[r8],λn d' e=>?_⟩,?_⟩
       ·cases n with
        |zero =>have e:some (some d)=some (some d'):=e;cases e;exact⟨x,rfl,hd.same (ao.del (s2.trans s))⟩
        |succ n =>
         have e:(r8 cap δ)[n]?=some (some d'):=by simpa using e
         unfold r8 at e;rw[JY]at e;cases hm':cap[n]? with
         |none=>rw[hm']at e;cases e
         |some m =>
          rw[hm']at e;have B:(δ[m]?).join=some d':=by simpa using e
          have e4:δ[m]?=some (some d'):=by
           cases z:δ[m]? with
           |none=>rw[z]at B;cases B
           |some w=>rw[z]at B;cases w with
            |none=>cases B
            |some w=>cases B;rfl
          obtain⟨v',e5,h5⟩:=R'.get m d' e4;exact⟨v',by simp[hm',e5],h5⟩
       ·have gk':gb (some d::r8 cap δ)=.ok O:=gk;rw[gk'];exact λv H' s' q=>⟨s.trans s',⟨O,e2,q⟩,λj v' qz2=>(by obtain⟨kd',B,e4⟩:=qz2;exact⟨kd',B,e4.same s'.del⟩)⟩
      ·obtain⟨ka,e1,h1'⟩:=hx';obtain⟨kb,e2,h2'⟩:=hy';have:=Af (X:=X) (by have:=hr.un;show X.A.units+1<_;omega) hko I e1 e2 h1' h2' rx ry;rw[K6,K6,e1,e2];exact this
     ·rw[hlen]at ev;obtain⟨d,e1,hd⟩:=hx.get ev;rw[e1]at b;exact b v H3 (s1.trans (s2.trans s3)) (hd.same (ao.del (s2.trans s3)))
  |_=>exact b.elim
 ·rw[Z]at b;exact b H' s'
 ·rw[Z]at b;exact b
end
section
mutual
theorem Is.off {C dx:Addr} {fs:List (Str×V)} (ha:H a=some (.ins C dx fs)):∀{d:PyData} {v:V},aA d=true->Is K H d v->Is K (del H [a]) d v
 |.none,_,_,h=>by unfold Is at h ⊢;exact h
 |.bool _,_,_,h=>by unfold Is at h ⊢;exact h
 |.int _,_,_,h=>by unfold Is at h ⊢;exact h
 |.str _,_,_,h=>by unfold Is at h ⊢;exact h
 |.dict _,_,n,_=>by unfold aA at n;cases n
 |.list ds,_,n,h=>by unfold aA at n;obtain⟨b,xs,e,h1,h2⟩:=h.ofLst;subst e;exact gx (by rw[aB (λz=>by rw[JW.mp z,ha]at h1;cases h1)];exact h1) (Iss.off ha n h2)
 |.tuple ds,_,n,h=>by unfold aA at n;obtain⟨b,xs,e,h1,h2⟩:=h.ofTup;subst e;exact iA (by rw[aB (λz=>by rw[JW.mp z,ha]at h1;cases h1)];exact h1) (Iss.off ha n h2)
theorem Iss.off {C dx:Addr} {fs:List (Str×V)} (ha:H a=some (.ins C dx fs)):∀{ds:List PyData} {vs:List V},cQ ds=true->Iss K H ds vs->Iss K (del H [a]) ds vs
 |[],_,_,h=>by rw[h.nil_of];exact cq
 |d::ds,_,n,h=>by unfold cQ at n;obtain⟨n1,n2⟩:=Kx.mp n;obtain⟨v,r,e,h1,h2⟩:=h.cons_of;subst e;exact bT (Is.off ha n1 h1) (Iss.off ha n2 h2)
end
noncomputable def jQ:List (PyData×PyData)->Bool
 |[]=>true
 |(_,d)::r=>aA d&&jQ r
theorem Isk.off {C dx:Addr} {fs:List (Str×V)} (ha:H a=some (.ins C dx fs)):∀{ds:List (PyData×PyData)} {gs:List (Str×V)},jQ ds=true->Isk K H ds gs->Isk K (del H [a]) ds gs
 |[],_,_,h=>by unfold Isk at h ⊢;exact h
 |(k,d)::ds,_,n,h=>by unfold jQ at n;obtain⟨n1,n2⟩:=Kx.mp n;unfold Isk at h ⊢;obtain⟨f,v,r,e1,e2,h1,h2⟩:=h;exact⟨f,v,r,e1,e2,Is.off ha n1 h1,Isk.off ha n2 h2⟩
def i4:List (PyData×PyData)->Option Int
 |(.str x,.int _)::(.str y,.int b)::r=>if x=""/\y="@"/\jQ r then some b else none
 |_=>none
mutual
def objs:PyData->Bool
 |.list ds=>i8 ds
 |.tuple ds=>i8 ds
 |.dict kvs=>(i4 kvs).isSome
 |_=>true
def i8:List PyData->Bool
 |[]=>true
 |d::ds=>objs d&&i8 ds
end
mutual
def eI (a:Addr) (nd:PyData):PyData->PyData
 |.list ds=>.list (iL a nd ds)
 |.tuple ds=>.tuple (iL a nd ds)
 |.dict kvs=>if i4 kvs=some (a:Int) then nd else .dict kvs
 |d=>d
def iL (a:Addr) (nd:PyData):List PyData->List PyData
 |[]=>[]
 |d::ds=>eI a nd d::iL a nd ds
end
end
def jY (a:Addr) (nd:PyData) (δ:Ds):Ds:=δ.map λd=>d.map (eI a nd)
theorem kl {d:PyData} (h:(jY a nd δ)[i]?=some (some d)):∃b,δ[i]?=some (some b)/\d=eI a nd b:=by
 unfold jY at h;rw[JY]at h;cases e:δ[i]? with
 |none=>rw[e]at h;cases h
 |some x=>cases x with
  |none=>rw[e]at h;cases h
  |some b=>rw[e]at h;cases h;exact⟨b,rfl,rfl⟩
theorem t8 (h:a∉B):del (upd H a o) B=upd (del H B) a o:=by
 funext b;by_cases z:b=a
 ·subst z;rw[aB h,ay,ay]
 ·rw[au z];by_cases y:b∈B
  ·rw[eQ y,eQ y]
  ·rw[aB y,aB y,au z]
section
theorem gM {fs:List (Str×V)} (e:ao (del H [a]) H') (ha:H a=some (.ins C dx fs)) (f:H b=some o) (c:b≠a):H' b=some o :=
 e _ _ (by rw[aB (λz=>c (JW.mp z))];exact f)
mutual
theorem Is.mutH {C dx:Addr} {fs:List (Str×V)} {nd:PyData} (ha:H a=some (.ins C dx fs)) (j:ao (del H [a]) H') (hn:Is K H' nd (.ref a)):∀{d:PyData} {v:V},objs d=true->Is K H d v->Is K H' (eI a nd d) v
 |.none,_,_,h=>by unfold eI;unfold Is at h ⊢;exact h
 |.bool _,_,_,h=>by unfold eI;unfold Is at h ⊢;exact h
 |.int _,_,_,h=>by unfold eI;unfold Is at h ⊢;exact h
 |.str _,_,_,h=>by unfold eI;unfold Is at h ⊢;exact h
 |.list ds,_,n,h=>by unfold objs at n;obtain⟨b,xs,e,h1,h2⟩:=h.ofLst;subst e;unfold eI;exact gx (gM j ha h1 (λz=>by rw[z,ha]at h1;cases h1)) (Iss.mutH ha j hn n h2)
 |.tuple ds,_,n,h=>by unfold objs at n;obtain⟨b,xs,e,h1,h2⟩:=h.ofTup;subst e;unfold eI;exact iA (gM j ha h1 (λz=>by rw[z,ha]at h1;cases h1)) (Iss.mutH ha j hn n h2)
 |.dict kvs,v,n,h=>by
  unfold objs at n;unfold eI;unfold i4 at n ⊢;split at n
  case h_2=>cases n
  rename_i x I y b r;split at n
  case isFalse=>cases n
  rename_i J;obtain⟨rfl,rfl,D⟩:=J;have L:∃(g:Addr) (o c:Addr) (gs:List (Str×V)),v=.ref g/\b=(g:Int)/\I=(o:Int)/\H g=some (.ins o c gs)/\gs.lookup ("@":Str)=none/\Isk K H r gs:=by
   unfold Is at h;rcases h with (⟨s,ns,_,e,_⟩|⟨s,l,_,e,_⟩)|⟨s,o,c,gs,e,h1,i,h2|h2⟩
   ·cases e
   ·rcases e with⟨m,e,_⟩|⟨m,e,_⟩ <;> first|(cases e;done)|(cases m <;> cases e)
   ·unfold Isk at h2;obtain⟨f,u,w,e1,e2,E,p⟩:=h2;cases e1;unfold Isk at p;obtain⟨f,u,w,e1,e2,F,G⟩:=p;injection e2 with e2
    subst e2 e1;rw[Kj]at i;simp at i
   ·unfold Isk at h2;obtain⟨f,u,w,e1,e2,E,p⟩:=h2;cases e1;have A:=E.ofInt;injection A with A
    unfold Isk at p;obtain⟨f,u,w,e1,e2,F,G⟩:=p;cases e1;have B:=F.ofInt;injection B with B
    exact⟨s,o,c,gs,e,B.symm,A.symm,h1,i,G⟩
  obtain⟨g,o,c,gs,rfl,rfl,rfl,h1,hl,h2⟩:=L;simp only[D,and_self,if_true];by_cases z:g=a
  ·subst z;rw[if_pos rfl];exact hn
  ·have zz:¬ (some (g:Int)=some (a:Int)):=λq=>z (Int.ofNat.inj (Option.some.inj q))
   rw[if_neg zz];unfold Is;refine .inr ⟨g,o,c,gs,rfl,gM j ha h1 z,hl,.inr (dB bB (dB bB ?_))⟩;exact (Isk.off ha D h2).same j
theorem Iss.mutH {C dx:Addr} {fs:List (Str×V)} {nd:PyData} (ha:H a=some (.ins C dx fs)) (b:ao (del H [a]) H') (hn:Is K H' nd (.ref a)):∀{ds:List PyData} {vs:List V},i8 ds=true->Iss K H ds vs->Iss K H' (iL a nd ds) vs
 |[],_,_,h=>by rw[h.nil_of];unfold iL;exact cq
 |d::ds,_,n,h=>by unfold i8 at n;obtain⟨n1,n2⟩:=Kx.mp n;obtain⟨v,r,e,h1,h2⟩:=h.cons_of;subst e;unfold iL;exact bT (Is.mutH ha b hn n1 h1) (Iss.mutH ha b hn n2 h2)
end
theorem CI:ao (del H [a]) H'->ao (del (del H B) [a]) (del H' B):=λc b o e=>by obtain⟨e1,e2⟩:=aS e;obtain⟨f,g⟩:=aS e2;rw[aB f];exact c b o (by rw[aB e1];exact g)
theorem bf.mutH {fs:List (Str×V)} (R:bf K H0 A0 H A O δ σ)
  (ha:H a=some (.ins C dx fs)) (s:H0 a=none) (n:∀(i:Nat) d,δ[i]?=some (some d)->objs d=true) (l:ao (del H [a]) H') (hn:Is K (del H' (A++A0)) nd (.ref a)):bf K H0 A0 H' A O (jY a nd δ) σ:=by
 have o:Ls H A0:=R.ls0.same R.same;have na:a∉A++A0:=λz=>by
  rcases Ki.mp z with z|z
  ·obtain⟨xs,e,q⟩:=R.ls a z;rw[ha]at e;cases e;cases q
  ·obtain⟨xs,e,q⟩:=o a z;rw[ha]at e;cases e;cases q
 have hd:del H (A++A0) a=some (.ins C dx fs):=by rw[aB na];exact ha
 have g:ao (del (del H (A++A0)) [a]) (del H' (A++A0)):=CI l;refine⟨λb u e=>?_,R.ls0,R.new,λb p=>?_,?_,λi d hi e=>?_,λi d hi e=>?_,λi j d e b hi w e1 e2 x y=>?_⟩
 ·exact gM l ha (R.same b u e) (λz=>by rw[z,s]at e;cases e)
 ·obtain⟨xs,e,q⟩:=R.ls b p;exact⟨xs,gM l ha e (λz=>by rw[z,ha]at e;cases e;cases q),q⟩
 ·unfold jY;rw[J6];exact R.len
 ·obtain⟨c,f,rfl⟩:=kl e;obtain⟨v,e1,h1⟩:=R.pl i c hi f;exact⟨v,e1,Is.mutH hd g hn (n i c f) h1⟩
 ·obtain⟨c,f,rfl⟩:=kl e;obtain⟨b,o',d1,e1,p,r,rfl,h1⟩:=R.own i c hi f;have h:=n i _ f;obtain⟨ds,xs,rfl,rfl⟩:∃ds xs,c=.list ds/\o'=.lst xs:=by
   unfold gu at h1;split at h1
   ·exact⟨_,_,rfl,rfl⟩
   ·exfalso;rcases h1 with⟨m,rfl,_⟩|⟨m,rfl,_⟩ <;> unfold objs i4 at h <;> cases m <;> simp at h
   ·exact h1.elim
  have h1:Iss K _ ds xs:=h1;have:=n i _ f;unfold objs at this;exact⟨b,.lst xs,.list (iL a nd ds),e1,p,gM l ha r (λz=>by rw[z,ha]at r;cases r),by unfold eI;rfl,Iss.mutH hd g hn this h1⟩
 ·obtain⟨c,B,_⟩:=kl e1;obtain⟨d1,D,_⟩:=kl e2;exact R.inj i j c d1 b hi w B D x y
end
def sDN (as:List Addr) (K:PySem.W.Frag) (E:XK) (O:List Nat) (G:Ds->Sr):TS:=λD σ H=>∃H0 A0 A δ,(∀a∈as,H0 a=none)/\bf K H0 A0 H A O δ σ/\lC K E H0 A0 O (G δ) D
def PSN (as:List Addr) (X:Cx) (E:XK) (O:List Nat) (s:Stmt) (G:Ds->Sr):Prop:=PS X s (sDN as X.K E O G)
def PBN (as:List Addr) (X:Cx) (E:XK) (O:List Nat) (ss:List Stmt) (G:Ds->Sr):Prop:=PSs X ss (sDN as X.K E O G)
section
variable {E:XK} {ss:List Stmt} {G G':Ds->Sr} {c:Expr}
theorem GY (h:PSD X E O st G):PSN as X E O st G:=h.imp λD σ H a=>(by obtain⟨H0,A0,A,δ,_,R,o⟩:=a;exact⟨H0,A0,A,δ,R,o⟩)
theorem Fb (h:PBD X E O ss G):PBN as X E O ss G:=h.imp λD σ H a=>(by obtain⟨H0,A0,A,δ,_,R,o⟩:=a;exact⟨H0,A0,A,δ,R,o⟩)
theorem Di:PBN as X E O [] bg:=Fb sI
theorem uY (h1:PSN as X E O st G) (h2:PBN as X E O ss G'):PBN as X E O (st::ss) (aF G G'):=(cu h1 h2).imp λD σ H ⟨H0,A0,A,δ,hn,R,o⟩=>⟨H0,A0,A,δ,hn,R,by
 unfold aF at o;cases q:G δ with
 |nx δ'=>rw[q]at o;exact λa σ' H' b=>⟨H0,A0,a,δ',hn,b,o⟩
 |rt d=>rw[q]at o;exact o
 |rz C=>rw[q]at o;exact o
 |bk d=>rw[q]at o;exact o
 |ct d=>rw[q]at o;exact o
 |no=>rw[q]at o;exact o⟩
theorem xy (h1:PSN as X E O st G):PBN as X E O [st] G:=(fz h1).imp λD σ H h=>h
theorem Hh {a:List Stmt} (hc:PCD X E c ca) (h1:PBN as X E O ss G) (h2:PBN as X E O a G'):PSN as X E O (.If c ss a pos) (sIf ca G G'):=(ug hc h1 h2).imp λD σ H e=>by
 obtain⟨H0,A0,A,δ,hn,R,o⟩:=e;unfold sIf at o;refine cD.run R.full (λt b H1 f R1=>?_) (λC b H' s'=>?_) (λb=>?_)
 ·rw[b]at o;cases t with
  |true=>exact⟨H0,A0,A,δ,hn,R.step f,o⟩
  |false=>exact⟨H0,A0,A,δ,hn,R.step f,o⟩
 ·rw[b]at o;exact o H' (R.same.trans s')
 ·rw[b]at o;exact o
theorem yq (fuel:Nat) (j:PassesOwn (model X.prog X.w) X.A X.env X.xe) (hc:PCD X E c ca) (l:PBN as X E O ss G):PSN as X E O (.While c ss [] pos) (λδ=>bV ca G fuel δ):=(uU j hc l).imp λD σ H e=>by
 obtain⟨H0,A0,A,δ,hn,R,o⟩:=e;refine⟨λm σ H=>∃A δ,bf X.K H0 A0 H A O δ σ/\lC X.K E H0 A0 O (bV ca G m δ) D,⟨fuel,A,δ,R,o⟩,?_⟩
 rintro m σ H ⟨A,δ,R,o⟩
 cases m with
 |zero=>exact o.elim
 |succ m =>
  unfold bV at o;refine cD.run R.full (λt a H1 i R1=>?_) (λC a H' s'=>?_) (λa=>?_)
  ·rw[a]at o;cases t with
   |false=>exact o A σ H1 (R.step i)
   |true =>
    refine⟨λb H'=>∃A δ,bf X.K H0 A0 H' A O δ b/\lC X.K E H0 A0 O (bV ca G m δ) D,λb H' q=>⟨m,KU m,q⟩,H0,A0,A,δ,hn,R.step i,?_⟩;have o:lC X.K E H0 A0 O (match G δ with
     |.nx δ2=>bV ca G m δ2
     |.ct δ2=>bV ca G m δ2
     |.bk δ2=>.nx δ2
     |.rt v=>.rt v
     |.rz C=>.rz C
     |.no=>.no) D:=o
    cases eb:G δ with
    |nx δ2=>rw[eb]at o;exact λf g n h=>⟨f,δ2,h,o⟩
    |ct δ2=>rw[eb]at o;exact λf g n h=>⟨f,δ2,h,o⟩
    |bk δ2=>rw[eb]at o;exact o
    |rt v=>rw[eb]at o;exact o
    |rz C=>rw[eb]at o;exact o
    |no=>rw[eb]at o;exact o.elim
  ·rw[a]at o;exact o H' (R.same.trans s')
  ·rw[a]at o;exact o
end
def jH:List (PyData×PyData)->Option (List (Str×PyData))
 |[]=>some []
 |(.str f,d)::r=>(jH r).map λl=>(f,d)::l
 |_=>none
theorem qC:∀{r:List (PyData×PyData)} {fds:List (Str×PyData)},jH r=some fds->r=fds.map λp=>(.str p.1,p.2)
 |[],fds,e=>by cases e;rfl
 |(k,d)::r,fds,e=>by
  cases k <;> first|(cases e;done)|skip
  rename_i f;unfold jH at e;cases q:jH r with
  |none=>rw[q]at e;cases e
  |some l=>rw[q]at e;cases e;rw[qC q];rfl
theorem pz:∀fds:List (Str×PyData),jH (fds.map λp=>(.str p.1,p.2))=some fds
 |[]=>rfl
 |p::r=>by rw[J5];unfold jH;rw[pz r];rfl
def objOf:PyData->Option (Addr×Addr×List (Str×PyData))
 |.dict ((.str x,.int c)::(.str y,.int b)::r)=>if x=""/\y="@"/\0<=c/\0<=b then (jH r).map λl=>(c.toNat,b.toNat,l) else none
 |_=>none
theorem BC {d:PyData} {fds:List (Str×PyData)} (e:objOf d=some (C,a,fds)):d=bW C a fds:=by
 unfold objOf at e;split at e
 ·rename_i x c y b r;split at e
  ·rename_i h;obtain⟨rfl,rfl,f,h1⟩:=h;obtain⟨l,q,e⟩:=KN.mp e;cases e;rw[qC q];unfold bW;rw[Li f,Li h1]
  ·cases e
 ·cases e
theorem p7 (C a:Addr) (fds:List (Str×PyData)):objOf (bW C a fds)=some (C,a,fds):=by unfold bW objOf;simp only[Lp,and_self,if_true,pz,Ln,Kq]
def my (f:Str):List (Str×PyData)->Option PyData
 |[]=>none
 |(g,d)::r=>if g=f then some d else my f r
def nA (f:Str) (v:PyData):List (Str×PyData)->List (Str×PyData)
 |[]=>[(f,v)]
 |(g,x)::r=>if g=f then (g,v)::r else (g,x)::nA f v r
theorem Isk.put {K:PySem.W.Frag} {H:Hp} {f:Str} {d:PyData} {v:V} (hv:Is K H d v):∀{fds:List (Str×PyData)} {gs:List (Str×V)},Isk K H (fds.map λp=>(.str p.1,p.2)) gs->Isk K H ((nA f d fds).map λp=>(.str p.1,p.2)) (gD f v gs)
 |[],gs,h=>by rw[L4]at h;unfold Isk at h;subst h;exact dB hv mY
 |(g,x)::r,gs,h=>by
  rw[J5]at h;unfold Isk at h;obtain⟨g',u,a,rfl,e,h1,h2⟩:=h;injection e with e
  subst e;show Isk K H ((if g=f then (g,d)::r else (g,x)::nA f d r).map _) (if g=f then (g,v)::a else (g,u)::gD f v a);by_cases z:g=f
  ·rw[if_pos z,if_pos z];exact dB hv h2
  ·rw[if_neg z,if_neg z];exact dB h1 (Isk.put hv h2)
theorem Isk.look {K:PySem.W.Frag} {H:Hp} {f:Str} {d:PyData}:∀{fds:List (Str×PyData)} {gs:List (Str×V)},Isk K H (fds.map λp=>(.str p.1,p.2)) gs->my f fds=some d->∃v,gs.lookup f=some v/\Is K H d v
 |[],gs,h,e=>by cases e
 |(g,x)::r,gs,h,e=>by
  rw[J5]at h;unfold Isk at h;obtain⟨g',u,gs',rfl,e2,h1,h2⟩:=h;injection e2 with e2
  subst e2;unfold my at e;rw[Kj];by_cases z:g=f
  ·rw[if_pos z]at e;cases e;subst z;simp only[beq_self_eq_true];exact⟨u,rfl,h1⟩
  ·rw[if_neg z]at e;rw[show (f==g)=false by simpa using λq=>z q.symm];exact Isk.look h2 e
theorem Isk.len {K:PySem.W.Frag} {H:Hp}:∀{fds:List (PyData×PyData)} {gs:List (Str×V)},Isk K H fds gs->gs.length=fds.length
 |[],_,h=>by unfold Isk at h;rw[h];rfl
 |(k,d)::r,_,h=>by unfold Isk at h;obtain⟨_,_,_,rfl,_,_,h2⟩:=h;rw[Ka,Ka,Isk.len h2]
theorem Is.atObj {fds:List (Str×PyData)} (h:Is K H (bW C a fds) v):v=.ref a/\∃dx gs,H a=some (.ins C dx gs)/\gs.lookup ("@":Str)=none/\Isk K H (fds.map λp=>(.str p.1,p.2)) gs:=by
 unfold bW at h;unfold Is at h;rcases h with (⟨g,ns,_,e,_⟩|⟨g,l,_,e,_⟩)|⟨g,w,i,gs,e,h1,b,h2|h2⟩
 ·cases e
 ·rcases e with⟨m,e,_⟩|⟨m,e,_⟩ <;> first|(cases e;done)|(cases m <;> cases e)
 ·unfold Isk at h2;obtain⟨f,u,j,e1,e2,q,c⟩:=h2;cases e1;unfold Isk at c;obtain⟨f,u,j,e1,e2,r,s⟩:=c;injection e2 with e2
  subst e2 e1;rw[Kj]at b;simp at b
 ·unfold Isk at h2;obtain⟨f,u,j,e1,e2,q,c⟩:=h2;cases e1;have n:=q.ofInt;injection n with n
  obtain rfl:w=C:=Int.ofNat.inj n;unfold Isk at c;obtain⟨f,u,j,e1,e2,r,s⟩:=c;cases e1;have o:=r.ofInt;injection o with o
  obtain rfl:g=a:=Int.ofNat.inj o;exact⟨e,i,gs,h1,b,s⟩
def fo (fds:List (Str×PyData)):Bool:=jQ (fds.map λp=>(.str p.1,p.2))
theorem sU (C a:Addr) (fds:List (Str×PyData)):objs (bW C a fds)=fo fds:=by unfold bW objs i4 fo;cases h:jQ (fds.map λp=>(PyData.str p.1,p.2)) <;> simp[h]
def fw (δ:Ds):Bool:=δ.all λo=>match o with|some d=>objs d|none=>true
theorem iR (h:fw δ=true) (i:Nat) (d:PyData) (e:δ[i]?=some (some d)):objs d=true:=by have:=K9.mp h _ (Kn e);exact this
theorem BE {fds:List (Str×PyData)} {gs:List (Str×V)} {f:Str} {z:Int} (hB:a∉B) (ha:H a=some (.ins C dx gs)) (hl:gs.lookup ("@":Str)=none) (c:f≠"@") (g:fo fds=true) (h:Isk K (del H B) (fds.map λp=>(.str p.1,p.2)) gs) :
  Is K (del (upd H a (.ins C dx (gD f (.int z) gs))) B) (bW C a (nA f (.int z) fds)) (.ref a):=by
 rw[t8 hB];refine B3 (dx:=dx) (fs:=gD f (.int z) gs) (ay) (by rw[iU,if_neg (λq=>c q.symm)];exact hl) (Isk.put bB ?_);have hd:del H B a=some (.ins C dx gs):=by rw[aB hB];exact ha
 refine (Isk.off hd g h).same λb o e=>?_
 obtain⟨e1,e2⟩:=aS e;rw[au (λq=>e1 (by rw[q];exact JW.mpr rfl))];exact e2
theorem uP:ao (del H [a]) (upd H a o):=λb u e=>by obtain⟨e1,e2⟩:=aS e;rw[au (λq=>e1 (by rw[q];exact JW.mpr rfl))];exact e2
def mn (as:List Addr) (C:Addr) (i:Nat) (δ:Ds):Option (Addr×List (Str×PyData)):=match δ[i]? with
 |some (some d)=>(match objOf d with
  |some (C',a,fds)=>if C'=C/\a∈as/\fw δ=true/\fo fds=true/\fds.length<1000 then some (a,fds) else none
  |none=>none)
 |_=>none
theorem k6 {fds:List (Str×PyData)} (h:mn as C i δ=some (a,fds)):δ[i]?=some (some (bW C a fds))/\a∈as/\fw δ=true/\fo fds=true/\fds.length<1000:=by
 unfold mn at h;split at h
 ·rename_i d e;split at h
  ·rename_i C' a' fds' q;split at h
   ·rename_i c;cases h;obtain⟨rfl,c1,b,f,g⟩:=c;rw[e,BC q];exact⟨rfl,c1,b,f,g⟩
   ·cases h
  ·cases h
 ·cases h
def kn (as:List Addr) (C:Addr) (i:Nat) (f:Str) (g:Ds->Rs PyData):Ds->Sr:=λδ=>match mn as C i δ with
 |some (a,fds)=>ofR (g δ) λd=>match d with
  |.int z=>.nx (jY a (bW C a (nA f (.int z) fds)) δ)
  |_=>.no
 |none=>.no
def dN (as:List Addr) (C:Addr) (i:Nat) (f:Str) (g:Ds->Rs PyData):Ds->Sr:=λδ=>match mn as C i δ with
 |some (a,fds)=>(match my f fds with
  |some (.int n)=>ofR (g δ) λd=>match d with
   |.int z=>.nx (jY a (bW C a (nA f (.int (n+z)) fds)) δ)
   |_=>.no
  |_=>.no)
 |none=>.no
section
variable {E:XK} {o value:Expr} {g:Ds->Rs PyData} {tpos:Pos} {f:Str}
theorem DY (J:PD X E o (af i)) (hv:PD X E value g) (cl:Cls X.K C) (na:eO X.K C f) (hi:i∉O) (L:f≠"@") (M:swapsWith value (some (.Attribute o f pos')) pos.line X.env=pure false):PSN as X E O (.Assign [.Attribute o f pos'] value pos) (kn as C i f g):=(jd J hv M).imp λD σ H s=>by
 obtain⟨H0,A0,A,δ,hn,R,b⟩:=s;unfold kn at b;split at b
 case h_2=>exact b.elim
 rename_i a fds q;obtain⟨e,ha,u,w,x⟩:=k6 q;refine eD.run R.full (λd N v H1 I R1 hv=>?_) (λC c H' s'=>?_) (λc=>?_)
 ·rw[N]at b;cases d with
  |int z =>
   have y:=hv.ofInt;subst y;have e2:af i δ=.ok (bW C a fds):=by unfold af;rw[e]
   refine eD.run (R.step I).full (λd2 j v2 H2 s2 R2 B=>?_) (λC c H' s'=>?_) (λc=>?_)
   ·rw[e2]at j;cases j;obtain⟨rfl,dx,gs,hp,hl,hk⟩:=B.atObj;have l:=R.step (I.trans s2);obtain⟨v3,e3,P⟩:=l.pl i _ hi e;obtain⟨rfl,m,n,p,F,r⟩:=P.atObj;have h:H2 a=some (.ins C m n):=(aS p).2;have G:a∉A++A0:=(aS p).1;refine⟨a,C,m,n,rfl,h,cl,na,by rw[r.len,J6];exact x,?_⟩;exact b A σ _ (l.mutH h (hn a ha) (iR u) uP (BE G h F L w r))
   ·rw[e2]at c;cases c
   ·rw[e2]at c;cases c
  |_=>exact b.elim
 ·rw[c]at b;exact b H' (R.same.trans s')
 ·rw[c]at b;exact b
theorem vl (Q:PD X E o (af i)) (hv:PD X E value g) (cl:Cls X.K C) (na:eO X.K C f) (hi:i∉O) (S:f≠"@"):PSN as X E O (.AugAssign (.Attribute o f tpos) .Add value pos) (dN as C i f g):=(yn Q hv Gn).imp λD σ H u=>by
 obtain⟨H0,A0,A,δ,hn,R,b⟩:=u;unfold dN at b;split at b
 case h_2=>exact b.elim
 rename_i a fds q;obtain⟨e,ha,x,y,B⟩:=k6 q;split at b
 case h_2=>exact b.elim
 rename_i n F;have e2:af i δ=.ok (bW C a fds):=by unfold af;rw[e]
 refine eD.run R.full (λd2 j v2 H1 G R1 I=>?_) (λC c H' s'=>?_) (λc=>?_)
 ·rw[e2]at j;cases j;obtain⟨rfl,dx,gs,T,hl,U⟩:=I.atObj;obtain⟨v,W,J⟩:=U.look F;have L:=J.ofInt;subst L;refine⟨a,C,dx,gs,.int n,rfl,(aS T).2,cl,na,W,?_⟩;refine eD.run (R.step G).full (λd Y w H2 s2 R2 hw=>?_) (λC c H' s'=>?_) (λc=>?_)
  ·rw[Y]at b;cases d with
   |int z =>have M:=hw.ofInt;subst M;refine⟨n,z,rfl,rfl,?_⟩;have l:=R.step (G.trans s2);obtain⟨v3,e3,Z⟩:=l.pl i _ hi e;obtain⟨rfl,m,p,r,N,s⟩:=Z.atObj;have h:H2 a=some (.ins C m p):=(aS r).2;have P:a∉A++A0:=(aS r).1;refine⟨m,p,h,by rw[s.len,J6];exact B,?_⟩;exact b A σ _ (l.mutH h (hn a ha) (iR x) uP (BE P h N S y s))
   |_=>exact b.elim
  ·rw[c]at b;exact b H' (R.same.trans (G.trans s'))
  ·rw[c]at b;exact b
 ·rw[e2]at c;cases c
 ·rw[e2]at c;cases c
end
def spM (K:PySem.W.Frag) (C:Addr) (g:List (Str×PyData)->Option (List (Str×PyData))):Sp:=λvs H Q E=>∃A a fds b,vs=[.ref a]/\Ls H A/\Is K (del H A) (bW C a fds) (.ref a)/\fo fds=true/\fds.length<1000/\g fds=some b /\
 ∀H',ao (del H [a]) H'->Is K (del H' A) (bW C a b) (.ref a)->Q .non H'
structure iT (P:Program) (w:World) (K:PySem.W.Frag) (mg:Str->Option Value) (base:Heap) (k:Nat) (C:Addr) (m:Str) (g:List (Str×PyData)->Option (List (Str×PyData))):Prop where
 ex:∃f fd ps,Cls K C/\Meth K C m f/\fD P w K mg base (CXW P w) k f fd ps (spM K C g)/\Binds K fd ps []
theorem pE {K:PySem.W.Frag} {H:Hp} {f:Str}:∀{fds:List (Str×PyData)} {gs:List (Str×V)},Isk K H (fds.map λp=>(.str p.1,p.2)) gs->my f fds=none->gs.lookup f=none
 |[],gs,h,_=>by rw[L4]at h;unfold Isk at h;rw[h];rfl
 |(g,x)::r,gs,h,e=>by
  rw[J5]at h;unfold Isk at h;obtain⟨g',u,gs',rfl,e2,h1,h2⟩:=h;injection e2 with e2
  subst e2;unfold my at e;rw[Kj];by_cases z:g=f
  ·rw[if_pos z]at e;cases e
  ·rw[if_neg z]at e;rw[show (f==g)=false by simpa using λq=>z q.symm];exact pE h2 e
def jS (as:List Addr) (C:Addr) (m:Str) (i:Nat) (g:List (Str×PyData)->Option (List (Str×PyData))):Ds->Sr:=λδ=>match mn as C i δ with
 |some (a,fds)=>if my m fds=none then (match g fds with
  |some fds'=>.nx (jY a (bW C a fds') δ)
  |none=>.no) else .no
 |none=>.no
section
variable {E:XK} {o:Expr} {apos:Pos}
theorem zV {k:Nat} {pl:Sem Bool} (D:iT X.prog X.w X.K X.mg X.base k C m g) (I:bU j X.A) (J:Passes (CXW X.prog X.w) X E) (L:PD X E o (af i)) (p:k<=j) (hi:i∉O)
  (M:eval (.Call (.Attribute o m apos) [] [] pos) X.env=(do
   let ov <-eval o X.env
   standAt apos.atName
   let (f,first) <-holding [ov] (getMethod ov m pl)
   callWith pos f first (backTo pos (starEach [] X.env)) (backToKw pos (keywordEach [] X.env))))
  (N:swapsWith (.Call (.Attribute o m apos) [] [] pos) none spos.line X.env=pure false) :
  PSN as X E O (.Expr (.Call (.Attribute o m apos) [] [] pos) spos) (jS as C m i g):=by
 obtain⟨f,fd,ps,cl,hm,F,P⟩:=D.ex;refine (m8 (uy L cl hm F (I.mono p) P .nil J M) N).imp λD σ H r=>?_
 obtain⟨H0,A0,A,δ,hn,R,b⟩:=r;unfold jS at b;split at b
 case h_2=>exact b.elim
 rename_i a fds q;obtain⟨e,ha,s,u,v⟩:=k6 q;split at b
 case isFalse=>exact b.elim
 rename_i x;split at b
 case h_2=>exact b.elim
 rename_i h Q;have e2:af i δ=.ok (bW C a fds):=by unfold af;rw[e]
 refine eD.run R.full (λd2 l v2 H1 S R1 y=>?_) (λC n H' s'=>?_) (λn=>?_)
 ·rw[e2]at l;cases l;obtain⟨rfl,dx,gs,T,hl,p⟩:=y.atObj;have c:=R.step S;obtain⟨v3,e3,G⟩:=c.pl i _ hi e;obtain⟨rfl,dx',gs',z,hl',hk'⟩:=G.atObj;refine⟨a,dx,gs,rfl,(aS T).2,pE p x,?_⟩;refine⟨A++A0,a,fds,h,rfl,c.lsA,G,u,v,Q,λH' U B=>?_⟩;exact b A σ H' (c.mutH (aS z).2 (hn a ha) (iR s) U B)
 ·rw[e2]at n;cases n
 ·rw[e2]at n;cases n
end
theorem iT.of {p:Str} {k:Nat} (F:Fun K m qual st f fd) (S:cB N [p] (ax st)) (b:Binds K fd [p] []) (cl:Cls K C) (hm:Meth K C m f)
  (body:∀(as:List Addr) (cdv:Value) (A:Around) (outer:List Env) (s:Shared) (H:Hp) (E:XK),bU k (A.deeper (envOfC qual (ax st) s.heap.objs.size f cdv))->PBN as (cH (CXW P w) P w K mg base N qual (ax st) f cdv A outer s H E) E [] (bK st) (G as))
  (L:∀a fds c,fo fds=true->fds.length<1000->g fds=some c->∃δ,G [a] (some (bW C a fds)::List.replicate (N.length-1) none)=.nx δ/\δ[0]?=some (some (bW C a c))):iT P w K mg base (k+1) C m g:=by
 refine⟨f,fd,[p],cl,hm,mW F S (λvs H Q E h=>?_) (λcdv A outer s H vs Q E M h=>?_),b⟩
 ·obtain⟨A,a,fds,c,rfl,_⟩:=h;rfl
 ·obtain⟨A0,a,fds,c,rfl,I,hi,n,r,x,o⟩:=h;obtain⟨_,dx,gs,O,hl,hk⟩:=hi.atObj;have ha:=aS O;obtain⟨δ,e1,e2⟩:=L a fds c n r x;have l:bf K H A0 H [] [] (some (bW C a fds)::List.replicate (N.length-1) none) (L2.start N [.ref a]):=bf.start (ps:=[p]) (ds:=[bW C a fds]) I (bT hi cq) rfl (λi h=>by cases h);have y:Ls (del H [a]) A0:=λb j=>by
   obtain⟨xs,e,q⟩:=I b j;exact⟨xs,by
    have B:b∉[a]:=λz=>ha.1 (by rw[<-JW.mp z];exact j)
    rw[aB B];exact e,q⟩
  refine⟨_,body [a] cdv A outer s H E M,del H [a],A0,[],_,λb j=>by rw[JW.mp j];exact eQ (JW.mpr rfl),⟨av,y,λb j=>(K7 j).elim,l.ls,l.len,l.pl,l.own,l.inj⟩,?_⟩;rw[e1];intro A' σ' H' J;refine o H' J.same ?_;obtain⟨v,_,h2⟩:=J.pl 0 _ (by simp) e2;have D:=h2.same (H':=del H' A0) (λb u e=>by obtain⟨R,T⟩:=aS e;rw[aB (λz=>R (JS _ z))];exact T)
  rw[D.atObj.1]at D;exact D
def JI (C:Addr) (names:List Str) (tl:List (Str×Int)):Sp:=λvs H Q _=>∃(x dx:Addr) (args:List V),vs=.ref x::args/\args.length=names.length/\H x=some (.ins C dx []) /\
 ∀H':Hp,(∀b,b≠x->H' b=H b)->H' x=some (.ins C dx (names.zip args++tl.map λp=>(p.1,.int p.2)))->Q .non H'
structure MkD (P:Program) (w:World) (K:PySem.W.Frag) (mg:Str->Option Value) (base:Heap) (k:Nat) (x:Str) (C:Addr) (names:List Str) (tl:List (Str×Int)):Prop where
 ex:∃f fd ps,Mk K C f/\fD P w K mg base (CXW P w) k f fd ps (JI C names tl)/\Binds K fd ps []/\mg x=some (.ref C)
def tlD (tl:List (Str×Int)):List (Str×PyData):=tl.map λp=>(p.1,.int p.2)
theorem AL {K:PySem.W.Frag} {H:Hp}:∀tl:List (Str×Int),Isk K H ((tlD tl).map λp=>(.str p.1,p.2)) (tl.map λp=>(p.1,.int p.2))
 |[]=>mY
 |p::r=>dB bB (AL r)
theorem xi {K:PySem.W.Frag} {H:Hp} {e:List (PyData×PyData)} {gs:List (Str×V)} (h2:Isk K H e gs):∀{d:List (PyData×PyData)} {fs:List (Str×V)},Isk K H d fs->Isk K H (d++e) (fs++gs)
 |[],fs,h=>by unfold Isk at h;subst h;exact h2
 |(k,x)::r,fs,h=>by unfold Isk at h;obtain⟨f,v,fs',rfl,rfl,h1,a⟩:=h;exact dB h1 (xi h2 a)
theorem oX {f:Str} {b:List (Str×V)} (c:b.lookup f=none):∀{a:List (Str×V)},a.lookup f=none->(a++b).lookup f=none
 |[],_=>c
 |(g,x)::r,h=>by
  rw[Ku,Kj];rw[Kj]at h;cases q:(f==g) with
  |true=>rw[q]at h;cases h
  |false=>rw[q]at h;exact oX c h
theorem E3 {f:Str}:∀{tl:List (Str×Int)},(f∉tl.map (·.1))->(tl.map λp=>((p.1,V.int p.2):Str×V)).lookup f=none
 |[],_=>rfl
 |p::r,h=>by rw[J5,Kj,show (f==p.1)=false by simpa using λq=>h (by rw[q];exact J9)];exact E3 λq=>h (J8 _ q)
def eMk (K:PySem.W.Frag) (E:XK) (C:Addr) (names:List Str) (tl:List (Str×Int)) (gs:Ds->Rs (List PyData)):TE:=λσ H Q=>∃A δ,cT K H A δ σ/\(match gs δ with
 |.ok ds=>ds.length=names.length/\∀x H',H x=none->ao H H'->Is K (del H' A) (bW C x (names.zip ds++tlD tl)) (.ref x)->Q (.ref x) H'
 |.rz C'=>∀H',ao H H'->E (.ref C') none H'
 |.no=>False)
section
variable {E:XK} {es:List Expr}
theorem Ip {k:Nat} (D:MkD X.prog X.w X.K X.mg X.base k x C names tl) (s:bU j X.A) (u:Passes (CXW X.prog X.w) X E) (ha:PAD X E (e::es) gs) (v:k+1<=j:=by decide) (y:Gl X x:=by rfl)
  (a:(x==("__debug__":Str))=false:=by decide) (z:starEach (e::es) X.env=(false,eval e X.env)::starEach es X.env:=by rfl) (c:(backTo pos (starEach es X.env)).any (·.1)=false:=by rfl) (hn:("@":Str)∉names:=by decide) (g:("@":Str)∉tl.map (·.1):=by decide) :
  PE X (.Call (.Name x p) (e::es) [] pos) (eMk X.K E C names tl gs):=by
 obtain⟨f,fd,ps,M,F,B,hm⟩:=D.ex;refine (ED M F (s.mono v) y hm B .nil u ha.1 a z c).imp λσ H Q h=>?_
 obtain⟨A,δ,R,o⟩:=h;refine aD.run R (λds e1 vs H1 n G h1=>?_) (λC i H' s'=>?_) (λi=>?_)
 ·rw[e1]at o;obtain⟨hl,o⟩:=o;intro x dx nx l ne;refine⟨x,dx,vs++[],rfl,by rw[KY,h1.length,hl],ay,λH' k1 k2=>⟨rfl,?_⟩⟩;rw[KY]at k2;have r:ao H1 H':=λb q m=>by have n1:b≠x:=aG m nx;rw[k1 b n1,au n1,au (aG m l)];exact m
  refine o x H' (n.free nx) (n.trans r) (B3 (dx:=dx) (fs:=names.zip vs++tl.map λp=>(p.1,.int p.2)) ?_ (oX (E3 g) (BX hn)) ?_)
  ·rw[aB (G.ls.new nx)];exact k2
  ·rw[Kz];exact xi (AL tl) (xc (h1.same r.del))
 ·rw[i]at o;exact o H' s'
 ·rw[i]at o;exact o
end
def jz (C:Addr) (names:List Str) (tl:List (Str×Int)) (as:List Addr) (a:List (List PyData)):List PyData:=(as.zip a).map λp=>bW C p.1 (names.zip p.2++tlD tl)
def lJ (K:PySem.W.Frag) (E:XK) (C:Addr) (names:List Str) (tl:List (Str×Int)) (n0:Nat) (gi gs:Ds->Rs (List PyData)) (tgt:PyData->Option Ds):TE:=λσ H Q=>∃A δ,cT K H A δ σ/\δ.length=n0/\∃ds b,gi δ=.ok ds/\ds.length<=1000000/\b.length=ds.length /\
 (∀(i:Nat) d,ds[i]?=some d->∃c fs,tgt d=some c/\b[i]?=some fs/\gs (δ++c)=.ok fs/\fs.length=names.length) /\
 ∀(as:List Addr) (D:Addr) (H':Hp),as.length=ds.length->as.Nodup->(∀a∈as,H a=none)->ao H H'->Is K (del H' A) (.list (jz C names tl as b)) (.ref D)->Q (.ref D) H'
theorem E8 {E:XK} {own:List Str} {g:TG} (hT:TgD K n0 own.length tgt g) :
  ∀σ H Q,lJ K E C names tl n0 gi gs tgt σ H Q->tLC own.length (iD K E gi) g tw (eMk K E0 C names tl gs) σ H Q:=by
 intro σ H Q ⟨A,δ,R,Y,ds,j,q,hz,Z,hel,o⟩;have hσ:σ.length=n0:=by rw[<-R.len];exact Y
 refine⟨A,δ,R,?_⟩;rw[q];intro J H1 s1 hJ D S;have T:=R.same s1;have nD:D∉A:=T.ls.new S;refine⟨λi m ys H'=>m=ds.length-i/\i<=ds.length/\ao H1 H'/\H' D=some (.lst ys)/\∃as:List Addr,as.length=i/\ys=as.map V.ref/\as.Nodup/\(∀a∈as,H1 a=none/\a≠D/\∃u,H' a=some u)/\Iss K (del H' (D::A)) (jz C names tl as (j.take i)) ys,
  ⟨ds.length,by simp,Ks _,bp S,ay,[],rfl,rfl,Lw,λa h=>(K7 h).elim,cq⟩,?_⟩
 rintro i m ys H' ⟨rfl,hi,B,hl,as,n,rfl,nd,l,c3⟩
 refine⟨hl,?_⟩;have sG:ao (del H1 A) H':=av.trans B;have G:∀b∈D::A,(del H1 A) b=none:=λb r=>by
  rcases J7.mp r with z|z
  ·rw[z,aB nD];exact S
  ·exact eQ z
 obtain⟨jg,js,jy⟩:=hJ H' (D::A) sG (λb r=>by
  rcases J7.mp r with z|z
  ·exact⟨_,by rw[z];exact hl,rfl⟩
  ·exact (T.ls.same B) b z) G
 by_cases hlt:i<ds.length
 ·refine .inr ⟨jg i hlt,λx H2 σ' I y=>?_⟩;obtain⟨s2,d,ed,hd⟩:=jy i x H2 hlt y;obtain⟨ow,fs,et,ef,eg,hfs⟩:=hel i d ed;have l2:H2 D=some (.lst (as.map V.ref)):=s2 _ _ hl;have L:Ls H2 (D::A):=λb r=>by
   rcases J7.mp r with z|z
   ·exact⟨_,by rw[z];exact l2,rfl⟩
   ·exact (T.ls.same (B.trans s2)) b z
  obtain⟨hol,hgo⟩:=hT d x σ σ' H2 (D::A) (λs H2=>tw s H2 λb H3 =>
   if b=true then eMk K E0 C names tl gs s H3 λv F=>F D=some (.lst (as.map V.ref))/\(as.map V.ref).length<sizeLine/\(∃f,s=σ++f/\f.length=own.length)/\∃m',m' < ds.length-i/\_
   else (∃f,s=σ++f/\f.length=own.length)/\∃m',m' < ds.length-i/\_) ow hσ I L hd et
  refine hgo λvs M N=>?_
  have O:ao (del H1 A) (del H2 (D::A)):=jo (sG.trans s2) G;have RE:cT K H2 (D::A) (δ++ow) (σ++vs):=by
   refine⟨L,by rw[K0,K0,R.len,M,hol],λk e U=>?_⟩;by_cases hk:k<δ.length
   ·rw[K8 hk]at U;obtain⟨u,e1,w⟩:=T.get k e U;exact⟨u,by rw[K8 (by rw[<-R.len];exact hk)];exact e1,w.same O⟩
   ·rw[Kc (by omega)]at U;obtain⟨u,e1,w⟩:=N _ e U;exact⟨u,by rw[Kc (by rw[<-R.len];omega),<-R.len];exact e1,w⟩
  unfold tw;have hI:∀{p q:Prop},p->(if true=true then p else q):=λh=>by rw[if_pos rfl];exact h
  refine hI ?_;refine⟨D::A,δ++ow,RE,?_⟩;rw[eg];refine⟨hfs,λa F na X ha=>?_⟩;have l4:F D=some (.lst (as.map V.ref)):=X _ _ l2;have P:a≠D:=λz=>by rw[z,l2]at na;cases na
  have naA:a∉as:=λz=>by obtain⟨_,_,u,w⟩:=l a z;rw[s2 _ _ w]at na;cases na
  have dU:del (upd F D (.lst (as.map V.ref++[.ref a]))) (D::A)=del F (D::A):=hV (J9);have h4a:∃u,F a=some u:=by obtain⟨_,dx,gs',hp,_⟩:=ha.atObj;exact⟨_,(aS hp).2⟩
  have hex:jz C names tl (as++[a]) (j.take (i+1))=jz C names tl as (j.take i)++[bW C a (names.zip fs++tlD tl)]:=by
   have ht:j.take (i+1)=j.take i++[fs]:=by rw[List.take_add_one,ef];rfl
   unfold jz;rw[ht,List.zip_append (by rw[n,List.length_take];omega),Kz];rfl
  refine⟨l4,by rw[sizeLine_eq,J6,n];omega,⟨vs,rfl,M⟩,ds.length-(i+1),by omega,rfl,hlt,?_,ay,as++[a],by rw[K0,n];rfl,by rw[Kz];rfl,?_,λb r=>?_,?_⟩
  ·exact ao.put ((B.trans s2).trans X) S
  ·exact Ly.mpr ⟨nd,by simp,λb r c hc e=>by rw[JW.mp hc]at e;exact naA (e▸r)⟩
  ·rcases Ki.mp r with z|z
   ·obtain⟨h1,h2,u,w⟩:=l b z;refine⟨h1,h2,u,?_⟩;rw[au h2];exact X _ _ (s2 _ _ w)
   ·cases JW.mp z;obtain⟨u,w⟩:=h4a;refine⟨(B.trans s2).free na,P,u,?_⟩;rw[au P];exact w
  ·rw[dU,hex];exact (c3.same (ao.del (s2.trans X))).append (ix ha)
 ·have e:i=ds.length:=by omega
  subst e;rw[<-Z,List.take_length]at c3;refine .inl ⟨js,o as D H' (by rw[n]) nd (λa ha=>s1.free (l a ha).1) (s1.trans B) ?_⟩;have hs:ao (del H' (D::A)) (del H' A):=λb u eb=>by obtain⟨q1,q2⟩:=aS eb;rw[aB (λz=>q1 (J8 _ z))];exact q2
  exact gx (by rw[aB nD];exact hl) (c3.same hs)
section
variable {E:XK} {ss:List Stmt}
theorem Ey {e:Ds->Sr} (u:PS X st (wA (lJ X.K E C names tl n0 gi gs tgt) (gJ i))) (f:∀as,PBN as X E O ss (G as)) (hi:i∉O)
  (g:∀δ,e δ≠.no->∃d ds b,e δ=.rt d/\i<δ.length/\δ.length=n0/\gi (mask O δ)=.ok ds/\ds.length<=1000000/\b.length=ds.length/\(∀(i:Nat) d,ds[i]?=some d->∃r fs,tgt d=some r/\b[i]?=some fs/\gs (mask O δ++r)=.ok fs/\fs.length=names.length) /\
   ∀as:List Addr,as.length=ds.length->as.Nodup->G as (δ.set i (some (.list (jz C names tl as b))))=.rt d):PBD X E O (st::ss) e:=by
 have h2:PSs X ss (λD σ H=>∃as,sDN as X.K E O (G as) D σ H):=λpins s σ H D I j=>(by obtain⟨as,h⟩:=j;exact f as pins s σ H D I h)
 refine (cu u h2).imp λD σ H l=>?_
 obtain⟨H0,A0,A,δ,R,o⟩:=l;by_cases z:e δ=.no
 ·rw[z]at o;exact o.elim
 obtain⟨d,ds,b,e1,hl,hn,e2,v,w,m,x⟩:=g δ z;rw[e1]at o;have n:(mask O δ).length=n0:=by rw[uX];exact hn
 refine⟨A++A0,mask O δ,R.part,n,ds,b,e2,v,w,m,λas Dd H' p nd c y q=>?_⟩;refine⟨as,H0,A0,A,_,λa ha=>R.same.free (c a ha),(R.step y).set hi hl q,?_⟩;rw[x as p nd];exact o
end
section
variable {κ:Type} [DecidableEq κ]
def jr (kvs:List (κ×V)) (k:κ):Option V:=(kvs.find? λa=>decide (a.1=k)).map (·.2)
def putK (kvs:List (κ×V)) (k:κ) (v:V):List (κ×V) :=
 if (kvs.any λa=>decide (a.1=k))=true then kvs.map (λa=>if a.1=k then (a.1,v) else a) else kvs++[(k,v)]
theorem nQ {p:κ×V} {r:List (κ×V)} {k:κ} (e:p.1=k):jr (p::r) k=some p.2:=by simp[jr,Ko,e]
theorem n9 {p:κ×V} {r:List (κ×V)} {k:κ} (e:¬ p.1=k):jr (p::r) k=jr r k:=by simp[jr,Ko,e]
theorem u4 (k:κ):∀kvs:List (κ×V),(kvs.any λa=>decide (a.1=k))=(jr kvs k).isSome
 |[]=>rfl
 |p::r=>by
  rw[L0];by_cases e:p.1=k
  ·simp only[nQ e,decide_eq_true e,Bool.true_or,Option.isSome_some]
  ·rw[n9 e,decide_eq_false e,Bool.false_or];exact u4 k r
theorem mB (kvs:List (κ×V)) (k:κ) (v:V):(putK kvs k v).length<=kvs.length+1:=by
 unfold putK;split
 ·rw[J6];omega
 ·rw[K0,Ka,KQ];omega
theorem iN.isSome_eq {o:Option V} {u:Option Value} (r:iN o u):o.isSome=u.isSome:=by
 cases o with
 |none=>cases u with
  |none=>rfl
  |some _=>exact (show False from r).elim
 |some _=>cases u with
  |none=>exact (show False from r).elim
  |some _=>rfl
theorem iN.getD {o:Option V} {u:Option Value} {d:V} {d':Value} (r:iN o u) (a:RelV d d'):RelV (o.getD d) (u.getD d'):=by
 cases o with
 |none=>cases u with
  |none=>exact a
  |some _=>exact (show False from r).elim
 |some _=>cases u with
  |none=>exact (show False from r).elim
  |some _=>exact r
theorem KV.val {kvs:List (κ×V)} {vs:List (κ×Value)} (r:KV kvs vs) (k:κ):iN (jr kvs k) (valueAt vs k):=by
 unfold KV at r
 induction r with
 |nil=>exact True.intro
 |@cons p q ps qs h t ih =>
  obtain⟨h1,h2⟩:=h;by_cases e:p.1=k
  ·have a:q.1=k:=h1.symm.trans e;have b:valueAt (q::qs) k=some q.2:=by simp[valueAt,Ko,a]
   rw[nQ e,b];exact h2
  ·have a:¬ q.1=k:=λz=>e (h1.trans z)
   have b:valueAt (q::qs) k=valueAt qs k:=by simp[valueAt,Ko,a]
   rw[n9 e,b];exact ih
theorem KV.any {kvs:List (κ×V)} {vs:List (κ×Value)} (r:KV kvs vs) (k:κ):(kvs.any λa=>decide (a.1=k))=vs.any λa=>decide (a.1=k):=by
 unfold KV at r
 induction r with
 |nil=>rfl
 |cons h t ih=>rw[L0,L0,ih,h.1]
theorem KV.repl {kvs:List (κ×V)} {vs:List (κ×Value)} (r:KV kvs vs) (k:κ) (b:RelV y u) :
  KV (kvs.map λa=>if a.1=k then (a.1,y) else a) (vs.map λa=>if a.1=k then (a.1,u) else a):=by
 unfold KV at r ⊢
 induction r with
 |nil=>exact .nil
 |@cons p q ps qs h t ih =>
  rw[J5,J5];refine .cons ?_ ih;obtain⟨h1,h2⟩:=h;by_cases e:p.1=k
  ·rw[if_pos e,if_pos (h1.symm.trans e)];exact⟨h1,b⟩
  ·rw[if_neg e,if_neg (λz=>e (h1.trans z))];exact⟨h1,h2⟩
theorem KV.put {kvs:List (κ×V)} {vs:List (κ×Value)} (r:KV kvs vs) (k:κ) (a:RelV y u):KV (putK kvs k y) (stored vs k u):=by
 unfold putK stored;rw[r.any k];by_cases e:(vs.any λb=>decide (b.1=k))=true
 ·rw[if_pos e,if_pos e];exact r.repl k a
 ·rw[if_neg e,if_neg e];exact Paired.snoc r ⟨rfl,a⟩
theorem KV.length {kvs:List (κ×V)} {vs:List (κ×Value)} (r:KV kvs vs):kvs.length=vs.length:=Paired.length r
end
theorem xD {k:Key} (r:RelV (kV k) u):(cO P w).is k u=true:=by
 cases k with
 |inl i=>obtain⟨t,e⟩:=(show ∃t,u=Value.int i t from r);subst e;exact ua P w i t
 |inr x=>obtain⟨t,e⟩:=(show ∃t,u=Value.str x t from r);subst e;exact tM P w x t
theorem ql {P:Program} {w:World}:∀{ks:List Key} {us:List Value},Vals (ks.map kV) us->ItemsAre (cO P w) ks us
 |[],_,r=>by rw[L4]at r;cases r;exact .nil
 |k::ks,_,r=>by
  rw[J5]at r;cases r with
  |cons h t=>exact .cons (xD h) (ql t)
abbrev KT (H:Hp):List (List Key×V)->List (List Key×Addr×Value)->Prop:=Paired λp q=>p.1=q.1/\H q.2.1=some (.tup (p.1.map kV))/\RelV p.2 q.2.2
theorem KT.val (r:KT H kvs xs) (k:List Key):iN (jr kvs k) ((atKey xs k).map (·.2)):=by
 induction r with
 |nil=>exact True.intro
 |@cons p q ps qs h t ih =>
  obtain⟨h1,_,h2⟩:=h;by_cases e:p.1=k
  ·have a:q.1=k:=h1.symm.trans e;have b:atKey (q::qs) k=some q.2:=by simp[atKey,Ko,a]
   rw[nQ e,b];exact h2
  ·have a:¬ q.1=k:=λz=>e (h1.trans z)
   have b:atKey (q::qs) k=atKey qs k:=by simp[atKey,Ko,a]
   rw[n9 e,b];exact ih
theorem KT.repl (r:KT H kvs xs) (k:List Key) (b:RelV y u) :
  KT H (kvs.map λa=>if a.1=k then (a.1,y) else a) (xs.map (putAt k u)):=by
 induction r with
 |nil=>exact .nil
 |@cons p q ps qs h t ih =>
  rw[J5,J5];refine .cons ?_ ih;obtain⟨h1,h2,c⟩:=h;unfold putAt;by_cases e:p.1=k
  ·rw[if_pos e,if_pos (h1.symm.trans e)];exact⟨h1,h2,b⟩
  ·rw[if_neg e,if_neg (λz=>e (h1.trans z))];exact⟨h1,h2,c⟩
theorem KT.put (r:KT H kvs xs) (k:List Key) (c:H b=some (.tup (k.map kV))) (a:RelV y u) :
  KT H (putK kvs k y) (storedH xs k b u):=by
 have e:(kvs.any λf=>decide (f.1=k))=(atKey xs k).isSome:=by rw[u4,(r.val k).isSome_eq,Option.isSome_map]
 unfold putK storedH;rw[e];by_cases q:(atKey xs k).isSome=true
 ·rw[if_pos q,if_pos q];exact r.repl k a
 ·rw[if_neg q,if_neg q];exact Paired.snoc r ⟨rfl,c,a⟩
theorem KT.keeps (r:KT H kvs xs) (a:∀b ys,H b=some (.tup ys)->H' b=some (.tup ys)):KT H' kvs xs :=
 Paired.mapP r λ_ _ z=>⟨z.1,a _ _ z.2.1,z.2.2⟩
section
theorem ES {u:HO} (ok:HOk P w H h) (e:Rd H a u):cE P w H h a u:=e.ok ok
theorem sS {kvs:List (Key×V)} (ok:HOk P w H h) (e:Rd H a (.dK kvs)):kvs.length<=sizeLine/\(a==sysModules)=false/\∃vs,KV kvs vs/\h.DictOf (cO P w) a vs :=
 show cE P w H h a (.dK kvs) from ES ok e
theorem HR {kvs:List (Key×V)} (ok:HOk P w H h) (e:H a=some (.dK kvs)):kvs.length<=sizeLine/\(a==sysModules)=false/\∃vs,KV kvs vs/\h.DictOf (cO P w) a vs:=sS ok (.inl e)
theorem sf {ks:List Key} (ok:HOk P w H h) (e:H a=some (.tup (ks.map kV))):(tupleKind (cO P w)).is h ks a:=by
 obtain⟨_,b,r,o,h1,h2,_,n,c⟩:=(show cE P w H h a (.tup (ks.map kV)) from ok a _ e)
 exact⟨o,b.toArray,n,h1,h2,c,by simpa using ql r⟩
theorem uq (ok:HOk P w H h) (e:Rd H a (.dT kvs)):kvs.length<=sizeLine/\(a==sysModules)=false /\
  ∃xs,KT H kvs xs/\h.DictOfH (tupleKind (cO P w)) a xs:=by
 obtain⟨z,y,xs,r,o,es,c,h1,h2,f,g,i⟩:=(show cE P w H h a (.dT kvs) from ES ok e)
 refine⟨z,y,xs,r,o,es,c,h1,h2,f,g,λx b=>?_,i⟩;have all:∀{l:List (List Key×V)} {m:List (List Key×Addr×Value)},KT H l m->∀x∈m,(tupleKind (cO P w)).is h x.1 x.2.1:=by
  intro l m q
  induction q with
  |nil=>intro x b;exact nomatch b
  |@cons p q ps qs hq t ih =>
   intro x b;rcases J7.mp b with e|b
   ·subst e;exact sf ok (by rw[<-hq.1];exact hq.2.1)
   ·exact ih x b
 exact all r x b
theorem HX (ok:HOk P w H h) (e:H a=some (.dT kvs)):kvs.length<=sizeLine/\(a==sysModules)=false /\
 ∃xs,KT H kvs xs/\h.DictOfH (tupleKind (cO P w)) a xs:=uq ok (.inl e)
end
def nW (H:Hp) (a:Addr) (y:V) (r:Option V):Prop :=
 (∃kvs k,Rd H a (.dK kvs)/\y=kV k/\r=jr kvs k)\/∃kvs k b,Rd H a (.dT kvs)/\y=.ref b/\H b=some (.tup (k.map kV))/\r=jr kvs k
def tN (H:Hp) (a:Addr) (y v:V) (H':Hp):Prop :=
 (∃kvs k,H a=some (.dK kvs)/\y=kV k/\kvs.length<sizeLine/\H'=upd H a (.dK (putK kvs k v))) \/
 ∃kvs k b,H a=some (.dT kvs)/\y=.ref b/\H b=some (.tup (k.map kV))/\kvs.length<sizeLine/\H'=upd H a (.dT (putK kvs k v))
theorem nW.k {kvs:List (Key×V)} {k:Key} (e:H a=some (.dK kvs)):nW H a (kV k) (jr kvs k):=.inl ⟨kvs,k,.inl e,rfl,rfl⟩
theorem nW.t {k:List Key} (e:H a=some (.dT kvs)) (c:H b=some (.tup (k.map kV))):nW H a (.ref b) (jr kvs k):=.inr ⟨kvs,k,b,.inl e,rfl,c,rfl⟩
theorem tN.k {kvs:List (Key×V)} {k:Key} (e:H a=some (.dK kvs)) (hl:kvs.length<sizeLine):tN H a (kV k) v (upd H a (.dK (putK kvs k v))):=.inl ⟨kvs,k,e,rfl,hl,rfl⟩
theorem tN.t {k:List Key} (e:H a=some (.dT kvs)) (c:H b=some (.tup (k.map kV))) (hl:kvs.length<sizeLine) :
 tN H a (.ref b) v (upd H a (.dT (putK kvs k v))):=.inr ⟨kvs,k,b,e,rfl,c,hl,rfl⟩
section
variable {r:Value} {o:Option V} {A:Around}
theorem Inv.big (I:Inv X pins σ H s):sysModules<s.heap.objs.size:=by have h:mainGlobals<s.heap.objs.size:=(I.mod.glob.keeps I.bk).lt;exact Nat.lt_trans (by decide) h
theorem yY (n:A.units+1<cLine) (I:Inv X pins σ H s) (g:nW H a y (some v)) (m:RelV y u) (h:∀f s',Inv X pins σ H s'->RelV v f->Q f s') :
  wpAny (model X.prog X.w) A (getItem (.ref a) u) Q E s:=by
 rcases g with⟨kvs,k,e,i,l⟩|⟨kvs,k,b,e,i,q,l⟩
 ·subst i;obtain⟨z,hd,vs,rel,dd⟩:=sS I.hok e;obtain⟨f,hw,c⟩:=iN.some_of (v:=v) (o:=valueAt vs k) (by rw[l];exact rel.val k);exact wpAny_getItem_of (xD m) dd.mapOf hw (h f _ (I.tok _) c)
 ·subst i;cases (show u=Value.ref b from m);obtain⟨z,hd,xs,rel,dd⟩:=uq I.hok e;obtain⟨f,hw,c⟩:=iN.some_of (v:=v) (o:=(atKey xs k).map (·.2)) (by rw[l];exact rel.val k);obtain⟨p,r,j⟩:=KN.mp hw;refine wpAny_getItem_heap (tupleKind_room_in1 n) (sf I.hok q) dd r ?_;rw[j];exact h f _ (I.tok _) c
theorem xj {t':Nat} {c:HO} (I:Inv X pins σ H s) (f:Mut (H a)) (g:Heap.SameBut a s.heap h') (h:∃q,h'.get? a=some q) (new:cE X.prog X.w (upd H a c) h' a c) :
  Inv X pins σ (upd H a c) { s with heap:=h',toks:=t' } :=
 I.write (x:=a) (e:=a) f (.inl rfl) (λb q i z=>(g.2 b i).trans z) h new
theorem Fz {kvs:List (Key×V)} {vs:List (Key×Value)} (z:kvs.length<=sizeLine) (hd:(a==sysModules)=false) (rel:KV kvs vs) (dd:h'.DictOf (cO P w) a vs) :
 cE P w H' h' a (.dK kvs):=⟨z,hd,vs,rel,dd⟩
theorem yL {Q:Unit->Shared->Prop} (D:A.units+1<cLine) (I:Inv X pins σ H s) (g:tN H a y v H') (p:RelV y u) (x:RelV v r) (h:∀s',Inv X pins σ H' s'->Q () s') :
  wpAny (model X.prog X.w) A (setItem (.ref a) u r) Q E s:=by
 rcases g with⟨kvs,k,e,j,l,m⟩|⟨kvs,k,b,e,j,B,l,m⟩
 ·subst j m;obtain⟨z,hd,vs,rel,dd⟩:=HR I.hok e;have n:vs.length<=sizeLine:=by rw[<-rel.length];exact z
  have hl:(putK kvs k v).length<=sizeLine:=by have:=mB kvs k v;omega
  refine wpAny_setItem_pairs (hsz:=n) (xD p) dd λh' f o=>h _ ?_
  have F:∃q,h'.get? a=some q:=let ⟨q,_,_,i,_⟩:=f;⟨q,i⟩;exact xj I (by rw[e];exact True.intro) o F (Fz hl hd (rel.put k x) f)
 ·subst j m;cases (show u=Value.ref b from p);obtain⟨z,hd,xs,rel,dd⟩:=HX I.hok e;have n:xs.length<=sizeLine:=by rw[<-Paired.length rel];exact z
  have hl:(putK kvs k v).length<=sizeLine:=by have:=mB kvs k v;omega
  refine wpAny_setItem_heap (hsz:=n) (tupleKind_room_in1 D) (sf I.hok B) dd λh' f o=>h _ ?_
  obtain⟨q,es,G,i,h2,J,K,_,L⟩:=f;refine xj I (by rw[e];exact True.intro) o ⟨q,i⟩ ⟨hl,hd,_,(rel.put k B x).keeps λc ys C=>?_,q,es,G,i,h2,J,K,L⟩;rw[au (HW C e (λz=>nomatch z))];exact C
end
section
variable {kvs:List (Key×V)} {k:Key} {A:Around}
end
def Fy (i:Expr):Prop:=∀a b,subscripted i false a b=operate [a,b] (getItem a b)
theorem C1 {A:Around} {value slice:Expr} {T id:String}
  (hl:typeLookup (.type T) "__getitem__"=pure (some (.builtin id))) (j:Fy slice)
  (h:wpAny (model prog w) A (eval value env) (λo c=>wpAny (model prog w) A (eval slice env) (λi a=>a.TypeIs o T/\wpAny (model prog w) A (getItem o i) Q E a) E c) E s) :
  wpAny (model prog w) A (eval (.Subscript value slice pos) env) Q E s:=by
 refine Subscript_ (wpAny_mono h (λo c h₁=>wpAny_mono h₁ (λi a b=>?_) λ_ _ x=>x) λ_ _ x=>x);obtain⟨g,b⟩:=b;unfold subscriptTail;refine wpAny_bind ?_;rw[getitemInPython_of_ne g.not_modules];refine wpAny_bind (wpAny_specialOf g hl ?_);have fin:wpAny (model prog w) A (subscripted slice false o i) (λr e=>wpAny (model prog w) A (letTemporaryGo value o r >>= λ_=>pure r) Q E e) E a:=by rw[j o i];exact wpAny_operating (wpAny_mono b (λr e f=>wpAny_bind (wpAny_letTemporaryGo (wpAny_pure f))) λ_ _ x=>x)
 first
  |exact wpAny_pure (wpAny_bind fin)
  |exact wpAny_bind (wpAny_pure (wpAny_bind fin))
  |exact wpAny_bind fin
theorem u9 {o:Option V} (I:Inv X pins σ H s) (g:nW H a y o):s.TypeIs (.ref a) "dict":=by
 rcases g with⟨kvs,k,e,_,_⟩|⟨kvs,k,b,e,_,_,_⟩
 ·obtain⟨_,_,vs,_,dd⟩:=sS I.hok e;exact dd.typeIs
 ·obtain⟨_,_,xs,_,dd⟩:=uq I.hok e;exact dd.typeIs
def IP (td ty:TE):TE:=λσ H Q=>td σ H λx H1=>ty σ H1 λy H2=>∃a v,x=.ref a/\nW H2 a y (some v)/\Q v H2
def HH (td ty tv:TE):TS:=λD σ H=>tv σ H λv H1=>td σ H1 λx H2=>ty σ H2 λy c=>∃a b,x=.ref a/\tN c a y v b/\D.nx σ b
section
variable {o i value:Expr} {tpos:Pos} {td ty tv:TE}
theorem Dq (f:X.A.units+1<cLine) (j:PE X o td) (hi:PE X i ty) (l:Fy i):PE X (.Subscript o i pos) (IP td ty):=by
 intro pins s σ H Q I h;refine C1 PySem.F.slot_dict_getitem.lookup l (thn (j pins s σ H _ I h) λu m b=>?_);obtain⟨x,H1,n,p,q⟩:=b;refine thn (hi pins m σ H1 _ n q) λiv s2 b=>?_
 obtain⟨y,H2,e,r,a,v,ex,g,w⟩:=b;subst ex;obtain rfl:u=Value.ref a:=p;exact⟨u9 e g,yY f e g r λw' s3 z c=>⟨v,H2,z,c,w⟩⟩
theorem xv (c:X.A.units+1<cLine) (e:PE X o td) (hi:PE X i ty) (hv:PE X value tv) (f:swapsWith value (some (.Subscript o i pos')) pos.line X.env=pure false) :
  PS X (.Assign [.Subscript o i pos'] value pos) (HH td ty tv):=by
 intro pins s σ H D I h;refine wpAny_Assign_Subscript (thn (hv pins s σ H _ I h) λr j b=>?_) f;obtain⟨v,H1,l,m,n⟩:=b;refine thn (e pins j σ H1 _ l n) λu s2 b=>?_
 obtain⟨x,H2,p,q,w⟩:=b;refine thn (hi pins s2 σ H2 _ p w) λiv s3 b=>?_
 obtain⟨y,H3,z,B,a,C,ex,g,E⟩:=b;subst ex;obtain rfl:u=Value.ref a:=q;exact yL c z g B m λs4 F=>⟨σ,C,F,E⟩
end
theorem A8 (h:Heap) (a:sysModules<h.objs.size):cE P w H (h.push { cls:=.type "dict",data:=.dict #[] }) h.objs.size (.dK []) :=
 ⟨Ks _,beq_eq_false_iff_ne.mpr (Ne.symm (JX a)),[],.nil,Heap.DictOf.new h⟩
theorem Bh (h:Heap) (a:sysModules<h.objs.size):cE P w H (h.push { cls:=.type "dict",data:=.dict #[] }) h.objs.size (.dT []) :=
 ⟨Ks _,beq_eq_false_iff_ne.mpr (Ne.symm (JX a)),[],.nil,_,#[],0,K2 _ rfl,⟨rfl,rfl,rfl⟩,rfl,rfl,Lw⟩
def Fi:TE:=λ_ H Q=>∀p,H p=none->Q (.ref p) (upd H p (.dK []))
def GO:TE:=λ_ H Q=>∀p,H p=none->Q (.ref p) (upd H p (.dT []))
section
theorem tq:PE X (.Dict [] [] pos) Fi:=λpins s σ H Q I h =>
 wpAny_Dict_empty ⟨.ref s.heap.objs.size,_,I.laid (a:=s.heap.objs.size) (o:=.dK []) (t':=s.toks) (λ_ _ q=>J1 _ q) (JU _) (A8 s.heap I.big),rfl,h _ (I.hok.fresh (JU _))⟩
theorem Ce:PE X (.Dict [] [] pos) GO:=λpins s σ H Q I h =>
 wpAny_Dict_empty ⟨.ref s.heap.objs.size,_,I.laid (a:=s.heap.objs.size) (o:=.dT []) (t':=s.toks) (λ_ _ q=>J1 _ q) (JU _) (Bh s.heap I.big),rfl,h _ (I.hok.fresh (JU _))⟩
end
structure M2 (X:Cx) (o:Expr) (m:Str) (apos:Pos) (e f:Expr) (cpos:Pos):Prop where
 base:attributeBase o m X.env (eval o X.env)=eval o X.env
 few:((backTo cpos (starEach [e,f] X.env)).all (λx=>!x.1)&&(backToKw cpos (keywordEach [] X.env)).all (λx=>x.1.isSome)
 &&decide (([e,f]:List Expr).length+([]:List Keyword).length+(if ([]:List Keyword).isEmpty then 0 else 1)<30))=true
 line:(apos.endLine==cpos.line)=true
 trees:backTo cpos (starEach [e,f] X.env)=[(false,eval e X.env),(false,eval f X.env)]
def HM (H:Hp) (a:Addr):Prop:=(∃kvs,Rd H a (.dK kvs))\/∃kvs,Rd H a (.dT kvs)
theorem G8 (I:Inv X pins σ H s) (d:HM H a) :
  s.TypeIs (.ref a) "dict"/\(∀b,Value.ref a=.ref b->∃c,s.heap.get? b=some c/\c.dict=none)/\(a==sysModules)=false:=by
 rcases d with⟨kvs,e⟩|⟨kvs,e⟩
 ·obtain⟨_,hd,vs,_,dd⟩:=sS I.hok e;refine⟨dd.typeIs,λb q=>?_,hd⟩;cases q;obtain⟨c,_,_,h1,h2,_⟩:=dd;exact⟨c,h1,h2.2.1⟩
 ·obtain⟨_,hd,xs,_,dd⟩:=uq I.hok e;refine⟨dd.typeIs,λb q=>?_,hd⟩;cases q;obtain⟨c,_,_,h1,h2,_⟩:=dd;exact⟨c,h1,h2.2.1⟩
section
variable {d:V} {r:Value} {o:Option V} {A:Around}
theorem Fo (m:A.units+1<cLine) (I:Inv X pins σ H s) (g:nW H a y o) (f:RelV y u) (i:RelV d r) (h:∀j s',Inv X pins σ H s'->RelV (o.getD d) j->Q j s') :
  wpAny (model X.prog X.w) A (call (.builtin "dict.get") [.ref a,u,r]) Q E s:=by
 rcases g with⟨kvs,k,e,c,l⟩|⟨kvs,k,b,e,c,n,l⟩
 ·subst c;obtain⟨z,hd,vs,rel,dd⟩:=sS I.hok e;refine call_meetsIn PySem.F.slot_dict_get dd.typeIs PySem.F.entry_dict_get (PySem.F.args_dict_get_3 _ _ _) (meets_dict_get_default (cO X.prog X.w) a (xD f) hd r) ⟨_,dd.mapOf,h _ _ (I.tok _) ?_⟩;rw[l];exact (rel.val k).getD i
 ·subst c;cases (show u=Value.ref b from f);obtain⟨z,hd,xs,rel,dd⟩:=uq I.hok e;refine call_meetsIn PySem.F.slot_dict_get dd.typeIs PySem.F.entry_dict_get (PySem.F.args_dict_get_3 _ _ _) (meetsH_dict_get_default (tupleKind (cO X.prog X.w)) a b hd r) ⟨tupleKind_room_in1 m,k,xs,sf I.hok n,dd,h _ _ (I.tok _) ?_⟩;rw[l];exact (rel.val k).getD i
end
def FZ (td ty tx:TE):TE:=λσ H Q=>td σ H λx H1=>∃a,x=.ref a/\HM H1 a/\ty σ H1 λy H2=>tx σ H2 λz b=>∃o,nW b a y o/\Q (o.getD z) b
section
variable {o f:Expr} {apos:Pos} {td ty tx:TE}
theorem Bt (j:X.A.units+1<cLine) (l:PE X o td) (n:PE X e ty) (p:PE X f tx) (m:M2 X o "get" apos e f cpos):PE X (.Call (.Attribute o "get" apos) [e,f] [] cpos) (FZ td ty tx):=by intro pins s σ H Q I h;refine wpAny_Call_method m.base m.few m.line PySem.F.plainAttrs_dict PySem.F.slot_dict_get PySem.F.type_dict_get (thn (l pins s σ H _ I h) λu q b=>?_);obtain⟨x,H1,i,r,a,ex,d,v⟩:=b;subst ex;obtain rfl:u=Value.ref a:=r;obtain⟨w,B,_⟩:=G8 i d;refine⟨w,B,?_⟩;rw[m.trees];refine Calls.callWith_builtin rfl (Calls.evalArgs_plain (Calls.spliced_cons (thn (n pins q σ H1 _ i v) λiv s2 b=>?_)));obtain⟨y,H2,C,D,E⟩:=b;refine Calls.spliced_cons (thn (p pins s2 σ H2 _ C E) λfv s3 b=>?_);obtain⟨z,G,J,rz,ov,g,K⟩:=b;refine Calls.spliced_nil ?_;exact Fo j J g D rz λw' s4 L c=>⟨_,G,L,c,K⟩
end
section
variable {kvs:List (Key×V)} {A:Around}
end
section
variable {A:Around}
end
section
theorem bf.setOwnO {v:PyData} (R:bf K H0 A0 H A O δ σ) (hi:i∈O) (hl:i<δ.length) (hn:H a=none) (s:ao H H1) (ha:H1 a=some o) (m:DW o=true) (h:gu K (del H1 (a::(A++A0))) v o) :
  bf K H0 A0 H1 (a::A) O (δ.set i (some v)) (σ.set i (some (.ref a))) where
 same:=R.same.trans s
 ls0:=R.ls0
 new:=λb n=>by
  rcases J7.mp n with z|z
  ·rw[z];exact R.same.free hn
  ·exact R.new b z
 ls:=λb n=>by
  rcases J7.mp n with z|z
  ·exact⟨_,by rw[z];exact ha,m⟩
  ·exact (R.ls.same s) b z
 len:=by simp[R.len]
 pl:=λj e c q=>by
  rcases get_set q with⟨z,q⟩|⟨z,q⟩
  ·subst z;exact absurd hi c
  ·obtain⟨u,e1,h1⟩:=R.pl j e c q;refine⟨u,ib z e1,h1.same λb o e=>?_⟩;obtain⟨y,e⟩:=aS e;have r:b≠a:=aG e hn;rw[aB (by simpa[r] using y)];exact s _ _ e
 own:=λj e c q=>by
  have w:∀b o,del H (A++A0) b=some o->del H1 (a::A++A0) b=some o:=λb o e=>by obtain⟨y,e⟩:=aS e;have r:b≠a:=aG e hn;rw[aB (by simpa[r] using y)];exact s _ _ e
  rcases get_set q with⟨z,q⟩|⟨z,q⟩
  ·cases q;subst z;exact⟨a,_,_,by rw[Km (by rw[<-R.len];exact hl)],J9,ha,rfl,h⟩
  ·obtain⟨b,ys,es,e1,h1,h2,x,B⟩:=R.own j e c q;exact⟨b,ys,es,ib z e1,J8 _ h1,s _ _ h2,x,B.same w⟩
 inj:=λj k d' e b c f g l p1 p2=>by
  have old:∀k,k∈O->i≠k->∀e,δ[k]?=some (some e)->σ[k]?=some (some (.ref a))->False:=λk f _ e q p=>by obtain⟨b,ys,es,e1,h1,h2,_⟩:=R.own k e f q;rw[p]at e1;cases e1;rw[hn]at h2;cases h2
  by_cases z1:i=j
  ·by_cases z2:i=k
   ·rw[<-z1,z2]
   ·subst z1;rw[Km (by rw[<-R.len];exact hl)]at p1;cases p1;rw[Kg z2]at l p2;exact (old k f z2 e l p2).elim
  ·by_cases z2:i=k
   ·subst z2;rw[Km (by rw[<-R.len];exact hl)]at p2;cases p2;rw[Kg z1]at g p1;exact (old j c z1 d' g p1).elim
   ·rw[Kg z1]at g p1;rw[Kg z2]at l p2;exact R.inj j k d' e b c f g l p1 p2
theorem bf.putO {d1 l:PyData} (R:bf K H0 A0 H A O δ σ) (hi:i∈O) (hd:δ[i]?=some (some l)) (r:σ[i]?=some (some (.ref a))) (ha:a∈A) (m:DW o=true) (h:gu K (del H (A++A0)) d1 o) :
  bf K H0 A0 (upd H a o) A O (δ.set i (some d1)) σ:=by
 have n:del (upd H a (o)) (A++A0)=del H (A++A0):=hV (Kl _ ha);have hl:i<δ.length:=(K5.mp hd).1;refine⟨λb o e=>?_,R.ls0,R.new,λb u=>?_,by simp[R.len],λj e c q=>?_,λj e c q=>?_,λj k d' e b c s f g p1 p2=>?_⟩
 ·have p:b≠a:=λz=>by rw[z,R.new a ha]at e;cases e
  rw[au p];exact R.same b o e
 ·by_cases z:b=a
  ·exact⟨_,by rw[z,ay],m⟩
  ·rw[au z];exact R.ls b u
 ·rcases get_set q with⟨z,q⟩|⟨z,q⟩
  ·subst z;exact absurd hi c
  ·rw[n];exact R.pl j e c q
 ·rcases get_set q with⟨z,q⟩|⟨z,q⟩
  ·cases q;subst z;exact⟨a,_,_,r,ha,ay,rfl,by rw[n];exact h⟩
  ·obtain⟨b,zs,es,e1,h1,h2,v,x⟩:=R.own j e c q;have p:b≠a:=λw=>z (R.inj i j _ _ a hi c hd q r (by rw[<-w];exact e1))
   exact⟨b,zs,es,e1,h1,by rw[au p];exact h2,v,by rw[n];exact x⟩
 ·rcases get_set f with⟨z1,f⟩|⟨z1,f⟩ <;> rcases get_set g with⟨z2,g⟩|⟨z2,g⟩
  ·rw[<-z1,z2]
  ·subst z1;exact R.inj i k l e b hi s hd g p1 p2
  ·subst z2;exact R.inj j i d' l b c hi f hd p1 p2
  ·exact R.inj j k d' e b c s f g p1 p2
end
noncomputable def ck (l:List (Int×Int)):PyData:=.dict (l.map λp=>(PyData.int p.1,PyData.int p.2))
def dkO (l:List (Int×Int)):HO:=.dK (l.map λp=>(.inl p.1,V.int p.2))
theorem oq:∀{l m:List (Int×Int)},l.map (λp=>(PyData.int p.1,PyData.int p.2))=m.map (λp=>(PyData.int p.1,PyData.int p.2))->l=m
 |[],[],_=>rfl
 |[],_::_,h=>by simp at h
 |_::_,[],h=>by simp at h
 |(a,b)::l,(c,d)::m,h=>by simp only[J5,List.cons.injEq,Prod.mk.injEq,PyData.int.injEq]at h;obtain⟨⟨rfl,rfl⟩,h⟩:=h;rw[oq h]
theorem Is.ofDic (h:Is K H (ck l) v):∃a,v=.ref a/\H a=some (dkO l):=by
 unfold ck Is at h;rcases h with (⟨a,ns,_,e,_⟩|⟨a,m,e1,e,h2⟩)|⟨a,C,dx,fs,_,_,_,h|h⟩
 ·cases l with
  |nil=>simp at e
  |cons p l=>simp at e
 ·rcases e with⟨b,e,rfl⟩|⟨b,e,rfl⟩
  ·rw[oq e];exact⟨a,e1,h2⟩
  ·cases l <;> cases e
 ·cases l with
  |nil=>unfold Isk at h;simp at h
  |cons p l=>rw[J5]at h;unfold Isk at h;obtain⟨f,_,_,_,q,_⟩:=h;cases q
 ·cases l with
  |nil=>unfold Isk at h;simp at h
  |cons p l=>rw[J5]at h;unfold Isk at h;obtain⟨f,_,_,_,q,_⟩:=h;cases q
theorem Fm (h:H a=some (dkO l)):Is K H (ck l) (.ref a):=by unfold ck Is;exact .inl (.inr ⟨a,_,rfl,.inl ⟨l,rfl,rfl⟩,h⟩)
def jR:List (PyData×PyData)->Option (List (Int×Int))
 |[]=>some []
 |(.int a,.int b)::r=>(jR r).map λl=>(a,b)::l
 |_=>none
theorem qP:∀{r:List (PyData×PyData)} {l:List (Int×Int)},jR r=some l->r=l.map λp=>(PyData.int p.1,PyData.int p.2)
 |[],l,e=>by cases e;rfl
 |(a,b)::r,l,e=>by
  cases a <;> cases b <;> first|(cases e;done)|skip
  unfold jR at e;cases q:jR r with
  |none=>rw[q]at e;cases e
  |some m=>rw[q]at e;cases e;rw[qP q];rfl
theorem oE:∀l:List (Int×Int),jR (l.map λp=>(PyData.int p.1,PyData.int p.2))=some l
 |[]=>rfl
 |p::r=>by rw[J5];unfold jR;rw[oE r];rfl
def uz:PyData->Option (List (Int×Int))
 |.dict kvs=>jR kvs
 |_=>none
theorem tE {d:PyData} (h:uz d=some l):d=ck l:=by
 unfold uz at h;split at h
 ·unfold ck;rw[qP h]
 ·cases h
theorem qi (l:List (Int×Int)):uz (ck l)=some l:=oE l
noncomputable def kr (l:List (Int×Int)) (k:Int):Option Int:=(l.find? λp=>decide (p.1=k)).map (·.2)
def v9 (l:List (Int×Int)) (k v:Int):List (Int×Int):=if (l.any λp=>decide (p.1=k))=true then l.map (λp=>if p.1=k then (p.1,v) else p) else l++[(k,v)]
theorem Cd (l:List (Int×Int)) (k:Int):jr (l.map λp=>((.inl p.1,V.int p.2):Key×V)) (.inl k)=(kr l k).map V.int:=by
 unfold jr kr
 induction l with
 |nil=>rfl
 |cons p r ih =>
  rw[J5,Ko,Ko];by_cases z:p.1=k
  ·have h1:decide ((Sum.inl p.1:Key)=.inl k)=true:=decide_eq_true (by rw[z]);simp only[h1,decide_eq_true z];rfl
  ·have h1:decide ((Sum.inl p.1:Key)=.inl k)=false:=decide_eq_false λq=>z (Sum.inl.inj q)
   simp only[h1,decide_eq_false z];exact ih
theorem C6 (l:List (Int×Int)) (k v:Int):putK (l.map λp=>((.inl p.1,V.int p.2):Key×V)) (.inl k) (.int v)=(v9 l k v).map λp=>(.inl p.1,V.int p.2):=by
 have ha:((l.map λp=>((.inl p.1,V.int p.2):Key×V)).any λa=>decide (a.1=.inl k))=l.any λp=>decide (p.1=k):=by
  rw[List.any_map];congr 1;funext p;by_cases z:p.1=k
  ·simp[z]
  ·have:¬ ((Sum.inl p.1:Key)=.inl k):=λq=>z (Sum.inl.inj q)
   simp[z,this]
 unfold putK v9;rw[ha];split
 ·rw[Kb,Kb];refine Ke λp _=>?_
  by_cases z:p.1=k
  ·simp[z]
  ·have:¬ ((Sum.inl p.1:Key)=.inl k):=λq=>z (Sum.inl.inj q)
   simp[z,this]
 ·rw[Kz];rfl
section
variable {E:XK} {o f i' value:Expr} {go ge gf:Ds->Rs PyData} {apos:Pos}
theorem CF:PD X E (.Dict [] [] pos) (gC (ck [])):=(tq).imp λσ H Q ⟨A,δ,R,o⟩=>λp a=>o (.ref p) _ (bp a) (Fm (l:=[]) (by rw[aB (R.ls.new a)];exact ay))
def kE (go ge gf:Ds->Rs PyData):Ds->Rs PyData:=λδ=>(go δ).bind λd=>match uz d with
 |some l=>(ge δ).bind λk=>(gf δ).bind λz=>(match k,z with
  |.int k,.int z=>.ok (.int ((kr l k).getD z))
  |_,_=>.no)
 |none=>.no
end
section
variable {E:XK} {o f k value:Expr} {go ge gf gk:Ds->Rs PyData} {apos:Pos}
theorem EJ (q:X.A.units+1<cLine) (r:PD X E o go) (s:PD X E e ge) (w:PD X E f gf) (m:M2 X o "get" apos e f cpos):PD X E (.Call (.Attribute o "get" apos) [e,f] [] cpos) (kE go ge gf) :=
 (Bt q r s w m).imp λσ H Q i=>by
  obtain⟨A,δ,R,b⟩:=i;unfold kE at b;refine eD.run R (λd x v H1 j y h1=>?_) (λC c H' s'=>?_) (λc=>?_)
  ·simp only[x,Rs.ag]at b;split at b
   ·rename_i l hl;rw[tE hl]at h1;obtain⟨a,rfl,ha⟩:=h1.ofDic;have g:H1 a=some (dkO l):=av _ _ ha;refine⟨a,rfl,.inl ⟨_,.inl g⟩,?_⟩;refine eD.run y (λkd B u H2 s2 R2 n=>?_) (λC c H' s'=>?_) (λc=>?_)
    ·simp only[B,Rs.ag]at b;refine eD.run R2 (λzd D z F p R3 G=>?_) (λC c H' s'=>?_) (λc=>?_)
     ·simp only[D,Rs.ag]at b;split at b
      ·rename_i h zz;have e1:=n.ofInt;have e2:=G.ofInt;subst e1 e2;refine⟨_,nW.k (k:=.inl h) (p _ _ (s2 _ _ g)),?_⟩;rw[Cd];have:((kr l h).map V.int).getD (.int zz)=.int ((kr l h).getD zz):=by cases kr l h <;> rfl
       rw[this];exact b _ F (j.trans (s2.trans p)) bB
      ·exact b.elim
     ·simp only[c,Rs.cN]at b;exact b H' (j.trans (s2.trans s'))
     ·simp only[c,Rs.aY]at b;exact b
    ·simp only[c,Rs.cN]at b;exact b H' (j.trans s')
    ·simp only[c,Rs.aY]at b;exact b
   ·exact b.elim
  ·simp only[c,Rs.cN]at b;exact b H' s'
  ·simp only[c,Rs.aY]at b;exact b
def tG (i:Nat):Ds->Sr:=λδ=>if i<δ.length then .nx (δ.set i (some (ck []))) else .no
theorem Ay (c:X.N.Nodup) (e:i∈O) (hi:X.N[i]?=some x) (f:Loc X.env.scope x) (g:swapsWith (.Dict [] [] pos') (some (.Name x apos)) pos.line X.env=pure false)
  (h:X.fn x=true\/X.env.scope.names.lookup x=some .local):PSD X E O (.Assign [.Name x apos] (.Dict [] [] pos') pos) (tG i):=(lP c hi f tq g h).imp λD σ H a=>by
 obtain⟨H0,A0,A,δ,R,o⟩:=a;unfold tG at o;split at o
 ·rename_i hl;intro p b;exact o (p::A) _ _ (R.setOwnO (o:=dkO []) e hl b (bp b) ay rfl (.inl ⟨[],rfl,rfl⟩))
 ·exact o.elim
def oR (i:Nat) (gk gv:Ds->Rs PyData):Ds->Sr:=λδ=>match δ[i]? with
 |some (some d)=>(match uz d with
  |some l=>ofR (gv δ) λv=>ofR (gk δ) λk=>(match k,v with
   |.int k,.int v=>if l.length<1000000 then .nx (δ.set i (some (ck (v9 l k v)))) else .no
   |_,_=>.no)
  |none=>.no)
 |_=>.no
theorem Bp (F:X.A.units+1<cLine) (h:PD X E value gv) (G:PD X E k gk) (y:i∈O) (hi:X.N[i]?=some x) (hv:Vis X.env.scope x)
  (hd:(x==("__debug__":Str))=false) (f:(x==("__classdict__":Str))=false) (I:swapsWith value (some (.Subscript (.Name x pn) k pos')) pos.line X.env=pure false):PSD X E O (.Assign [.Subscript (.Name x pn) k pos'] value pos) (oR i gk gv) :=
 (xv F (ic hi hv hd f) G h I).imp λD σ H g=>by
  obtain⟨H0,A0,A,δ,R,a⟩:=g;unfold oR at a;split at a
  ·rename_i d q;split at a
   ·rename_i l hl;rw[tE hl]at q;obtain⟨p,o',d',e1,J,j,e2,n⟩:=R.own i _ y q;subst e2;have r:o'=dkO l:=by
     have n:Dr _ o':=n;rcases n with⟨m,c,rfl⟩|⟨m,c,_⟩
     ·rw[oq c];rfl
     ·cases l <;> cases c
    subst r;refine eD.run R.full (λvd K v H1 z L s=>?_) (λC b H' s'=>?_) (λb=>?_)
    ·simp only[K,az]at a;refine⟨_,e1,?_⟩;refine eD.run L (λkd M u H2 s2 R2 w=>?_) (λC b H' s'=>?_) (λb=>?_)
     ·simp only[M,az]at a;split at a
      ·rename_i B P;split at a
       ·rename_i hlen;have c:=w.ofInt;have Q:=s.ofInt;subst c Q;have e:=z.trans s2;refine⟨p,_,rfl,tN.k (k:=.inl B) (e _ _ j) (by rw[J6,sizeLine_eq];omega),?_⟩;rw[C6];exact a A _ _ ((R.step e).putO (o:=dkO (v9 l B P)) y q e1 J rfl (.inl ⟨_,rfl,rfl⟩))
       ·exact a.elim
      ·exact a.elim
     ·simp only[b,jN]at a;exact a H' (R.same.trans (z.trans s'))
     ·simp only[b,jI]at a;exact a
    ·simp only[b,jN]at a;exact a H' (R.same.trans s')
    ·simp only[b,jI]at a;exact a
   ·exact a.elim
  ·exact a.elim
end
theorem bU.u1 {k:Nat} {A:Around} (r:bU k A):A.units+1<cLine:=by have:=r.un;omega
def EZ (b N:List Str) (p:Str) (cap:List Nat) (a sc:Scope):Bool :=
 (sc.kind==.function)&&!sc.isCoroutine&&!sc.isGenerator&&decide N.Nodup&&decide (N.take 1=[p])&&(sc.names.lookup p==some .local)&&sc.names.all (λx=>x.2 != .cell) &&
 sc.names.all (λy=>y.2 != .free||a.names.lookup y.1==some .cell)&&decide (N.length=1+cap.length) &&
 (List.range cap.length).all (λi=>match N[1+i]?,cap[i]? with
  |some x,some m=>(b[m]?==some x)&&(sc.names.lookup x==some .free)&&(a.names.lookup x==some .cell)
  |_,_=>false)
theorem l0 {α:Type} {x:Str} {k:α}:∀{l:List (Str×α)},l.lookup x=some k->(x,k)∈l
 |[],h=>by cases h
 |(y,j)::r,h=>by
  rw[Kj]at h;cases q:(x==y) with
  |true=>rw[q]at h;cases h;rw[eq_of_beq q];exact J9
  |false=>rw[q]at h;exact J8 _ (l0 h)
theorem nk {e:List Str} {b:Scope} {A:Around} {E:XK}
  {D:XK} {a:Expr} {n I:Pos} {J:Addr} {k:Nat} {p:Str}
  (hm:mg "min"=none) (L:bU (k+2) (cH CX P w K mg base e qual b f cd A outer s H E).A) (ha:PD (cH CX P w K mg base e qual b f cd A outer s H E) D a ga) (T:zZ (cH CX P w K mg base e qual b f cd A outer s H E) c J)
  (l:∀(q c':Addr) (s':Shared) (H':Hp),PD (qK (CXW P w) P w K mg base N ((cH CX P w K mg base e qual b f cd A outer s H E).env.qual++"<lambda>") scope q (.ref c') (kQ scope.names (cH CX P w K mg base e qual b f cd A outer s H E).env.cells []) (cH CX P w K mg base e qual b f cd A outer s H E).A.in1 (cH CX P w K mg base e qual b f cd A outer s H E).stack s' H' E0) E0 body gb)
  (hok:EZ e N p cap b scope=true:=by decide +kernel)
  (M:∀(q:Str) (cl:List (Str×Addr)) (c':Addr) (pm v u:Value),bindArgs (PySem.W.kla_fn "<lambda>" q params body scope cl pm (.ref c') v) ⟨[u],[]⟩=pure ([p].zip [u]):=by intro _ _ _ _ _ _;rfl)
  (O:Gl (cH CX P w K mg base e qual b f cd A outer s H E) "min":=by rfl) (Q:starEach [a] (cH CX P w K mg base e qual b f cd A outer s H E).env=[(false,eval a (cH CX P w K mg base e qual b f cd A outer s H E).env)]:=by rfl) (o:defaultsOf params (cH CX P w K mg base e qual b f cd A outer s H E).env=([],[]):=by rfl) :
  PD (cH CX P w K mg base e qual b f cd A outer s H E) D (.Call (.Name "min" I) [a] [⟨some "key",.Lambda params body scope n,kp⟩] pos) (iE cap ga gb):=by
 unfold EZ at hok;simp only[JZ,K9,decide_eq_true_eq,beq_iff_eq,bne_iff_ne,Bool.or_eq_true,LM]at hok;obtain⟨⟨⟨⟨⟨⟨⟨⟨⟨R,S⟩,U⟩,X⟩,Y⟩,Z⟩,o7⟩,F⟩,o9⟩,B⟩:=hok;have g:∀x,b.names.lookup x=some .cell->∃c,(cH CX P w K mg base e qual b f cd A outer s H E).env.cells.lookup x=some c:=λx r=>nL r
 refine yh (cap:=cap) rfl hm L ha T (iH λy hy hf=>?_) ⟨R,S,U,X,Y,λx r=>by rw[JW.mp r];exact Z,o7⟩ (λx c h=>pw _ _ _ x c (λ_ _ z=>by cases z) h) (λx r=>?_) o9 (λi m x h1 h2=>?_) (M _ _) (λq c' s' H'=>l q c' s' H') O Q o
 ·rcases F y hy with z|z
  ·exact absurd hf z
  ·exact g y.1 z
 ·have j:=l0 r;rcases F (x,.free) j with z|z
  ·exact absurd rfl z
  ·obtain⟨c,hc⟩:=g x z;exact ku _ _ _ x c j hc
 ·have C:i<cap.length:=(K5.mp h2).1;have:=B i (Lv.mpr C);rw[h1,h2]at this;simp only[JZ,beq_iff_eq]at this;obtain⟨⟨q1,q2⟩,G⟩:=this;exact⟨q1,q2,.inl G,.inr (.inl G)⟩
end L2
namespace RS
open PySem
set_option genInjectivity true in
structure Er where
 every:Int
 due:Int
 late:Int
 parts:List (Int×Option Int)
noncomputable def cU:Option Int->PyData
 |none=>.none
 |some i=>.int i
def a8 (p:Int×Option Int):PyData:=.tuple [.int p.1,cU p.2]
def Er.d (e:Er):PyData:=.tuple [.int e.every,.int e.due,.int e.late,.tuple (e.parts.map a8)]
def aR (es:List Er):PyData:=.tuple (es.map Er.d)
noncomputable def isWhole (d:PyData) (lo hi:Int):Bool:=match d with
 |.int i=>decide (lo<=i)&&decide (i<=hi)
 |_=>false
def bH (d:PyData) (lo hi:Int):Bool:=match d with
 |.tuple ds=>decide (lo<=(ds.length:Int))&&decide ((ds.length:Int)<=hi)
 |_=>false
def cZ (d:PyData):Bool:=match d with
 |.tuple [a,b]=>isWhole a 1 20&&(match b with|.none=>true|b=>isWhole b 0 3)
 |_=>false
def iQ (ds:List PyData):Bool:=match ds.getLast? with
 |some (.tuple [_,.none])=>true
 |_=>false
def dC (d:PyData):Bool:=match d with
 |.tuple ds=>decide (1<=ds.length)&&decide (ds.length<=4)&&ds.all cZ&&iQ ds
 |_=>false
def bz (d:PyData):Bool:=match d with
 |.tuple [.int e,du,.int l,ps]=>decide (2<=e)&&decide (e<=60)&&(decide (0<=l)&&decide (l<=(if e-1<20 then e-1 else 20)))&&isWhole du 1 (e-l)&&dC ps
 |_=>false
def dW (d:PyData):Bool:=match d with
 |.tuple ds=>decide (1<=ds.length)&&decide (ds.length<=6)&&ds.all bz
 |_=>false
structure Er.Ok (e:Er):Prop where
 e1:2<=e.every
 e2:e.every<=60
 l1:0<=e.late
 l2:e.late<=20
 l3:e.late<e.every
 d1:1<=e.due
 d2:e.due<=e.every-e.late
 p1:e.parts≠[]
 p2:e.parts.length<=4
 pl:∀p∈e.parts,1<=p.1/\p.1<=20/\∀t,p.2=some t->0<=t/\t<=3
 la:∀p,e.parts.getLast?=some p->p.2=none
theorem yJ {p:Int×Option Int} (h1:1<=p.1) (h2:p.1<=20) (c:∀t,p.2=some t->0<=t/\t<=3):cZ (a8 p)=true:=by
 obtain⟨l,t⟩:=p;cases t with
 |none=>simp[cZ,a8,cU,isWhole,h1,h2]
 |some t =>obtain⟨a,b⟩:=c t rfl;simp[cZ,a8,cU,isWhole,h1,h2,a,b]
theorem u7 {e:Er} (h:e.Ok):bz e.d=true:=by
 have f:(e.parts.map a8).all cZ=true:=by rw[K9];intro d hd;obtain⟨p,f,rfl⟩:=K1.mp hd;obtain⟨a,b,c⟩:=h.pl p f;exact yJ a b c
 have hl:iQ (e.parts.map a8)=true:=by
  unfold iQ;rw[List.getLast?_map];cases q:e.parts.getLast? with
  |none=>exact absurd (List.getLast?_eq_none_iff.mp q) h.p1
  |some p =>obtain⟨l,t⟩:=p;have:t=none:=h.la _ q;subst this;rfl
 have hn:1<=e.parts.length:=by
  cases q:e.parts with
  |nil=>exact absurd q h.p1
  |cons _ _=>simp
 have h1:=h.e1;have h2:=h.e2;have i:=h.l1;have h4:=h.l2;have h5:=h.l3;have j:=h.d1;have m:=h.d2;have n:=h.p2;have g:e.late<=if e.every-1<20 then e.every-1 else 20:=by split <;> omega
 simp[bz,Er.d,dC,isWhole,f,hl,hn,h1,h2,i,j,m,n,g]
theorem rl {es:List Er} (h1:1<=es.length) (h2:es.length<=6) (h:∀e∈es,e.Ok):dW (aR es)=true:=by
 have a:(es.map Er.d).all bz=true:=by rw[K9];intro d hd;obtain⟨e,b,rfl⟩:=K1.mp hd;exact u7 (h e b)
 simp[dW,aR,h1,h2,a]
noncomputable def cellAt (ns:List Int) (k:Int):Int :=
 if k<(ns.length:Int) then ns.getD k.toNat 0 else if ns=[] then 0 else ns.getD (k % (ns.length:Int)).toNat 0*31+k
def yB (ns:List Int) (k:Int):Int:=(cellAt ns k+7919*k+1)*48271 % 2147483647
def mixed (ns:List Int) (k many:Int):Int:=(yB ns k*yB ns k+7*yB ns k+k) % 2147483629 % many
theorem DX (ns:List Int) (k:Int):0<=yB ns k:=KR _ (by decide)
theorem D0 (ns:List Int) (k:Int):yB ns k<2147483647:=KW _ (by decide)
theorem bZ (ns:List Int) (k:Int) (h:0<many):0<=mixed ns k many:=KR _ (by omega)
theorem cp (ns:List Int) (k:Int) (h:0<many):mixed ns k many<many:=KW _ h
def jF (i:Int):Option Int:=if i=0 then some 0 else if i=1 then some 1 else if i=2 then some 1 else if i=3 then some 0 else none
def dP (ns:List Int) (j:Int) (a:Bool):Int×Option Int:=(1+mixed ns j 40 % 4,if a then jF (mixed ns j 40 / 4 % 5) else none)
def gB (ns:List Int) (at' every:Int):Int :=
 if every-1<mixed ns (at' + 1) 4*(if mixed ns (at' + 2) 3=0 then 1 else 0) then every-1 else mixed ns (at' + 1) 4*(if mixed ns (at' + 2) 3=0 then 1 else 0)
def l5 (ns:List Int) (at' a:Int):Int:=if mixed ns (at' + 1) 3=0 then a-mixed ns (at' + 2) a else a
def mkE (ns:List Int) (at' top:Int) (a:Bool):Er where
 every:=3+mixed ns at' top
 late:=gB ns at' (3+mixed ns at' top)
 due:=l5 ns at' (3+mixed ns at' top-gB ns at' (3+mixed ns at' top))
 parts:=((List.range (mixed ns (at' + 3) 3).toNat).map λ(k:Nat)=>dP ns (at' + 4+(k:Int)) a)++[(1+mixed ns (at' + 6) 3,none)]
def mE (ns:List Int) (at' most top:Int) (a:Bool):List Er:=(List.range (1+mixed ns at' most).toNat).map λ(k:Nat)=>mkE ns (at' + 1+7*(k:Int)) top a
theorem uH (ns:List Int) (at' every:Int) (h:3<=every):0<=gB ns at' every/\gB ns at' every<=3/\gB ns at' every<every:=by
 have h1:=bZ ns (at' + 1) (many:=4) (by decide);have h2:=cp ns (at' + 1) (many:=4) (by decide);unfold gB;generalize mixed ns (at' + 1) 4=x at *;by_cases hc:mixed ns (at' + 2) 3=0
 ·simp only[hc,if_true,Int.mul_one];split <;> omega
 ·simp only[hc,if_false,Int.mul_zero];split <;> omega
theorem Ef (ns:List Int) (at' a:Int) (h:1<=a):1<=l5 ns at' a/\l5 ns at' a<=a:=by have h1:=bZ ns (at' + 2) (many:=a) (by omega);have h2:=cp ns (at' + 2) (many:=a) (by omega);unfold l5;split <;> omega
theorem D9 (i t:Int) (h:jF i=some t):0<=t/\t<=1:=by
 unfold jF at h
 repeat' split at h
 all_goals (first|(cases h;decide)|cases h)
theorem Ak (ns:List Int) (j:Int) (a:Bool):1<=(dP ns j a).1/\(dP ns j a).1<=4/\∀t,(dP ns j a).2=some t->0<=t/\t<=1:=by
 have h1:0<=mixed ns j 40 % 4:=KR _ (by decide);have h2:mixed ns j 40 % 4<4:=KW _ (by decide);refine⟨by unfold dP;simp only;omega,by unfold dP;simp only;omega,λt h=>?_⟩;unfold dP at h;simp only at h;cases a with
 |false=>simp at h
 |true=>simp at h;exact D9 _ _ h
theorem Fp (ns:List Int) (at' top:Int) (a:Bool) (h1:0<top) (h2:top<=58):(mkE ns at' top a).Ok:=by
 have a1:=bZ ns at' h1;have a2:=cp ns at' h1;have l:=uH ns at' (3+mixed ns at' top) (by omega);have d:=Ef ns at' (3+mixed ns at' top-gB ns at' (3+mixed ns at' top)) (by omega);have n1:=bZ ns (at' + 3) (many:=3) (by decide);have n2:=cp ns (at' + 3) (many:=3) (by decide);have n3:=bZ ns (at' + 6) (many:=3) (by decide);have n4:=cp ns (at' + 6) (many:=3) (by decide);refine⟨?_,?_,l.1,?_,l.2.2,d.1,d.2,?_,?_,?_,?_⟩
 ·show 2<=3+mixed ns at' top;omega
 ·show 3+mixed ns at' top<=60;omega
 ·have:=l.2.1;show gB ns at' (3+mixed ns at' top)<=20;omega
 ·simp[mkE]
 ·simp only[mkE,K0,J6,LN,Kv];omega
 ·intro p b;simp only[mkE,Ki,K1,JW]at b;rcases b with⟨k,_,rfl⟩|rfl
  ·have:=Ak ns (at' + 4+(k:Int)) a;refine⟨this.1,by omega,λt c=>?_⟩;have:=this.2.2 t c;omega
  ·exact⟨by simp only;omega,by simp only;omega,λt c=>by cases c⟩
 ·intro p b;simp only[mkE,List.getLast?_append,List.getLast?_singleton,Option.some_or]at b;cases b;rfl
theorem Bm (ns:List Int) (at' most top:Int) (a:Bool) (h:0<most):1<=(mE ns at' most top a).length/\((mE ns at' most top a).length:Int)<=most:=by have h1:=bZ ns at' h;have h2:=cp ns at' h;simp only[mE,J6,LN];omega
theorem DL (ns:List Int) (at' most top:Int) (a:Bool) (h1:0<top) (h2:top<=58):∀e∈mE ns at' most top a,e.Ok:=by intro e b;simp only[mE,K1]at b;obtain⟨k,_,rfl⟩:=b;exact Fp _ _ _ _ h1 h2
end RS
variable {es:List RS.Er}
namespace RS
open PySem L2
structure Cs where
 RankError:Addr
 NoErrands:Addr
 NoRanks:Addr
 NoComings:Addr
 NoErrand:Addr
 NoNumber:Addr
 TooLong:Addr
 NoText:Addr
 Holding:Addr
 Jobs:Addr
abbrev Gf:=List PyData->Rs PyData
def bM (K:PySem.W.Frag) (mg:Str->Option Value) (x:Str) (st:Stmt) (ps:List Str):Prop:=∃f fd,Fun K x x st f fd/\Binds K fd ps []/\mg x=some (.ref f)
def iu (cs:Cs):Ds->Sr :=
 (aF (sIf (cOr (fQ (gT (g1 (gz "int") (af 0)))) (gT (g1 (gz "bool") (af 0)))) (bw (gC (.bool false))) bg)
  (bw (k7 dLe dLe (af 1) (af 0) (af 2))))
def iG (cs:Cs):Ds->Sr :=
 (bw (vS (g1 (gz "tuple") (af 0)) (k7 dLe dLe (af 1) (gF b8 (ae (af 0) ah)) (af 2))))
def fI (cs:Cs) (aK aN:Gf):Ds->Sr :=
 (aF (sIf (cOr (fQ (gT (ar aN (ae (af 0) (ae (gC (.int 2)) (ae (gC (.int 2)) ah)))))) (fQ (gT (ar aK (ae (g2 dIx (af 0) (gC (.int 0))) (ae (gC (.int 1)) (ae (gC (.int 20)) ah))))))) (bw (gC (.bool false))) bg)
  (bw (gOr (g1 mI (g2 dIx (af 0) (gC (.int 1)))) (ar aK (ae (g2 dIx (af 0) (gC (.int 1))) (ae (gC (.int 0)) (ae (g2 fA (gC (.int 4)) (gC (.int 1))) ah)))))))
def fc (cs:Cs) (aN a:Gf):Ds->Sr :=
 (aF (sIf (cOr (fQ (gT (ar aN (ae (af 0) (ae (gC (.int 1)) (ae (gC (.int 4)) ah)))))) (fQ (gT (gF mD (ae (gL (a9 1 (cn (af 0)) bc (ar a (ae (af 1) ah)) aO)) ah))))) (bw (gC (.bool false))) bg)
  (bw (g1 mI (g2 dIx (g2 dIx (af 0) (g1 mF (gC (.int 1)))) (gC (.int 1))))))
def c9 (cs:Cs) (aK a aN:Gf):Ds->Sr :=
 (aF (sIf (fQ (gT (ar aN (ae (af 0) (ae (gC (.int 4)) (ae (gC (.int 4)) ah)))))) (bw (gC (.bool false))) bg)
  (aF (aQ [] 1 (g2 dIx (af 0) (gC (.int 0))))
  (aF (aQ [] 2 (g2 dIx (af 0) (gC (.int 1))))
  (aF (aQ [] 3 (g2 dIx (af 0) (gC (.int 2))))
  (aF (sIf (fQ (gT (ar aK (ae (af 1) (ae (gC (.int 2)) (ae (gC (.int 60)) ah)))))) (bw (gC (.bool false))) bg)
  (aF (sIf (fQ (gT (ar aK (ae (af 3) (ae (gC (.int 0)) (ae (gF jE (ae (gC (.int 20)) (ae (g2 fA (af 1) (gC (.int 1))) ah))) ah)))))) (bw (gC (.bool false))) bg)
  (bw (vS (ar aK (ae (af 2) (ae (gC (.int 1)) (ae (g2 fA (af 1) (af 3)) ah)))) (ar a (ae (g2 dIx (af 0) (gC (.int 3))) ah))))))))))
def gE (cs:Cs) (aN a:Gf):Ds->Sr :=
 (aF (sIf (cOr (fQ (gT (ar aN (ae (af 0) (ae (gC (.int 1)) (ae (gC (.int 6)) ah)))))) (fQ (gT (gF mD (ae (gL (a9 1 (cn (af 0)) bc (ar a (ae (af 1) ah)) aO)) ah))))) (iV cs.NoErrands (ae (gC (.str "errands are a tuple of 1 to 6 errands (every, due, late, parts)")) ah)) bg)
  (bw (af 0)))
def cg (cs:Cs) (aN aK:Gf):Ds->Sr :=
 (aF (aQ [] 2 (g2 fA (gF b8 (ae (af 0) ah)) (gC (.int 1))))
  (aF (sIf (cOr (fQ (gT (ar aN (ae (af 1) (ae (gF b8 (ae (af 0) ah)) (ae (gF b8 (ae (af 0) ah)) ah)))))) (fQ (gT (gF mD (ae (gL (a9 3 (cn (af 1)) bc (ar aK (ae (af 3) (ae (gC (.int 0)) (ae (af 2) ah)))) aO)) ah))))) (iV cs.NoRanks (ae (gC (.str "ranks are a tuple of the numbers of all errands")) ah)) bg)
  (aF (sIf (gT (g2 dLt (gF ko (ae (af 1) ah)) (gF b8 (ae (af 1) ah)))) (iV cs.NoRanks (ae (gC (.str "ranks have each errand's number once")) ah)) bg)
  (bw (af 1)))))
def ip (cs:Cs):Ds->Sr :=
 (bw (g2 (A9 false) (af 1) (gL (a9 2 (cn (g2 dIx (af 0) (gC (.int 3)))) bc (g2 dIx (af 2) (gC (.int 1))) aO))))
def kh (cs:Cs) (bY:Gf):Ds->Sr :=
 (aF (iy [] (eZ (ae (af 1) ah)) (gj [3,4]) (sIf (gT (ar bY (ae (g2 dIx (af 0) (af 4)) (ae (af 2) ah)))) (bw (af 3)) bg))
  (bw (gC .none)))
def fE (cs:Cs) (cX:Gf):Ds->Sr :=
 (bw (gL (a9 2 (gQ (ae (gC (.int 4)) ah)) bc (ar cX (ae (af 0) (ae (af 1) (ae (af 2) ah)))) aO)))
def ft (cs:Cs) (ai:Gf):Ds->Sr :=
 (aF (aQ [7] 4 (g2 aV (gC (.int 3)) (ar ai (ae (af 0) (ae (af 1) (ae (af 2) ah))))))
  (aF (aQ [7] 5 (g2 eC (ar ai (ae (af 0) (ae (g2 aV (af 1) (gC (.int 1))) (ae (gC (.int 4)) ah)))) (gF zr (ae (g2 dEq (ar ai (ae (af 0) (ae (g2 aV (af 1) (gC (.int 2))) (ae (gC (.int 3)) ah)))) (gC (.int 0))) ah))))
  (aF (aQ [7] 5 (gF jE (ae (af 5) (ae (g2 fA (af 4) (gC (.int 1))) ah))))
  (aF (aQ [7] 6 (g2 fA (af 4) (af 5)))
  (aF (sIf (gT (g2 dEq (ar ai (ae (af 0) (ae (g2 aV (af 1) (gC (.int 1))) (ae (gC (.int 3)) ah)))) (gC (.int 0)))) (aQ [7] 6 (g2 fA (af 6) (ar ai (ae (af 0) (ae (g2 aV (af 1) (gC (.int 2))) (ae (af 6) ah)))))) bg)
  (aF (jq [7] 7 ah)
  (aF (iy [7] (gQ (ae (ar ai (ae (af 0) (ae (g2 aV (af 1) (gC (.int 3))) (ae (gC (.int 3)) ah)))) ah)) (bN 8) (aF (aQ [7] 9 (ar ai (ae (af 0) (ae (g2 aV (g2 aV (af 1) (gC (.int 4))) (af 8)) (ae (gC (.int 40)) ah)))))
  (aF (jM [7] 7 (fZ (ae (g2 aV (gC (.int 1)) (g2 dq (af 9) (gC (.int 4)))) (ae (g2 dIx (mH (ae (gC (.int 0)) (ae (gC (.int 1)) (ae (gC (.int 1)) (ae (gC (.int 0)) (ae (gC .none) ah)))))) (g2 dq (g2 ik (af 9) (gC (.int 4))) (gC (.int 5)))) ah))))
  (sIf (fQ (gT (af 3))) (yQ 7 (g1 mF (gC (.int 1))) (fZ (ae (g2 dIx (g2 dIx (af 7) (g1 mF (gC (.int 1)))) (gC (.int 0))) (ae (gC .none) ah)))) bg))))
  (bw (fZ (ae (af 4) (ae (af 6) (ae (af 5) (ae (gF i9 (ae (g2 aV (af 7) (mH (ae (fZ (ae (g2 aV (gC (.int 1)) (ar ai (ae (af 0) (ae (g2 aV (af 1) (gC (.int 6))) (ae (gC (.int 3)) ah))))) (ae (gC .none) ah))) ah))) ah)) ah)))))))))))))
def eW (cs:Cs) (bI ai:Gf):Ds->Sr :=
 (aF (aQ [] 5 (g2 aV (gC (.int 1)) (ar ai (ae (af 0) (ae (af 1) (ae (af 2) ah))))))
  (bw (gF i9 (ae (gL (a9 6 (gQ (ae (af 5) ah)) bc (ar bI (ae (af 0) (ae (g2 aV (g2 aV (af 1) (gC (.int 1))) (g2 eC (gC (.int 7)) (af 6))) (ae (af 3) (ae (af 4) ah))))) aO)) ah))))
def gp (cs:Cs) (ai:Gf):Ds->Sr :=
 (aF (jq [3,4] 3 (gLR (ae (af 2) ah)))
  (aF (jq [3,4] 4 ah)
  (aF (iy [3,4] (gQ (ae (af 2) ah)) (bN 5) (ig 4 3 (ar ai (ae (af 0) (ae (g2 aV (af 1) (af 5)) (ae (gF b8 (ae (af 3) ah)) ah))))))
  (bw (gF i9 (ae (af 4) ah))))))
end RS
set_option maxHeartbeats 1000000
variable {cs:RS.Cs}
namespace RS
open PySem L2
variable {a b:Int} {g:PyData->Bool} {e:PyData}
theorem CJ (h:i∉O):(mask O δ)[i]?=δ[i]?:=by
 unfold mask;by_cases z:O=[]
 ·rw[if_pos z]
 ·rw[if_neg z,Kd];cases δ[i]? with
  |none=>rfl
  |some d=>simp[h]
theorem bj (h:i∉O):af i (mask O δ)=af i δ:=by unfold af;rw[CJ h]
@[simp]theorem aq (d:PyData) (δ:Ds):af 0 (some d::δ)=.ok d:=rfl
@[simp]theorem aw (i:Nat) (x:Option PyData) (δ:Ds):af (i+1) (x::δ)=af i δ:=rfl
@[simp]theorem c8 (d:PyData) (δ:Ds):gC d δ=.ok d:=rfl
@[simp]theorem gG (f:PyData->Option PyData) (a:Ds->Rs PyData) (δ:Ds):g1 f a δ=(a δ).bind λx=>Rs.dz (f x):=rfl
@[simp]theorem bQ (f:PyData->PyData->Option PyData) (a b:Ds->Rs PyData) (δ:Ds):g2 f a b δ=(a δ).bind λx=>(b δ).bind λy=>Rs.dz (f x y):=rfl
@[simp]theorem f6 (f:List PyData->Option PyData) (a:Ds->Rs (List PyData)) (δ:Ds):gF f a δ=(a δ).bind λx=>Rs.dz (f x):=rfl
@[simp]theorem aI (δ:Ds):ah δ=.ok []:=rfl
@[simp]theorem aE (a:Ds->Rs PyData) (r:Ds->Rs (List PyData)) (δ:Ds):ae a r δ=(a δ).bind λx=>(r δ).bind λxs=>.ok (x::xs):=rfl
@[simp]theorem lO (a:Ds->Rs (List PyData)) (δ:Ds):fZ a δ=(a δ).bind λds=>.ok (.tuple ds):=rfl
@[simp]theorem vC (a:Ds->Rs (List PyData)) (δ:Ds):mH a δ=(a δ).bind λds=>.ok (.list ds):=rfl
@[simp]theorem bD (f:Gf) (a:Ds->Rs (List PyData)) (δ:Ds):ar f a δ=(a δ).bind f:=rfl
@[simp]theorem fH (a:Ds->Rs PyData) (δ:Ds):gT a δ=(a δ).bind truth:=rfl
@[simp]theorem bt (b:Bool):truth (.bool b)=.ok b:=rfl
@[simp]theorem rH (a:Ds->Rs Bool) (δ:Ds):fQ a δ=(a δ).bind λb=>.ok (!b):=rfl
@[simp]theorem Fe (a b:Ds->Rs Bool) (δ:Ds):Dg a b δ=(a δ).bind λx=>if x=true then b δ else .ok false:=rfl
@[simp]theorem EY (a b:Ds->Rs Bool) (δ:Ds):cOr a b δ=(a δ).bind λx=>if x=true then .ok true else b δ:=rfl
@[simp]theorem sq (a b:Ds->Rs PyData) (δ:Ds):vS a b δ=(a δ).bind λx=>(truth x).bind λt=>if t=true then b δ else .ok (.bool false):=rfl
@[simp]theorem JL (a b:Ds->Rs PyData) (δ:Ds):gOr a b δ=(a δ).bind λx=>(truth x).bind λt=>if t=true then .ok (.bool true) else b δ:=rfl
@[simp]theorem Jt (a:Ds->Rs PyData) (δ:Ds):JB a δ=(a δ).bind λx=>(truth x).bind λt=>.ok (.bool (!t)):=rfl
@[simp]theorem pL (a:Ds->Rs (List PyData)) (δ:Ds):gL a δ=(a δ).bind λds=>.ok (.list ds):=rfl
@[simp]theorem Jp (a:Ds->Rs PyData) (δ:Ds):cn a δ=(a δ).bind wX:=rfl
@[simp]theorem JF (ds:List PyData):wX (.list ds)=.ok ds:=rfl
@[simp]theorem Jj (ds:List PyData):wX (.tuple ds)=.ok ds:=rfl
@[simp]theorem j7 (a:Ds->Rs (List PyData)) (δ:Ds):gQ a δ=(a δ).bind DV:=rfl
@[simp]theorem IY (a:Ds->Rs (List PyData)) (δ:Ds):Ik a δ=(a δ).bind Im:=rfl
@[simp]theorem Jc (a:Ds->Rs (List PyData)) (δ:Ds):HV a δ=(a δ).bind Ie:=rfl
@[simp]theorem HC (a:Ds->Rs (List PyData)) (δ:Ds):gLR a δ=(a δ).bind sA:=rfl
@[simp]theorem DF (a:Ds->Rs (List PyData)) (δ:Ds):eZ a δ=(a δ).bind nH:=rfl
@[simp]theorem Ja (ds:List PyData):nH [.list ds]=.ok (fm ds):=rfl
@[simp]theorem EC (ds:List PyData):nH [.tuple ds]=.ok (fm ds):=rfl
@[simp]theorem Ir (f f':PyData->PyData->Option PyData) (a b c:Ds->Rs PyData) (δ:Ds):k7 f f' a b c δ=(a δ).bind λx=>(b δ).bind λy=>(Rs.dz (f x y)).bind λz=>(truth z).bind λt=>if t=true then (c δ).bind λw=>Rs.dz (f' y w) else .ok (.bool false):=rfl
@[simp]theorem Hr (δ:Ds):C3 δ=.ok none:=rfl
@[simp]theorem IX (g:Ds->Rs PyData) (δ:Ds):IL g δ=(g δ).bind BS:=rfl
@[simp]theorem IZ (i:Int):BS (.int i)=.ok (some i):=rfl
@[simp]theorem Hv (g:Ds->Rs PyData) (lo hi:Ds->Rs (Option Int)) (δ:Ds):FH g lo hi δ=(g δ).bind λd=>(lo δ).bind λl=>(hi δ).bind λh=>Rs.dz (DE d l h):=rfl
@[simp]theorem JK (x:List PyData) (lo hi:Option Int):DE (.list x) lo hi=some (.list (cutD x lo hi)):=rfl
@[simp]theorem JH (x:List PyData) (lo hi:Option Int):DE (.tuple x) lo hi=some (.tuple (cutD x lo hi)):=rfl
@[simp]theorem aP (a b:Ds->Sr) (δ:Ds):aF a b δ=match a δ with|.nx δ'=>b δ'|r=>r:=rfl
@[simp]theorem fB (δ:Ds):bg δ=.nx δ:=rfl
@[simp]theorem dF (c:Ds->Rs Bool) (a b:Ds->Sr) (δ:Ds):sIf c a b δ=ofR (c δ) λt=>if t=true then a δ else b δ:=rfl
@[simp]theorem bL (g:Ds->Rs PyData) (δ:Ds):bw g δ=ofR (g δ) .rt:=rfl
@[simp]theorem xt (g:Ds->Rs PyData) (δ:Ds):qF g δ=ofR (g δ) λ_=>.nx δ:=rfl
@[simp]theorem jk (i:Nat) (g:Ds->Rs PyData) (δ:Ds):aQ [] i g δ=if i<δ.length then ofR (g δ) λd=>.nx (δ.set i (some d)) else .no:=by unfold aQ;rw[kq]
@[simp]theorem Ia (C:Addr) (gs:Ds->Rs (List PyData)) (δ:Ds):iV C gs δ=ofR (gs δ) λ_=>.rz C:=rfl
theorem su (O:List Nat) (src:Ds->Rs (List PyData)) (tgt:PyData->Ds->Option Ds) (body:Ds->Sr) (δ:Ds):iy O src tgt body δ=ofR (src (mask O δ)) λds=>forL tgt body ds δ:=rfl
@[simp]theorem aX (d:PyData):bq (.rt d)=.ok d:=rfl
@[simp]theorem Hn (δ:Ds):bq (.nx δ)=.ok .none:=rfl
@[simp]theorem Hq (C:Addr):bq (.rz C)=.rz C:=rfl
@[simp]theorem Ho:bq .no=.no:=rfl
@[simp]theorem dZ (a b:Int):aV (.int a) (.int b)=some (.int (a+b)):=rfl
@[simp]theorem u6 (a b:Int):fA (.int a) (.int b)=some (.int (a-b)):=rfl
@[simp]theorem qv (a b:Int):dq (.int a) (.int b)=if 0<b then some (.int (a % b)) else none:=rfl
@[simp]theorem xf (a b:Int):ik (.int a) (.int b)=if 0<b/\b<1073741824 then some (.int (a / b)) else none:=rfl
@[simp]theorem Hj (a b:Int):dLt (.int a) (.int b)=some (.bool (decide (a<b))):=rfl
@[simp]theorem JJ (a b:Int):dLe (.int a) (.int b)=some (.bool (decide (a<=b))):=rfl
@[simp]theorem G9 (a b:Int):dGt (.int a) (.int b)=some (.bool (decide (b<a))):=rfl
@[simp]theorem JQ (a b:Int):dGe (.int a) (.int b)=some (.bool (decide (b<=a))):=rfl
@[simp]theorem EL (a:Int):mF (.int a)=some (.int (-a)):=rfl
@[simp]theorem Bq (d:PyData):mI d=some (.bool (eB d)):=rfl
@[simp]theorem Jo (d:PyData):ji d=some (.bool (!eB d)):=rfl
@[simp]theorem Av:eB .none=true:=rfl
@[simp]theorem zu (i:Int):eB (.int i)=false:=rfl
@[simp]theorem EO (x:List PyData) (i:Int):dIx (.tuple x) (.int i)=atI x i:=rfl
@[simp]theorem BF (x:List PyData) (i:Int):dIx (.list x) (.int i)=atI x i:=rfl
@[simp]theorem zM (x:List PyData):b8 [.tuple x]=some (.int x.length):=rfl
@[simp]theorem j4 (x:List PyData):b8 [.list x]=some (.int x.length):=rfl
@[simp]theorem vo (a b:Int):jE [.int a,.int b]=some (.int (if b<a then b else a)):=rfl
@[simp]theorem zF (a b:Int):gK [.int a,.int b]=some (.int (if b>a then b else a)):=rfl
@[simp]theorem FA (b:Bool):zr [.bool b]=some (.int (if b then 1 else 0)):=rfl
@[simp]theorem Al (x:List PyData):i9 [.list x]=some (.tuple x):=rfl
@[simp]theorem Jm (x:List PyData):i9 [.tuple x]=some (.tuple x):=rfl
@[simp]theorem jv (a b:Int):dEq (.int a) (.int b)=some (.bool (a==b)):=by
 have h:∀i:Int,PySem.SeqAt.shaped (.int i)=true:=λi=>by simp[PySem.SeqAt.shaped,PyData.canLay0,PyData.depth]
 unfold dEq;rw[h,h];simp[aA,PyData.eqv]
@[simp]theorem IS (a b:Int):dNe (.int a) (.int b)=some (.bool (!(a==b))):=by
 have h:∀i:Int,PySem.SeqAt.shaped (.int i)=true:=λi=>by simp[PySem.SeqAt.shaped,PyData.canLay0,PyData.depth]
 unfold dNe;rw[h,h];simp[aA,PyData.eqv]
theorem oU {xs:List α} {i:Int} (h:i=j):atI xs i=xs[j]?:=by
 subst h;unfold atI ixN;by_cases z:(j:Int)<xs.length
 ·rw[if_pos (by omega),if_pos z];simp
 ·rw[if_pos (by omega),if_neg z];simp;omega
@[simp]theorem JP (xs:List α):atI xs 0=xs[0]?:=oU (j:=0) rfl
@[simp]theorem JO (xs:List α):atI xs 1=xs[1]?:=oU (j:=1) rfl
@[simp]theorem JM (xs:List α):atI xs 2=xs[2]?:=oU (j:=2) rfl
@[simp]theorem JR (xs:List α):atI xs 3=xs[3]?:=oU (j:=3) rfl
theorem lS (xs:List α):atI xs (-1)=xs.getLast?:=by
 unfold atI ixN;rw[if_neg (by decide)];by_cases z:xs=[]
 ·subst z;rfl
 ·have:0<xs.length:=KL.mpr z;rw[if_pos (by omega),List.getLast?_eq_getElem?];simp only[Ky];congr 1;omega
theorem gW (g:α->Bool) (xs:List α):mD [.list (xs.map λd=>.bool (g d))]=some (.bool (xs.all g)):=by
 have a:gy (xs.map λd=>PyData.bool (g d))=some (xs.map g):=by rw[show (xs.map λd=>PyData.bool (g d))=(xs.map g).map PyData.bool by rw[Kb];rfl];exact n6 _
 show (gy (xs.map λd=>PyData.bool (g d))).map (λns=>PyData.bool (ns.all id))=_;rw[a,Ln,List.all_map];rfl
theorem comp_map {elt:Ds->Rs PyData} {δ:Ds} {f:PyData->PyData}:∀(ds:List PyData),(∀d∈ds,elt (δ++[some d])=.ok (f d))->cJ bc elt aO δ ds=.ok (ds.map f)
 |[],_=>rfl
 |d::r,h=>by unfold cJ;simp only[aO,bc,Rs.b9,Rs.ag,if_true,h d J9,comp_map r λe a=>h e (J8 _ a),J5]
theorem cK {elt:Ds->Rs PyData} {f:PyData->PyData} (hn:δ.length=n0) (a:src δ=.ok ds) (hl:ds.length<=1000000) (h:∀d∈ds,elt (δ++[some d])=.ok (f d)) :
  a9 n0 src bc elt aO δ=.ok (ds.map f):=by
 unfold a9;rw[if_pos hn,a];simp only[Rs.ag,if_pos hl];exact comp_map ds h
theorem ij:∀{ds:List PyData},cQ ds=true->∀d∈ds,aA d=true
 |[],_,d,hd=>by cases hd
 |e::r,h,d,hd=>by
  unfold cQ at h;obtain⟨h1,h2⟩:=Kx.mp h;rcases J7.mp hd with z|z
  ·rw[z];exact h1
  ·exact ij h2 d z
theorem df (h:aA (.tuple ds)=true):∀d∈ds,aA d=true:=by unfold aA at h;exact ij h
def aK:Gf
 |[d,.int a,.int b]=>if aA d then .ok (.bool (isWhole d a b)) else .no
 |_=>.no
theorem mO {f:PyData->Int->Int->Rs PyData} (h:(match ds with|[a,.int x1,.int x2]=>f a x1 x2|_=>.no)≠.no):∃a x1 x2,ds=[a,.int x1,.int x2]/\f a x1 x2≠.no:=by
 rcases ds with _|⟨a,_|⟨x1,_|⟨x2,_|⟨y,ys⟩⟩⟩⟩
 ·exact absurd rfl h
 ·exact absurd rfl h
 ·first|exact absurd rfl h|(cases x1 <;> exact absurd rfl h)
 ·skip
  cases x1 with
  |int x1 =>
   cases x2 with
   |int x2 =>exact⟨_,_,_,rfl,h⟩
   |_=>exact absurd rfl h
  |_=>first|exact absurd rfl h|(cases x2 <;> exact absurd rfl h)
 ·first|exact absurd rfl h|(cases x1 <;> first|exact absurd rfl h|(cases x2 <;> exact absurd rfl h))
abbrev LLq (G:Ds->Sr) (n k:Nat) (g:Gf):Prop:=∀ds,ds.length=n->g ds≠.no->bq (G (ds.map some++List.replicate k none))=g ds
theorem vZ (cs:Cs):LLq (iu cs) 3 0 aK:=by
 intro ds hl c;obtain⟨d,a,b,f,e⟩:=mO c;clear c;subst f;have c:=e;clear e;unfold aK
 ·skip
  split at c
  ·rename_i hd;simp only[hd,if_true];cases d with
   |int i=>by_cases h:a<=i <;> simp[iu,gz,hd,rB,tyD,isWhole,h]
   |dict _=>simp[aA]at hd
   |_=>simp[iu,gz,hd,rB,tyD,isWhole]
  ·exact absurd rfl c
def aN:Gf
 |[d,.int a,.int b]=>if aA d then .ok (.bool (bH d a b)) else .no
 |_=>.no
theorem wc (cs:Cs):LLq (iG cs) 3 0 aN:=by
 intro ds hl c;obtain⟨d,a,b,f,e⟩:=mO c;clear c;subst f;have c:=e;clear e;unfold aN
 ·skip
  split at c
  ·rename_i hd;simp only[hd,if_true];cases d with
   |tuple x=>by_cases h:a<=(x.length:Int) <;> simp[iG,gz,hd,rB,tyD,bH,h]
   |dict _=>simp[aA]at hd
   |_=>simp[iG,gz,hd,rB,tyD,bH]
  ·exact absurd rfl c
def fj (g:PyData->Bool):Gf
 |[d]=>if aA d then .ok (.bool (g d)) else .no
 |_=>.no
theorem nF (h:fj g ds≠.no):∃d,ds=[d]/\aA d=true/\fj g ds=.ok (.bool (g d)):=by
 unfold fj at h ⊢;split at h
 ·rename_i d;split at h
  ·rename_i hd;exact⟨d,rfl,hd,by simp[hd]⟩
  ·exact absurd rfl h
 ·exact absurd rfl h
theorem nN {d:PyData} (h:aA d=true):fj g [d]=.ok (.bool (g d)):=by unfold fj;simp[h]
@[simp]theorem Hs {d:PyData} (h:aA d=true):aN [d,.int a,.int b]=.ok (.bool (bH d a b)):=by unfold aN;simp[h]
@[simp]theorem tJ {d:PyData} (h:aA d=true):aK [d,.int a,.int b]=.ok (.bool (isWhole d a b)):=by unfold aK;simp[h]
theorem tV {d:PyData} (h:bH d 2 2=true):∃a b,d=.tuple [a,b]:=by
 cases d with
 |tuple ds =>
  simp[bH]at h
  match ds,h with
  |[a,b],_=>exact⟨a,b,rfl⟩
  |[],h=>simp at h
  |[_],h=>simp at h
  |_::_::_::_,h=>simp at h;omega
 |_=>cases h
theorem ym (cs:Cs):LLq (fI cs aK aN) 1 0 (fj cZ):=by
 intro ds hl c;obtain⟨d,rfl,hd,e⟩:=nF c;rw[e];cases e1:bH d 2 2 with
 |false =>
  have:cZ d=false:=by
   unfold cZ;split
   ·simp[bH]at e1
   ·rfl
  simp[fI,hd,e1,this]
 |true =>
  obtain⟨a,b,rfl⟩:=tV e1;have ha:=df hd a (by simp);have f:=df hd b (by simp);cases e2:isWhole a 1 20 with
  |false=>simp[fI,hd,ha,e1,e2,cZ]
  |true =>
   cases b with
   |none=>simp[fI,hd,ha,e1,e2,cZ]
   |_=>simp[fI,hd,ha,f,e1,e2,cZ,eB]
theorem u3 (cs:Cs):LLq (fc cs aN (fj cZ)) 1 0 (fj dC):=by
 intro ds hl c;obtain⟨d,rfl,hd,e⟩:=nF c;rw[e];cases e1:bH d 1 4 with
 |false =>
  have:dC d=false:=by
   cases d with
   |tuple ds =>simp only[bH,Kw,decide_eq_false_iff_not]at e1;simp only[dC,Kw,decide_eq_false_iff_not];refine .inl (.inl ?_);omega
   |_=>rfl
  simp[fc,hd,e1,this]
 |true =>
  obtain⟨xs,rfl⟩:∃ds,d=.tuple ds:=by cases d <;> first|exact⟨_,rfl⟩|cases e1
  have hn:1<=xs.length/\xs.length<=4:=by simp only[bH,JZ,decide_eq_true_eq]at e1;omega
  have hc:a9 1 (cn (af 0)) bc (ar (fj cZ) (ae (af 1) ah)) aO [some (.tuple xs)]=.ok (xs.map λd=>.bool (cZ d)) :=
   cK rfl rfl (by omega) λd h=>by simp[nN (df hd d h)]
  have l:=gW cZ xs;cases e2:xs.all cZ with
  |false=>simp[fc,hd,e1,hc,l,e2,dC]
  |true =>
   have c:xs≠[]:=by intro z;subst z;simp at hn
   have f:xs.getLast?=some (xs.getLast c):=List.getLast?_eq_some_getLast c;have g:=K9.mp e2 _ (List.getLast_mem c);obtain⟨a,b,i⟩:∃a b,xs.getLast c=.tuple [a,b]:=by
    revert g;generalize xs.getLast c=z;intro g;unfold cZ at g;split at g
    ·exact⟨_,_,rfl⟩
    ·cases g
   rw[i]at f;have j:iQ xs=eB b:=by unfold iQ;rw[f];cases b <;> rfl
   simp[fc,hd,e1,hc,l,e2,dC,lS,f,j,hn.1,hn.2]
theorem rW {d:PyData} (h:bH d 4 4=true):∃a b c e,d=.tuple [a,b,c,e]:=by
 cases d with
 |tuple ds =>
  simp[bH]at h
  match ds,h with
  |[a,b,c,e],_=>exact⟨a,b,c,e,rfl⟩
  |[],h=>simp at h
  |[_],h=>simp at h
  |[_,_],h=>simp at h
  |[_,_,_],h=>simp at h
  |_::_::_::_::_::_,h=>simp at h;omega
 |_=>cases h
theorem fe {d:PyData} (h:isWhole d a b=true):∃i,d=.int i/\a<=i/\i<=b:=by
 cases d with
 |int i=>simp[isWhole]at h;exact⟨i,rfl,h⟩
 |_=>cases h
theorem nU {a b c:PyData} (h:isWhole a 2 60=false):bz (.tuple [a,b,c,e])=false:=by
 cases a with
 |int i =>
  cases c with
  |int l =>simp only[isWhole,Kw,decide_eq_false_iff_not]at h;simp only[bz,Kw,decide_eq_false_iff_not];omega
  |_=>rfl
 |_=>rfl
theorem pP {b c:PyData} {i:Int} (h:isWhole c 0 (if i-1<20 then i-1 else 20)=false):bz (.tuple [.int i,b,c,e])=false:=by
 cases c with
 |int l =>simp only[isWhole,Kw,decide_eq_false_iff_not]at h;simp only[bz,Kw,decide_eq_false_iff_not];exact .inl (.inl (.inr h))
 |_=>rfl
theorem pO {b:PyData} {i l:Int} (h1:2<=i/\i<=60) (h2:0<=l/\l<=if i-1<20 then i-1 else 20):bz (.tuple [.int i,b,.int l,e])=(isWhole b 1 (i-l)&&dC e):=by simp[bz,h1.1,h1.2,h2.1,h2.2]
theorem tm (cs:Cs):LLq (c9 cs aK (fj dC) aN) 1 3 (fj bz):=by
 intro ds hl h;obtain⟨d,rfl,hd,e⟩:=nF h;rw[e];cases e1:bH d 4 4 with
 |false =>
  have:bz d=false:=by
   unfold bz;split
   ·simp[bH]at e1
   ·rfl
  simp[c9,hd,e1,this]
 |true =>
  obtain⟨a,b,c,q,rfl⟩:=rW e1;have ha:=df hd a (by simp);have g:=df hd b (by simp);have hc:=df hd c (by simp);have f:=df hd q (by simp);cases e2:isWhole a 2 60 with
  |false=>simp[c9,hd,ha,g,hc,f,e1,e2,nU e2]
  |true =>
   obtain⟨i,rfl,i1,i2⟩:=fe e2;cases e3:isWhole c 0 (if i-1<20 then i-1 else 20) with
   |false=>simp[c9,hd,ha,g,hc,f,e1,e2,e3,pP e3]
   |true =>
    obtain⟨l,rfl,l1,l2⟩:=fe e3;have j:=pO (b:=b) (e:=q) ⟨i1,i2⟩ ⟨l1,l2⟩;cases e4:isWhole b 1 (i-l) with
    |false=>simp[c9,hd,ha,g,hc,f,e1,e2,e3,e4,j]
    |true=>simp[c9,hd,ha,g,hc,f,e1,e2,e3,e4,j,nN f]
def bx (cs:Cs):Gf
 |[d]=>if aA d then (if dW d then .ok d else .rz cs.NoErrands) else .no
 |_=>.no
theorem xZ (cs:Cs):LLq (gE cs aN (fj bz)) 1 0 (bx cs):=by
 intro ds hl a;obtain⟨d,rfl⟩:∃d,ds=[d]:=by
  match ds,hl with
  |[d],_=>exact⟨d,rfl⟩
 have hd:aA d=true:=by
  unfold bx at a;by_cases z:aA d=true
  ·exact z
  ·simp[z]at a
 have e:bx cs [d]=if dW d then .ok d else .rz cs.NoErrands:=by unfold bx;simp[hd]
 rw[e];cases e1:bH d 1 6 with
 |false =>
  have:dW d=false:=by
   cases d with
   |tuple ds =>simp only[bH,Kw,decide_eq_false_iff_not]at e1;simp only[dW,Kw,decide_eq_false_iff_not];refine .inl ?_;omega
   |_=>rfl
  simp[gE,hd,e1,this]
 |true =>
  obtain⟨xs,rfl⟩:∃ds,d=.tuple ds:=by cases d <;> first|exact⟨_,rfl⟩|cases e1
  have hn:1<=xs.length/\xs.length<=6:=by simp only[bH,JZ,decide_eq_true_eq]at e1;omega
  have hc:a9 1 (cn (af 0)) bc (ar (fj bz) (ae (af 1) ah)) aO [some (.tuple xs)]=.ok (xs.map λd=>.bool (bz d)) :=
   cK rfl rfl (by omega) λd b=>by simp[nN (df hd d b)]
  have c:=gW bz xs;cases e2:xs.all bz with
  |false=>simp[gE,hd,e1,hc,c,e2,dW]
  |true=>simp[gE,hd,e1,hc,c,e2,dW,hn.1,hn.2]
theorem jX {β:Type} {tgt:PyData->Ds->Option Ds} {body:Ds->Sr} (inv:Nat->Ds->Prop):∀(ds:List PyData) (k:Nat),(∀(i:Nat) d δ,ds[i]?=some d->inv (k+i) δ->∃δ1 a,tgt d δ=some δ1/\body δ1=.nx a/\inv (k+i+1) a) ->
  ∀δ,inv k δ->∃b,forL tgt body ds δ=.nx b/\inv (k+ds.length) b
 |[],k,_,δ,h=>⟨δ,rfl,h⟩
 |d::r,k,hs,δ,h=>by
  obtain⟨δ1,a,e1,e2,h2⟩:=hs 0 d δ rfl h;obtain⟨b,c,e⟩:=jX (β:=β) inv r (k+1) (λi x δ f hi=>by have:=hs (i+1) x δ (by simpa using f) (by rw[show k+(i+1)=k+1+i by omega];exact hi);rw[show k+1+i+1=k+(i+1)+1 by omega];exact this) a h2
  exact⟨b,by unfold forL;rw[e1];simp only[e2];exact c,by rw[Ka,show k+(r.length+1)=k+1+r.length by omega];exact e⟩
noncomputable def B1:PyData->Option Int
 |.int i=>some i
 |_=>none
def dR:PyData->Int×Option Int
 |.tuple [.int l,t]=>(l,B1 t)
 |_=>(0,none)
def deE:PyData->Er
 |.tuple [.int e,.int d,.int l,.tuple ps]=>⟨e,d,l,ps.map dR⟩
 |_=>⟨0,0,0,[]⟩
theorem AB (e:Int) (d:Int) (l:Int) (ps:List PyData):deE (.tuple [.int e,.int d,.int l,.tuple ps])=⟨e,d,l,ps.map dR⟩:=rfl
def kG:PyData->List Er
 |.tuple ds=>ds.map deE
 |_=>[]
theorem wb (o:Option Int):B1 (cU o)=o:=by cases o <;> rfl
theorem oF (p:Int×Option Int):dR (a8 p)=p:=by obtain⟨l,t⟩:=p;simp[a8,dR,wb]
theorem xA (e:Er):deE e.d=e:=by
 obtain⟨a,b,c,ps⟩:=e;simp[Er.d,AB,Kb]
 conv=>rhs;rw[<-KD ps]
 exact Ke λp _=>oF p
theorem vO (es:List Er):kG (aR es)=es:=by
 simp[aR,kG,Kb]
 conv=>rhs;rw[<-KD es]
 exact Ke λe _=>xA e
def deI:PyData->Int
 |.int i=>i
 |_=>0
def fT:PyData->List Int
 |.tuple ds=>ds.map deI
 |_=>[]
def aT (ns:List Int):PyData:=.tuple (ns.map .int)
theorem oj (ns:List Int):fT (aT ns)=ns:=by
 simp[aT,fT,Kb]
 conv=>rhs;rw[<-KD ns]
 exact Ke λ_ _=>rfl
def dG (n:Nat):PyData->Bool
 |.tuple ds=>decide (ds.length=n)&&ds.all (λd=>isWhole d 0 ((n:Int)-1))&&decide (ds.map deI).Nodup
 |_=>false
structure je (n:Nat) (rs:List Int):Prop where
 len:rs.length=n
 rng:∀r∈rs,0<=r/\r<n
 nd:rs.Nodup
theorem tP {d:PyData} (h:dG n d=true):aT (fT d)=d/\je n (fT d):=by
 unfold dG at h;split at h
 ·rename_i ds;simp only[JZ,decide_eq_true_eq]at h;obtain⟨⟨h1,h2⟩,e⟩:=h;have c:=K9.mp h2;refine⟨?_,by simpa[fT] using h1,λr f=>?_,e⟩
  ·simp only[fT,aT,Kb];congr 1
   conv=>rhs;rw[<-KD ds]
   refine Ke λp g=>?_
   obtain⟨i,rfl,_⟩:=fe (c p g);rfl
  ·obtain⟨q,j,rfl⟩:=K1.mp (show r∈ds.map deI from f);obtain⟨i,rfl,a,b⟩:=fe (c q j);exact⟨a,by show i<n;omega⟩
 ·cases h
theorem jV (h:je n rs):dG n (aT rs)=true:=by
 have e:(rs.map PyData.int).map deI=rs:=by
  rw[Kb];conv=>rhs;rw[<-KD rs]
  exact Ke λ_ _=>rfl
 unfold dG aT;simp only[J6,h.len,decide_true,LA,e,h.nd,Ld];rw[K9];intro d hd;obtain⟨r,a,rfl⟩:=K1.mp hd;have:=h.rng r a;simp[isWhole,this.1];omega
theorem kR:∀(l acc:List Int),acc.Nodup->((l.foldl PyProof.Rows.step_dedup acc).length<=acc.length+l.length)/\((l.foldl PyProof.Rows.step_dedup acc).length=acc.length+l.length↔(acc++l).Nodup)
 |[],acc,h=>by simpa using h
 |x::r,acc,h=>by
  rw[List.foldl_cons];by_cases z:acc.any (·==x)=true
  ·have e:PyProof.Rows.step_dedup acc x=acc:=by unfold PyProof.Rows.step_dedup;rw[if_pos z]
   rw[e];have:=kR r acc h;refine⟨by rw[Ka];omega,λq=>?_,λq=>?_⟩
   ·rw[Ka]at q;omega
   ·exfalso;obtain⟨y,c,f⟩:=Lb.mp z;have:y=x:=by simpa using f
    subst this;rw[Ly]at q;exact q.2.2 y c y J9 rfl
  ·have e:PyProof.Rows.step_dedup acc x=acc++[x]:=by unfold PyProof.Rows.step_dedup;rw[if_neg z]
   have g:x∉acc:=λq=>z (Lb.mpr ⟨x,q,by simp⟩)
   have hn:(acc++[x]).Nodup:=by rw[Ly];exact⟨h,by simp,λa ha b i=>by rw[JW.mp i];rintro rfl;exact g ha⟩
   rw[e];have:=kR r (acc++[x]) hn;rw[K0,Kv,LL]at this;refine⟨by rw[Ka];omega,?_⟩;rw[Ka,show acc.length+(r.length+1)=acc.length+1+r.length by omega];exact this.2
theorem vF (ns:List Int):((seen ns ns.length).length:Int)<ns.length↔¬ ns.Nodup:=by
 have e:(List.range ns.length).map (λi=>ns.getD i 0)=ns:=by
  apply KI;intro i;rw[JY];by_cases h:i<ns.length
  ·rw[LG h,J0 h];simp[K6,J0 h]
  ·rw[La (by simpa using h),La (by simpa using h)];rfl
 have:=kR ns [] Lw;unfold seen PyProof.Rows.firstMet;rw[e];simp only[KQ,KP,Kt]at this;constructor
 ·intro h q;have:=this.2.mpr q;omega
 ·intro h;have h1:=this.1;have h2:¬ (List.foldl PyProof.Rows.step_dedup [] ns).length=ns.length:=λq=>h (this.2.mp q)
  omega
def bo (cs:Cs):Gf
 |[.tuple es,r]=>if aA r&&decide (es.length<=100) then (if dG es.length r then .ok r else .rz cs.NoRanks) else .no
 |_=>.no
theorem GS {f:List PyData->PyData->Rs PyData} (h:(match ds with|[.tuple a,x1]=>f a x1|_=>.no)≠.no):∃a x1,ds=[.tuple a,x1]/\f a x1≠.no:=by
 rcases ds with _|⟨a,_|⟨x1,_|⟨y,ys⟩⟩⟩
 ·exact absurd rfl h
 ·first|exact absurd rfl h|(cases a <;> exact absurd rfl h)
 ·skip
  cases a with
  |tuple a =>exact⟨_,_,rfl,h⟩
  |_=>exact absurd rfl h
 ·first|exact absurd rfl h|(cases a <;> exact absurd rfl h)
theorem mL (cs:Cs):LLq (cg cs aN aK) 2 1 (bo cs):=by
 intro ds hl a;obtain⟨es,r,l,j⟩:=GS a;clear a;subst l;have a:=j;clear j;unfold bo
 ·skip
  split at a
  ·rename_i c;simp only[c,if_true];rw[JZ,decide_eq_true_eq]at c;obtain⟨hd,h100⟩:=c;cases e1:bH r es.length es.length with
   |false =>
    have:dG es.length r=false:=by
     cases r with
     |tuple xs =>
      have:xs.length≠es.length:=λq=>by simp[bH,q]at e1
      simp[dG,this]
     |_=>rfl
    simp[cg,hd,e1,this]
   |true =>
    obtain⟨xs,rfl⟩:∃ds,r=.tuple ds:=by cases r <;> first|exact⟨_,rfl⟩|cases e1
    have hn:xs.length=es.length:=by simp only[bH,JZ,decide_eq_true_eq]at e1;omega
    have hc:a9 3 (cn (af 1)) bc (ar aK (ae (af 3) (ae (gC (.int 0)) (ae (af 2) ah)))) aO [some (.tuple es),some (.tuple xs),some (.int ((es.length:Int)-1))]=.ok (xs.map λd=>.bool (isWhole d 0 ((es.length:Int)-1))) :=
     cK rfl rfl (by omega) λd e=>by simp[df hd d e]
    have f:=gW (λd=>isWhole d 0 ((es.length:Int)-1)) xs;cases e2:xs.all (λd=>isWhole d 0 ((es.length:Int)-1)) with
    |false=>simp[cg,hd,e1,hc,f,e2,dG]
    |true =>
     have m:=K9.mp e2;have n:xs=(xs.map deI).map PyData.int:=by
      rw[Kb]
      conv=>lhs;rw[<-KD xs]
      refine Ke λp o=>?_
      obtain⟨i,rfl,_⟩:=fe (m p o);rfl
     have g:ko [.tuple xs]=some (.int (seen (xs.map deI) (xs.map deI).length).length):=by
      unfold ko
      conv=>lhs;rw[n]
      simp only[fK,Ky];rw[if_pos (by simp;omega)]
     have b:=vF (xs.map deI);have h:(xs.map deI).length=es.length:=by rw[J6];exact hn
     rw[h]at g b;by_cases hnd:(xs.map deI).Nodup
     ·have h2:¬ (seen (xs.map deI) es.length).length<es.length:=λq=>b.mp (by omega) hnd
      simp[cg,hd,e1,hc,f,e2,g,hn,h2,dG,hnd]
     ·have h2:(seen (xs.map deI) es.length).length<es.length:=by have:=b.mpr hnd;omega
      simp[cg,hd,e1,hc,f,e2,g,hn,h2,dG,hnd]
  ·exact absurd rfl a
noncomputable def jh:PyData->Bool
 |.tuple [.int l,b]=>decide (0<=l)&&decide (l<=1000000)&&(match b with|.none=>true|.int t=>decide (0<=t)&&decide (t<=3)|_=>false)
 |_=>false
def uS:PyData->Bool
 |.tuple [.int e,.int _,.int l,.tuple ps]=>decide (1<=e)&&decide (e<1073741824)&&decide (-1000000000<=l)&&decide (l<=1000000000)&&decide (ps.length<=1000)&&ps.all jh
 |_=>false
def qM:PyData->Bool
 |.tuple ds=>decide (ds.length<=100)&&ds.all uS
 |_=>false
structure Er.Sh (e:Er):Prop where
 e1:1<=e.every
 e2:e.every<1073741824
 l1:-1000000000<=e.late
 l2:e.late<=1000000000
 pn:e.parts.length<=1000
 pl:∀p∈e.parts,0<=p.1/\p.1<=1000000/\∀t,p.2=some t->0<=t/\t<=3
theorem qB {d:PyData} (h:jh d=true):a8 (dR d)=d/\0<=(dR d).1/\(dR d).1<=1000000/\∀t,(dR d).2=some t->0<=t/\t<=3:=by
 unfold jh at h;split at h
 ·rename_i l b;simp only[JZ,decide_eq_true_eq]at h;obtain⟨⟨h1,h2⟩,a⟩:=h;cases b with
  |none=>exact⟨rfl,h1,h2,λt q=>by cases q⟩
  |int t =>simp only[JZ,decide_eq_true_eq]at a;exact⟨rfl,h1,h2,λt q=>by cases q;exact a⟩
  |_=>cases a
 ·cases h
theorem uN {d:PyData} (h:uS d=true):(deE d).d=d/\(deE d).Sh:=by
 unfold uS at h;split at h
 ·rename_i e du l ps;simp only[JZ,decide_eq_true_eq]at h;obtain⟨⟨⟨⟨⟨h1,h2⟩,a⟩,b⟩,g⟩,i⟩:=h;have f:=K9.mp i;have j:ps.map (a8∘dR)=ps:=by
   conv=>rhs;rw[<-KD ps]
   exact Ke λp c=>(qB (f p c)).1
  refine⟨by simp only[AB,Er.d,Kb,j],h1,h2,a,b,by simpa[AB] using g,λp c=>?_⟩;obtain⟨q,m,rfl⟩:=K1.mp (show p∈ps.map dR from c);exact (qB (f q m)).2
 ·cases h
theorem mP {e:Er} (h:e.Sh):uS e.d=true:=by
 unfold uS Er.d;simp only[h.e1,h.e2,h.l1,h.l2,decide_true,LA,J6,h.pn];rw[K9];intro d hd;obtain⟨p,f,rfl⟩:=K1.mp hd;obtain⟨a,b,c⟩:=h.pl p f;obtain⟨l,t⟩:=p;cases t with
 |none=>simp at a b;simp[jh,a8,cU,a,b]
 |some t=>have:=c t rfl;simp at a b;simp[jh,a8,cU,a,b,this.1,this.2]
theorem Er.Ok.sh {e:Er} (h:e.Ok):e.Sh:=⟨by have:=h.e1;omega,by have:=h.e2;omega,by have:=h.l1;omega,by have:=h.l2;omega,by have:=h.p2;omega,λp f=>by obtain⟨a,b,c⟩:=h.pl p f;exact⟨by omega,by omega,c⟩⟩
theorem BV {d:PyData} (h:qM d=true):aR (kG d)=d/\(kG d).length<=100/\∀e∈kG d,e.Sh:=by
 unfold qM at h;split at h
 ·rename_i ds;simp only[JZ,decide_eq_true_eq]at h;have a:=K9.mp h.2;refine⟨?_,by simpa[kG] using h.1,λe b=>?_⟩
  ·simp only[kG,aR,Kb];congr 1
   conv=>rhs;rw[<-KD ds]
   exact Ke λp c=>(uN (a p c)).1
  ·obtain⟨q,f,rfl⟩:=K1.mp (show e∈ds.map deE from b);exact (uN (a q f)).2
 ·cases h
theorem uj (h1:es.length<=100) (h:∀e∈es,e.Sh):qM (aR es)=true:=by unfold qM aR;simp only[J6,h1,decide_true,LA];rw[K9];intro d hd;obtain⟨e,a,rfl⟩:=K1.mp hd;exact mP (h e a)
def Er.has (e:Er) (t:Int):Bool:=e.parts.any λp=>p.2==some t
noncomputable def er0:Er:=⟨1,1,0,[]⟩
def fY (es:List Er) (n:Int):Er:=es.getD n.toNat er0
def hts (es:List Er):List Int->Int->Int->Option Int
 |[],_,_=>none
 |r::rs,k,t=>if (fY es r).has t then some k else hts es rs (k+1) t
def eG (es:List Er) (rs:List Int) (t:Int):Option Int:=hts es rs 0 t
def placeOf (rs:List Int) (n:Int):Nat:=rs.findIdx (·==n)
theorem nu {n:Int} (h0:0<=n) (h1:n<es.length):es[n.toNat]?=some (fY es n):=by unfold fY;rw[K6,J0 (by omega)];rfl
theorem gO {n:Int} (a:0<=n) (h1:n<es.length):fY es n∈es:=Kn (nu a h1)
theorem sN {n:Int} (a:0<=n) (h1:n<es.length):atI (es.map Er.d) n=some (fY es n).d:=by rw[oU (j:=n.toNat) (by omega),JY,nu a h1];rfl
theorem Gv (p:Int×Option Int):dIx (a8 p) (.int 0)=some (.int p.1):=rfl
theorem Gm (p:Int×Option Int):dIx (a8 p) (.int 1)=some (cU p.2):=rfl
theorem IK (e:Er):dIx e.d (.int 3)=some (.tuple (e.parts.map a8)):=rfl
theorem wy {n:Int} (h:n∈rs):placeOf rs n<rs.length:=List.findIdx_lt_length_of_exists ⟨n,h,by simp⟩
theorem tL:∀{l m:List Int},l.Nodup->(∀x∈l,x∈m)->l.length<=m.length
 |[],m,_,_=>Ks _
 |x::r,m,hn,hs=>by
  rw[Kp]at hn;have a:=hs x J9;have:=tL (l:=r) (m:=m.erase x) hn.2 λy b=>by rw[List.mem_erase_of_ne (by rintro rfl;exact hn.1 b)];exact hs y (J8 _ b)
  rw[List.length_erase_of_mem a]at this;have hp:=List.length_pos_of_mem a;rw[Ka];omega
theorem je.mem {k:Nat} (h:je k rs) {n:Int} (c:0<=n) (h1:n<k):n∈rs:=by
 have base:∀x:Int,0<=x->x<k->x∈(List.range k).map λ(i:Nat)=>(i:Int):=λx a b=>K1.mpr ⟨x.toNat,Lv.mpr (by omega),by omega⟩
 by_cases z:n∈rs
 ·exact z
 ·exfalso;have:=tL (l:=n::rs) (m:=(List.range k).map λ(i:Nat)=>(i:Int)) (Kp.mpr ⟨z,h.nd⟩) λx e=>by
   rcases J7.mp e with q|q
   ·rw[q];exact base n c h1
   ·have:=h.rng x q;exact base x this.1 this.2
  have hl:=h.len;simp at this;omega
theorem xV (ns:List Int):(ns.map PyData.int).all fk=true:=by rw[K9];intro d hd;obtain⟨n,_,rfl⟩:=K1.mp hd;rfl
theorem kO (n:Int):∀rs:List Int,n∈rs->(((rs.map PyData.int).map toV).findIdx? λz=>eqV z (.int n))=some (placeOf rs n)
 |[],h=>by cases h
 |r::rs,h=>by
  have b:eqV (.int r) (.int n)=(r==n):=rfl;rw[J5,J5,List.findIdx?_cons];unfold placeOf;rw[List.findIdx_cons];show (if eqV (.int r) (.int n)=true then some 0 else _)=_;rw[b];cases hr:r==n with
  |true=>rfl
  |false =>
   have a:r≠n:=by simpa using hr
   have:=kO n rs ((J7.mp h).resolve_left λq=>a q.symm);rw[if_neg Kf,this];rfl
theorem uv {n:Int} (h:n∈rs):ll (rs.map .int) (.int n)=some (.int (placeOf rs n)):=by unfold ll;rw[xV,show fk (.int n)=true from rfl];simp only[Bool.and_self,if_true];rw[show toV (.int n)=.int n from rfl,kO n rs h];rfl
@[simp]theorem Hf (go ga:Ds->Rs PyData) (δ:Ds):vW go ga δ=(go δ).bind λd=>match d with|.tuple xs=>(ga δ).bind λy=>Rs.dz (ll xs y)|_=>.no:=rfl
theorem sY (es:List Er) (t:Int):∀(rs:List Int) (k:Int) (m:Int),m∈rs->(fY es m).has t=true->∃h,hts es rs k t=some h
 |[],_,_,h,_=>by cases h
 |r::rs,k,m,h,ht=>by
  unfold hts;by_cases z:(fY es r).has t=true
  ·exact⟨k,by rw[if_pos z]⟩
  ·rw[if_neg z];rcases J7.mp h with q|q
   ·subst q;exact absurd ht z
   ·exact sY es t rs (k+1) m q ht
theorem AG (h1:-(2 ^ 64)<b) (h2:b<2 ^ 64):eC (.int a) (.int b)=some (.int (a*b)):=by show (if _ then _ else _)=_;rw[if_pos (.inr ⟨h1,h2⟩)]
theorem rA (h1:-(2 ^ 64)<a) (h2:a<2 ^ 64):eC (.int a) (.int b)=some (.int (a*b)):=by show (if _ then _ else _)=_;rw[if_pos (.inl ⟨h1,h2⟩)]
def d8:PyData->Option (List Int)
 |.dict [(.none,.list l)]=>gU l
 |_=>none
theorem eS (ns:List Int):d8 (aj ns)=some ns:=fK ns
def ai:Gf
 |[s,.int k,.int many]=>(match d8 s with
  |some ns=>if 0<=k/\0<many then .ok (.int (mixed ns k many)) else .no
  |none=>.no)
 |_=>.no
theorem bR {k:Int} (h1:0<=k) (h2:0<many):ai [aj ns,.int k,.int many]=.ok (.int (mixed ns k many)):=by unfold ai;simp[eS,h1,h2]
theorem lj (O:List Nat) (i:Nat) (g:Ds->Rs PyData) (δ:Ds):aQ O i g δ=if i<δ.length then ofR (g (mask O δ)) λd=>.nx (δ.set i (some d)) else .no:=rfl
def bI:Gf
 |[s,.int a,.int top,.bool tools]=>(match d8 s with
  |some ns=>if 0<=a/\0<top/\top<=58 then .ok (mkE ns a top tools).d else .no
  |none=>.no)
 |_=>.no
theorem gN {top:Int} {b:Bool} (h1:0<=a) (h2:0<top) (c:top<=58):bI [aj ns,.int a,.int top,.bool b]=.ok (mkE ns a top b).d:=by unfold bI;simp[eS,h1,h2,c]
theorem yX (o:Option Int):eM (cU o)=true:=by cases o <;> (unfold cU eM;rfl)
theorem vu (p:Int×Option Int):eM (a8 p)=true:=by unfold a8 eM jP;rw[show eM (.int p.1)=true by unfold eM;rfl];unfold jP;rw[yX];unfold jP;rfl
theorem AN {i:Int} (h0:0<=i) (h1:i<5):atI [PyData.int 0,PyData.int 1,PyData.int 1,PyData.int 0,PyData.none] i=some (cU (jF i)):=by
 have:i=0\/i=1\/i=2\/i=3\/i=4:=by omega
 rcases this with rfl|rfl|rfl|rfl|rfl <;> rfl
theorem tX (ns:List Int) (a top:Int) (b:Bool) (e la f:PyData) (ha:0<=a) (L:List PyData) (hL:L.length<1000) (i:Nat) (x8 g:Option PyData) :
   aF (aQ [7] 9 (ar ai (ae (af 0) (ae (g2 aV (g2 aV (af 1) (gC (.int 4))) (af 8)) (ae (gC (.int 40)) ah)))))
   (aF (jM [7] 7 (fZ (ae (g2 aV (gC (.int 1)) (g2 dq (af 9) (gC (.int 4)))) (ae (g2 dIx (mH (ae (gC (.int 0)) (ae (gC (.int 1)) (ae (gC (.int 1)) (ae (gC (.int 0)) (ae (gC .none) ah)))))) (g2 dq (g2 ik (af 9) (gC (.int 4))) (gC (.int 5)))) ah))))
   (sIf (fQ (gT (af 3))) (yQ 7 (g1 mF (gC (.int 1))) (fZ (ae (g2 dIx (g2 dIx (af 7) (g1 mF (gC (.int 1)))) (gC (.int 0))) (ae (gC .none) ah)))) bg))
     [some (aj ns),some (.int a),some (.int top),some (.bool b),some e,some la,some f,some (.list L),some (.int (0+(i:Int))),g]
  =.nx [some (aj ns),some (.int a),some (.int top),some (.bool b),some e,some la,some f,some (.list (L++[a8 (dP ns (a+4+(i:Int)) b)])),some (.int (0+(i:Int))),some (.int (mixed ns (a+4+(0+(i:Int))) 40))]:=by
 have hm:=bR (ns:=ns) (k:=a+4+(0+(i:Int))) (many:=40) (by omega) (by decide);have m0:=bZ ns (a+4+(0+(i:Int))) (many:=40) (by decide);have m1:=cp ns (a+4+(0+(i:Int))) (many:=40) (by decide);have j:a+4+(0+(i:Int))=a+4+(i:Int):=by omega
 generalize hc:mixed ns (a+4+(0+(i:Int))) 40=c at *;have l:0<=c / 4 % 5:=KR _ (by decide);have m:c / 4 % 5<5:=KW _ (by decide);have n:=AN l m;have h:dP ns (a+4+(i:Int)) b=(1+c % 4,if b then jF (c / 4 % 5) else none):=by unfold dP;rw[<-j,hc]
 have o:aQ [7] 9 (ar ai (ae (af 0) (ae (g2 aV (g2 aV (af 1) (gC (.int 4))) (af 8)) (ae (gC (.int 40)) ah)))) [some (aj ns),some (.int a),some (.int top),some (.bool b),some e,some la,some f,some (.list L),some (.int (0+(i:Int))),g]
    =.nx [some (aj ns),some (.int a),some (.int top),some (.bool b),some e,some la,some f,some (.list L),some (.int (0+(i:Int))),some (.int c)]:=by
   rw[lj,if_pos (by simp)];simp only[bD,aE,aI,bQ,bj (show 0∉[7] by decide),bj (show 1∉[7] by decide),bj (show 8∉[7] by decide),aq,aw,c8,Rs.ag,dZ,Rs.ak,hm,az];rfl
 have s2:jM [7] 7 (fZ (ae (g2 aV (gC (.int 1)) (g2 dq (af 9) (gC (.int 4)))) (ae (g2 dIx (mH (ae (gC (.int 0)) (ae (gC (.int 1)) (ae (gC (.int 1)) (ae (gC (.int 0)) (ae (gC .none) ah)))))) (g2 dq (g2 ik (af 9) (gC (.int 4))) (gC (.int 5)))) ah)))
     [some (aj ns),some (.int a),some (.int top),some (.bool b),some e,some la,some f,some (.list L),some (.int (0+(i:Int))),some (.int c)]
    =.nx [some (aj ns),some (.int a),some (.int top),some (.bool b),some e,some la,some f,some (.list (L++[a8 (1+c % 4,jF (c / 4 % 5))])),some (.int (0+(i:Int))),some (.int c)]:=by
   unfold jM;simp only[L7,L8];simp only[lO,vC,aE,aI,bQ,bj (show 9∉[7] by decide),aq,aw,c8,Rs.ag,dZ,Rs.ak,qv,xf,if_pos (show (0:Int)<4 by decide),if_pos (show (0:Int)<5 by decide),if_pos (show (0:Int)<4/\(4:Int)<1073741824 by decide),BF,n,az,if_pos (show L.length<1000000 by omega)];rfl
 rw[aP,o];simp only;rw[aP,s2];simp only;cases b with
 |true =>rw[h];simp
 |false =>
   rw[h];have hl:atI (L++[a8 (1+c % 4,jF (c / 4 % 5))]) (-1)=some (a8 (1+c % 4,jF (c / 4 % 5))):=by rw[lS];simp
   have p:ixN (L++[a8 (1+c % 4,jF (c / 4 % 5))]).length (-1)=some L.length:=by unfold ixN;rw[if_neg (by decide),K0,Kv,if_pos (by omega)];congr 1;omega
   have q:(L++[a8 (1+c % 4,jF (c / 4 % 5))]).set L.length (.tuple [.int (1+c % 4),.none])=L++[a8 (1+c % 4,none)]:=by rw[LD _ _ (JU _)];simp;rfl
   have r:eM (.tuple [.int (1+c % 4),.none])=true:=vu (1+c % 4,none);rw[dF];simp only[rH,fH,aq,aw,Rs.ag,bt,az,Bool.not_false,if_true];unfold yQ;simp only[L7,L8,lO,aE,aI,bQ,gG,aq,aw,c8,Rs.ag,EL,Rs.ak,BF,hl,Gv,az,p,r,if_true,q];rfl
theorem kB {j:Int} (h0:0<=j) (h1:j<1000000):DV [.int j]=.ok (bF 0 j.toNat):=by show (if _ then _ else _)=_;rw[if_pos (by omega)]
theorem iB {d:PyData} (h:(bF lo n)[i]?=some d):i<n/\d=.int (lo+(i:Int)):=by have hi:=(K5.mp h).1;rw[cM]at hi;unfold bF at h;rw[JY,LG hi]at h;exact⟨hi,(Option.some.inj h).symm⟩
theorem oW (n:Nat) (g:Nat->α):(List.range (n+1)).map g=(List.range n).map g++[g n]:=by rw[List.range_succ,Kz];rfl
theorem B4 {f:PyData->Int->Int->Bool->Rs PyData} (h:(match ds with|[a,.int x1,.int x2,.bool x3]=>f a x1 x2 x3|_=>.no)≠.no):∃a x1 x2 x3,ds=[a,.int x1,.int x2,.bool x3]/\f a x1 x2 x3≠.no:=by
 rcases ds with _|⟨a,_|⟨x1,_|⟨x2,_|⟨x3,_|⟨y,ys⟩⟩⟩⟩⟩
 ·exact absurd rfl h
 ·exact absurd rfl h
 ·first|exact absurd rfl h|(cases x1 <;> exact absurd rfl h)
 ·first|exact absurd rfl h|(cases x1 <;> first|exact absurd rfl h|(cases x2 <;> exact absurd rfl h))
 ·skip
  cases x1 with
  |int x1 =>
   cases x2 with
   |int x2 =>
    cases x3 with
    |bool x3 =>exact⟨_,_,_,_,rfl,h⟩
    |_=>exact absurd rfl h
   |_=>first|exact absurd rfl h|(cases x3 <;> exact absurd rfl h)
  |_=>first|exact absurd rfl h|(cases x2 <;> first|exact absurd rfl h|(cases x3 <;> exact absurd rfl h))
 ·first|exact absurd rfl h|(cases x1 <;> first|exact absurd rfl h|(cases x2 <;> first|exact absurd rfl h|(cases x3 <;> exact absurd rfl h)))
theorem rq (cs:Cs):LLq (ft cs ai) 4 6 bI:=by
 intro ds hl c;obtain⟨s,a,top,b,q,p⟩:=B4 c;clear c;subst q;have c:=p;clear p
 ·skip
  split at c
  ·rename_i ns h;have es:s=aj ns:=by
    unfold d8 at h;split at h
    ·rename_i l;rw[eP h];rfl
    ·cases h
   subst es;split at c
   ·rename_i hc;obtain⟨ha,j,m⟩:=hc;rw[gN ha j m];show bq (ft cs ai [some (aj ns),some (.int a),some (.int top),some (.bool b),none,none,none,none,none,none])=_;have hm:∀k many:Int,0<=k->0<many->ai [aj ns,.int k,.int many]=.ok (.int (mixed ns k many)):=λk many h1 h2=>bR h1 h2
    have a1:=bZ ns a j;have lb:=uH ns a (3+mixed ns a top) (by omega);have b1:=bZ ns (a+1) (many:=4) (by decide);have b2:=cp ns (a+1) (many:=4) (by decide);have n1:=bZ ns (a+3) (many:=3) (by decide);have n2:=cp ns (a+3) (many:=3) (by decide);have c1:=bZ ns (a+6) (many:=3) (by decide);have c2:=cp ns (a+6) (many:=3) (by decide)
    -- every
    have r:aQ [7] 4 (g2 aV (gC (.int 3)) (ar ai (ae (af 0) (ae (af 1) (ae (af 2) ah))))) [some (aj ns),some (.int a),some (.int top),some (.bool b),none,none,none,none,none,none]
      =.nx [some (aj ns),some (.int a),some (.int top),some (.bool b),some (.int (3+mixed ns a top)),none,none,none,none,none]:=by
     rw[lj,if_pos (by simp)];simp only[bD,aE,aI,bQ,bj (show 0∉[7] by decide),bj (show 1∉[7] by decide),bj (show 2∉[7] by decide),aq,aw,c8,Rs.ag,hm a top ha j,dZ,Rs.ak,az];rfl
    generalize hev:3+mixed ns a top=ev at *;have evp:3<=ev:=by omega
    have s2:aQ [7] 5 (g2 eC (ar ai (ae (af 0) (ae (g2 aV (af 1) (gC (.int 1))) (ae (gC (.int 4)) ah)))) (gF zr (ae (g2 dEq (ar ai (ae (af 0) (ae (g2 aV (af 1) (gC (.int 2))) (ae (gC (.int 3)) ah)))) (gC (.int 0))) ah))) [some (aj ns),some (.int a),some (.int top),some (.bool b),some (.int ev),none,none,none,none,none]
      =.nx [some (aj ns),some (.int a),some (.int top),some (.bool b),some (.int ev),some (.int (mixed ns (a+1) 4*(if mixed ns (a+2) 3=0 then 1 else 0))),none,none,none,none]:=by
     rw[lj,if_pos (by simp)];simp only[bD,aE,aI,bQ,f6,bj (show 0∉[7] by decide),bj (show 1∉[7] by decide),aq,aw,c8,Rs.ag,dZ,Rs.ak,hm (a+1) 4 (by omega) (by decide),hm (a+2) 3 (by omega) (by decide),jv,FA];rw[rA (by omega) (by omega)];simp only[Rs.ak,az,beq_iff_eq];rfl
    have u:aQ [7] 5 (gF jE (ae (af 5) (ae (g2 fA (af 4) (gC (.int 1))) ah))) [some (aj ns),some (.int a),some (.int top),some (.bool b),some (.int ev),some (.int (mixed ns (a+1) 4*(if mixed ns (a+2) 3=0 then 1 else 0))),none,none,none,none]
      =.nx [some (aj ns),some (.int a),some (.int top),some (.bool b),some (.int ev),some (.int (gB ns a ev)),none,none,none,none]:=by
     rw[lj,if_pos (by simp)];simp only[f6,aE,aI,bQ,bj (show 4∉[7] by decide),bj (show 5∉[7] by decide),aq,aw,c8,Rs.ag,u6,Rs.ak,vo,az];rfl
    generalize hla:gB ns a ev=la at *;have v:aQ [7] 6 (g2 fA (af 4) (af 5)) [some (aj ns),some (.int a),some (.int top),some (.bool b),some (.int ev),some (.int la),none,none,none,none]
      =.nx [some (aj ns),some (.int a),some (.int top),some (.bool b),some (.int ev),some (.int la),some (.int (ev-la)),none,none,none]:=by
     rw[lj,if_pos (by simp)];simp only[bQ,bj (show 4∉[7] by decide),bj (show 5∉[7] by decide),aq,aw,Rs.ag,u6,Rs.ak,az];rfl
    have w:sIf (gT (g2 dEq (ar ai (ae (af 0) (ae (g2 aV (af 1) (gC (.int 1))) (ae (gC (.int 3)) ah)))) (gC (.int 0)))) (aQ [7] 6 (g2 fA (af 6) (ar ai (ae (af 0) (ae (g2 aV (af 1) (gC (.int 2))) (ae (af 6) ah)))))) bg
        [some (aj ns),some (.int a),some (.int top),some (.bool b),some (.int ev),some (.int la),some (.int (ev-la)),none,none,none]
      =.nx [some (aj ns),some (.int a),some (.int top),some (.bool b),some (.int ev),some (.int la),some (.int (l5 ns a (ev-la))),none,none,none]:=by
     rw[dF];simp only[fH,bQ,bD,aE,aI,aq,aw,c8,Rs.ag,dZ,Rs.ak,hm (a+1) 3 (by omega) (by decide),jv,bt,az];by_cases z:mixed ns (a+1) 3=0
     · rw[if_pos (by simp[z]),lj,if_pos (by simp)];simp only[bD,aE,aI,bQ,bj (show 0∉[7] by decide),bj (show 1∉[7] by decide),bj (show 6∉[7] by decide),aq,aw,c8,Rs.ag,dZ,Rs.ak,hm (a+2) (ev-la) (by omega) (by omega),u6,az];unfold l5;rw[if_pos z];rfl
     · rw[if_neg (by simp[z])];unfold l5;rw[if_neg z];rfl
    generalize hdu:l5 ns a (ev-la)=du at *;have x:jq [7] 7 ah [some (aj ns),some (.int a),some (.int top),some (.bool b),some (.int ev),some (.int la),some (.int du),none,none,none]
      =.nx [some (aj ns),some (.int a),some (.int top),some (.bool b),some (.int ev),some (.int la),some (.int du),some (.list []),none,none]:=rfl
    have src:gQ (ae (ar ai (ae (af 0) (ae (g2 aV (af 1) (gC (.int 3))) (ae (gC (.int 3)) ah)))) ah) (mask [7] [some (aj ns),some (.int a),some (.int top),some (.bool b),some (.int ev),some (.int la),some (.int du),some (.list []),none,none])=.ok (bF 0 (mixed ns (a+3) 3).toNat):=by simp only[j7,bD,aE,aI,bQ,bj (show 0∉[7] by decide),bj (show 1∉[7] by decide),aq,aw,c8,Rs.ag,dZ,Rs.ak,hm (a+3) 3 (by omega) (by decide)];exact kB n1 (by omega)
    obtain⟨δ',e,x8,f,n⟩:=jX (β:=Unit) (tgt:=bN 8) (body:=aF (aQ [7] 9 (ar ai (ae (af 0) (ae (g2 aV (g2 aV (af 1) (gC (.int 4))) (af 8)) (ae (gC (.int 40)) ah)))))
  (aF (jM [7] 7 (fZ (ae (g2 aV (gC (.int 1)) (g2 dq (af 9) (gC (.int 4)))) (ae (g2 dIx (mH (ae (gC (.int 0)) (ae (gC (.int 1)) (ae (gC (.int 1)) (ae (gC (.int 0)) (ae (gC .none) ah)))))) (g2 dq (g2 ik (af 9) (gC (.int 4))) (gC (.int 5)))) ah))))
  (sIf (fQ (gT (af 3))) (yQ 7 (g1 mF (gC (.int 1))) (fZ (ae (g2 dIx (g2 dIx (af 7) (g1 mF (gC (.int 1)))) (gC (.int 0))) (ae (gC .none) ah)))) bg)))
     (λi δ=>∃x8 f,δ=[some (aj ns),some (.int a),some (.int top),some (.bool b),some (.int ev),some (.int la),some (.int du),some (.list ((List.range i).map λ(k:Nat)=>a8 (dP ns (a+4+(k:Int)) b))),x8,f])
     (bF 0 (mixed ns (a+3) 3).toNat) 0 (λi d δ hi o=>by obtain⟨x8,f,y⟩:=o;subst y;rw[KP]at *;obtain⟨hil,rfl⟩:=iB hi;refine⟨[some (aj ns),some (.int a),some (.int top),some (.bool b),some (.int ev),some (.int la),some (.int du),some (.list ((List.range i).map λ(k:Nat)=>a8 (dP ns (a+4+(k:Int)) b))),some (.int (0+(i:Int))),f],_,rfl,tX ns a top b (.int ev) (.int la) (.int du) ha _ (by simp;omega) i none f,some (.int (0+(i:Int))),some (.int (mixed ns (a+4+(0+(i:Int))) 40)),?_⟩;rw[oW]) [some (aj ns),some (.int a),some (.int top),some (.bool b),some (.int ev),some (.int la),some (.int du),some (.list []),none,none] ⟨none,none,rfl⟩
    subst n;rw[KP,cM]at e;have hd:(mkE ns a top b).d=.tuple [.int ev,.int du,.int la,.tuple (((List.range (mixed ns (a+3) 3).toNat).map λ(k:Nat)=>a8 (dP ns (a+4+(k:Int)) b))++[a8 (1+mixed ns (a+6) 3,none)])]:=by simp only[mkE,Er.d,Kz,Kb,hev,hla,hdu];rfl
    rw[hd];simp only[ft];rw[aP,r];simp only;rw[aP,s2];simp only;rw[aP,u];simp only;rw[aP,v];simp only;rw[aP,w];simp only;rw[aP,x];simp only;rw[aP,su,src,az,e];simp only;simp only[bL,lO,vC,aE,aI,bQ,f6,bD,aq,aw,c8,Rs.ag,dZ,Rs.ak,hm (a+6) 3 (by omega) (by decide)];have g:aV (.list ((List.range (mixed ns (a+3) 3).toNat).map λ(k:Nat)=>a8 (dP ns (a+4+(k:Int)) b))) (.list [.tuple [.int (1+mixed ns (a+6) 3),.none]])=some (.list (((List.range (mixed ns (a+3) 3).toNat).map λ(k:Nat)=>a8 (dP ns (a+4+(k:Int)) b))++[a8 (1+mixed ns (a+6) 3,none)])):=by show (if _ then _ else _)=_;rw[if_pos (by simp;omega)];rfl
    rw[g];simp
   ·exact absurd rfl c
  ·exact absurd rfl c
def bh:Gf
 |[s,.int a,.int most,.int top,.bool tools]=>(match d8 s with
  |some ns=>if 0<=a/\0<most/\most<=6/\0<top/\top<=58 then .ok (aR (mE ns a most top tools)) else .no
  |none=>.no)
 |_=>.no
theorem f9 {most top:Int} {b:Bool} (h1:0<=a) (h2:0<most) (c:most<=6) (e:0<top) (f:top<=58):bh [aj ns,.int a,.int most,.int top,.bool b]=.ok (aR (mE ns a most top b)):=by unfold bh;simp[eS,h1,h2,c,e,f]
theorem gh {s:PyData} (a:d8 s=some ns):s=aj ns:=by
 unfold d8 at a;split at a
 ·rename_i l;rw[eP a];rfl
 ·cases a
theorem yd {f:PyData->Int->Int->Int->Bool->Rs PyData} (h:(match ds with|[a,.int x1,.int x2,.int x3,.bool x4]=>f a x1 x2 x3 x4|_=>.no)≠.no):∃a x1 x2 x3 x4,ds=[a,.int x1,.int x2,.int x3,.bool x4]/\f a x1 x2 x3 x4≠.no:=by
 rcases ds with _|⟨a,_|⟨x1,_|⟨x2,_|⟨x3,_|⟨x4,_|⟨y,ys⟩⟩⟩⟩⟩⟩
 ·exact absurd rfl h
 ·exact absurd rfl h
 ·first|exact absurd rfl h|(cases x1 <;> exact absurd rfl h)
 ·first|exact absurd rfl h|(cases x1 <;> first|exact absurd rfl h|(cases x2 <;> exact absurd rfl h))
 ·first|exact absurd rfl h|(cases x1 <;> first|exact absurd rfl h|(cases x2 <;> first|exact absurd rfl h|(cases x3 <;> exact absurd rfl h)))
 ·skip
  cases x1 with
  |int x1 =>
   cases x2 with
   |int x2 =>
    cases x3 with
    |int x3 =>
     cases x4 with
     |bool x4 =>exact⟨_,_,_,_,_,rfl,h⟩
     |_=>exact absurd rfl h
    |_=>first|exact absurd rfl h|(cases x4 <;> exact absurd rfl h)
   |_=>first|exact absurd rfl h|(cases x3 <;> first|exact absurd rfl h|(cases x4 <;> exact absurd rfl h))
  |_=>first|exact absurd rfl h|(cases x2 <;> first|exact absurd rfl h|(cases x3 <;> first|exact absurd rfl h|(cases x4 <;> exact absurd rfl h)))
 ·first|exact absurd rfl h|(cases x1 <;> first|exact absurd rfl h|(cases x2 <;> first|exact absurd rfl h|(cases x3 <;> first|exact absurd rfl h|(cases x4 <;> exact absurd rfl h))))
theorem pG (cs:Cs):LLq (eW cs bI ai) 5 1 bh:=by
 intro ds hl c;obtain⟨s,a,most,top,b,n,l⟩:=yd c;clear c;subst n;have c:=l;clear l
 ·skip
  split at c
  ·rename_i ns o;have es:=gh o;subst es;split at c
   ·rename_i hc;obtain⟨ha,e,g,m,f⟩:=hc;rw[f9 ha e g m f];have hm:=bR (ns:=ns) ha e;have m1:=bZ ns a e;have m2:=cp ns a e;have h:a9 6 (gQ (ae (af 5) ah)) bc (ar bI (ae (af 0) (ae (g2 aV (g2 aV (af 1) (gC (.int 1))) (g2 eC (gC (.int 7)) (af 6))) (ae (af 3) (ae (af 4) ah))))) aO
      [some (aj ns),some (.int a),some (.int most),some (.int top),some (.bool b),some (.int (1+mixed ns a most))]=.ok ((bF 0 (1+mixed ns a most).toNat).map λd=>(mkE ns (a+1+7*deI d) top b).d) :=
     cK rfl (by simp only[j7,aE,aI,aq,aw,Rs.ag];exact kB (by omega) (by omega)) (by rw[cM];omega) λd hd=>by obtain⟨i,hi⟩:=List.getElem?_of_mem hd;obtain⟨_,rfl⟩:=iB hi;simp only[Ku,Kt,bD,aE,aI,bQ,aq,aw,c8,Rs.ag,dZ,Rs.ak];rw[rA (by decide) (by decide)];simp only[Rs.ak,Rs.ag,dZ];exact gN (by omega) m f
    have j:aR (mE ns a most top b)=.tuple ((bF 0 (1+mixed ns a most).toNat).map λd=>(mkE ns (a+1+7*deI d) top b).d):=by
     unfold aR mE bF;rw[Kb,Kb];congr 1;refine Ke λk _=>?_
     simp[deI]
    rw[j];show bq (eW cs bI ai [some (aj ns),some (.int a),some (.int most),some (.int top),some (.bool b),none])=_;simp only[eW,aP,jk,Ka,KQ,Nat.reduceAdd,Nat.reduceLT,if_true,bD,aE,aI,bQ,aq,aw,c8,Rs.ag,hm,dZ,Rs.ak,az,Lq,Lr,bL,f6,pL,h,Al,aX]
   ·exact absurd rfl c
  ·exact absurd rfl c
end RS
namespace RS
open PySem PySem.Spec PyProof.Rows L2
section
theorem xg {k:Nat} {G:Ds->Sr} (F:Fun K x qual st f fd) (S:cB N ps (ax st)) (c:∀i∈O,ps.length<=i)
  (body:∀(cdv:Value) (A:Around) (outer:List Env) (s:Shared) (H:Hp) (E:XK),bU k (A.deeper (envOfC qual (ax st) s.heap.objs.size f cdv))->PBD (cH (CXW P w) P w K mg base N qual (ax st) f cdv A outer s H E) E O (bK st) G)
  (e:∀ds,ds.length=ps.length->gf ds≠.no->bq (G (ds.map some++List.replicate (N.length-ps.length) none))=gf ds):fD P w K mg base (CXW P w) (k+1) f fd ps (spD K ps.length gf):=by
 refine mW F S (λvs H Q E h=>?_) (λcdv A outer s H vs Q E g h=>?_)
 ·obtain⟨A,ds,b,hi,hl,o⟩:=h;rw[hi.length,hl]
 ·obtain⟨A0,ds,b,hi,hl,o⟩:=h;refine⟨_,body cdv A outer s H E g,H,A0,[],_,bf.start b hi hl c,?_⟩;have a:=e ds hl (λz=>by rw[z]at o;exact o);cases q:G (ds.map some++List.replicate (N.length-ps.length) none) with
  |rt d=>rw[q]at a;rw[<-a]at o;exact λv H' s' hv=>o v H' s' hv
  |nx δ=>rw[q]at a;rw[<-a]at o;exact λA' σ H' j=>o .non H' j.same is_none
  |rz C=>rw[q]at a;rw[<-a]at o;exact λH' s'=>o H' s'
  |bk δ=>rw[q]at a;rw[<-a]at o;exact o.elim
  |ct δ=>rw[q]at a;rw[<-a]at o;exact o.elim
  |no=>rw[q]at a;rw[<-a]at o;exact o.elim
theorem BZ {b:Array (Option Value)} {kV e:Value} (X:K.In h) (G:h.Ns mainGlobals mg)
  (g:∀(kV doc pm:Value) (an:Option Addr) (cdv ct:Value) (us:List Value),us.length=ps.length->bindArgs (PySem.W.fnOf x x (eu st) (bK st) (ax st) .none kV doc pm an cdv ct) ⟨us,[]⟩=pure (ps.zip us))
  (a:PySem.W.nsIn K mainGlobals x=some (some (.ref f)))
  (l:K.lookup f=some ⟨oc,od,.func (PySem.W.fnOf x x (eu st) (bK st) (ax st) .none kV e pm an cd ct),b⟩)
  (c:PySem.W.codeIn K cd x=true) (k:PySem.W.keepIn K (.ref f)=true):bM K mg x st ps :=
 have F:=vn (st:=st) l c k
 ⟨f,_,F,F.binds g,PySem.W.mg_of X G a⟩
theorem xx (X:K.In h) (G:h.Ns mainGlobals mg) (a:PySem.W.nsIn K mainGlobals x=some (some (.ref C)))
 (e:PySem.W.excIn K C [.type "ValueError",.type "Exception",.type "BaseException",.type "object"] "ValueError.__new__"=true):tH K mg x C:=⟨PySem.W.mg_of X G a,e⟩
theorem Cu {n:Int} {t:_} (X:K.In h) (G:h.Ns mainGlobals mg) (a:PySem.W.nsIn K mainGlobals x=some (some (.int n t))):∃t,mg x=some (.int n t):=⟨t,PySem.W.mg_of X G a⟩
end
def eX (n:Nat):Gf
 |[s]=>(match d8 s with
  |some ns=>if ns.length<=n then .ok (.bool true) else .no
  |none=>.no)
 |_=>.no
theorem HF {l:PySem.W.OpenLaw} {k:Nat} {d:DefRec} {K:Params->PySem.W.Frag}
  (hn:l.most=some n) (i:n<=sizeLine) (j:d.params.defaults=[]) (A:bU k callerA)
  (B:∀(w:World) (h:Heap),YP w h->(K w.params).In h)
  (C:∀(kV doc pm:Value) (an:Option Addr) (cdv ct:Value) (us:List Value),us.length=1->bindArgs (PySem.W.fnOf d.name d.name (eu st) (bK st) (ax st) .none kV doc pm an cdv ct) ⟨us,[]⟩=pure ([x].zip us))
  (F:∀(w:World) (mg:Str->Option Value) (h:Heap),(K w.params).In h->h.Ns mainGlobals mg->
   bM (K w.params) mg d.name st [x]/\∀f fd,Fun (K w.params) d.name d.name st f fd->∀base:Heap,(K w.params).In base->base.Ns mainGlobals mg->L2.mz mg base->fD l.prog w (K w.params) mg base (CXW l.prog w) k f fd [x] (spD (K w.params) 1 (eX n)))
  (o:∀(w:World) (h:Heap) (c:List Str) (g:ExcName->Option Value) (mg D:Str->Option Value),PyProof.Rows.Top q c g mg D h->(K w.params).In h->L2.kS (K w.params) h:=by exact λ_ _ _ _ _ _ _ _=>L2.tabsIn_nil rfl) :
  PySem.W.WalkO q loose XP YP l.row.toRowW d [] (λf vs=>PySem.call f vs) :=
 L2.xu (n:=n) (k:=k) (x:=x) (CX:=λw=>CXW l.prog w) (sp:=λw=>spD (K w.params) 1 (eX n)) hn i j A B
  (λw mg E h X G p=>by obtain⟨⟨f,fd,y,b,m⟩,I⟩:=F w mg h X G;have e:=p.symm.trans m;cases e;refine⟨fd,λs u=>?_,I E fd y⟩;obtain⟨oc,od,kV,doc,pm,an,cdv,ct,osl,rfl,lk,hcd⟩:=y.ex;exact .of_eq (C kV doc pm an cdv ct [u] rfl))
  (λw H a ns hl hO J=>by
   refine⟨[],[aj ns],?_,?_,rfl,?_⟩
   ·exact Ls.nil
   ·rw[xB];exact⟨_,[],rfl,yb J,rfl⟩
   ·have L:eX n [aj ns]=.ok (.bool true):=by unfold eX;simp[eS,hl]
    rw[L];intro v H' _ hv;rw[xB]at hv;unfold Is at hv;exact hv)
  (λw H s e s' r=>(by obtain⟨_,_,_,_,_,_,z,_⟩:=r;exact z)) o
end RS
set_option maxHeartbeats 4000000
namespace L2
open PySem PySem.Spec PyProof.Rows
variable {ge:Ds->Rs PyData}
def Cv (K:PySem.W.Frag) (x:Str):Prop:=∃f oc od fd a c P o vs,PySem.W.nsIn K mainGlobals x=some (some (.ref f))/\K.lookup f=some ⟨oc,od,.func fd,a⟩/\fd.code=.ref c/\K.lookup c=some o/\o.data=.fields vs/\vs[11]?=some (.ref P)/\PySem.W.codeHdIn K c P=true
section
theorem gA.ofL {k:Nat} {G:Ds->Sr} (F:Fun K x x st f fd) (S:cB N ps (ax st)) (b:Binds K fd ps []) (m:mg x=some (.ref f)) (D:∀i∈O,ps.length<=i)
  (I:x∈kF) (hm:∀g,PySem.W.nsIn K mainGlobals x=some (some (.ref g))->mg x=some (.ref g)) (J:Cv K x) (hB:mz mg base) (hK:K.In base) (M:∀(L:Addr) (cdv:Value),(envOfC x (ax st) L f cdv).qual++"<lambda>"=x++".<locals>.<lambda>")
  (body:∀(cdv:Value) (A:Around) (outer:List Env) (s:Shared) (H:Hp) (E:XK),bU k (A.deeper (envOfC x (ax st) s.heap.objs.size f cdv))->∀c l,zZ (cH (CXW P w) P w K mg base N x (ax st) f cdv A outer s H E) c l->PBD (cH (CXW P w) P w K mg base N x (ax st) f cdv A outer s H E) E O (bK st) G)
  (R:∀ds,ds.length=ps.length->gf ds≠.no->bq (G (ds.map some++List.replicate (N.length-ps.length) none))=gf ds):gA P w K mg base (k+1) x ps.length gf:=by
 obtain⟨oc,od,kV,doc,pm,an,cdv,ct,osl,rfl,n,p⟩:=F.ex;obtain⟨j,oc',od',fd',sl',c,l,o,vs,u,y,T,U,X,Y,Z⟩:=J;have hf:j=f:=by have:=hm j u;rw[m]at this;cases this;rfl
 subst hf;rw[n]at y;have r:cdv=.ref c:=by cases y;exact T
 subst r;obtain⟨bm,ob,b1,b2,b3,b4,b5,b6,b7⟩:=hB;refine⟨j,_,ps,AF n p S (λvs H Q E h=>?_) (λA outer s H vs' Q E hr h=>?_),m,F.kp,b⟩
 ·obtain⟨A,ds,B,hi,hl,o⟩:=h;rw[hi.length,hl]
 ·obtain⟨A0,ds,B,hi,hl,e⟩:=h;refine⟨_,body (.ref c) A outer s H E hr c l ⟨?_,rfl,PySem.W.codeHd_of_K hK Z,bm,ob,b1,b2,b3,b4,b5,b6,b7⟩,H,A0,[],_,bf.start B hi hl D,?_⟩
  ·exact⟨x,I,j,_,_,_,_,c,u,n,rfl,⟨o,vs,U,X,Y⟩,M _ _⟩
  ·have a:=R ds hl (λz=>by rw[z]at e;exact e);cases q:G (ds.map some++List.replicate (N.length-ps.length) none) with
   |rt d=>rw[q]at a;rw[<-a]at e;exact λv H' s' hv=>e v H' s' hv
   |nx δ=>rw[q]at a;rw[<-a]at e;exact λA' σ H' R'=>e .non H' R'.same is_none
   |rz C=>rw[q]at a;rw[<-a]at e;exact λH' s'=>e H' s'
   |bk δ=>rw[q]at a;rw[<-a]at e;exact e.elim
   |ct δ=>rw[q]at a;rw[<-a]at e;exact e.elim
   |no=>rw[q]at a;rw[<-a]at e;exact e.elim
end
def eU (cond:Ds->Rs Bool) (elt:Ds->Rs PyData) (tgt:PyData->Option Ds) (δ a:Ds):List PyData->Rs (List PyData)
 |[]=>.ok []
 |d::r=>match tgt d with
  |none=>.no
  |some own=>(cond (a++own)).calm.bind λb=>if b=true then (elt (δ++own)).calm.bind λx=>(eU cond elt tgt δ a r).bind λxs=>.ok (x::xs) else eU cond elt tgt δ a r
def lM (n0:Nat) (src:Ds->Rs (List PyData)) (cond:Ds->Rs Bool) (elt:Ds->Rs PyData) (tgt:PyData->Option Ds):Ds->Ds->Rs (List PyData):=λδ a=>if δ.length=n0 then (src δ).bind λds=>if ds.length<=1000000 then eU cond elt tgt δ a ds else .no else .no
theorem DU {E:XK} {own:List Str} {g:TG} {tt:TT} (hT:TgD K n0 own.length tgt g) (htt:∀σ H Q,cD K E0 cond σ H Q->tt σ H Q) {Q:VK} {U:List Addr} {c:Ds} (R:cT K H A δ σ) (S:cT K H U c σ) (L:∀a∈U,a∈A) (o:Dp K E A H (lM n0 gi cond ge tgt δ c) Q) :
  tLC own.length (iD K E gi) g tt (eD K E0 ge) σ H Q:=by
 unfold lM at o;by_cases hn0:δ.length=n0
 case neg=>rw[if_neg hn0]at o;exact o.elim
 rw[if_pos hn0]at o;have hσ:σ.length=n0:=by rw[<-R.len];exact hn0
 refine⟨A,δ,R,?_⟩;cases q:gi δ with
 |no=>rw[q]at o;exact o
 |rz C=>rw[q]at o;exact o
 |ok ds =>
  rw[q]at o;have o:Dp K E A H (if ds.length<=1000000 then eU cond ge tgt δ c ds else .no) Q:=o;by_cases hz:ds.length<=1000000
  case neg=>rw[if_neg hz]at o;exact o.elim
  rw[if_pos hz]at o;intro J H1 T hJ D M;have R1:=R.same T;have nD:D∉A:=R1.ls.new M;cases qo:eU cond ge tgt δ c ds with
  |rz C =>
   exfalso;have:∀l,eU cond ge tgt δ c l≠.rz C:=by
    intro l
    induction l with
    |nil=>intro z;cases z
    |cons d r ih =>
     intro z;unfold eU at z;split at z
     ·cases z
     ·rename_i w _;cases c1:cond (c++w) with
      |ok b =>
       simp only[c1,Rs.b9,Rs.ag]at z;split at z
       ·cases B:ge (δ++w) with
        |ok x =>
         simp only[B,Rs.b9,Rs.ag]at z;cases F:eU cond ge tgt δ c r with
         |ok l=>simp only[F,Rs.ag]at z;cases z
         |rz C'=>simp only[F,Rs.cN]at z;cases z;exact ih F
         |no=>simp only[F,Rs.aY]at z;cases z
        |rz C'=>simp only[B,Rs.calm,Rs.aY]at z;cases z
        |no=>simp only[B,Rs.calm,Rs.aY]at z;cases z
       ·exact ih z
      |rz C'=>simp only[c1,Rs.calm,Rs.aY]at z;cases z
      |no=>simp only[c1,Rs.calm,Rs.aY]at z;cases z
   exact this ds qo
  |no=>rw[qo]at o;exact o.elim
  |ok out =>
   rw[qo]at o;have base:ao (del H1 A) (del (upd H1 D (.lst [])) (D::A)):=λb o e=>by obtain⟨z,e⟩:=aS e;have nb:b≠D:=aG e M;rw[aB (by simp[nb,z]),au nb];exact e
   refine⟨λi m ys H'=>m=ds.length-i/\i<=ds.length/\ao H1 H'/\H' D=some (.lst ys)/\ys.length<=i/\∃X rest,eU cond ge tgt δ c (ds.drop i)=.ok rest/\out=X++rest/\Iss K (del H' (D::A)) X ys,
    ⟨ds.length,by simp,Ks _,bp M,ay,JU _,[],out,qo,rfl,cq⟩,?_⟩
   rintro i m ys H' ⟨rfl,hi,G,hl,hy,X,rest,c1,B,F⟩
   refine⟨hl,?_⟩;have sG:ao (del H1 A) H':=av.trans G;have Y:∀b∈D::A,(del H1 A) b=none:=λb N=>by
    rcases J7.mp N with z|z
    ·rw[z,aB nD];exact M
    ·exact eQ z
   obtain⟨jg,js,jy⟩:=hJ H' (D::A) sG (λb N=>by
    rcases J7.mp N with z|z
    ·exact⟨_,by rw[z];exact hl,rfl⟩
    ·exact (R1.ls.same G) b z) Y
   by_cases hlt:i<ds.length
   ·refine .inr ⟨jg i hlt,λx H2 σ' Z y=>?_⟩;obtain⟨s2,d,ed,hd⟩:=jy i x H2 hlt y;have edr:ds.drop i=d::ds.drop (i+1):=by
     rw[L3 hlt];have:ds[i]=d:=by have:=J0 hlt;rw[this]at ed;exact Option.some.inj ed
     rw[this]
    rw[edr]at c1;unfold eU at c1;cases et:tgt d with
    |none=>rw[et]at c1;cases c1
    |some ow =>
     rw[et]at c1;have l2:H2 D=some (.lst ys):=s2 _ _ hl;have h:Ls H2 (D::A):=λb N=>by
      rcases J7.mp N with z|z
      ·exact⟨_,by rw[z];exact l2,rfl⟩
      ·exact (R1.ls.same (G.trans s2)) b z
     obtain⟨hol,hgo⟩:=hT d x σ σ' H2 (D::A) (λj H2=>tt j H2 λb H3 =>
      if b=true then eD K E0 ge j H3 λv H4=>H4 D=some (.lst ys)/\ys.length<sizeLine/\(∃f,j=σ++f/\f.length=own.length)/\∃m',m' < ds.length-i/\_
      else (∃f,j=σ++f/\f.length=own.length)/\∃m',m' < ds.length-i/\_) ow hσ Z h hd et
     refine hgo λvs n I=>?_
     have sAll:ao (del H1 A) (del H2 (D::A)):=jo (sG.trans s2) Y;have RE:cT K H2 (D::A) (δ++ow) (σ++vs):=by
      refine⟨h,by rw[K0,K0,R.len,n,hol],λk e p=>?_⟩;by_cases hk:k<δ.length
      ·rw[K8 hk]at p;obtain⟨u,e1,O⟩:=R1.get k e p;exact⟨u,by rw[K8 (by rw[<-R.len];exact hk)];exact e1,O.same sAll⟩
      ·rw[Kc (by omega)]at p;obtain⟨u,e1,O⟩:=I _ e p;exact⟨u,by rw[Kc (by rw[<-R.len];omega),<-R.len];exact e1,O⟩
     have RE2:cT K H2 (D::U) (c++ow) (σ++vs):=by
      have hsub:ao (del H2 (D::A)) (del H2 (D::U)):=λb u s=>by
       obtain⟨q1,q2⟩:=aS s;rw[aB (λz=>q1 (by
        rcases J7.mp z with z|z
        ·rw[z];exact J9
        ·exact J8 _ (L b z)))];exact q2
      have Rf1:=S.same (T.trans (G.trans s2));have nD2:D∉U:=λz=>nD (L D z)
      have hD0:H D=none:=T.free M;refine⟨λb N=>?_,by rw[K0,K0,S.len,n,hol],λk e p=>?_⟩
      ·rcases J7.mp N with z|z
       ·exact h b (by rw[z];exact J9)
       ·exact h b (J8 _ (L b z))
      ·by_cases hk:k<c.length
       ·rw[K8 hk]at p;obtain⟨u,e1,O⟩:=S.get k e p;refine⟨u,by rw[K8 (by rw[<-S.len];exact hk)];exact e1,O.same λb u s=>?_⟩;obtain⟨q1,q2⟩:=aS s;have nb:b≠D:=λz=>by rw[z,hD0]at q2;cases q2
        rw[aB (by simp[nb,q1])];exact (T.trans (G.trans s2)) _ _ q2
       ·rw[Kc (by omega)]at p;obtain⟨u,e1,O⟩:=I _ e p;exact⟨u,by rw[Kc (by rw[<-S.len];omega),<-S.len];exact e1,O.same hsub⟩
     have bad:∀r:Rs Bool,r=.rz 0->r.calm=.no:=λr e=>by rw[e];rfl
     refine htt _ _ _ (cD.run RE2 (λb s H3 P R3f=>?_) (λC s=>?_) (λs=>?_))
     ·simp only[s,Rs.b9,Rs.ag]at c1;cases b with
      |true =>
       simp only[if_true]at c1;refine eD.run (RE.same P) (λxd ex v H4 s4 R4 hv=>?_) (λC ex=>?_) (λex=>?_)
       ·simp only[ex,Rs.b9,Rs.ag]at c1;cases cr:eU cond ge tgt δ c (ds.drop (i+1)) with
        |ok rs =>
         simp only[cr,Rs.ag]at c1;cases c1;have l4:H4 D=some (.lst ys):=s4 _ _ (P _ _ l2);have dU:del (upd H4 D (.lst (ys++[v]))) (D::A)=del H4 (D::A):=hV (J9);refine⟨l4,by rw[sizeLine_eq];omega,⟨vs,rfl,n⟩,ds.length-(i+1),by omega,rfl,hlt,?_,ay,by simp;omega,X++[xd],rs,cr,by rw[B];simp,?_⟩
         ·exact ao.put (((G.trans s2).trans P).trans s4) M
         ·rw[dU];exact (F.same (ao.del (s2.trans (P.trans s4)))).append (ix hv)
        |rz C=>simp only[cr,Rs.cN]at c1;cases c1
        |no=>simp only[cr,Rs.aY]at c1;cases c1
       ·simp only[ex,Rs.calm,Rs.aY]at c1;cases c1
       ·simp only[ex,Rs.calm,Rs.aY]at c1;cases c1
      |false =>simp only[Kh,if_false]at c1;exact⟨⟨vs,rfl,n⟩,ds.length-(i+1),by omega,rfl,hlt,(G.trans s2).trans P,P _ _ l2,by omega,X,rest,c1,B,F.same (ao.del (s2.trans P))⟩
     ·simp only[s,Rs.calm,Rs.aY]at c1;cases c1
     ·simp only[s,Rs.calm,Rs.aY]at c1;cases c1
   ·have e:i=ds.length:=by omega
    subst e;rw[LB]at c1;cases c1;rw[KY]at B;subst B;exact .inl ⟨js,o D ys H' (T.free M) (T.trans G) hl F⟩
def pA (O:List Nat) (i n0:Nat) (gi:Ds->Rs (List PyData)) (cond:Ds->Rs Bool) (ge:Ds->Rs PyData) (tgt:PyData->Option Ds):Ds->Sr:=λδ=>if i<δ.length then ofR (lM n0 gi cond ge tgt (mask O δ) δ) λds=>.nx (δ.set i (some (.list ds))) else .no
section
variable {E:XK}
theorem zD {g:TG} (hc:X.calm=true) (l:X.N.Nodup) (hi:PID X E tg iter gi)
  (m:TgD X.K n0 (dH tg).length tgt g) (n:∀C s2 H2 fp,PG (bk X tg scope C s2 H2 fp) tg g) (h:∀C s2 H2 fp,PIf (bk X tg scope C s2 H2 fp) ifs cond) (r:∀C s2 H2 fp,PD (bk X tg scope C s2 H2 fp) E0 elt ge) (u:i∉O)
  (b:X.N[i]?=some x) (v:Loc X.env.scope x) (c:swapsWith (.ListComp elt [⟨tg,iter,ifs,0⟩] scope pos) (some (.Name x pos')) spos.line X.env=pure true)
  (hB:Dc X tg scope=true) (w:∀x,foldedSetIterable iter X.env x=pure x) (y:X.fn x=true\/X.env.scope.names.lookup x=some .local) :
  PSD X E O (.Assign [.Name x pos'] (.ListComp elt [⟨tg,iter,ifs,0⟩] scope pos) spos) (pA O i n0 gi cond ge tgt) :=
 PS.imp (kJ (own:=dH tg) (te:=eD X.K E0 ge) hc l b v c hi n (λC s2 H2 fp=>(h C s2 H2 fp).pts) (λC s2 H2 fp=>r C s2 H2 fp) hB w y) λD σ H e=>by
  obtain⟨H0,A0,A,δ,R,o⟩:=e;unfold pA at o;split at o
  ·rename_i hl;have j:=R.part;refine DU m (PIf.tt (h 0 X.s₀ X.H₀ [])) j R.full (λa ha=>JS _ ha) ?_;cases q:lM n0 gi cond ge tgt (mask O δ) δ with
   |ok ds =>rw[q]at o;intro p xs H' hn s z f;exact o A _ H' ((R.step s).set u hl (gx (by rw[aB (j.ls.new hn)];exact z) (f.same lH)))
   |rz C=>rw[q]at o;exact λH' s'=>o H' (R.same.trans s')
   |no=>rw[q]at o;exact o
  ·exact o.elim
end
theorem gR.of {k:Nat} {G:Ds->Sr} (F:Fun K m qual st f fd) (S:cB N ps (ax st)) (b:Binds K fd ps []) (cl:Cls K C) (hm:Meth K C m f) (a:∀i∈O,ps.length<=i)
  (body:∀(cdv:Value) (A:Around) (outer:List Env) (s:Shared) (H:Hp) (E:XK),bU k (A.deeper (envOfC qual (ax st) s.heap.objs.size f cdv))->PBD (cH (CXW P w) P w K mg base N qual (ax st) f cdv A outer s H E) E O (bK st) G)
  (c:∀ds,ds.length=ps.length->gf ds≠.no->bq (G (ds.map some++List.replicate (N.length-ps.length) none))=gf ds):gR P w K mg base (k+1) C m ps.length gf :=
 ⟨f,fd,ps,cl,hm,RS.xg F S a body c,b⟩
def pX (xs ys:List PyData):List PyData:=List.zipWith (λa b=>PyData.tuple [a,b]) xs ys
theorem zO {es:List PyData} (h1:Iss K G ds xs) (h2:Iss K G es ys) (hl:ys.length=xs.length) (c:∀H1,ao G H1->SqT K H1 a xs) (f:∀H1,ao G H1->SqL K H1 b ys):zy K (Itz K a b xs.length) (pX ds es) G:=λH1 B s m hB=>by
 have l1:=h1.length;have l2:=h2.length;have n:(pX ds es).length=xs.length:=by unfold pX;rw[List.length_zipWith];omega
 rw[n];refine⟨λi hi=>⟨hi,xs,ys,c H1 s,f H1 s,rfl,hl⟩,⟨rfl,xs,ys,c H1 s,f H1 s,rfl,hl⟩,λi x H2 hi y=>?_⟩;obtain⟨t,p,r,rfl,g,rfl,u,v⟩:=y;obtain⟨d,e,hd⟩:=h1.get (u xs (c H1 s));obtain⟨d',w,h⟩:=h2.get (v ys (f H1 s));refine⟨bp g,.tuple [d,d'],by unfold pX;rw[List.getElem?_zipWith,e,w],?_⟩;have A:t∉B:=m.new g;have j:ao G (del (upd H1 t (.tup [p,r])) B):=λb o q=>by have l:=s b o q;have C:b≠t:=aG l g;rw[aB (λz=>by rw[hB b z]at q;cases q),au C];exact l
 exact iA (by rw[aB A];exact ay) (bT (hd.same j) (ix (h.same j)))
section
variable {E:XK} {a b:Expr}
def ER:List PyData->Rs (List PyData)
 |[.tuple xs,.list ys]=>if ys.length=xs.length then .ok (pX xs ys) else .no
 |_=>.no
def CB (g:Ds->Rs (List PyData)):Ds->Rs (List PyData):=λδ=>(g δ).bind ER
theorem Cj (hm:X.mg "zip"=none) (ha:PAD X E [a,b] gs) (l:Gl X "zip") (m:starEach [a,b] X.env=[(false,eval a X.env),(false,eval b X.env)]) (c:starEach [b] X.env=[(false,eval b X.env)]) :
  PID X E (.Tuple elts x1 tp) (.Call (.Name "zip" p) [a,b] [] pos) (CB gs):=(FD l hm ha.1 m c).imp λσ H R ⟨A,δ,Rp,o⟩=>vY Rp o λds vs H1 e s1 R1 h1 o=>by
 unfold ER at o;split at o
 ·split at o
  ·rename_i hl;obtain⟨v,u,rfl,h,h'⟩:=CD h1;obtain⟨p,xs,rfl,f,g⟩:=h.ofTup;obtain⟨q,ys,rfl,i,j⟩:=h'.ofLst;have l1:=g.length;have l2:=j.length;exact⟨p,q,xs,ys,rfl,SqT.of (av _ _ f),SqL.of (av _ _ i),by omega,o _ H1 (ao.refl _) (zO g j (by omega) (λH2 s2=>SqT.of (s2 _ _ f)) λH2 s2=>SqL.of (s2 _ _ i))⟩
  ·exact o.elim
 ·exact o.elim
end
end L2
namespace RS
open PySem L2
abbrev JN:List Str:=["number", "parts", "rank", "row"]
abbrev JT:List (Str×Int):=[("job",0),("part",0),("spent",0)]
def eE (cs:Cs):Ds->Sr :=
 (aF (aQ [] 2 (g2 dIx (af 0) (gC (.int 0))))
  (aF (aQ [] 3 (g2 dIx (af 0) (gC (.int 2))))
  (aF (aQ [] 4 (g2 fA (gC (.int 0)) (af 3)))
  (aF (iy [] (cn (af 1)) (bN 5) (aF (aQ [] 6 (gF gK (ae (af 4) (ae (g2 fA (af 5) (af 3)) ah))))
  (aF (sIf (gT (g2 dGt (af 6) (af 5))) (bw (gC (.bool false))) bg)
  (aQ [] 4 (g2 aV (af 6) (af 2))))))
  (bw (gC (.bool true)))))))
def ki (cs:Cs) (aK bE:Gf):Ds->Sr :=
 (aF (sIf (cOr (fQ (gT (g1 (gz "list") (af 1)))) (gT (g2 dGt (gF b8 (ae (af 1) ah)) (gC (.int 60))))) (bw (gC (.bool false))) bg)
  (bw (vS (gF mD (ae (gL (a9 2 (cn (af 1)) bc (ar aK (ae (af 2) (ae (gC (.int 0)) (ae (gC (.int 9999)) ah)))) aO)) ah)) (ar bE (ae (af 0) (ae (af 1) ah))))))
def c7 (cs:Cs) (cC bx:Gf):Ds->Sr :=
 (aF (qF (ar bx (ae (af 0) ah)))
  (aF (sIf (cOr (fQ (gT (g1 (gz "list") (af 1)))) (gT (g2 dNe (gF b8 (ae (af 1) ah)) (gF b8 (ae (af 0) ah))))) (iV cs.NoComings (ae (gC (.str "comings are a list of one list for each errand")) ah)) bg)
  (aF (sIf (fQ (gT (gF mD (ae (gL (a9 2 (CB (ae (af 0) (ae (af 1) ah))) bc (ar cC (ae (af 2) (ae (af 3) ah))) dS)) ah)))) (iV cs.NoComings (ae (gC (.str "an errand can not come so")) ah)) bg)
  (bw (gL (a9 2 (cn (af 1)) bc (gF uJ (ae (af 2) ah)) aO))))))
def cR (cs:Cs):Ds->Sr :=
 (bw (g2 dEq (g1 (br cs.Jobs "job") (af 0)) (gF b8 (ae (g1 (br cs.Jobs "row") (af 0)) ah))))
def dD (cs:Cs):Ds->Sr :=
 (bw (gIf (gT (g2 dEq (g1 (br cs.Jobs "spent") (af 0)) (gC (.int 0)))) (g2 dIx (g2 dIx (g1 (br cs.Jobs "parts") (af 0)) (g1 (br cs.Jobs "part") (af 0))) (gC (.int 1))) (gC .none)))
def eY (cs:Cs):Ds->Sr :=
 (bw (gIf (gT (g2 dGt (g1 (br cs.Jobs "spent") (af 0)) (gC (.int 0)))) (g2 dIx (g2 dIx (g1 (br cs.Jobs "parts") (af 0)) (g1 (br cs.Jobs "part") (af 0))) (gC (.int 1))) (gC .none)))
def iX (cs:Cs) (aJ:Gf):Ds->Sr :=
 (aF (sIf (gT (g1 mI (af 1))) (bw (gC .none)) bg)
  (aF (iy [] (cn (af 0)) (bN 2) (sIf (gT (g2 dEq (ba cs.Jobs "held" aJ (af 2) ah) (af 1))) (bw (af 2)) bg))
  (bw (gC .none))))
def fu (cs:Cs) (aC bu:Gf):Ds->Sr :=
 (aF (tG 1)
  (aF (iy [1] (cn (af 0)) (bN 2) (aF (aQ [1] 3 (ar bu (ae (af 0) (ae (ba cs.Jobs "wanted" aC (af 2) ah) ah))))
  (sIf (gT (g1 ji (af 3))) (oR 1 (g1 (br cs.Jobs "number") (af 3)) (gF jE (ae (g1 (br cs.Jobs "rank") (af 2)) (ae (kE (af 1) (g1 (br cs.Jobs "number") (af 3)) (g1 (br cs.Jobs "rank") (af 3))) ah)))) bg)))
  (bw (af 1))))
def bG (cs:Cs) (aJ:Gf):Ds->Sr :=
 (aF (aQ [] 2 (ba cs.Jobs "held" aJ (af 0) ah))
  (aF (sIf (gT (g1 mI (af 2))) (bw (fZ (ae (g1 (br cs.Jobs "rank") (af 0)) (ae (gC (.int 1)) ah)))) bg)
  (bw (fZ (ae (gF jE (ae (g1 (br cs.Jobs "rank") (af 0)) (ae (g2 dIx (af 1) (af 2)) ah))) (ae (gC (.int 0)) ah))))))
def cV (cs:Cs):Ds->Sr :=
 (bw (vS (g2 dLt (g1 (br cs.Jobs "job") (af 0)) (gF b8 (ae (g1 (br cs.Jobs "row") (af 0)) ah))) (g2 dLe (g2 dIx (g1 (br cs.Jobs "row") (af 0)) (g1 (br cs.Jobs "job") (af 0))) (af 1))))
def xh (cs:Cs) (aZ dj bo bx:Gf):Ds->Sr :=
 (aF (qF (ar bx (ae (af 0) ah)))
  (aF (qF (ar bo (ae (af 0) (ae (af 1) ah))))
  (bw (ar dj (ae (af 0) (ae (af 1) (ae (ar aZ (ae (af 0) (ae (af 2) ah))) (ae (af 3) ah))))))))
def cG (cs:Cs) (ai:Gf):Ds->Sr :=
 (aF (aQ [6] 4 (ar ai (ae (af 0) (ae (af 1) (ae (g2 Bb (gC (.int 10)) (gC (.int 9))) ah)))))
  (aF (aQ [6] 5 (g2 fA (g2 dq (af 4) (g2 aV (g2 dIx (af 2) (gC (.int 0))) (gC (.int 2)))) (g2 dIx (af 2) (gC (.int 2)))))
  (aF (jq [6] 6 ah)
  (aF (aQ [6] 7 (gC (.int 0)))
  (aF (λδ=>bV (Dg (gT (g2 dLt (g2 aV (af 5) (g2 dIx (af 2) (gC (.int 2)))) (af 3))) (gT (g2 dLt (gF b8 (ae (af 6) ah)) (gC (.int 60))))) (aF (aQ [6] 8 (g2 dq (g2 eC (g2 aV (g2 aV (af 4) (g2 eC (g2 eC (gC (.int 104729)) (af 7)) (af 7))) (g2 eC (gC (.int 7919)) (af 7))) (gC (.int 48271))) (gC (.int 2147483647))))
  (aF (aQ [6] 9 (gF gK (ae (gC (.int 0)) (ae (g2 aV (af 5) (g2 dq (g2 ik (af 8) (gC (.int 7))) (g2 aV (g2 dIx (af 2) (gC (.int 2))) (gC (.int 1))))) ah))))
  (aF (sIf (gT (g2 dNe (af 6) (mH ah))) (oP 9 (gF gK (ae (af 9) (ae (g2 aV (g2 dIx (af 6) (g1 mF (gC (.int 1)))) (gC (.int 1))) ah)))) bg)
  (aF (jM [6] 6 (af 9))
  (aF (aQ [6] 5 (g2 aV (af 5) (g2 dIx (af 2) (gC (.int 0)))))
  (aF (sIf (gT (g2 dEq (g2 dq (g2 ik (af 8) (gC (.int 61))) (gC (.int 3))) (gC (.int 0)))) (aQ [6] 5 (g2 aV (af 5) (g2 dq (g2 ik (af 8) (gC (.int 997))) (g2 dIx (af 2) (gC (.int 0)))))) bg)
  (aQ [6] 7 (g2 aV (af 7) (gC (.int 1)))))))))) 1000000 δ)
  (bw (af 6)))))))
def dm (cs:Cs) (aW:Gf):Ds->Sr :=
 (bw (gL (a9 4 (gQ (ae (gF b8 (ae (af 2) ah)) ah)) bc (ar aW (ae (af 0) (ae (g2 aV (af 1) (af 4)) (ae (g2 dIx (af 2) (af 4)) (ae (af 3) ah))))) aO)))
def iF (cs:Cs) (aU aL cj aH:Gf) (a:List (Str×PyData)->Option (List (Str×PyData))) (as:List Addr):Ds->Sr :=
 (aF (jq [6] 6 ah)
  (aF (λδ=>bV (fQ (gT (gF mD (ae (gL (a9 9 (cn (af 5)) bc (ba cs.Jobs "are_done" aL (af 9) ah) aO)) ah)))) (aF (pA [6] 7 9 (cn (af 5)) (gT (ba cs.Jobs "is_there" aH (af 9) (ae (gF b8 (ae (af 6) ah)) ah))) (af 9) aO)
  (sIf (gT (g2 dEq (gF b8 (ae (af 7) ah)) (gC (.int 0)))) (jM [6] 6 (gC .none)) (aF (aQ [6] 8 (ar cj (ae (af 7) (ae (af 4) (ae (af 3) ah)))))
  (aF (jM [6] 6 (fZ (ae (g1 (br cs.Jobs "number") (af 8)) (ae (g1 (br cs.Jobs "job") (af 8)) ah))))
  (jS as cs.Jobs "go_on" 8 a))))) 1000000 δ)
  (bw (af 6))))
def fG (cs:Cs) (as:List Addr):Ds->Sr :=
 (aF (dN as cs.Jobs 0 "spent" (gC (.int 1)))
  (aF (sIf (gT (g2 dEq (g1 (br cs.Jobs "spent") (af 0)) (g2 dIx (g2 dIx (g1 (br cs.Jobs "parts") (af 0)) (g1 (br cs.Jobs "part") (af 0))) (gC (.int 0))))) (aF (kn as cs.Jobs 0 "spent" (gC (.int 0)))
  (dN as cs.Jobs 0 "part" (gC (.int 1)))) bg)
  (sIf (gT (g2 dEq (g1 (br cs.Jobs "part") (af 0)) (gF b8 (ae (g1 (br cs.Jobs "parts") (af 0)) ah)))) (aF (kn as cs.Jobs 0 "part" (gC (.int 0)))
  (dN as cs.Jobs 0 "job" (gC (.int 1)))) bg)))
def jf (cs:Cs) (bX aC bu bA:Gf):Ds->Sr :=
 (aF (sIf (gT (g2 dEq (af 2) (gC (.str "high")))) (bw (iE [1] (af 0) (ar bA (ae (af 0) (ae (af 1) ah))))) bg)
  (aF (aQ [] 3 (gL (a9 5 (cn (af 0)) (gT (g1 mI (ar bu (ae (af 0) (ae (ba cs.Jobs "wanted" aC (af 5) ah) ah))))) (af 5) aO)))
  (aF (aQ [] 4 (gIf (gT (g2 dEq (af 2) (gC (.str "asked")))) (ar bX (ae (af 0) ah)) (gC (ck []))))
  (bw (iE [4] (af 3) (kE (af 1) (g1 (br cs.Jobs "number") (af 0)) (g1 (br cs.Jobs "rank") (af 0))))))))
end RS
namespace L2
open PySem PySem.Spec PyProof.Rows
section
variable {E:XK} {k:Expr} {gk:Ds->Rs PyData} {apos:Pos}
end
section
variable {E:XK}
end
abbrev PTl:=List ((Int×Int)×Int)
noncomputable def dtD (l:PTl):PyData:=.dict (dtK l)
def kT (p:Int×Int):List Key:=[.inl p.1,.inl p.2]
theorem AX {p r:Int×Int} (h:kT p=kT r):p=r:=by unfold kT at h;simp only[List.cons.injEq,Sum.inl.injEq,and_true]at h;exact Prod.ext h.1 h.2
noncomputable def eJ (l:PTl) (k:Int×Int):Option Int:=(l.find? λp=>decide (p.1=k)).map (·.2)
noncomputable def kx (l:PTl) (k:Int×Int) (v:Int):PTl:=if (l.any λp=>decide (p.1=k))=true then l.map (λp=>if p.1=k then (p.1,v) else p) else l++[(k,v)]
theorem yK (l:PTl) (k:Int×Int):jr (l.map λp=>(([.inl p.1.1,.inl p.1.2],V.int p.2):List Key×V)) (kT k)=(eJ l k).map V.int:=by
 unfold jr eJ
 induction l with
 |nil=>rfl
 |cons p r ih =>
  rw[J5,Ko,Ko];by_cases z:p.1=k
  ·have h1:decide (([.inl p.1.1,.inl p.1.2]:List Key)=kT k)=true:=decide_eq_true (by rw[<-z];rfl);simp only[h1,decide_eq_true z];rfl
  ·have h1:decide (([.inl p.1.1,.inl p.1.2]:List Key)=kT k)=false:=decide_eq_false λq=>z (AX (p:=p.1) q)
   simp only[h1,decide_eq_false z];exact ih
theorem BI (l:PTl) (k:Int×Int) (v:Int):putK (l.map λp=>(([.inl p.1.1,.inl p.1.2],V.int p.2):List Key×V)) (kT k) (.int v)=(kx l k v).map λp=>([.inl p.1.1,.inl p.1.2],V.int p.2):=by
 have a:∀p:(Int×Int)×Int,(([.inl p.1.1,.inl p.1.2]:List Key)=kT k)↔p.1=k:=λp=>⟨λq=>AX (p:=p.1) q,λq=>by rw[<-q];rfl⟩
 have ha:((l.map λp=>(([.inl p.1.1,.inl p.1.2],V.int p.2):List Key×V)).any λb=>decide (b.1=kT k))=l.any λp=>decide (p.1=k):=by rw[List.any_map];congr 1;funext p;show decide (([.inl p.1.1,.inl p.1.2]:List Key)=kT k)=_;exact decide_eq_decide.mpr (a p)
 unfold putK kx;rw[ha];split
 ·rw[Kb,Kb];refine Ke λp _=>?_
  show (if ([.inl p.1.1,.inl p.1.2]:List Key)=kT k then _ else _)=_;by_cases z:p.1=k
  ·rw[if_pos ((a p).mpr z)];simp[z]
  ·rw[if_neg λq=>z ((a p).mp q)];simp[z]
 ·rw[Kz];rfl
theorem uE:∀{l m:PTl},l.map (λp=>((.tuple [.int p.1.1,.int p.1.2],.int p.2):PyData×PyData))=m.map (λp=>(.tuple [.int p.1.1,.int p.1.2],.int p.2))->l=m
 |[],[],_=>rfl
 |[],_::_,h=>by simp at h
 |_::_,[],h=>by simp at h
 |((a,b),c)::l,((a',b'),c')::m,h=>by simp only[J5,List.cons.injEq,Prod.mk.injEq,PyData.int.injEq,PyData.tuple.injEq,and_true]at h;obtain⟨⟨⟨rfl,rfl⟩,rfl⟩,h⟩:=h;rw[uE h]
theorem AJ {l:PTl} (h:Dr (dtK l) o):o=dtO l:=by
 rcases h with⟨m,e,_⟩|⟨m,e,rfl⟩
 ·cases m <;> cases e
 ·rw[uE (List.cons.inj e).2]
theorem Is.ofDt {l:PTl} (h:Is K H (dtD l) v):∃a,v=.ref a/\H a=some (dtO l):=by
 unfold dtD Is at h;rcases h with (⟨a,ns,_,e,_⟩|⟨a,o,e1,e,h2⟩)|⟨a,C,dx,fs,_,_,_,h|h⟩
 ·cases e
 ·rw[AJ e]at h2;exact⟨a,e1,h2⟩
 ·unfold Isk at h;obtain⟨f,_,_,_,q,_⟩:=h;cases q
 ·unfold Isk at h;obtain⟨f,_,_,_,q,_⟩:=h;cases q
def jL:List (PyData×PyData)->Option PTl
 |[]=>some []
 |(.tuple [.int a,.int b],.int c)::r=>(jL r).map λl=>((a,b),c)::l
 |_=>none
theorem qV:∀{r:List (PyData×PyData)} {l:PTl},jL r=some l->r=l.map λp=>(.tuple [.int p.1.1,.int p.1.2],.int p.2)
 |[],l,e=>by cases e;rfl
 |x::r,l,e=>by
  unfold jL at e;split at e
  ·rename_i z;cases z
  ·rename_i z;injection z with z1 z2
   subst z1 z2;cases q:jL r with
   |none=>rw[q]at e;cases e
   |some m=>rw[q]at e;cases e;rw[qV q];rfl
  ·cases e
theorem pq:∀l:PTl,jL (l.map λp=>(.tuple [.int p.1.1,.int p.1.2],.int p.2))=some l
 |[]=>rfl
 |p::r=>by rw[J5];unfold jL;rw[pq r];rfl
def vX:PyData->Option PTl
 |.dict ((.bool true,.none)::kvs)=>jL kvs
 |_=>none
theorem wQ {d:PyData} {l:PTl} (h:vX d=some l):d=dtD l:=by
 unfold vX at h;split at h
 ·unfold dtD dtK;rw[qV h]
 ·cases h
theorem wW (l:PTl):vX (dtD l)=some l:=pq l
def fq:PyData->Option (Int×Int)
 |.tuple [.int a,.int b]=>some (a,b)
 |_=>none
theorem tU {d:PyData} {k:Int×Int} (h:fq d=some k):d=.tuple [.int k.1,.int k.2]:=by
 unfold fq at h;split at h
 ·cases h;rfl
 ·cases h
theorem Is.ofPair {k:Int×Int} (h:Is K H (.tuple [.int k.1,.int k.2]) v):∃b,v=.ref b/\H b=some (.tup ((kT k).map kV)):=by obtain⟨b,xs,rfl,a,h⟩:=h.ofTup;unfold Iss at h;obtain⟨v1,r,rfl,h1,h⟩:=h;unfold Iss at h;obtain⟨v2,r,rfl,h2,h⟩:=h;unfold Iss at h;subst h;rw[h1.ofInt,h2.ofInt]at a;exact⟨b,rfl,a⟩
section
variable {E:XK} {o f k value:Expr} {go ge gf gk:Ds->Rs PyData} {apos:Pos}
def A5 (go gk:Ds->Rs PyData):Ds->Rs PyData:=λδ=>(go δ).bind λd=>(gk δ).bind λk=>match vX d,fq k with
 |some l,some k=>(match eJ l k with
  |some v=>.ok (.int v)
  |none=>.no)
 |_,_=>.no
theorem Gg (m:X.A.units+1<cLine) (n:PD X E o go) (h:PD X E k gk) (p:Fy k):PD X E (.Subscript o k pos) (A5 go gk) :=
 (Dq m n h p).imp λσ H Q i=>by
  obtain⟨A,δ,R,c⟩:=i;unfold A5 at c;refine eD.run R (λd q v H1 j r h1=>?_) (λC e H' s'=>?_) (λe=>?_)
  ·simp only[q,Rs.ag]at c;refine eD.run r (λkd s u H2 s2 R2 f=>?_) (λC e H' s'=>?_) (λe=>?_)
   ·simp only[s,Rs.ag]at c;split at c
    ·rename_i l k hl h;rw[wQ hl]at h1;rw[tU h]at f;obtain⟨a,rfl,ha⟩:=h1.ofDt;obtain⟨b,rfl,x⟩:=f.ofPair;split at c
     ·rename_i w hw;have g:=nW.t (k:=kT k) (s2 _ _ (av _ _ ha)) (av _ _ x);rw[yK,hw]at g;exact⟨a,_,rfl,g,c _ H2 (j.trans s2) bB⟩
     ·exact c.elim
    ·exact c.elim
   ·simp only[e,Rs.cN]at c;exact c H' (j.trans s')
   ·simp only[e,Rs.aY]at c;exact c
  ·simp only[e,Rs.cN]at c;exact c H' s'
  ·simp only[e,Rs.aY]at c;exact c
def wK (i:Nat):Ds->Sr:=λδ=>if i<δ.length then .nx (δ.set i (some (dtD []))) else .no
theorem BL (c:X.N.Nodup) (e:i∈O) (hi:X.N[i]?=some x) (f:Loc X.env.scope x) (g:swapsWith (.Dict [] [] pos') (some (.Name x apos)) pos.line X.env=pure false)
  (h:X.fn x=true\/X.env.scope.names.lookup x=some .local):PSD X E O (.Assign [.Name x apos] (.Dict [] [] pos') pos) (wK i):=(lP c hi f Ce g h).imp λD σ H a=>by
 obtain⟨H0,A0,A,δ,R,o⟩:=a;unfold wK at o;split at o
 ·rename_i hl;intro p b;exact o (p::A) _ _ (R.setOwnO (o:=dtO []) e hl b (bp b) ay rfl (.inr ⟨[],rfl,rfl⟩))
 ·exact o.elim
def lp (i:Nat) (gk gv:Ds->Rs PyData):Ds->Sr:=λδ=>match δ[i]? with
 |some (some d)=>(match vX d with
  |some l=>ofR (gv δ) λv=>ofR (gk δ) λk=>(match fq k,v with
   |some k,.int v=>if l.length<1000000 then .nx (δ.set i (some (dtD (kx l k v)))) else .no
   |_,_=>.no)
  |none=>.no)
 |_=>.no
theorem yw (B:X.A.units+1<cLine) (h:PD X E value gv) (F:PD X E k gk) (w:i∈O) (hi:X.N[i]?=some x) (hv:Vis X.env.scope x)
  (hd:(x==("__debug__":Str))=false) (g:(x==("__classdict__":Str))=false) (G:swapsWith value (some (.Subscript (.Name x pn) k pos')) pos.line X.env=pure false):PSD X E O (.Assign [.Subscript (.Name x pn) k pos'] value pos) (lp i gk gv) :=
 (xv B (ic hi hv hd g) F h G).imp λD σ H j=>by
  obtain⟨H0,A0,A,δ,R,a⟩:=j;unfold lp at a;split at a
  ·rename_i d q;split at a
   ·rename_i l hl;rw[wQ hl]at q;obtain⟨p,o',d',e1,I,m,e2,J⟩:=R.own i _ w q;subst e2;have n:o'=dtO l:=AJ J;subst n;refine eD.run R.full (λvd K v H1 y L r=>?_) (λC c H' s'=>?_) (λc=>?_)
    ·simp only[K,az]at a;refine⟨_,e1,?_⟩;refine eD.run L (λkd M u H2 s2 R2 e=>?_) (λC c H' s'=>?_) (λc=>?_)
     ·simp only[M,az]at a;split at a
      ·rename_i z P s;split at a
       ·rename_i hlen;rw[tU s]at e;obtain⟨b,rfl,Q⟩:=e.ofPair;have S:=r.ofInt;subst S;have f:=y.trans s2;refine⟨p,_,rfl,tN.t (k:=kT z) (f _ _ m) (av _ _ Q) (by rw[J6,sizeLine_eq];omega),?_⟩;rw[BI];exact a A _ _ ((R.step f).putO (o:=dtO (kx l z P)) w q e1 I rfl (.inr ⟨_,rfl,rfl⟩))
       ·exact a.elim
      ·exact a.elim
     ·simp only[c,jN]at a;exact a H' (R.same.trans (y.trans s'))
     ·simp only[c,jI]at a;exact a
    ·simp only[c,jN]at a;exact a H' (R.same.trans s')
    ·simp only[c,jI]at a;exact a
   ·exact a.elim
  ·exact a.elim
end
end L2
namespace RS
open PySem L2
def eh (cs:Cs):Ds->Sr :=
 (bw (gL (a9 3 (eZ (ae (af 1) ah)) bc (g2 fA (A5 (af 2) (fZ (ae (af 0) (ae (af 3) ah)))) (af 4)) dS)))
def eo (cs:Cs) (cw:Gf):Ds->Sr :=
 (aF (wK 2)
  (aF (iy [2] (eZ (ae (af 1) ah)) (gj [3,4]) (sIf (gT (g1 ji (af 4))) (lp 2 (af 4) (g2 aV (af 3) (gC (.int 1)))) bg))
  (bw (gL (a9 5 (eZ (ae (af 0) ah)) bc (ar cw (ae (af 5) (ae (af 6) (ae (af 2) ah)))) dS)))))
def gP (cs:Cs) (dk cx:Gf):Ds->Sr :=
 (bw (ar cx (ae (af 2) (ae (ar dk (ae (af 0) (ae (af 1) (ae (af 2) (ae (af 3) ah))))) ah))))
end RS
set_option maxHeartbeats 1000000
namespace RS
open PySem L2
def bY:Gf
 |[d,.int t]=>if uS d then .ok (.bool ((deE d).has t)) else .no
 |_=>.no
theorem i7 {e:Er} {t:Int} (h:e.Sh):bY [e.d,.int t]=.ok (.bool (e.has t)):=by unfold bY;simp[mP h,xA]
theorem uT (t:Int):∀ps:List (Int×Option Int),inD (.int t) ((ps.map a8).map λd=>cU (dR d).2)=ps.any λp=>p.2==some t
 |[]=>rfl
 |p::r=>by
  have h1:eqV (toV (cU p.2)) (.int t)=(p.2==some t):=by
   rcases hp:p.2 with _|z
   ·rfl
   ·show (z==t)=(some z==some t)
    simp
  have:=uT t r;unfold inD inV at this ⊢;rw[J5,J5,J5,L0,L0,this,oF];show (eqV (toV (cU p.2)) (.int t)||_)=_;rw[h1]
theorem yi (ps:List (Int×Option Int)):((ps.map a8).map λd=>cU (dR d).2).all fk=true:=by rw[K9];intro d hd;obtain⟨n,_,rfl⟩:=K1.mp hd;cases (dR n).2 <;> rfl
theorem Gh {f:PyData->Int->Rs PyData} (h:(match ds with|[a,.int x1]=>f a x1|_=>.no)≠.no):∃a x1,ds=[a,.int x1]/\f a x1≠.no:=by
 rcases ds with _|⟨a,_|⟨x1,_|⟨y,ys⟩⟩⟩
 ·exact absurd rfl h
 ·exact absurd rfl h
 ·skip
  cases x1 with
  |int x1 =>exact⟨_,_,rfl,h⟩
  |_=>exact absurd rfl h
 ·first|exact absurd rfl h|(cases x1 <;> exact absurd rfl h)
theorem vm (cs:Cs):LLq (ip cs) 2 0 bY:=by
 intro ds hl a;obtain⟨d,t,f,c⟩:=Gh a;clear a;subst f;have a:=c;clear c
 ·skip
  split at a
  ·rename_i hd;obtain⟨e1,sh⟩:=uN hd;rw[<-e1];generalize deE d=e at sh;rw[i7 sh];have hc:a9 2 (cn (g2 dIx (af 0) (gC (.int 3)))) bc (g2 dIx (af 2) (gC (.int 1))) aO [some e.d,some (.int t)]=.ok ((e.parts.map a8).map λd=>cU (dR d).2) :=
    cK rfl (by simp[IK]) (by have:=sh.pn;simp;omega) λd b=>by obtain⟨p,hp,rfl⟩:=K1.mp b;simp[Gm,oF]
   have hi:A9 false (.int t) (.list ((e.parts.map a8).map λd=>cU (dR d).2))=some (.bool (e.has t)):=by show (if (fk (.int t)&&_)=true then some (PyData.bool (if false=true then _ else inD _ _)) else none)=_;rw[yi,uT];rfl
   show bq (ip cs [some e.d,some (.int t)])=_;simp only[ip,bL,bQ,aq,aw,pL,hc,Rs.ag,hi,Rs.ak,az,aX]
  ·exact absurd rfl a
def cX:Gf
 |[d,r,.int t]=>if qM d&&dG (kG d).length r then .ok (cU (eG (kG d) (fT r) t)) else .no
 |_=>.no
theorem kN {t:Int} (h1:es.length<=100) (h:∀e∈es,e.Sh) (a:je es.length rs):cX [aR es,aT rs,.int t]=.ok (cU (eG es rs t)):=by unfold cX;simp[uj h1 h,vO,jV a,oj]
theorem l9 (es:List Er) (a:∀e∈es,e.Sh) (R:PyData) (t:Int):∀(rs:List Int) (k:Nat) (x3 x4:Option PyData),(∀m∈rs,0<=m/\m<es.length) ->
   (∃i,hts es rs k t=some i/\forL (gj [3,4]) (sIf (gT (ar bY (ae (g2 dIx (af 0) (af 4)) (ae (af 2) ah)))) (bw (af 3)) bg) ((rs.map PyData.int).mapIdx λi d=>.tuple [.int ((k+i:Nat):Int),d]) [some (aR es),some R,some (.int t),x3,x4]=.rt (.int i))
  \/(hts es rs k t=none/\∃δ,forL (gj [3,4]) (sIf (gT (ar bY (ae (g2 dIx (af 0) (af 4)) (ae (af 2) ah)))) (bw (af 3)) bg) ((rs.map PyData.int).mapIdx λi d=>.tuple [.int ((k+i:Nat):Int),d]) [some (aR es),some R,some (.int t),x3,x4]=.nx δ)
 |[],k,x3,x4,_=>.inr ⟨rfl,_,rfl⟩
 |m::r,k,x3,x4,hm=>by
   have b:=hm m J9;have a2:atI (es.map Er.d) m=some (fY es m).d:=sN b.1 b.2;have f:=i7 (t:=t) (a _ (gO b.1 b.2));rw[J5,LQ];unfold forL;have e1:gj [3,4] (PyData.tuple [.int ((k+0:Nat):Int),.int m]) [some (aR es),some R,some (.int t),x3,x4]=some [some (aR es),some R,some (.int t),some (.int (k:Int)),some (.int m)]:=rfl;rw[e1];simp only[dF,fH,bD,aE,aI,bQ,aq,aw,Rs.ag,aR,EO,a2,Rs.ak,f,bt,az,bL,fB];unfold hts;cases hh:(fY es m).has t with
   |true=>exact .inl ⟨k,rfl,rfl⟩
   |false =>
    simp only[Kh,if_false];have c:=l9 es a R t r (k+1) (some (.int (k:Int))) (some (.int m)) (λx g=>hm x (J8 _ g));rw[show ((k+1:Nat):Int)=(k:Int)+1 by omega]at c;have h:(λ(i:Nat) (d:PyData)=>PyData.tuple [.int ((k+(i+1):Nat):Int),d])=λi d=>.tuple [.int ((k+1+i:Nat):Int),d]:=by funext i d;rw[show k+(i+1)=k+1+i by omega]
    rw[h];exact c
theorem D6 {f:PyData->PyData->Int->Rs PyData} (h:(match ds with|[a,x1,.int x2]=>f a x1 x2|_=>.no)≠.no):∃a x1 x2,ds=[a,x1,.int x2]/\f a x1 x2≠.no:=by
 rcases ds with _|⟨a,_|⟨x1,_|⟨x2,_|⟨y,ys⟩⟩⟩⟩
 ·exact absurd rfl h
 ·exact absurd rfl h
 ·exact absurd rfl h
 ·skip
  cases x2 with
  |int x2 =>exact⟨_,_,_,rfl,h⟩
  |_=>exact absurd rfl h
 ·first|exact absurd rfl h|(cases x2 <;> exact absurd rfl h)
theorem Bs (cs:Cs):LLq (kh cs bY) 3 2 cX:=by
 intro ds hl a;obtain⟨d,r,t,h,f⟩:=D6 a;clear a;subst h;have a:=f;clear f
 ·skip
  split at a
  ·rename_i hc;simp only[JZ]at hc;obtain⟨c1,j⟩:=hc;obtain⟨e1,hlen,c⟩:=BV c1;obtain⟨e2,g⟩:=tP j;rw[<-e1,<-e2];generalize kG d=es at *;generalize fT r=rs at *;rw[kN hlen c g];have loop:=l9 es c (aT rs) t rs 0 none none g.rng;show bq (kh cs bY [some (aR es),some (aT rs),some (.int t),none,none])=_;have src:eZ (ae (af 1) ah) [some (aR es),some (aT rs),some (.int t),none,none]=.ok ((rs.map PyData.int).mapIdx λi d=>.tuple [.int ((0+i:Nat):Int),d]):=by simp only[DF,aE,aI,aq,aw,Rs.ag,aT,EC,fm,KP]
   simp only[kh];rw[aP,su,kq,src,az];unfold eG;rcases loop with⟨i,b,e⟩|⟨b,δ,e⟩
   ·rw[e];have b:hts es rs 0 t=some i:=b;rw[b];rfl
   ·rw[e];have b:hts es rs 0 t=none:=b;rw[b];rfl
  ·exact absurd rfl a
def aM (es:List Er) (rs:List Int):PyData:=.list ((List.range 4).map λ(t:Nat)=>cU (eG es rs t))
def aU:Gf
 |[d,r]=>if qM d&&dG (kG d).length r then .ok (aM (kG d) (fT r)) else .no
 |_=>.no
theorem g6 (h1:es.length<=100) (h:∀e∈es,e.Sh) (a:je es.length rs):aU [aR es,aT rs]=.ok (aM es rs):=by unfold aU;simp[uj h1 h,vO,jV a,oj]
theorem GF {f:PyData->PyData->Rs PyData} (h:(match ds with|[a,x1]=>f a x1|_=>.no)≠.no):∃a x1,ds=[a,x1]/\f a x1≠.no:=by
 rcases ds with _|⟨a,_|⟨x1,_|⟨y,ys⟩⟩⟩
 ·exact absurd rfl h
 ·exact absurd rfl h
 ·skip
  exact⟨_,_,rfl,h⟩
 ·exact absurd rfl h
theorem rE (cs:Cs):LLq (fE cs cX) 2 0 aU:=by
 intro ds hl a;obtain⟨d,r,g,e⟩:=GF a;clear a;subst g;have a:=e;clear e
 ·skip
  split at a
  ·rename_i hc;simp only[JZ]at hc;obtain⟨c1,h⟩:=hc;obtain⟨e1,hlen,b⟩:=BV c1;obtain⟨e2,f⟩:=tP h;rw[<-e1,<-e2];generalize kG d=es at *;generalize fT r=rs at *;rw[g6 hlen b f];have j:∀t:Int,cX [aR es,aT rs,.int t]=.ok (cU (eG es rs t)):=λt=>kN hlen b f
   have c:a9 2 (gQ (ae (gC (.int 4)) ah)) bc (ar cX (ae (af 0) (ae (af 1) (ae (af 2) ah)))) aO [some (aR es),some (aT rs)]=.ok ((bF 0 (4:Int).toNat).map λx=>cU (eG es rs (deI x))) :=
    cK rfl (by simp only[j7,aE,aI,c8,Rs.ag];exact kB (by decide) (by decide)) (by rw[cM];decide) λx l=>by obtain⟨i,hi⟩:=List.getElem?_of_mem l;obtain⟨_,rfl⟩:=iB hi;simp only[Ku,Kt,bD,aE,aI,aq,aw,Rs.ag,j];rfl
   have hd:aM es rs=.list ((bF 0 (4:Int).toNat).map λx=>cU (eG es rs (deI x))):=by
    unfold aM bF;rw[Kb];congr 1
    try exact Ke λk _=>by simp[deI]
   rw[hd];show bq (fE cs cX [some (aR es),some (aT rs)])=_;simp only[fE,bL,pL,c,Rs.ag,az,aX]
  ·exact absurd rfl a
def cY (ns:List Int) (a:Int) (many:Nat):Nat->List Int×List Int
 |0=>((List.range many).map λ(i:Nat)=>(i:Int),[])
 |i+1=>((cY ns a many i).1.eraseIdx (mixed ns (a+(i:Int)) ((cY ns a many i).1.length:Int)).toNat,(cY ns a many i).2++[(cY ns a many i).1.getD (mixed ns (a+(i:Int)) ((cY ns a many i).1.length:Int)).toNat 0])
def ng (ns:List Int) (a:Int) (many:Nat):List Int:=(cY ns a many many).2
theorem nr {α:Type}:∀(l:List α) (j:Nat) (h:j<l.length),(l[j]::l.eraseIdx j).Perm l
 |[],j,h=>by simp at h
 |x::r,0,h=>by simp
 |x::r,j+1,h=>by
  simp only[List.getElem_cons_succ,List.eraseIdx_cons_succ];have h':j<r.length:=by simpa using h
  exact (List.Perm.swap _ _ _).trans ((nr r j h').cons x)
theorem qz {α β:Type} (f:α->β):∀(l:List α) (j:Nat),(l.map f).eraseIdx j=(l.eraseIdx j).map f
 |[],j=>by simp
 |x::r,0=>by simp
 |x::r,j+1=>by simp[qz f r j]
theorem oJ (ns:List Int) (a:Int) (many:Nat):∀i,i<=many->(cY ns a many i).1.length=many-i/\(cY ns a many i).2.length=i/\((cY ns a many i).1++(cY ns a many i).2).Perm ((List.range many).map λ(i:Nat)=>(i:Int))
 |0,_=>⟨by simp[cY],rfl,by simp[cY]⟩
 |i+1,h=>by
  obtain⟨h1,h2,e⟩:=oJ ns a many i (by omega);simp only[cY];generalize (cY ns a many i).1=L at *;generalize (cY ns a many i).2=M at *;have c:0<(L.length:Int):=by omega
  have m0:=bZ ns (a+(i:Int)) c;have m1:=cp ns (a+(i:Int)) c;generalize mixed ns (a+(i:Int)) (L.length:Int)=z at *;have b:z.toNat<L.length:=by omega
  refine⟨by rw[List.length_eraseIdx_of_lt b];omega,by simp[h2],?_⟩;refine List.Perm.trans ?_ e;rw[K6,J0 b,Option.getD_some];have p1:(L[z.toNat]::L.eraseIdx z.toNat).Perm L:=nr L z.toNat b;have p2:(L.eraseIdx z.toNat++(M++[L[z.toNat]])).Perm ((L[z.toNat]::L.eraseIdx z.toNat)++M):=by rw[<-LL];exact (List.perm_append_singleton _ _)
  exact p2.trans (p1.append_right M)
theorem vG (ns:List Int) (a:Int) (many:Nat):je many (ng ns a many):=by
 obtain⟨h1,h2,b⟩:=oJ ns a many many (JU _);unfold ng;have e:(cY ns a many many).1=[]:=L6.mp (by omega);rw[e,Kt]at b;refine⟨h2,λr c=>?_,b.nodup_iff.mpr ?_⟩
 ·obtain⟨k,g,rfl⟩:=K1.mp (b.mem_iff.mp c);have:=Lv.mp g;omega
 ·exact (List.nodup_range).map (f:=λ(i:Nat)=>(i:Int)) λx y h=>by intro q;have q:(x:Int)=(y:Int):=q;exact h (by omega)
def bJ:Gf
 |[s,.int a,.int many]=>(match d8 s with
  |some ns=>if 0<=a/\0<=many/\many<=100 then .ok (aT (ng ns a many.toNat)) else .no
  |none=>.no)
 |_=>.no
theorem iK {a:Int} (h1:0<=a) (h2:0<=many) (b:many<=100):bJ [aj ns,.int a,.int many]=.ok (aT (ng ns a many.toNat)):=by unfold bJ;simp[eS,h1,h2,b]
theorem zw (ns:List Int) (a:Int) (n i:Nat) (L M:List Int) (ha:0<=a) (c:0<(L.length:Int)) (hL2:L.length<=100) (hM:M.length<=100) :
   ig 4 3 (ar ai (ae (af 0) (ae (g2 aV (af 1) (af 5)) (ae (gF b8 (ae (af 3) ah)) ah)))) [some (aj ns),some (.int a),some (.int (n:Int)),some (.list (L.map .int)),some (.list (M.map .int)),some (.int (0+(i:Int)))]
  =.nx [some (aj ns),some (.int a),some (.int (n:Int)),some (.list ((L.eraseIdx (mixed ns (a+(i:Int)) (L.length:Int)).toNat).map .int)),some (.list ((M++[L.getD (mixed ns (a+(i:Int)) (L.length:Int)).toNat 0]).map .int)),some (.int (0+(i:Int)))]:=by
 have b:=bR (ns:=ns) (k:=a+(0+(i:Int))) (many:=(L.length:Int)) (by omega) c;have h:=bZ ns (a+(i:Int)) c;have m1:=cp ns (a+(i:Int)) c;rw[show a+(0+(i:Int))=a+(i:Int) by omega]at b;generalize mixed ns (a+(i:Int)) (L.length:Int)=z at *;have g:z.toNat<L.length:=by omega
 have j:ar ai (ae (af 0) (ae (g2 aV (af 1) (af 5)) (ae (gF b8 (ae (af 3) ah)) ah))) [some (aj ns),some (.int a),some (.int (n:Int)),some (.list (L.map .int)),some (.list (M.map .int)),some (.int (0+(i:Int)))]=.ok (.int z):=by simp only[bD,aE,aI,bQ,f6,aq,aw,Rs.ag,dZ,Rs.ak,j4,J6];rw[show a+(0+(i:Int))=a+(i:Int) by omega];exact b
 have e:ixN (L.map PyData.int).length z=some z.toNat:=by unfold ixN;rw[if_pos h,if_pos (by rw[J6];omega)]
 have f:(L.map PyData.int)[z.toNat]?=some (.int (L.getD z.toNat 0)):=by rw[JY,J0 g,K6,J0 g];rfl
 unfold ig;simp only[L7,L8,j,az];rw[if_pos (by refine⟨by omega,by omega,?_⟩;rw[J6];omega)];simp only[e,f,Lq,Lr,Kz,J5,L4];rw[qz]
theorem xW (ns:List Int) (a:Int) (n i:Nat) (ha:0<=a) (hi:i<n) (hn:n<=100) :
   ig 4 3 (ar ai (ae (af 0) (ae (g2 aV (af 1) (af 5)) (ae (gF b8 (ae (af 3) ah)) ah)))) [some (aj ns),some (.int a),some (.int (n:Int)),some (.list ((cY ns a n i).1.map .int)),some (.list ((cY ns a n i).2.map .int)),some (.int (0+(i:Int)))]
  =.nx [some (aj ns),some (.int a),some (.int (n:Int)),some (.list ((cY ns a n (i+1)).1.map .int)),some (.list ((cY ns a n (i+1)).2.map .int)),some (.int (0+(i:Int)))]:=by
 obtain⟨h1,h2,h3⟩:=oJ ns a n i (by omega);simp only[cY];exact zw ns a n i _ _ ha (by omega) (by omega) (by omega)
theorem rk1 (ns:List Int) (a:Int) (n:Nat) (hm2:(n:Int)<=100):jq [3,4] 3 (gLR (ae (af 2) ah)) [some (aj ns),some (.int a),some (.int (n:Int)),none,none,none]=.nx [some (aj ns),some (.int a),some (.int (n:Int)),some (.list ((cY ns a n 0).1.map .int)),none,none]:=by
 have b:gLR (ae (af 2) ah) (mask [3,4] [some (aj ns),some (.int a),some (.int (n:Int)),none,none,none])=.ok (bF 0 n):=by simp only[HC,aE,aI,bj (show 2∉[3,4] by decide),aq,aw,Rs.ag];unfold sA;simp only;rw[if_pos (by omega),Kq]
 have c:(cY ns a n 0).1.map PyData.int=bF 0 n:=by
  simp only[cY,bF,Kb];refine Ke λk _=>?_
  simp
 rw[c];unfold jq;rw[b,if_pos (by simp)];simp only[az,Lq,Lr]
theorem rk2 (ns:List Int) (a:Int) (n:Nat):jq [3,4] 4 ah [some (aj ns),some (.int a),some (.int (n:Int)),some (.list ((cY ns a n 0).1.map .int)),none,none]=.nx [some (aj ns),some (.int a),some (.int (n:Int)),some (.list ((cY ns a n 0).1.map .int)),some (.list ((cY ns a n 0).2.map .int)),none]:=by unfold jq;rw[if_pos (by simp)];simp only[aI,az,Lq,Lr];rfl
theorem rk3 (ns:List Int) (a:Int) (n:Nat) (hm2:(n:Int)<=100):gQ (ae (af 2) ah) (mask [3,4] [some (aj ns),some (.int a),some (.int (n:Int)),some (.list ((cY ns a n 0).1.map .int)),some (.list ((cY ns a n 0).2.map .int)),none])=.ok (bF 0 n):=by have hv:ae (af 2) ah (mask [3,4] [some (aj ns),some (.int a),some (.int (n:Int)),some (.list ((cY ns a n 0).1.map .int)),some (.list ((cY ns a n 0).2.map .int)),none])=.ok [.int (n:Int)]:=rfl;have b:=kB (j:=(n:Int)) (Lp n) (by omega);rw[Kq]at b;rw[j7,hv,Rs.ag,b]
theorem um (cs:Cs):LLq (gp cs ai) 3 3 bJ:=by
 intro ds hl b;obtain⟨s,a,many,m,l⟩:=mO b;clear b;subst m;have b:=l;clear l
 ·skip
  split at b
  ·rename_i ns o;have es:=gh o;subst es;split at b
   ·rename_i hc;obtain⟨ha,hm,c⟩:=hc;rw[iK ha hm c];obtain⟨n,rfl⟩:∃n:Nat,many=(n:Int):=⟨many.toNat,by omega⟩
    rw[Kq];show bq (gp cs ai [some (aj ns),some (.int a),some (.int (n:Int)),none,none,none])=_;have p:=rk1 ns a n c;have s2:=rk2 ns a n;have src:=rk3 ns a n c;obtain⟨δ',e,f,g⟩:=jX (β:=Unit) (tgt:=bN 5) (body:=ig 4 3 (ar ai (ae (af 0) (ae (g2 aV (af 1) (af 5)) (ae (gF b8 (ae (af 3) ah)) ah)))))
     (λi δ=>∃f,δ=[some (aj ns),some (.int a),some (.int (n:Int)),some (.list ((cY ns a n i).1.map .int)),some (.list ((cY ns a n i).2.map .int)),f])
     (bF 0 n) 0 (λi d δ hi h=>by obtain⟨f,q⟩:=h;subst q;rw[KP]at *;obtain⟨j,rfl⟩:=iB hi;refine⟨[some (aj ns),some (.int a),some (.int (n:Int)),some (.list ((cY ns a n i).1.map .int)),some (.list ((cY ns a n i).2.map .int)),some (.int (0+(i:Int)))],_,rfl,?_,some (.int (0+(i:Int))),rfl⟩;exact xW ns a n i ha j (by omega)) [some (aj ns),some (.int a),some (.int (n:Int)),some (.list ((cY ns a n 0).1.map .int)),some (.list ((cY ns a n 0).2.map .int)),none] ⟨none,rfl⟩
    subst g;rw[KP,cM]at e;simp only[gp];rw[aP,p];simp only;rw[aP,s2];simp only;rw[aP,su,src,az,e];simp only;simp only[bL,f6,aE,aI,aq,aw,Rs.ag,Al,Rs.ak,az,aX];rfl
   ·exact absurd rfl b
  ·exact absurd rfl b
def hvM (every late:Int):Int->List Int->Bool
 |_,[]=>true
 |m,c::r=>if c<(if c-late>m then c-late else m) then false else hvM every late ((if c-late>m then c-late else m)+every) r
def hvE (e:Er) (ns:List Int):Bool:=hvM e.every e.late (0-e.late) ns
def bE:Gf
 |[d,.list xs]=>if uS d then (match gU xs with|some ns=>.ok (.bool (hvE (deE d) ns))|none=>.no) else .no
 |_=>.no
theorem fV {e:Er} (h:e.Sh):bE [e.d,.list (ns.map PyData.int)]=.ok (.bool (hvE e ns)):=by unfold bE;simp only[mP h,if_true,fK,xA]
def hvB:Ds->Sr:=(aF (aQ [] 6 (gF gK (ae (af 4) (ae (g2 fA (af 5) (af 3)) ah))))
 (aF (sIf (gT (g2 dGt (af 6) (af 5))) (bw (gC (.bool false))) bg)
 (aQ [] 4 (g2 aV (af 6) (af 2)))))
theorem wO (E L:PyData) (every late:Int):∀(ns:List Int) (m:Int) (a x6:Option PyData),
   (hvM every late m ns=true/\∃δ,forL (bN 5) hvB (ns.map PyData.int) [some E,some L,some (.int every),some (.int late),some (.int m),a,x6]=.nx δ)
  \/(hvM every late m ns=false/\forL (bN 5) hvB (ns.map PyData.int) [some E,some L,some (.int every),some (.int late),some (.int m),a,x6]=.rt (.bool false))
 |[],m,a,x6=>.inl ⟨rfl,_,rfl⟩
 |c::r,m,a,x6=>by
   have h1:bN 5 (.int c) [some E,some L,some (.int every),some (.int late),some (.int m),a,x6]=some [some E,some L,some (.int every),some (.int late),some (.int m),some (.int c),x6]:=rfl;rw[J5];unfold forL;rw[h1];unfold hvM;by_cases hc:c<(if c-late>m then c-late else m)
   ·have b:hvB [some E,some L,some (.int every),some (.int late),some (.int m),some (.int c),x6]=.rt (.bool false):=by simp[hvB,hc]
    refine .inr ⟨if_pos hc,?_⟩;simp only[b]
   ·have b:hvB [some E,some L,some (.int every),some (.int late),some (.int m),some (.int c),x6]=.nx [some E,some L,some (.int every),some (.int late),some (.int ((if c-late>m then c-late else m)+every)),some (.int c),some (.int (if c-late>m then c-late else m))]:=by simp[hvB,hc]
    rw[if_neg hc];simp only[b];exact wO E L every late r _ _ _
theorem Bw {f:PyData->List PyData->Rs PyData} (h:(match ds with|[a,.list x1]=>f a x1|_=>.no)≠.no):∃a x1,ds=[a,.list x1]/\f a x1≠.no:=by
 rcases ds with _|⟨a,_|⟨x1,_|⟨y,ys⟩⟩⟩
 ·exact absurd rfl h
 ·exact absurd rfl h
 ·skip
  cases x1 with
  |list x1 =>exact⟨_,_,rfl,h⟩
  |_=>exact absurd rfl h
 ·first|exact absurd rfl h|(cases x1 <;> exact absurd rfl h)
theorem nC (cs:Cs):LLq (eE cs) 2 5 bE:=by
 intro ds hl a;obtain⟨d,xs,g,f⟩:=Bw a;clear a;subst g;have a:=f;clear f
 ·skip
  split at a
  ·rename_i hd;split at a
   ·rename_i ns h;have b:=eP h;subst b;obtain⟨e1,sh⟩:=uN hd;rw[<-e1,fV sh];generalize deE d=e at *;show bq (eE cs [some e.d,some (.list (ns.map PyData.int)),none,none,none,none,none])=_;unfold eE;have a0:dIx e.d (.int 0)=some (.int e.every):=rfl;have a2:dIx e.d (.int 2)=some (.int e.late):=rfl;simp only[aP,jk,bQ,aq,aw,c8,Rs.ag,a0,a2,Rs.ak,az,u6];have i:=wO e.d (.list (ns.map PyData.int)) e.every e.late ns (0-e.late) none none;have j:iy [] (cn (af 1)) (bN 5) hvB [some e.d,some (.list (ns.map PyData.int)),some (.int e.every),some (.int e.late),some (.int (0-e.late)),none,none]=forL (bN 5) hvB (ns.map PyData.int) [some e.d,some (.list (ns.map PyData.int)),some (.int e.every),some (.int e.late),some (.int (0-e.late)),none,none]:=rfl;show bq (match iy [] (cn (af 1)) (bN 5) hvB [some e.d,some (.list (ns.map PyData.int)),some (.int e.every),some (.int e.late),some (.int (0-e.late)),none,none] with|.nx c=>bw (gC (.bool true)) c|r=>r)=_;rw[j];rcases i with⟨h1,δ,h2⟩|⟨h1,h2⟩
    ·rw[h2];show Rs.ok _=_;unfold hvE;rw[h1]
    ·rw[h2];show Rs.ok _=_;unfold hvE;rw[h1]
   ·exact absurd rfl a
  ·exact absurd rfl a
structure oz (ns:List Int):Prop where
 few:ns.length<=60
 lo:∀c∈ns,0<=c
 hi:∀c∈ns,c<=9999
def mf (ns:List Int):Bool:=decide (ns.length<=60)&&ns.all λc=>decide (0<=c)&&decide (c<=9999)
theorem qw:mf ns=true↔oz ns:=by
 unfold mf;rw[JZ,decide_eq_true_eq,K9];constructor
 ·rintro⟨h1,h2⟩
  refine⟨h1,λc hc=>?_,λc hc=>?_⟩
  ·have:=h2 c hc;rw[JZ,decide_eq_true_eq,decide_eq_true_eq]at this;exact this.1
  ·have:=h2 c hc;rw[JZ,decide_eq_true_eq,decide_eq_true_eq]at this;exact this.2
 ·rintro⟨h1,h2,a⟩
  refine⟨h1,λc hc=>?_⟩;rw[JZ,decide_eq_true_eq,decide_eq_true_eq];exact⟨h2 c hc,a c hc⟩
def cC:Gf
 |[d,.list xs]=>if uS d then (match gU xs with|some ns=>if mf ns then .ok (.bool (hvE (deE d) ns)) else .no|none=>.no) else .no
 |_=>.no
theorem j9 {e:Er} (h:e.Sh) (a:oz ns):cC [e.d,.list (ns.map PyData.int)]=.ok (.bool (hvE e ns)):=by unfold cC;simp only[mP h,if_true,fK,xA,qw.mpr a]
theorem iS (ns:List Int):aA (.list (ns.map PyData.int))=true:=by
 induction ns with
 |nil=>rfl
 |cons a r ih =>
  have:aA (.list (PyData.int a::r.map PyData.int))=aA (.list (r.map PyData.int)):=by simp[aA,cQ]
  rw[J5,this];exact ih
theorem Ao (cs:Cs):LLq (ki cs aK bE) 2 0 cC:=by
 intro ds hl a;obtain⟨d,xs,i,g⟩:=Bw a;clear a;subst i;have a:=g;clear g
 ·skip
  split at a
  ·rename_i hd;split at a
   ·rename_i ns j;split at a
    ·rename_i l;have f:=eP j;subst f;obtain⟨e1,sh⟩:=uN hd;have R:=qw.mp l;rw[<-e1,j9 sh R];generalize deE d=e at *;show bq (ki cs aK bE [some e.d,some (.list (ns.map PyData.int))])=_;have m:gz "list" (.list (ns.map PyData.int))=some (.bool true):=by unfold gz;rw[if_pos (iS ns)];rfl
     have hc:a9 2 (cn (af 1)) bc (ar aK (ae (af 2) (ae (gC (.int 0)) (ae (gC (.int 9999)) ah)))) aO [some e.d,some (.list (ns.map PyData.int))]=.ok ((ns.map PyData.int).map λd=>.bool (isWhole d 0 9999)) :=
      cK rfl rfl (by have:=R.few;rw[J6];omega) λd b=>by obtain⟨c,hc,rfl⟩:=K1.mp b;simp only[bD,aE,aI,Ku,Kt,aq,aw,c8,Rs.ag];exact tJ rfl
     have h:=gW (λd=>isWhole d 0 9999) (ns.map PyData.int);have ha:(ns.map PyData.int).all (λd=>isWhole d 0 9999)=true:=by rw[K9];intro d b;obtain⟨c,hc,rfl⟩:=K1.mp b;have h1:=R.lo c hc;have h2:=R.hi c hc;simp[isWhole,h1,h2]
     rw[ha]at h;have hn:¬ ((60:Int)<((ns.map PyData.int).length:Int)):=by have:=R.few;rw[J6];omega
     unfold ki;simp only[aP,dF,EY,rH,fH,gG,bQ,f6,aE,aI,aq,aw,c8,Rs.ag,m,Rs.ak,bt,j4,G9,Bool.not_true,Kh,if_false,decide_eq_false hn,az,fB,bL,sq,pL,hc,h,bD,fV sh,if_true,aX]
    ·exact absurd rfl a
   ·exact absurd rfl a
  ·exact absurd rfl a
inductive Fa2 {α β:Type} (R:α->β->Prop):List α->List β->Prop where
 |nil:Fa2 R [] []
 |cons {a:α} {b:β} {l:List α} {m:List β} (h:R a b) (t:Fa2 R l m):Fa2 R (a::l) (b::m)
theorem Cb (es:List Er) (t:Int):∀(rs:List Int) (k:Int) (j:Nat),(∃h,hts es rs k t=some h/\h<=k+j)↔∃m∈rs.take (j+1),(fY es m).has t=true
 |[],k,j=>by simp[hts]
 |r::rs,k,j=>by
  unfold hts;rw[Lj];by_cases hr:(fY es r).has t=true
  ·rw[if_pos hr];exact⟨λ_=>⟨r,J9,hr⟩,λ_=>⟨k,rfl,by omega⟩⟩
  ·rw[if_neg hr];cases j with
   |zero =>
    have lo:∀(rs:List Int) (k:Int) h,hts es rs k t=some h->k<=h:=by
     intro rs
     induction rs with
     |nil=>intro k h e;cases e
     |cons a l c =>
      intro k h e;unfold hts at e;split at e
      ·cases e;exact LR _
      ·have:=c _ _ e;omega
    constructor
    ·rintro⟨h,e,hl⟩
     have:=lo rs (k+1) h e;omega
    ·rintro⟨m,hm,b⟩
     simp at hm;subst hm;exact absurd b hr
   |succ j =>
    have c:=Cb es t rs (k+1) j;constructor
    ·rintro⟨h,e,hl⟩
     obtain⟨m,hm,b⟩:=c.mp ⟨h,e,by omega⟩;exact⟨m,J8 _ hm,b⟩
    ·rintro⟨m,hm,b⟩
     rcases J7.mp hm with z|z
     ·rw[z]at b;exact absurd b hr
     ·obtain⟨h,e,hl⟩:=c.mpr ⟨m,z,b⟩;exact⟨h,e,by omega⟩
section
variable {A B:List Int} {x y:Int}
end
section
variable {ot:List Int} {n:Int}
end
theorem lR:∀{ds:List PyData},(∀d∈ds,aA d=true)->cQ ds=true
 |[],_=>by unfold cQ;rfl
 |d::r,h=>by unfold cQ;rw[h d J9,lR λe a=>h e (J8 _ a)];rfl
theorem fS (h:∀d∈ds,aA d=true):aA (.tuple ds)=true:=by unfold aA;exact lR h
theorem cy (h:∀d∈ds,aA d=true):aA (.list ds)=true:=by unfold aA;exact lR h
theorem hU (i:Int):aA (.int i)=true:=by unfold aA;rfl
theorem qX (o:Option Int):aA (cU o)=true:=by cases o <;> (unfold cU aA;rfl)
theorem vi (p:Int×Option Int):aA (a8 p)=true:=fS λd hd=>by
 rcases J7.mp hd with rfl|hd
 ·exact hU _
 ·cases JW.mp hd;exact qX _
theorem AS (e:Er):aA e.d=true:=fS λd hd=>by
 rcases J7.mp hd with rfl|hd
 ·exact hU _
 ·rcases J7.mp hd with rfl|hd
  ·exact hU _
  ·rcases J7.mp hd with rfl|hd
   ·exact hU _
   ·cases JW.mp hd;exact fS λd hd=>by obtain⟨p,_,rfl⟩:=K1.mp hd;exact vi p
theorem qQ (es:List Er):aA (aR es)=true:=fS λd hd=>by obtain⟨p,_,rfl⟩:=K1.mp hd;exact AS p
theorem fM (rs:List Int):∀d∈rs.map PyData.int,aA d=true:=λd hd=>by obtain⟨p,_,rfl⟩:=K1.mp hd;exact hU p
theorem pe (rs:List Int):aA (aT rs)=true:=fS (fM rs)
end RS
namespace RS
open PySem PySem.Spec PyProof.Rows L2
section
theorem sL {xs:List α} {k:Int} {v:α} (a:0<=k) (h:xs[k.toNat]?=some v):atI xs k=some v:=by
 have:=mT h
 rwa[Li a]at this
theorem depthAll_ints:∀ns:List Int,PyData.depthAll (ns.map PyData.int)<=1
 |[]=>by simp[PyData.depthAll]
 |n::r=>by have:=depthAll_ints r;simp only[J5,PyData.depthAll,PyData.depth];omega
theorem iY:∀ns:List Int,PyData.canLayAll0 (ns.map PyData.int)=true
 |[]=>by simp[PyData.canLayAll0]
 |n::r=>by simp[PyData.canLayAll0,PyData.canLay0,iY r]
theorem shaped_ints (ns:List Int):SeqAt.shaped (.list (ns.map PyData.int))=true:=by
 have:=depthAll_ints ns;have h2:(PyData.list (ns.map PyData.int)).depth<=64:=by simp only[PyData.depth];omega
 simp[SeqAt.shaped,PyData.canLay0,iY,h2]
theorem vL:SeqAt.shaped (.list [])=true:=shaped_ints []
theorem Cf:∀ns:List Int,PyData.eqv (.list (ns.map PyData.int)) (.list [])=decide (ns=[])
 |[]=>by simp[PyData.eqv,PyData.eqvAll]
 |_::_=>by simp[PyData.eqv,PyData.eqvAll]
def z0 (K:PySem.W.Frag):Sp:=λvs H Q _=>∃(a:Addr) (ns:List Int) (k:Int),vs=[.ref a,.int k]/\SqL K H a (ns.map V.int)/\0<=k/\∀H',ao H H'->Q (.int (cellAt ns k)) H'
def EW (K:PySem.W.Frag):Sp:=λvs H Q _=>∃(a:Addr) (ns:List Int) (k many:Int),vs=[.ref a,.int k,.int many]/\SqL K H a (ns.map V.int)/\0<=k/\0<many/\∀H',ao H H'->Q (.int (mixed ns k many)) H'
theorem C8 (ds:List PyData) (hl:ds.length=3) (b:ai ds≠.no):∃d,ai ds=.ok d/\fk d=true/\∀vs H Q,Iss K H ds vs->(∀v H',ao H H'->IsD K H' d v->Q v H')->EW K vs H Q E0:=by
 obtain⟨s,k,many,e,c⟩:=mO b;clear b;subst e;have b:=c;clear c
 ·skip
  split at b
  ·rename_i ns f;have es:=gh f;subst es;split at b
   ·rename_i hc;refine⟨_,bR hc.1 hc.2,rfl,λvs H Q hi g=>?_⟩;obtain⟨v0,r0,rfl,h,v1,r1,rfl,h1,v2,r2,rfl,h2,rfl⟩:=hi;obtain⟨a,rfl,i⟩:=h.ofScript;rw[h1.ofInt,h2.ofInt];exact⟨a,ns,k,many,rfl,i,hc.1,hc.2,λH' s'=>g _ _ s' rL⟩
   ·exact absurd rfl b
  ·exact absurd rfl b
end
end RS
namespace RS
open PySem L2
section
variable {n:Int}
end
theorem pY {l:List PyData} (h:aA (.list l)=true):gz "list" (.list l)=some (.bool true):=by unfold gz;rw[h];rfl
theorem mj {cond:Ds->Rs Bool} {elt:Ds->Rs PyData} {δ:Ds} {p:PyData->Bool}:∀(ds:List PyData),(∀d∈ds,cond (δ++[some d])=.ok (p d)/\elt (δ++[some d])=.ok d)->cJ cond elt aO δ ds=.ok (ds.filter p)
 |[],_=>rfl
 |d::r,h=>by
  obtain⟨h1,h2⟩:=h d J9;have a:=mj r λe b=>h e (J8 _ b)
  unfold cJ;cases hp:p d with
  |true=>simp only[aO,h1,hp,Rs.b9,Rs.ag,if_true,h2,a,L5]
  |false=>simp only[aO,h1,hp,Rs.b9,Rs.ag,if_false,Kh,a,L5]
theorem rD {elt:Ds->Rs PyData} {p:PyData->Bool} (hn:δ.length=n0) (a:src δ=.ok ds) (hl:ds.length<=1000000) (h:∀d∈ds,cond (δ++[some d])=.ok (p d)/\elt (δ++[some d])=.ok d) :
  a9 n0 src cond elt aO δ=.ok (ds.filter p):=by
 unfold a9;rw[if_pos hn,a];simp only[Rs.ag,if_pos hl];exact mj ds h
theorem Bc (ns:List Int) (a top:Int) (ha:0<=a) (g:0<top) (b:top<=58):∃es rs,mE ns a 4 top true=es/\1<=es.length/\es.length<=4/\(∀e∈es,e.Ok)/\je es.length rs/\bh [aj ns,.int a,.int 4,.int top,.bool true]=.ok (aR es)/\bJ [aj ns,.int 0,.int (es.length:Int)]=.ok (aT rs):=by have hl:=Bm ns a 4 top true (by decide);have hok:=DL ns a 4 top true g b;have f:bh [aj ns,.int a,.int 4,.int top,.bool true]=.ok (aR (mE ns a 4 top true)):=f9 ha (by decide) (by decide) g b;generalize mE ns a 4 top true=es at *;have c:=iK (ns:=ns) (a:=0) (many:=(es.length:Int)) (by decide) (by omega) (by omega);rw[Kq]at c;exact⟨es,_,rfl,hl.1,by omega,hok,vG ns 0 es.length,f,c⟩
theorem HY (es:List Er):b8 [aR es]=some (.int (es.length:Int)):=by unfold aR;rw[zM,J6]
theorem lawT_of {G:Ds->Sr} {k:Nat} (h:∀ns:List Int,G (some (aj ns)::List.replicate k none)=.rt (.bool true)):∀ds,ds.length=1->eX n ds≠.no->bq (G (ds.map some++List.replicate k none))=eX n ds:=by
 intro ds hl a
 match ds,hl with
 |[s],_ =>
  unfold eX at a ⊢;simp only at a ⊢;split at a
  ·rename_i ns b;have es:=gh b;subst es;split at a
   ·rename_i hc;simp only[eS,if_pos hc];show bq (G (some (aj ns)::List.replicate k none))=_;rw[h];rfl
   ·exact absurd rfl a
  ·exact absurd rfl a
theorem jx (cs:Cs) (h1:1<=es.length) (h2:es.length<=6) (h:∀e∈es,e.Ok):bx cs [aR es]=.ok (aR es):=by unfold bx;simp[qQ,rl h1 h2 h]
theorem jt (cs:Cs) (h2:es.length<=6) (a:je es.length rs):bo cs [aR es,aT rs]=.ok (aT rs):=by unfold aR bo;simp only[J6,pe,jV a,LA,if_true];rw[if_pos (by simp;omega)]
noncomputable def bS (r:List Int):PyData:=.list (r.map PyData.int)
def cmD (rows:List (List Int)):PyData:=.list (rows.map bS)
inductive Cms:List Er->List (List Int)->Prop
 |nil:Cms [] []
 |cons {e:Er} {r:List Int} {es:List Er} {rows:List (List Int)}:oz r->hvE e r=true->Cms es rows->Cms (e::es) (r::rows)
theorem Cms.len (h:Cms es rows):rows.length=es.length:=by
 induction h with
 |nil=>rfl
 |cons _ _ _ ih=>simp[ih]
theorem Cms.mf (h:Cms es rows):∀r∈rows,oz r:=by
 induction h with
 |nil=>intro r a;cases a
 |cons a _ _ ih =>
  intro b h';rcases J7.mp h' with rfl|h'
  ·exact a
  ·exact ih b h'
structure wj (es:List Er):Prop where
 l1:1<=es.length
 l6:es.length<=6
 ok:∀e∈es,e.Ok
open Classical in
def aZ (cs:Cs):Gf:=λds=>if ∃es rows,wj es/\Cms es rows/\ds=[aR es,cmD rows] then .ok (ds.getD 1 .none) else .no
theorem eK (h:wj es) (c:Cms es rows):aZ cs [aR es,cmD rows]=.ok (cmD rows):=by unfold aZ;rw[if_pos ⟨es,rows,h,c,rfl⟩];rfl
theorem Ba {δ:Ds} (f:δ.length=2):∀{es:List Er} {rows:List (List Int)},Cms es rows->(∀e∈es,e.Sh)->cJ bc (ar cC (ae (af 2) (ae (af 3) ah))) dS δ (pX (es.map Er.d) (rows.map bS))=.ok (rows.map λ_=>.bool true)
 |_,_,.nil,_=>rfl
 |_,_,.cons (e:=e) (r:=r) (es:=es) (rows:=rows) hr hv c,hs=>by
  obtain⟨a,b,rfl⟩:∃a b,δ=[a,b]:=by
   match δ,f with
   |[a,b],_=>exact⟨a,b,rfl⟩
  have g:=Ba f c λx h=>hs x (J8 _ h)
  show cJ _ _ _ _ (PyData.tuple [e.d,bS r]::pX (es.map Er.d) (rows.map bS))=_;unfold cJ;rw[show dS (PyData.tuple [e.d,bS r])=some [some e.d,some (bS r)] from rfl];have i:ar cC (ae (af 2) (ae (af 3) ah)) ([a,b]++[some e.d,some (bS r)])=.ok (.bool true):=by simp only[bD,aE,aI,Ku,Kt,aq,aw,Rs.ag];rw[show bS r=.list (r.map PyData.int) from rfl,j9 (hs e J9) hr,hv]
  simp only[bc,Rs.b9,Rs.ag,if_true,i,g,J5]
theorem nX (rows:List (List Int)):aA (cmD rows)=true:=by
 unfold cmD
 induction rows with
 |nil=>rfl
 |cons a r ih =>
  have h1:=iS a;have:aA (.list (bS a::r.map bS))=(aA (bS a)&&aA (.list (r.map bS))):=by simp[aA,cQ]
  rw[J5,this,ih];simp only[Ld];exact h1
theorem kH (cs:Cs):LLq (c7 cs cC (bx cs)) 2 0 (aZ cs):=by
 intro ds hl a;by_cases h:∃es rows,wj es/\Cms es rows/\ds=[aR es,cmD rows]
 ·obtain⟨es,rows,ok,c,rfl⟩:=h;rw[eK ok c];have k1:=jx cs ok.l1 ok.l6 ok.ok;have j:gz "list" (cmD rows)=some (.bool true):=by unfold gz;rw[if_pos (nX rows)];rfl
  have hn:dNe (.int ((rows.map bS).length:Int)) (.int ((es.map Er.d).length:Int))=some (.bool false):=by have:=c.len;rw[J6,J6,this,IS];simp
  have l:a9 2 (CB (ae (af 0) (ae (af 1) ah))) bc (ar cC (ae (af 2) (ae (af 3) ah))) dS [some (aR es),some (cmD rows)]=.ok (rows.map λ_=>.bool true):=by
   unfold a9;rw[if_pos (show [some (aR es),some (cmD rows)].length=2 from rfl)];have m:CB (ae (af 0) (ae (af 1) ah)) [some (aR es),some (cmD rows)]=.ok (pX (es.map Er.d) (rows.map bS)):=by show (if (rows.map bS).length=(es.map Er.d).length then Rs.ok (pX (es.map Er.d) (rows.map bS)) else Rs.no)=_;exact if_pos (by rw[J6,J6];exact c.len)
   rw[m];simp only[Rs.ag];rw[if_pos (by unfold pX;rw[List.length_zipWith,J6,J6];have:=ok.l6;omega)];exact Ba rfl c λe n=>(ok.ok e n).sh
  have i:=gW (λ_:List Int=>true) rows;have ha:rows.all (λ_=>true)=true:=by rw[K9];intros;rfl
  rw[ha]at i;have b:a9 2 (cn (af 1)) bc (gF uJ (ae (af 2) ah)) aO [some (aR es),some (cmD rows)]=.ok ((rows.map bS).map id) :=
   cK rfl rfl (by have:=c.len;have:=ok.l6;rw[J6];omega) λd f=>by obtain⟨r,hr,rfl⟩:=K1.mp f;rfl
  show bq (c7 cs cC (bx cs) [some (aR es),some (cmD rows)])=_;unfold c7;have g:b8 [cmD rows]=some (.int ((rows.map bS).length:Int)):=rfl;have hle:b8 [aR es]=some (.int ((es.map Er.d).length:Int)):=rfl;simp only[aP,xt,bD,aE,aI,aq,aw,Rs.ag,k1,az,dF,EY,rH,fH,gG,bQ,f6,j,Rs.ak,bt,g,hle,hn,Bool.not_true,Kh,if_false,fB,pL,l,i,bL,b,KD,aX];rfl
 ·exfalso;apply a;unfold aZ;rw[if_neg h]
structure Jb where
 num:Int
 parts:List (Int×Option Int)
 rank:Int
 row:List Int
 job:Nat
 part:Nat
 spent:Nat
variable {q p:Addr×Jb} {js:List Jb} {key:Jb->PyData} {j:Jb} {s:List Jb×List PyData} {ts:List (Addr×Jb)}
def Jb.fds (j:Jb):List (Str×PyData):=[("number",.int j.num),("parts",.tuple (j.parts.map a8)),("rank",.int j.rank),("row",bS j.row),("job",.int j.job),("part",.int j.part),("spent",.int j.spent)]
def Jb.d (C a:Addr) (j:Jb):PyData:=bW C a j.fds
theorem jJ {f:Str} {r:List (Str×PyData)} (h:("@":Str)≠f):br C f (bW C a r)=i5 f (r.map λp=>(.str p.1,p.2)):=by show (if ("":Str)=""/\(C:Int)=(C:Int) then (if ("@":Str)=f then some (PyData.int (a:Int)) else i5 f (r.map λp=>(.str p.1,p.2))) else none)=_;rw[if_pos ⟨rfl,rfl⟩,if_neg h]
section
theorem we:br C "number" (j.d C a)=some (.int j.num):=by unfold Jb.d;rw[jJ (by decide)];rfl
theorem kf:br C "parts" (j.d C a)=some (.tuple (j.parts.map a8)):=by unfold Jb.d;rw[jJ (by decide)];rfl
theorem m9:br C "rank" (j.d C a)=some (.int j.rank):=by unfold Jb.d;rw[jJ (by decide)];rfl
theorem vk:br C "row" (j.d C a)=some (bS j.row):=by unfold Jb.d;rw[jJ (by decide)];rfl
theorem rM:br C "job" (j.d C a)=some (.int j.job):=by unfold Jb.d;rw[jJ (by decide)];rfl
theorem mQ:br C "part" (j.d C a)=some (.int j.part):=by unfold Jb.d;rw[jJ (by decide)];rfl
theorem ja:br C "spent" (j.d C a)=some (.int j.spent):=by unfold Jb.d;rw[jJ (by decide)];rfl
end
def gfG (n k:Nat) (G:Ds->Sr):Gf:=λds=>if ds.length=n then bq (G (ds.map some++List.replicate k none)) else .no
theorem gr {k:Nat} {G:Ds->Sr}:∀ds,ds.length=n->gfG n k G ds≠.no->bq (G (ds.map some++List.replicate k none))=gfG n k G ds:=by intro ds hl _;unfold gfG;rw[if_pos hl]
def aL (cs:Cs):Gf:=gfG 1 0 (cR cs)
def aC (cs:Cs):Gf:=gfG 1 0 (dD cs)
def aJ (cs:Cs):Gf:=gfG 1 0 (eY cs)
def aH (cs:Cs):Gf:=gfG 2 0 (cV cs)
theorem uB:aL cs [j.d cs.Jobs a]=.ok (.bool ((j.job:Int)==(j.row.length:Int))):=by
 have hl:b8 [bS j.row]=some (.int (j.row.length:Int)):=by unfold bS;rw[j4,J6]
 show bq (cR cs [some (j.d cs.Jobs a)])=_;unfold cR;simp only[bL,bQ,gG,aq,Rs.ag,rM,vk,Rs.ak,f6,aE,aI,hl,jv,az,aX]
def Jb.tool (j:Jb):Option Int:=(j.parts[j.part]?.map (·.2)).getD none
theorem rK {p:Int×Option Int} (h:j.parts[j.part]?=some p):dIx (.tuple (j.parts.map a8)) (.int (j.part:Int))=some (a8 p):=by rw[EO];exact mT (by rw[JY,h];rfl)
theorem part1 (p:Int×Option Int):dIx (a8 p) (.int 1)=some (cU p.2):=rfl
theorem qG (h:j.part<j.parts.length):aC cs [j.d cs.Jobs a]=.ok (cU (if j.spent=0 then j.tool else none)):=by
 show bq (dD cs [some (j.d cs.Jobs a)])=_;unfold dD;have b:j.parts[j.part]?=some j.parts[j.part]:=J0 h;have c:j.tool=j.parts[j.part].2:=by unfold Jb.tool;rw[b];rfl
 by_cases z:j.spent=0
 ·have e:((j.spent:Int)==0)=true:=by rw[z];rfl
  rw[if_pos z,c];simp only[bL,gIf,fH,bQ,gG,aq,c8,Rs.ag,ja,kf,mQ,Rs.ak,jv,e,bt,if_true,rK b,part1,az,aX]
 ·have e:((j.spent:Int)==0)=false:=by rw[beq_eq_false_iff_ne];omega
  rw[if_neg z];simp only[bL,gIf,fH,bQ,gG,aq,c8,Rs.ag,ja,Rs.ak,jv,e,bt,Kh,if_false,az,aX];rfl
theorem xp (h:j.part<j.parts.length):aJ cs [j.d cs.Jobs a]=.ok (cU (if j.spent=0 then none else j.tool)):=by
 show bq (eY cs [some (j.d cs.Jobs a)])=_;unfold eY;have b:j.parts[j.part]?=some j.parts[j.part]:=J0 h;have c:j.tool=j.parts[j.part].2:=by unfold Jb.tool;rw[b];rfl
 by_cases z:j.spent=0
 ·have e:decide ((0:Int)<(j.spent:Int))=false:=by rw[z];rfl
  rw[if_pos z];simp only[bL,gIf,fH,bQ,gG,aq,c8,Rs.ag,ja,Rs.ak,G9,e,bt,Kh,if_false,az,aX];rfl
 ·have e:decide ((0:Int)<(j.spent:Int))=true:=by rw[decide_eq_true_eq];omega
  rw[if_neg z,c];simp only[bL,gIf,fH,bQ,gG,aq,c8,Rs.ag,ja,kf,mQ,Rs.ak,G9,e,bt,if_true,rK b,part1,az,aX]
def Jb.there (j:Jb) (t:Int):Bool:=match j.row[j.job]? with
 |some c=>decide (c<=t)
 |none=>false
theorem uD {t:Int} (h:j.job<=j.row.length):aH cs [j.d cs.Jobs a,.int t]=.ok (.bool (j.there t)):=by
 have hl:b8 [bS j.row]=some (.int (j.row.length:Int)):=by unfold bS;rw[j4,J6]
 show bq (cV cs [some (j.d cs.Jobs a),some (.int t)])=_;unfold cV Jb.there;by_cases z:j.job<j.row.length
 ·have b:j.row[j.job]?=some j.row[j.job]:=J0 z;have e:decide ((j.job:Int)<(j.row.length:Int))=true:=by rw[decide_eq_true_eq];omega
  have c:dIx (bS j.row) (.int (j.job:Int))=some (.int j.row[j.job]):=by show atI (j.row.map PyData.int) _=_;exact mT (by rw[JY,b];rfl)
  rw[b];simp only[bL,sq,bQ,gG,aq,aw,Rs.ag,rM,vk,Rs.ak,f6,aE,aI,hl,Hj,e,bt,if_true,c,JJ,az,aX]
 ·have b:j.row[j.job]?=none:=La (by omega);have e:decide ((j.job:Int)<(j.row.length:Int))=false:=by rw[decide_eq_false_iff_not];omega
  rw[b];simp only[bL,sq,bQ,gG,aq,aw,Rs.ag,rM,vk,Rs.ak,f6,aE,aI,hl,Hj,e,bt,Kh,if_false,az,aX]
noncomputable def jD (C:Addr) (p:Addr×Jb):PyData:=p.2.d C p.1
def Jb.held (j:Jb):Option Int:=if j.spent=0 then none else j.tool
def Jb.wanted (j:Jb):Option Int:=if j.spent=0 then j.tool else none
def holdsT (t:Int) (p:Addr×Jb):Bool:=p.2.held==some t
theorem eq_none_int (x:Int):dEq .none (.int x)=some (.bool false):=by
 have h:PySem.SeqAt.shaped (.int x)=true:=by simp[PySem.SeqAt.shaped,PyData.canLay0,PyData.depth]
 unfold dEq;rw[h];simp[aA,PyData.eqv]
 first|done|rfl|decide
theorem GR (o:Option Int) (t:Int):dEq (cU o) (.int t)=some (.bool (o==some t)):=by
 cases o with
 |none=>exact eq_none_int t
 |some i=>rw[show cU (some i)=.int i from rfl,jv];simp
theorem rR (h1:("@":Str)≠m) (h:iM m (j.fds.map λp=>(.str p.1,p.2))=true):isC C m (j.d C a)=true:=by
 show (decide (("":Str)="")&&decide ((C:Int)=(C:Int))&&iM m ((.str "@",.int (a:Int))::(j.fds.map λp=>(.str p.1,p.2))))=true;have:iM m ((.str "@",.int (a:Int))::(j.fds.map λp=>(PyData.str p.1,p.2)))=true:=by unfold iM;simp only[h,Ld];simpa using h1
 rw[this];simp
theorem tK:isC C "held" (j.d C a)=true:=rR (by decide) rfl
theorem oV:isC C "wanted" (j.d C a)=true:=rR (by decide) rfl
theorem si:isC C "are_done" (j.d C a)=true:=rR (by decide) rfl
theorem rj:isC C "is_there" (j.d C a)=true:=rR (by decide) rfl
def bu (cs:Cs):Gf:=gfG 2 1 (iX cs (aJ cs))
def i0 (C:Addr) (ts:List (Addr×Jb)) (tool:Option Int):PyData:=match tool with
 |none=>.none
 |some t=>match ts.find? (holdsT t) with
  |none=>.none
  |some p=>jD C p
theorem mw {cs:Cs} {t:Int} {X:PyData}:∀(ts:List (Addr×Jb)) (x2:Option PyData),(∀p∈ts,p.2.part<p.2.parts.length) ->
   (∃p,ts.find? (holdsT t)=some p/\forL (bN 2) (sIf (gT (g2 dEq (ba cs.Jobs "held" (aJ cs) (af 2) ah) (af 1))) (bw (af 2)) bg) (ts.map (jD cs.Jobs)) [some X,some (.int t),x2]=.rt (jD cs.Jobs p))
  \/(ts.find? (holdsT t)=none/\∃δ,forL (bN 2) (sIf (gT (g2 dEq (ba cs.Jobs "held" (aJ cs) (af 2) ah) (af 1))) (bw (af 2)) bg) (ts.map (jD cs.Jobs)) [some X,some (.int t),x2]=.nx δ)
 |[],x2,_=>.inr ⟨rfl,_,rfl⟩
 |p::r,x2,h=>by
   have h1:bN 2 (jD cs.Jobs p) [some X,some (.int t),x2]=some [some X,some (.int t),some (jD cs.Jobs p)]:=rfl;have hm:ba cs.Jobs "held" (aJ cs) (af 2) ah [some X,some (.int t),some (jD cs.Jobs p)]=.ok (cU p.2.held):=by unfold ba;simp only[aq,aw,Rs.ag];rw[if_pos (show isC cs.Jobs "held" (jD cs.Jobs p)=true from tK)];simp only[aI,Rs.ag];exact xp (h p J9)
   have hc:gT (g2 dEq (ba cs.Jobs "held" (aJ cs) (af 2) ah) (af 1)) [some X,some (.int t),some (jD cs.Jobs p)]=.ok (holdsT t p):=by simp only[fH,bQ,hm,aq,aw,Rs.ag,GR,Rs.ak,bt];rfl
   rw[J5];unfold forL;rw[h1];cases z:holdsT t p with
   |true =>refine .inl ⟨p,by rw[List.find?_cons_of_pos z],?_⟩;simp only[dF,hc,z,az,if_true,bL,aq,aw]
   |false =>simp only[dF,hc,z,az,Kh,if_false,fB];rw[List.find?_cons_of_neg (by rw[z];exact Kf)];exact mw r _ λq a=>h q (J8 _ a)
theorem rg {tool:Option Int} (h:∀p∈ts,p.2.part<p.2.parts.length):bu cs [.list (ts.map (jD cs.Jobs)),cU tool]=.ok (i0 cs.Jobs ts tool):=by
 show bq (iX cs (aJ cs) [some (.list (ts.map (jD cs.Jobs))),some (cU tool),none])=_;unfold iX i0;cases tool with
 |none=>rfl
 |some t =>
  have hn:gT (g1 mI (af 1)) [some (.list (ts.map (jD cs.Jobs))),some (.int t),none]=.ok false:=rfl;show bq (aF (sIf (gT (g1 mI (af 1))) (bw (gC .none)) bg) (aF (iy [] (cn (af 0)) (bN 2) (sIf (gT (g2 dEq (ba cs.Jobs "held" (aJ cs) (af 2) ah) (af 1))) (bw (af 2)) bg)) (bw (gC .none))) [some (.list (ts.map (jD cs.Jobs))),some (.int t),none])=_;have a:iy [] (cn (af 0)) (bN 2) (sIf (gT (g2 dEq (ba cs.Jobs "held" (aJ cs) (af 2) ah) (af 1))) (bw (af 2)) bg) [some (.list (ts.map (jD cs.Jobs))),some (.int t),none]=forL (bN 2) (sIf (gT (g2 dEq (ba cs.Jobs "held" (aJ cs) (af 2) ah) (af 1))) (bw (af 2)) bg) (ts.map (jD cs.Jobs)) [some (.list (ts.map (jD cs.Jobs))),some (.int t),none]:=rfl;simp only[aP,dF,hn,az,Kh,if_false,fB,a];rcases mw (cs:=cs) (t:=t) (X:=.list (ts.map (jD cs.Jobs))) ts none h with⟨p,f1,f2⟩|⟨f1,δ,f2⟩
  ·rw[f1,f2];rfl
  ·rw[f1,f2];rfl
def bX (cs:Cs):Gf:=gfG 1 3 (fu cs (aC cs) (bu cs))
theorem EF:ji (jD C q)=some (.bool true):=rfl
def lrB (cs:Cs):Ds->Sr:=(aF (aQ [1] 3 (ar (bu cs) (ae (af 0) (ae (ba cs.Jobs "wanted" (aC cs) (af 2) ah) ah))))
 (sIf (gT (g1 ji (af 3))) (oR 1 (g1 (br cs.Jobs "number") (af 3)) (gF jE (ae (g1 (br cs.Jobs "rank") (af 2)) (ae (kE (af 1) (g1 (br cs.Jobs "number") (af 3)) (g1 (br cs.Jobs "rank") (af 3))) ah)))) bg))
theorem D7 (l:List (Int×Int)) (k v:Int):(v9 l k v).length<=l.length+1:=by unfold v9;split <;> simp
def bA (cs:Cs):Gf:=gfG 2 1 (bG cs (aJ cs))
theorem qe {x y:Option PyData} (h:p.2.part<p.2.parts.length):ba cs.Jobs "held" (aJ cs) (af 0) ah [some (jD cs.Jobs p),x,y]=.ok (cU p.2.held):=by unfold ba;simp only[aq,Rs.ag];rw[if_pos (show isC cs.Jobs "held" (jD cs.Jobs p)=true from tK)];simp only[aI,Rs.ag];exact xp h
theorem BH (h:ts≠[]):∃p∈ts,i0 C ts p.2.wanted=.none:=by
 by_cases z:∃p∈ts,p.2.spent≠0
 ·obtain⟨p,a,b⟩:=z;refine⟨p,a,?_⟩;unfold Jb.wanted;rw[if_neg b];rfl
 ·have c:∀p∈ts,p.2.spent=0:=λp a=>by
   by_cases q:p.2.spent=0
   ·exact q
   ·exact absurd ⟨p,a,q⟩ z
  obtain⟨p,r,rfl⟩:=Le h;refine⟨p,J9,?_⟩;unfold i0;cases p.2.wanted with
  |none=>rfl
  |some t =>
   have:(p::r).find? (holdsT t)=none:=by rw[LI];intro q e;unfold holdsT Jb.held;rw[if_pos (c q e)];exact Kf
   simp only[this]
def cj (cs:Cs):Gf:=gfG 3 2 (jf cs (bX cs) (aC cs) (bu cs) (bA cs))
theorem eq_str {s t:Str} (h1:PySem.SeqAt.shaped (.str s)=true) (h2:PySem.SeqAt.shaped (.str t)=true):dEq (.str s) (.str t)=some (.bool (s==t)):=by unfold dEq;rw[h1,h2];simp[aA,PyData.eqv]
def Br (cs:Cs) (δ:Ds) (d:PyData):Bool:=match ar (bu cs) (ae (af 0) (ae (ba cs.Jobs "wanted" (aC cs) (af 5) ah) ah)) (δ++[some d]) with
 |.ok x=>eB x
 |_=>false
theorem wU {x1 x2 x3 x4:Option PyData} (h:∀p∈ts,p.2.part<p.2.parts.length) (a:q∈ts) :
  ar (bu cs) (ae (af 0) (ae (ba cs.Jobs "wanted" (aC cs) (af 5) ah) ah)) [some (.list (ts.map (jD cs.Jobs))),x1,x2,x3,x4,some (jD cs.Jobs q)]=.ok (i0 cs.Jobs ts q.2.wanted):=by
 have h2:ba cs.Jobs "wanted" (aC cs) (af 5) ah [some (.list (ts.map (jD cs.Jobs))),x1,x2,x3,x4,some (jD cs.Jobs q)]=.ok (cU q.2.wanted):=by unfold ba;simp only[aq,aw,Rs.ag];rw[if_pos (show isC cs.Jobs "wanted" (jD cs.Jobs q)=true from oV)];simp only[aI,Rs.ag];exact qG (h q a)
 simp only[bD,aE,aI,aq,h2,Rs.ag];exact rg h
structure pB (s:Str):Prop where
 sh:PySem.SeqAt.shaped (.str s)=true
theorem wL:PySem.SeqAt.shaped (.str "high")=true:=by decide +kernel
theorem uu:PySem.SeqAt.shaped (.str "asked")=true:=by decide +kernel
theorem rC (ps:List (Int×Option Int)):aA (.tuple (ps.map a8))=true:=by
 induction ps with
 |nil=>rfl
 |cons a r ih =>
  have h1:aA (a8 a)=true:=by obtain⟨x,o⟩:=a;cases o <;> rfl
  have:aA (.tuple (a8 a::r.map a8))=(aA (a8 a)&&aA (.tuple (r.map a8))):=by simp[aA,cQ]
  rw[J5,this,h1,ih];rfl
theorem Jb.flat (j:Jb):fo j.fds=true:=by have h1:=rC j.parts;have h2:aA (bS j.row)=true:=iS j.row;unfold fo Jb.fds;simp only[J5,L4,jQ,h1,h2,Ld,LA];rfl
theorem j6:mn [a] C 0 [some (j.d C a)]=some (a,j.fds):=by
 unfold mn;have h1:fw [some (j.d C a)]=true:=by unfold fw Jb.d;simp only[Lc,List.all_nil,Ld,sU];exact j.flat
 show (match objOf (j.d C a) with|some (c,b,fds)=>if c=C/\b∈[a]/\fw [some (j.d C a)]=true/\fo fds=true/\fds.length<1000 then some (b,fds) else none|none=>none)=_;unfold Jb.d at *;rw[p7];exact if_pos ⟨rfl,JW.mpr rfl,h1,j.flat,show 7<1000 by decide⟩
theorem iZ {fds:List (Str×PyData)} (b:fo fds=true):jY a nd [some (bW C a fds)]=[some nd]:=by show [some (eI a nd (bW C a fds))]=_;unfold bW eI;refine congrArg (λx=>[some x]) (if_pos ?_);unfold i4;unfold fo at b;simp[b]
section
theorem qh:dN [a] C 0 "spent" (gC (.int 1)) [some (j.d C a)]=.nx [some (Jb.d C a { j with spent:=j.spent+1 })]:=by unfold dN;rw[j6];show Sr.nx (jY a (bW C a (nA "spent" (.int ((j.spent:Int)+1)) j.fds)) [some (bW C a j.fds)])=_;rw[iZ j.flat];rfl
theorem Ap:dN [a] C 0 "part" (gC (.int 1)) [some (j.d C a)]=.nx [some (Jb.d C a { j with part:=j.part+1 })]:=by unfold dN;rw[j6];show Sr.nx (jY a (bW C a (nA "part" (.int ((j.part:Int)+1)) j.fds)) [some (bW C a j.fds)])=_;rw[iZ j.flat];rfl
theorem Ew:dN [a] C 0 "job" (gC (.int 1)) [some (j.d C a)]=.nx [some (Jb.d C a { j with job:=j.job+1 })]:=by unfold dN;rw[j6];show Sr.nx (jY a (bW C a (nA "job" (.int ((j.job:Int)+1)) j.fds)) [some (bW C a j.fds)])=_;rw[iZ j.flat];rfl
theorem xO:kn [a] C 0 "spent" (gC (.int 0)) [some (j.d C a)]=.nx [some (Jb.d C a { j with spent:=0 })]:=by unfold kn;rw[j6];show Sr.nx (jY a (bW C a (nA "spent" (.int 0) j.fds)) [some (bW C a j.fds)])=_;rw[iZ j.flat];rfl
theorem zT:kn [a] C 0 "part" (gC (.int 0)) [some (j.d C a)]=.nx [some (Jb.d C a { j with part:=0 })]:=by unfold kn;rw[j6];show Sr.nx (jY a (bW C a (nA "part" (.int 0) j.fds)) [some (bW C a j.fds)])=_;rw[iZ j.flat];rfl
end
def Jb.step1 (j:Jb) (n:Int):Jb:=if (j.spent:Int)+1=n then { j with spent:=0,part:=j.part+1 } else { j with spent:=j.spent+1 }
def Jb.step2 (j:Jb):Jb:=if j.part=j.parts.length then { j with part:=0,job:=j.job+1 } else j
def Jb.len (j:Jb):Int:=(j.parts[j.part]?.map (·.1)).getD 0
def Jb.next (j:Jb):Jb:=(j.step1 j.len).step2
theorem El (h:j.part<j.parts.length):fG cs [a] [some (j.d cs.Jobs a)]=.nx [some (j.next.d cs.Jobs a)]:=by
 have b:j.parts[j.part]?=some j.parts[j.part]:=J0 h;have hn:j.len=j.parts[j.part].1:=by unfold Jb.len;rw[b];rfl
 have second:∀k:Jb,sIf (gT (g2 dEq (g1 (br cs.Jobs "part") (af 0)) (gF b8 (ae (g1 (br cs.Jobs "parts") (af 0)) ah)))) (aF (kn [a] cs.Jobs 0 "part" (gC (.int 0))) (dN [a] cs.Jobs 0 "job" (gC (.int 1)))) bg [some (k.d cs.Jobs a)]=.nx [some (k.step2.d cs.Jobs a)]:=by
  intro k;have hc:gT (g2 dEq (g1 (br cs.Jobs "part") (af 0)) (gF b8 (ae (g1 (br cs.Jobs "parts") (af 0)) ah))) [some (k.d cs.Jobs a)]=.ok ((k.part:Int)==(k.parts.length:Int)):=by simp only[fH,bQ,gG,f6,aE,aI,aq,Rs.ag,mQ,kf,Rs.ak,zM,J6,jv,bt]
  unfold Jb.step2;by_cases z:k.part=k.parts.length
  ·have e:((k.part:Int)==(k.parts.length:Int))=true:=by rw[z];exact beq_self_eq_true _
   rw[if_pos z];simp only[dF,hc,e,az,if_true,aP,zT,Ew]
  ·have e:((k.part:Int)==(k.parts.length:Int))=false:=by rw[beq_eq_false_iff_ne];omega
   rw[if_neg z];simp only[dF,hc,e,az,Kh,if_false,fB]
 have hc:gT (g2 dEq (g1 (br cs.Jobs "spent") (af 0)) (g2 dIx (g2 dIx (g1 (br cs.Jobs "parts") (af 0)) (g1 (br cs.Jobs "part") (af 0))) (gC (.int 0)))) [some (Jb.d cs.Jobs a { j with spent:=j.spent+1 })]=.ok (((j.spent:Int)+1)==j.len):=by have q:=rK (j:={ j with spent:=j.spent+1 }) b;have c:dIx (a8 j.parts[j.part]) (.int 0)=some (.int j.parts[j.part].1):=rfl;simp only[fH,bQ,gG,aq,c8,Rs.ag,ja,kf,mQ,Rs.ak,q,c,jv,bt,hn];rfl
 unfold fG Jb.next Jb.step1;by_cases z:(j.spent:Int)+1=j.len
 ·have e:(((j.spent:Int)+1)==j.len)=true:=by rw[z];exact beq_self_eq_true _
  rw[if_pos z];simp only[aP,qh];rw[dF,hc];simp only[e,az,if_true,aP,xO,Ap];exact second _
 ·have e:(((j.spent:Int)+1)==j.len)=false:=by rw[beq_eq_false_iff_ne];exact z
  rw[if_neg z];simp only[aP,qh];rw[dF,hc];simp only[e,az,Kh,if_false,fB];exact second _
theorem Ae {a b:Option Int} (h:cU a=cU b):a=b:=by cases a <;> cases b <;> first|rfl|(injection h with h;rw[h])|cases h
theorem yV {p q:Int×Option Int} (h:a8 p=a8 q):p=q:=by
 obtain⟨a,o⟩:=p;obtain⟨b,u⟩:=q;unfold a8 at h;injection h with h
 injection h with h1 h2
 injection h1 with h1
 injection h2 with h2 _
 have c:=Ae h2;exact Prod.ext h1 c
theorem pf {α β:Type} {f:α->β} (c:∀x y,f x=f y->x=y):∀{l m:List α},l.map f=m.map f->l=m
 |[],[],_=>rfl
 |[],_::_,h=>by cases h
 |_::_,[],h=>by cases h
 |a::l,b::m,h=>by
  rw[J5,J5]at h;injection h with h1 h2
  rw[c a b h1,pf c h2]
theorem Ep {k:Jb} (h:j.fds=k.fds):j=k:=by
 obtain⟨a1,a2,a3,a4,a,b,c⟩:=j;obtain⟨b1,b2,b3,b4,e,f,g⟩:=k;unfold Jb.fds bS at h;simp only[List.cons.injEq,Prod.mk.injEq,true_and,and_true,PyData.int.injEq,PyData.tuple.injEq,PyData.list.injEq]at h;obtain⟨h1,h2,i,l,h5,h6,h7⟩:=h;have e2:=pf (λx y=>yV) h2;have m:=pf (λx y (q:PyData.int x=PyData.int y)=>by injection q) l;have n:a=e:=by omega
 have o:b=f:=by omega
 have p:c=g:=by omega
 subst h1 i e2 m n o p;rfl
open Classical in
def ff:List (Str×PyData)->Option (List (Str×PyData)):=λfds=>if h:∃j:Jb,j.part<j.parts.length/\fds=j.fds then some (Classical.choose h).next.fds else none
theorem EV (h:j.part<j.parts.length):ff j.fds=some j.next.fds:=by
 have a:∃k:Jb,k.part<k.parts.length/\j.fds=k.fds:=⟨j,h,rfl⟩
 unfold ff;rw[dif_pos a];have:=Ep (Classical.choose_spec a).2;rw[<-this]
theorem Ah (cs:Cs):∀a fds b,fo fds=true->fds.length<1000->ff fds=some b->∃δ,fG cs [a] (some (bW cs.Jobs a fds)::List.replicate 0 none)=.nx δ/\δ[0]?=some (some (bW cs.Jobs a b)):=by
 intro a fds b _ _ e;by_cases hx:∃k:Jb,k.part<k.parts.length/\fds=k.fds
 ·obtain⟨k,c,rfl⟩:=hx;rw[EV c]at e;cases e;exact⟨_,El c,rfl⟩
 ·unfold ff at e;rw[dif_neg hx]at e;cases e
instance:Inhabited Jb:=⟨⟨0,[],0,[],0,0,0⟩⟩
def iW (ks:List PyData):Nat:=bst (λi j=>ltD (ks.getD i .none) (ks.getD j .none)) (ks.length-1)
def g0 (key:Jb->PyData) (js:List Jb):Jb:=js.getD (iW (js.map key)) default
theorem om {C:Addr} {g:PyData->Rs PyData} {key:Jb->PyData}:∀{ts:List (Addr×Jb)},(∀p∈ts,g (jD C p)=.ok (key p.2))->allR g (ts.map (jD C))=.ok ((ts.map (·.2)).map key)
 |[],_=>rfl
 |p::r,h=>by
  have a:=om (ts:=r) λx b=>h x (J8 _ b)
  rw[J5];unfold allR;rw[h p J9,Rs.ag,a,Rs.ag];rfl
theorem kM (hd:ga δ=.ok (.list (ts.map (jD C)))) (o:ts≠[]) (f:∀p∈ts,gb (some (jD C p)::r8 cap δ)=.ok (key p.2))
  (hK:(∀p∈ts,∃n:Int,key p.2=.int n)\/(∀p∈ts,∃a b:Int,key p.2=.tuple [.int a,.int b])):∃q∈ts,q.2=g0 key (ts.map (·.2))/\iE cap ga gb δ=.ok (jD C q):=by
 have hlen:0<ts.length:=KL.mpr o;have e:=om (C:=C) (g:=λx=>gb (some x::r8 cap δ)) (key:=key) f;have q:keysOk ((ts.map (·.2)).map key)=true:=by
  unfold keysOk;rw[Bool.or_eq_true];rcases hK with hK|hK
  ·refine .inl (K9.mpr λk f=>?_);obtain⟨j,h,rfl⟩:=K1.mp f;obtain⟨p,l,rfl⟩:=K1.mp h;obtain⟨n,hn⟩:=hK p l;rw[hn];rfl
  ·refine .inr (K9.mpr λk f=>?_);obtain⟨j,h,rfl⟩:=K1.mp f;obtain⟨p,l,rfl⟩:=K1.mp h;obtain⟨a,b,hn⟩:=hK p l;rw[hn];rfl
 have hb:=rP (λi j=>ltD (((ts.map (·.2)).map key).getD i .none) (((ts.map (·.2)).map key).getD j .none)) (ts.length-1);have m:iW ((ts.map (·.2)).map key)=bst (λi j=>ltD (((ts.map (·.2)).map key).getD i .none) (((ts.map (·.2)).map key).getD j .none)) (ts.length-1):=by unfold iW;rw[J6,J6]
 have c:iW ((ts.map (·.2)).map key)<ts.length:=by rw[m];omega
 refine⟨ts[iW ((ts.map (·.2)).map key)],Kr c,?_,?_⟩
 ·unfold g0;rw[K6,JY,J0 c];rfl
 ·unfold iE;rw[hd];simp only[Rs.ag,J6,if_pos hlen,e];show (if keysOk _=true then Rs.dz _ else Rs.no)=_;rw[if_pos q,<-m,JY,J0 c];rfl
def nE (js:List Jb) (tool:Option Int):Option Jb:=tool.bind λt=>js.find? λj=>j.held==some t
theorem xH {tool:Option Int}:(nE (ts.map (·.2)) tool=none/\i0 C ts tool=.none)\/∃q∈ts,nE (ts.map (·.2)) tool=some q.2/\i0 C ts tool=jD C q:=by
 unfold nE i0;cases tool with
 |none=>exact .inl ⟨rfl,rfl⟩
 |some t =>
  have hm:(ts.map (·.2)).find? (λj=>j.held==some t)=(ts.find? (holdsT t)).map (·.2):=by rw[List.find?_map];rfl
  simp only[Ky,hm];cases h:ts.find? (holdsT t) with
  |none=>exact .inl ⟨rfl,rfl⟩
  |some p=>exact .inr ⟨p,List.mem_of_find?_eq_some h,rfl,rfl⟩
def qL (js:List Jb) (l:List (Int×Int)) (j:Jb):List (Int×Int):=match nE js j.wanted with
 |none=>l
 |some o=>v9 l o.num (if (kr l o.num).getD o.rank<j.rank then (kr l o.num).getD o.rank else j.rank)
def qu (js:List Jb):List (Int×Int):=js.foldl (qL js) []
theorem BR (h:∀p∈ts,p.2.part<p.2.parts.length) (c:p∈ts) (hl:l.length<1000000) (x3:Option PyData) :
  ∃x,lrB cs [some (.list (ts.map (jD cs.Jobs))),some (ck l),some (jD cs.Jobs p),x3]=.nx [some (.list (ts.map (jD cs.Jobs))),some (ck (qL (ts.map (·.2)) l p.2)),some (jD cs.Jobs p),x]:=by
 have hm:ar (bu cs) (ae (af 0) (ae (ba cs.Jobs "wanted" (aC cs) (af 2) ah) ah)) [some (.list (ts.map (jD cs.Jobs))),none,some (jD cs.Jobs p),x3]=.ok (i0 cs.Jobs ts p.2.wanted):=by
  have h2:ba cs.Jobs "wanted" (aC cs) (af 2) ah [some (.list (ts.map (jD cs.Jobs))),none,some (jD cs.Jobs p),x3]=.ok (cU p.2.wanted):=by unfold ba;simp only[aq,aw,Rs.ag];rw[if_pos (show isC cs.Jobs "wanted" (jD cs.Jobs p)=true from oV)];simp only[aI,Rs.ag];exact qG (h p c)
  simp only[bD,aE,aI,aq,h2,Rs.ag];exact rg h
 have a:aQ [1] 3 (ar (bu cs) (ae (af 0) (ae (ba cs.Jobs "wanted" (aC cs) (af 2) ah) ah))) [some (.list (ts.map (jD cs.Jobs))),some (ck l),some (jD cs.Jobs p),x3]=.nx [some (.list (ts.map (jD cs.Jobs))),some (ck l),some (jD cs.Jobs p),some (i0 cs.Jobs ts p.2.wanted)]:=by show (if 3<4 then ofR (ar (bu cs) (ae (af 0) (ae (ba cs.Jobs "wanted" (aC cs) (af 2) ah) ah)) [some (.list (ts.map (jD cs.Jobs))),none,some (jD cs.Jobs p),x3]) _ else _)=_;rw[if_pos (by decide),hm];rfl
 unfold lrB qL;simp only[aP,a];rcases xH (C:=cs.Jobs) (ts:=ts) (tool:=p.2.wanted) with⟨b,e⟩|⟨q,hq,b,e⟩
 ·rw[e,b];exact⟨_,rfl⟩
 ·rw[e,b];simp only[dF,fH,gG,aq,aw,Rs.ag,EF,Rs.ak,bt,az,if_true];have f1:br cs.Jobs "number" (jD cs.Jobs q)=some (.int q.2.num):=we;have f2:br cs.Jobs "rank" (jD cs.Jobs q)=some (.int q.2.rank):=m9;have f:br cs.Jobs "rank" (jD cs.Jobs p)=some (.int p.2.rank):=m9;refine⟨some (jD cs.Jobs q),?_⟩;unfold oR;simp only[L7,L8,qi,f6,aE,aI,gG,aq,aw,Rs.ag,f1,f2,f,Rs.ak,kE,vo,az,if_pos hl];rfl
theorem xP (js:List Jb) (l:List (Int×Int)) (j:Jb):(qL js l j).length<=l.length+1:=by
 unfold qL;split
 ·exact Lg _
 ·exact D7 _ _ _
theorem tW {cs:Cs} {ts:List (Addr×Jb)} (h:∀p∈ts,p.2.part<p.2.parts.length):∀(us:List (Addr×Jb)) (l:List (Int×Int)) (x2 x3:Option PyData),(∀p∈us,p∈ts)->l.length+us.length<1000000 ->
  ∃a b,forL (bN 2) (lrB cs) (us.map (jD cs.Jobs)) [some (.list (ts.map (jD cs.Jobs))),some (ck l),x2,x3]=.nx [some (.list (ts.map (jD cs.Jobs))),some (ck ((us.map (·.2)).foldl (qL (ts.map (·.2))) l)),a,b]
 |[],l,x2,x3,_,_=>⟨x2,x3,rfl⟩
 |p::r,l,x2,x3,hu,hl=>by have h1:bN 2 (jD cs.Jobs p) [some (.list (ts.map (jD cs.Jobs))),some (ck l),x2,x3]=some [some (.list (ts.map (jD cs.Jobs))),some (ck l),some (jD cs.Jobs p),x3]:=rfl;rw[Ka]at hl;obtain⟨x,e1⟩:=BR (cs:=cs) h (hu p J9) (l:=l) (by omega) x3;have hl1:=xP (ts.map (·.2)) l p.2;rw[J5];unfold forL;rw[h1];simp only[e1];exact tW h r _ _ _ (λq c=>hu q (J8 _ c)) (by omega)
theorem Eb (h:∀p∈ts,p.2.part<p.2.parts.length) (hl:ts.length<=1000):bX cs [.list (ts.map (jD cs.Jobs))]=.ok (ck (qu (ts.map (·.2)))):=by obtain⟨y2,y3,e⟩:=tW (cs:=cs) h ts [] none none (λp a=>a) (by rw[KQ];omega);show bq (fu cs (aC cs) (bu cs) [some (.list (ts.map (jD cs.Jobs))),none,none,none])=_;have b:tG 1 [some (.list (ts.map (jD cs.Jobs))),none,none,none]=.nx [some (.list (ts.map (jD cs.Jobs))),some (ck []),none,none]:=rfl;have c:iy [1] (cn (af 0)) (bN 2) (lrB cs) [some (.list (ts.map (jD cs.Jobs))),some (ck []),none,none]=forL (bN 2) (lrB cs) (ts.map (jD cs.Jobs)) [some (.list (ts.map (jD cs.Jobs))),some (ck []),none,none]:=rfl;show bq (aF (tG 1) (aF (iy [1] (cn (af 0)) (bN 2) (lrB cs)) (bw (af 1))) [some (.list (ts.map (jD cs.Jobs))),none,none,none])=_;simp only[aP,b,c,e];rfl
def mG (tops:PyData) (t:Int):Int:=match dIx tops (.int t) with
 |some (.int n)=>n
 |_=>0
def iq (tops:PyData) (j:Jb):PyData:=match j.held with
 |none=>.tuple [.int j.rank,.int 1]
 |some t=>.tuple [.int (if mG tops t<j.rank then mG tops t else j.rank),.int 0]
theorem C5 (h:p.2.part<p.2.parts.length) (c:∀t,p.2.held=some t->∃n:Int,dIx tops (.int t)=some (.int n)):bA cs [jD cs.Jobs p,tops]=.ok (iq tops p.2):=by
 have b:br cs.Jobs "rank" (jD cs.Jobs p)=some (.int p.2.rank):=m9;unfold iq;cases z:p.2.held with
 |none =>
  show bq (bG cs (aJ cs) [some (jD cs.Jobs p),some tops,none])=_;unfold bG;have hm:=qe (cs:=cs) (p:=p) (x:=some tops) (y:=none) h;rw[z]at hm;have a:aQ [] 2 (ba cs.Jobs "held" (aJ cs) (af 0) ah) [some (jD cs.Jobs p),some tops,none]=.nx [some (jD cs.Jobs p),some tops,some .none]:=by rw[jk,hm];rfl
  simp only[aP,a,dF,fH,gG,aq,aw,Rs.ag,Bq,Av,Rs.ak,bt,az,if_true,bL,lO,aE,aI,b,c8,aX]
 |some t =>
  obtain⟨n,hn⟩:=c t z;have e:mG tops t=n:=by unfold mG;rw[hn]
  show bq (bG cs (aJ cs) [some (jD cs.Jobs p),some tops,none])=_;unfold bG;have hm:=qe (cs:=cs) (p:=p) (x:=some tops) (y:=none) h;rw[z]at hm;have a:aQ [] 2 (ba cs.Jobs "held" (aJ cs) (af 0) ah) [some (jD cs.Jobs p),some tops,none]=.nx [some (jD cs.Jobs p),some tops,some (.int t)]:=by rw[jk,hm];rfl
  simp only[aP,a,dF,fH,gG,bQ,aq,aw,Rs.ag,Bq,zu,Rs.ak,bt,az,Kh,if_false,fB,bL,lO,aE,aI,b,hn,f6,vo,c8,aX,e]
def gm (js:List Jb) (j:Jb):Bool:=(nE js j.wanted).isNone
def Ej (l:List (Int×Int)) (j:Jb):PyData:=.int ((kr l j.num).getD j.rank)
def cF (tops:PyData) (len:Str) (js:List Jb):Jb:=if (len==("high":Str))=true then g0 (iq tops) js else g0 (Ej (if (len==("asked":Str))=true then qu js else [])) (js.filter (gm js))
theorem uR {tool:Option Int}:eB (i0 C ts tool)=(nE (ts.map (·.2)) tool).isNone:=by
 rcases xH (C:=C) (ts:=ts) (tool:=tool) with⟨a,e⟩|⟨q,_,a,e⟩
 ·rw[e,a];rfl
 ·rw[e,a];rfl
theorem nR (h:ts≠[]):ts.filter (λp=>gm (ts.map (·.2)) p.2)≠[]:=by obtain⟨p,b,e⟩:=BH h (C:=0);refine LJ (a:=p) (Kk.mpr ⟨b,?_⟩);unfold gm;rw[<-uR (C:=0),e];rfl
theorem kj {C:Addr} {ts:List (Addr×Jb)} {f:PyData->Bool} {g:Jb->Bool}:∀{us:List (Addr×Jb)},(∀p∈us,f (jD C p)=g p.2)->(us.map (jD C)).filter f=(us.filter λp=>g p.2).map (jD C)
 |[],_=>rfl
 |p::r,h=>by
  have a:=kj (ts:=ts) (us:=r) λx b=>h x (J8 _ b)
  rw[J5,L5,L5,h p J9,a];cases g p.2 <;> rfl
theorem yc {len:Str} (j:ts≠[]) (hl:ts.length<=1000) (h:∀p∈ts,p.2.part<p.2.parts.length) (r:∀p∈ts,∀t,p.2.held=some t->∃n:Int,dIx tops (.int t)=some (.int n)) (m:pB len) :
  ∃q∈ts,q.2=cF tops len (ts.map (·.2))/\cj cs [.list (ts.map (jD cs.Jobs)),tops,.str len]=.ok (jD cs.Jobs q):=by
 have o:gT (g2 dEq (af 2) (gC (.str "high"))) [some (.list (ts.map (jD cs.Jobs))),some tops,some (.str len),none,none]=.ok (len=="high"):=by simp only[fH,bQ,aq,aw,c8,Rs.ag,eq_str m.sh wL,Rs.ak,bt]
 show ∃q∈ts,q.2=_/\bq (jf cs (bX cs) (aC cs) (bu cs) (bA cs) [some (.list (ts.map (jD cs.Jobs))),some tops,some (.str len),none,none])=.ok _;unfold jf cF;cases z:(len==("high":Str)) with
 |true =>
  obtain⟨q,i,e2,e⟩:=kM (C:=cs.Jobs) (cap:=[1]) (ga:=af 0) (gb:=ar (bA cs) (ae (af 0) (ae (af 1) ah))) (δ:=[some (.list (ts.map (jD cs.Jobs))),some tops,some (.str len),none,none]) (key:=iq tops) rfl j (λp a=>C5 (h p a) (r p a)) (.inr λp a=>by unfold iq;cases p.2.held <;> exact⟨_,_,rfl⟩)
  refine⟨q,i,by rw[if_pos rfl];exact e2,?_⟩;simp only[aP,dF,o,z,az,if_true,bL,e,aX]
 |false =>
  have hc:a9 5 (cn (af 0)) (gT (g1 mI (ar (bu cs) (ae (af 0) (ae (ba cs.Jobs "wanted" (aC cs) (af 5) ah) ah))))) (af 5) aO [some (.list (ts.map (jD cs.Jobs))),some tops,some (.str len),none,none]=.ok ((ts.filter λp=>gm (ts.map (·.2)) p.2).map (jD cs.Jobs)):=by
   rw[<-kj (ts:=ts) (f:=Br cs [some (.list (ts.map (jD cs.Jobs))),some tops,some (.str len),none,none]) (λp a=>by have g:=wU (cs:=cs) (x1:=some tops) (x2:=some (.str len)) (x3:=none) (x4:=none) h a;unfold Br;simp only[Ku,Kt,g];exact uR)]
   refine rD rfl rfl (by rw[J6];omega) λd hd=>?_
   obtain⟨p,a,rfl⟩:=K1.mp hd;refine⟨?_,rfl⟩;have g:=wU (cs:=cs) (x1:=some tops) (x2:=some (.str len)) (x3:=none) (x4:=none) h a;unfold Br;simp only[Ku,Kt,g];simp only[fH,gG,g,Rs.ag,Bq,Rs.ak,bt]
  have hn:=nR j;have s:(ts.map (·.2)).filter (gm (ts.map (·.2)))=(ts.filter λp=>gm (ts.map (·.2)) p.2).map (·.2):=by rw[List.filter_map];rfl
  have c:∀p∈ts.filter (λp=>gm (ts.map (·.2)) p.2),p∈ts:=λp a=>(Kk.mp a).1
  rw[s];generalize (ts.filter λp=>gm (ts.map (·.2)) p.2)=fr at hc hn c;have b:gIf (gT (g2 dEq (af 2) (gC (.str "asked")))) (ar (bX cs) (ae (af 0) ah)) (gC (ck [])) [some (.list (ts.map (jD cs.Jobs))),some tops,some (.str len),some (.list (fr.map (jD cs.Jobs))),none]=.ok (ck (if (len==("asked":Str))=true then qu (ts.map (·.2)) else [])):=by
   have u:gT (g2 dEq (af 2) (gC (.str "asked"))) [some (.list (ts.map (jD cs.Jobs))),some tops,some (.str len),some (.list (fr.map (jD cs.Jobs))),none]=.ok (len=="asked"):=by simp only[fH,bQ,aq,aw,c8,Rs.ag,eq_str m.sh uu,Rs.ak,bt]
   unfold gIf;rw[u];simp only[Rs.ag];cases (len==("asked":Str)) with
   |true=>simp only[if_true,bD,aE,aI,aq,Rs.ag,Eb h hl]
   |false=>simp
  generalize (if (len==("asked":Str))=true then qu (ts.map (·.2)) else [])=l at b;obtain⟨q,i,e2,e⟩:=kM (C:=cs.Jobs) (cap:=[4]) (ga:=af 3) (gb:=kE (af 1) (g1 (br cs.Jobs "number") (af 0)) (g1 (br cs.Jobs "rank") (af 0))) (δ:=[some (.list (ts.map (jD cs.Jobs))),some tops,some (.str len),some (.list (fr.map (jD cs.Jobs))),some (ck l)]) (key:=Ej l) rfl hn (λp a=>by have f1:br cs.Jobs "number" (jD cs.Jobs p)=some (.int p.2.num):=we;have f2:br cs.Jobs "rank" (jD cs.Jobs p)=some (.int p.2.rank):=m9;show kE (af 1) (g1 (br cs.Jobs "number") (af 0)) (g1 (br cs.Jobs "rank") (af 0)) [some (jD cs.Jobs p),some (ck l)]=_;unfold kE;simp only[aq,aw,Rs.ag,qi,gG,f1,f2,Rs.ak];rfl) (.inl λp a=>⟨_,rfl⟩)
  refine⟨q,c q i,by rw[if_neg Kf];exact e2,?_⟩;have v:aQ [] 3 (gL (a9 5 (cn (af 0)) (gT (g1 mI (ar (bu cs) (ae (af 0) (ae (ba cs.Jobs "wanted" (aC cs) (af 5) ah) ah))))) (af 5) aO)) [some (.list (ts.map (jD cs.Jobs))),some tops,some (.str len),none,none]=.nx [some (.list (ts.map (jD cs.Jobs))),some tops,some (.str len),some (.list (fr.map (jD cs.Jobs))),none]:=by rw[jk,pL,hc];rfl
  have w:aQ [] 4 (gIf (gT (g2 dEq (af 2) (gC (.str "asked")))) (ar (bX cs) (ae (af 0) ah)) (gC (ck []))) [some (.list (ts.map (jD cs.Jobs))),some tops,some (.str len),some (.list (fr.map (jD cs.Jobs))),none]=.nx [some (.list (ts.map (jD cs.Jobs))),some tops,some (.str len),some (.list (fr.map (jD cs.Jobs))),some (ck l)]:=by rw[jk,b];rfl
  simp only[aP,dF,o,z,az,Kh,if_false,fB,v,w,bL,e,aX]
theorem uF:eI a nd (jD C p)=if p.1=a then nd else jD C p:=by
 have b:=p.2.flat;have c:i4 ((PyData.str "",PyData.int (C:Int))::(PyData.str "@",PyData.int (p.1:Int))::p.2.fds.map λx=>(PyData.str x.1,x.2))=some (p.1:Int):=by unfold i4;unfold fo at b;simp[b]
 unfold jD Jb.d bW eI;rw[c];by_cases z:p.1=a
 ·rw[if_pos z,if_pos (by rw[z])]
 ·have f:¬ (some (p.1:Int)=some (a:Int)):=λe=>z (Int.ofNat.inj (Option.some.inj e))
  rw[if_neg z,if_neg f]
theorem wV {C a:Addr} {j:Jb}:∀ts:List (Addr×Jb),iL a (jD C (a,j)) (ts.map (jD C))=(ts.map λp=>if p.1=a then (a,j) else p).map (jD C)
 |[]=>rfl
 |p::r=>by
  rw[J5,J5,J5];unfold iL;rw[wV r,uF];by_cases z:p.1=a
  ·rw[if_pos z,if_pos z]
  ·rw[if_neg z,if_neg z]
theorem zC:eI a (jD C (a,j)) (.list (ts.map (jD C)))=.list ((ts.map λp=>if p.1=a then (a,j) else p).map (jD C)):=by unfold eI;rw[wV]
mutual
theorem lL {a:Addr} {nd:PyData}:∀d:PyData,aA d=true->eI a nd d=d
 |.none,_=>by unfold eI;rfl
 |.bool _,_=>by unfold eI;rfl
 |.int _,_=>by unfold eI;rfl
 |.str _,_=>by unfold eI;rfl
 |.list ds,h=>by unfold eI;rw[sj ds (by simpa[aA] using h)]
 |.tuple ds,h=>by unfold eI;rw[sj ds (by simpa[aA] using h)]
 |.dict _,h=>by simp[aA]at h
theorem sj {a:Addr} {nd:PyData}:∀ds:List PyData,cQ ds=true->iL a nd ds=ds
 |[],_=>by unfold iL;rfl
 |d::r,h=>by unfold cQ at h;rw[JZ]at h;unfold iL;rw[lL d h.1,sj r h.2]
end
theorem oK {C:Addr} {elt:Ds->Rs PyData} {δ:Ds} {k:Jb->PyData}:∀(ts:List (Addr×Jb)),(∀p∈ts,elt (δ++[some (jD C p)])=.ok (k p.2))->cJ bc elt aO δ (ts.map (jD C))=.ok ((ts.map (·.2)).map k)
 |[],_=>rfl
 |p::r,h=>by
  have a:=oK r λe b=>h e (J8 _ b)
  rw[J5];unfold cJ;simp only[aO,bc,Rs.b9,Rs.ag,if_true,h p J9];rw[a];rfl
def Jb.done (j:Jb):Bool:=(j.job:Int)==(j.row.length:Int)
def rnD (C:Addr) (E R W tops:PyData) (len:Str) (qs:List (Addr×Jb)) (told:List PyData) (x7 x8:Option PyData):Ds:=[some E,some R,some W,some (.str len),some tops,some (.list (qs.map (jD C))),some (.list told),x7,x8]
section
variable {E R W:PyData} {len:Str} {qs:List (Addr×Jb)} {told:List PyData} {x7 x8:Option PyData}
theorem cond_of (hl:qs.length<=1000):fQ (gT (gF mD (ae (gL (a9 9 (cn (af 5)) bc (ba cs.Jobs "are_done" (aL cs) (af 9) ah) aO)) ah))) (rnD cs.Jobs E R W tops len qs told x7 x8)=.ok (!((qs.map (·.2)).all Jb.done)):=by
 have hc:a9 9 (cn (af 5)) bc (ba cs.Jobs "are_done" (aL cs) (af 9) ah) aO (rnD cs.Jobs E R W tops len qs told x7 x8)=.ok ((qs.map (·.2)).map λj=>.bool j.done):=by
  unfold a9;rw[if_pos (show (rnD cs.Jobs E R W tops len qs told x7 x8).length=9 from rfl)];rw[show cn (af 5) (rnD cs.Jobs E R W tops len qs told x7 x8)=.ok (qs.map (jD cs.Jobs)) from rfl];simp only[Rs.ag];rw[if_pos (by rw[J6];omega)];refine oK qs λp hp=>?_
  show ba cs.Jobs "are_done" (aL cs) (af 9) ah [some E,some R,some W,some (.str len),some tops,some (.list (qs.map (jD cs.Jobs))),some (.list told),x7,x8,some (jD cs.Jobs p)]=_;unfold ba;simp only[aq,aw,Rs.ag];rw[if_pos (show isC cs.Jobs "are_done" (jD cs.Jobs p)=true from si)];simp only[aI,Rs.ag];exact uB
 have a:=gW Jb.done (qs.map (·.2));simp only[rH,fH,f6,aE,aI,pL,hc,Rs.ag,a,Rs.ak,bt]
def cf (told:List PyData) (p:Addr×Jb):Bool:=p.2.there (told.length:Int)
theorem me (h:∀p∈qs,p.2.job<=p.2.row.length) {x6:Option PyData}:∀(us:List (Addr×Jb)),(∀p∈us,p∈qs) ->
  eU (gT (ba cs.Jobs "is_there" (aH cs) (af 9) (ae (gF b8 (ae (af 6) ah)) ah))) (af 9) aO [some E,some R,some W,some (.str len),some tops,some (.list (qs.map (jD cs.Jobs))),x6,x7,x8] (rnD cs.Jobs E R W tops len qs told x7 x8) (us.map (jD cs.Jobs))=.ok ((us.filter (cf told)).map (jD cs.Jobs))
 |[],_=>rfl
 |p::r,hu=>by
  have a:=me h (x6:=x6) r λq b=>hu q (J8 _ b)
  have hc:gT (ba cs.Jobs "is_there" (aH cs) (af 9) (ae (gF b8 (ae (af 6) ah)) ah)) (rnD cs.Jobs E R W tops len qs told x7 x8++[some (jD cs.Jobs p)])=.ok (cf told p):=by show gT (ba cs.Jobs "is_there" (aH cs) (af 9) (ae (gF b8 (ae (af 6) ah)) ah)) [some E,some R,some W,some (.str len),some tops,some (.list (qs.map (jD cs.Jobs))),some (.list told),x7,x8,some (jD cs.Jobs p)]=_;rw[fH];unfold ba;simp only[aq,aw,Rs.ag];rw[if_pos (show isC cs.Jobs "is_there" (jD cs.Jobs p)=true from rj)];simp only[aE,aI,f6,aq,aw,j4,Rs.ak,Rs.ag];rw[show aH cs [jD cs.Jobs p,.int (told.length:Int)]=_ from uD (h p (hu p J9))];rfl
  rw[J5];unfold eU;rw[show aO (jD cs.Jobs p)=some [some (jD cs.Jobs p)] from rfl];simp only[hc,Rs.b9,Rs.ag];rw[L5];cases cf told p with
  |true =>simp only[if_true];rw[show af 9 ([some E,some R,some W,some (.str len),some tops,some (.list (qs.map (jD cs.Jobs))),x6,x7,x8]++[some (jD cs.Jobs p)])=.ok (jD cs.Jobs p) from rfl];simp only[Rs.b9,Rs.ag,a];rfl
  |false=>simp only[Kh,if_false,a]
end
mutual
theorem jm:∀d:PyData,aA d=true->objs d=true
 |.none,_=>by unfold objs;rfl
 |.bool _,_=>by unfold objs;rfl
 |.int _,_=>by unfold objs;rfl
 |.str _,_=>by unfold objs;rfl
 |.list ds,h=>by unfold objs;exact pC ds (by simpa[aA] using h)
 |.tuple ds,h=>by unfold objs;exact pC ds (by simpa[aA] using h)
 |.dict _,h=>by simp[aA]at h
theorem pC:∀ds:List PyData,cQ ds=true->i8 ds=true
 |[],_=>by unfold i8;rfl
 |d::r,h=>by unfold cQ at h;rw[JZ]at h;unfold i8;rw[jm d h.1,pC r h.2];rfl
end
theorem xE:objs (jD C p)=true:=by unfold jD Jb.d;rw[sU];exact p.2.flat
theorem qS {C:Addr}:∀ts:List (Addr×Jb),i8 (ts.map (jD C))=true
 |[]=>by unfold i8;rfl
 |p::r=>by rw[J5];unfold i8;rw[xE,qS r];rfl
theorem vI:objs (.list (ts.map (jD C)))=true:=by unfold objs;exact qS ts
section
variable {E R W:PyData} {len:Str} {qs:List (Addr×Jb)} {told:List PyData}
structure NoD (E R W tops:PyData) (told:List PyData):Prop where
 e:aA E=true
 r:aA R=true
 w:aA W=true
 t:aA tops=true
 o:aA (.list told)=true
theorem yO (n:NoD E R W tops told) (ha:q.1∈as):mn as cs.Jobs 8 (rnD cs.Jobs E R W tops len qs told (some (.list (ts.map (jD cs.Jobs)))) (some (jD cs.Jobs q)))=some (q.1,q.2.fds):=by
 have h1:fw (rnD cs.Jobs E R W tops len qs told (some (.list (ts.map (jD cs.Jobs)))) (some (jD cs.Jobs q)))=true:=by
  unfold fw rnD;have b:objs (.str len)=true:=by unfold objs;rfl
  simp only[Lc,List.all_nil,Ld,jm _ n.e,jm _ n.r,jm _ n.w,jm _ n.t,jm _ n.o,b,vI,xE,Bool.and_self]
 show (match objOf (jD cs.Jobs q) with|some (c,a,fds)=>if c=cs.Jobs/\a∈as/\fw (rnD cs.Jobs E R W tops len qs told (some (.list (ts.map (jD cs.Jobs)))) (some (jD cs.Jobs q)))=true/\fo fds=true/\fds.length<1000 then some (a,fds) else none|none=>none)=_;rw[show objOf (jD cs.Jobs q)=some (cs.Jobs,q.1,q.2.fds) from p7 _ _ _];exact if_pos ⟨rfl,ha,h1,q.2.flat,show 7<1000 by decide⟩
end
def rT (a:Addr) (j:Jb) (qs:List (Addr×Jb)):List (Addr×Jb):=qs.map λp=>if p.1=a then (a,j) else p
section
variable {E R W:PyData} {len:Str} {qs:List (Addr×Jb)} {told:List PyData}
theorem G2 (n:NoD E R W tops told):jY q.1 (jD cs.Jobs (q.1,j)) (rnD cs.Jobs E R W tops len qs told (some (.list (ts.map (jD cs.Jobs)))) (some (jD cs.Jobs q)))=rnD cs.Jobs E R W tops len (rT q.1 j qs) told (some (.list ((rT q.1 j ts).map (jD cs.Jobs)))) (some (jD cs.Jobs (q.1,j))):=by
 have a:eI q.1 (jD cs.Jobs (q.1,j)) (.str len)=.str len:=by unfold eI;rfl
 have b:eI q.1 (jD cs.Jobs (q.1,j)) (jD cs.Jobs q)=jD cs.Jobs (q.1,j):=by rw[uF,if_pos rfl]
 unfold jY rnD rT;simp only[J5,L4,Ln,lL _ n.e,lL _ n.r,lL _ n.w,lL _ n.t,lL _ n.o,a,zC,b]
theorem D5 (n:NoD E R W tops told) (ha:q.1∈as) (a:q.2.part<q.2.parts.length):jS as cs.Jobs "go_on" 8 ff (rnD cs.Jobs E R W tops len qs told (some (.list (ts.map (jD cs.Jobs)))) (some (jD cs.Jobs q)))=.nx (rnD cs.Jobs E R W tops len (rT q.1 q.2.next qs) told (some (.list ((rT q.1 q.2.next ts).map (jD cs.Jobs)))) (some (jD cs.Jobs (q.1,q.2.next)))):=by unfold jS;rw[yO n ha];have b:my "go_on" q.2.fds=none:=rfl;simp only[b,if_true,EV a];exact congrArg Sr.nx (G2 (cs:=cs) (len:=len) (qs:=qs) (ts:=ts) (q:=q) (j:=q.2.next) n)
end
section
variable {E R W:PyData} {len:Str} {qs:List (Addr×Jb)} {told:List PyData} {x7 x8:Option PyData}
theorem AK (hl:qs.length<=1000) (h:∀p∈qs,p.2.job<=p.2.row.length):pA [6] 7 9 (cn (af 5)) (gT (ba cs.Jobs "is_there" (aH cs) (af 9) (ae (gF b8 (ae (af 6) ah)) ah))) (af 9) aO (rnD cs.Jobs E R W tops len qs told x7 x8)=.nx (rnD cs.Jobs E R W tops len qs told (some (.list ((qs.filter (cf told)).map (jD cs.Jobs)))) x8):=by
 have hm:mask [6] (rnD cs.Jobs E R W tops len qs told x7 x8)=[some E,some R,some W,some (.str len),some tops,some (.list (qs.map (jD cs.Jobs))),none,x7,x8]:=rfl;have hc:lM 9 (cn (af 5)) (gT (ba cs.Jobs "is_there" (aH cs) (af 9) (ae (gF b8 (ae (af 6) ah)) ah))) (af 9) aO (mask [6] (rnD cs.Jobs E R W tops len qs told x7 x8)) (rnD cs.Jobs E R W tops len qs told x7 x8)=.ok ((qs.filter (cf told)).map (jD cs.Jobs)):=by rw[hm];unfold lM;rw[if_pos (show [some E,some R,some W,some (.str len),some tops,some (.list (qs.map (jD cs.Jobs))),none,x7,x8].length=9 from rfl)];rw[show cn (af 5) [some E,some R,some W,some (.str len),some tops,some (.list (qs.map (jD cs.Jobs))),none,x7,x8]=.ok (qs.map (jD cs.Jobs)) from rfl];simp only[Rs.ag];rw[if_pos (by rw[J6];omega)];exact me h qs λp a=>a
 unfold pA;rw[if_pos (show 7<(rnD cs.Jobs E R W tops len qs told x7 x8).length from (by decide:7<9)),hc];rfl
end
def bP (told:List PyData) (js:List Jb):List Jb:=js.filter λj=>j.there (told.length:Int)
def de (b:Jb) (js:List Jb):List Jb:=js.map λj=>if j.num=b.num then b.next else j
def fX (b:Jb):PyData:=.tuple [.int b.num,.int (b.job:Int)]
def cz (tops:PyData) (len:Str) (s:List Jb×List PyData):List Jb×List PyData :=
 if bP s.2 s.1=[] then (s.1,s.2++[.none]) else (de (cF tops len (bP s.2 s.1)) s.1,s.2++[fX (cF tops len (bP s.2 s.1))])
structure QOk (as:List Addr) (qs:List (Addr×Jb)):Prop where
 few:qs.length<=1000
 pl:qs.map (·.1)=as
 nda:as.Nodup
 ndn:(qs.map (·.2.num)).Nodup
 pt:∀p∈qs,p.2.part<p.2.parts.length
 jb:∀p∈qs,p.2.job<=p.2.row.length
theorem lh {α β:Type} {f:α->β}:∀{l:List α},(l.map f).Nodup->∀x∈l,∀y∈l,f x=f y->x=y
 |[],_,x,b,_,_,_=>by cases b
 |a::r,h,x,b,y,c,e=>by
  rw[J5,Kp]at h;rcases J7.mp b with rfl|b
  ·rcases J7.mp c with rfl|c
   ·rfl
   ·exact (h.1 (K1.mpr ⟨y,by assumption,e.symm⟩)).elim
  ·rcases J7.mp c with rfl|c
   ·exact (h.1 (K1.mpr ⟨x,by assumption,e⟩)).elim
   ·exact lh h.2 x b y c e
def rnB (cs:Cs) (as:List Addr):Ds->Sr:=(aF (pA [6] 7 9 (cn (af 5)) (gT (ba cs.Jobs "is_there" (aH cs) (af 9) (ae (gF b8 (ae (af 6) ah)) ah))) (af 9) aO)
 (sIf (gT (g2 dEq (gF b8 (ae (af 7) ah)) (gC (.int 0)))) (jM [6] 6 (gC .none)) (aF (aQ [6] 8 (ar (cj cs) (ae (af 7) (ae (af 4) (ae (af 3) ah)))))
 (aF (jM [6] 6 (fZ (ae (g1 (br cs.Jobs "number") (af 8)) (ae (g1 (br cs.Jobs "job") (af 8)) ah))))
 (jS as cs.Jobs "go_on" 8 ff)))))
section
variable {E R W:PyData} {len:Str} {qs:List (Addr×Jb)} {told:List PyData}
theorem sX:(qs.filter (cf told)).map (·.2)=bP told (qs.map (·.2)):=by unfold bP;rw[List.filter_map];rfl
theorem CT (K:QOk as qs) (a:q∈qs) (c:j=q.2.next):(rT q.1 j qs).map (·.2)=de q.2 (qs.map (·.2)):=by
 unfold rT de;rw[Kb,Kb];refine Ke λp b=>?_
 show (if p.1=q.1 then (q.1,j) else p).2=if p.2.num=q.2.num then q.2.next else p.2
 by_cases z:p.1=q.1
 ·have:p=q:=lh (f:=(·.1)) (by rw[K.pl];exact K.nda) p b q a z;rw[if_pos z,if_pos (by rw[this]),c]
 ·have:p.2.num≠q.2.num:=λe=>z (by rw[lh (f:=λx:Addr×Jb=>x.2.num) K.ndn p b q a e])
  rw[if_neg z,if_neg this]
theorem DK:(rT a j qs).map (·.1)=qs.map (·.1):=by
 unfold rT;rw[Kb];refine Ke λp hp=>?_
 show (if p.1=a then (a,j) else p).1=p.1;by_cases z:p.1=a
 ·rw[if_pos z,z]
 ·rw[if_neg z]
theorem Co (K:QOk as qs) (n:NoD E R W tops told) (m:pB len) (s:∀p∈qs,∀t,p.2.held=some t->∃n:Int,dIx tops (.int t)=some (.int n)) (hl:told.length<1000000) (x7 x8:Option PyData) :
  ∃b u v,rnB cs as (rnD cs.Jobs E R W tops len qs told x7 x8)=.nx (rnD cs.Jobs E R W tops len b (cz tops len (qs.map (·.2),told)).2 u v)/\b.map (·.1)=qs.map (·.1)/\b.map (·.2)=(cz tops len (qs.map (·.2),told)).1:=by
 have f:=AK (cs:=cs) (E:=E) (R:=R) (W:=W) (tops:=tops) (len:=len) (told:=told) (x7:=x7) (x8:=x8) K.few K.jb;have hc:gT (g2 dEq (gF b8 (ae (af 7) ah)) (gC (.int 0))) (rnD cs.Jobs E R W tops len qs told (some (.list ((qs.filter (cf told)).map (jD cs.Jobs)))) x8)=.ok (((qs.filter (cf told)).length:Int)==0):=by unfold rnD;simp only[fH,bQ,f6,aE,aI,aq,aw,c8,Rs.ag,j4,J6,Rs.ak,jv,bt]
 unfold rnB cz;simp only[aP,f];have c:=sX (qs:=qs) (told:=told);by_cases z:qs.filter (cf told)=[]
 ·have h:(((qs.filter (cf told)).length:Int)==0)=true:=by rw[z];rfl
  have i:bP told (qs.map (·.2))=[]:=by rw[<-c,z];rfl
  rw[if_pos i,dF,hc];simp only[h,az,if_true];refine⟨qs,some (.list ((qs.filter (cf told)).map (jD cs.Jobs))),x8,?_,rfl,rfl⟩;show (if told.length<1000000 then Sr.nx _ else Sr.no)=_;rw[if_pos hl];rfl
 ·have h:(((qs.filter (cf told)).length:Int)==0)=false:=by rw[beq_eq_false_iff_ne];have:=KL.mpr z;omega
  have i:¬ bP told (qs.map (·.2))=[]:=λe=>z (by rw[<-c]at e;exact List.map_eq_nil_iff.mp e)
  have a:∀p∈qs.filter (cf told),p∈qs:=λp g=>(Kk.mp g).1
  obtain⟨q,j,e2,e⟩:=yc (cs:=cs) (tops:=tops) z (KO (List.length_filter_le _ _) K.few) (λp g=>K.pt p (a p g)) (λp g=>s p (a p g)) m;rw[c]at e2;rw[if_neg i,dF,hc];simp only[h,az,Kh,if_false];have x:aQ [6] 8 (ar (cj cs) (ae (af 7) (ae (af 4) (ae (af 3) ah)))) (rnD cs.Jobs E R W tops len qs told (some (.list ((qs.filter (cf told)).map (jD cs.Jobs)))) x8)=.nx (rnD cs.Jobs E R W tops len qs told (some (.list ((qs.filter (cf told)).map (jD cs.Jobs)))) (some (jD cs.Jobs q))):=by have l:ar (cj cs) (ae (af 7) (ae (af 4) (ae (af 3) ah))) (mask [6] (rnD cs.Jobs E R W tops len qs told (some (.list ((qs.filter (cf told)).map (jD cs.Jobs)))) x8))=.ok (jD cs.Jobs q):=e;unfold aQ;rw[if_pos (show 8<(rnD cs.Jobs E R W tops len qs told (some (.list ((qs.filter (cf told)).map (jD cs.Jobs)))) x8).length from (by decide:8<9)),l];rfl
  have f1:br cs.Jobs "number" (jD cs.Jobs q)=some (.int q.2.num):=we;have f2:br cs.Jobs "job" (jD cs.Jobs q)=some (.int (q.2.job:Int)):=rM;have y:jM [6] 6 (fZ (ae (g1 (br cs.Jobs "number") (af 8)) (ae (g1 (br cs.Jobs "job") (af 8)) ah))) (rnD cs.Jobs E R W tops len qs told (some (.list ((qs.filter (cf told)).map (jD cs.Jobs)))) (some (jD cs.Jobs q)))=.nx (rnD cs.Jobs E R W tops len qs (told++[fX q.2]) (some (.list ((qs.filter (cf told)).map (jD cs.Jobs)))) (some (jD cs.Jobs q))):=by
   have l:fZ (ae (g1 (br cs.Jobs "number") (af 8)) (ae (g1 (br cs.Jobs "job") (af 8)) ah)) (mask [6] (rnD cs.Jobs E R W tops len qs told (some (.list ((qs.filter (cf told)).map (jD cs.Jobs)))) (some (jD cs.Jobs q))))=.ok (fX q.2):=by show fZ _ [some E,some R,some W,some (.str len),some tops,some (.list (qs.map (jD cs.Jobs))),none,some (.list ((qs.filter (cf told)).map (jD cs.Jobs))),some (jD cs.Jobs q)]=_;simp only[lO,aE,aI,gG,aq,aw,Rs.ag,f1,f2,Rs.ak];rfl
   show ofR (fZ _ (mask [6] _)) (λd=>if told.length<1000000 then Sr.nx _ else Sr.no)=_;rw[l];show (if told.length<1000000 then Sr.nx _ else Sr.no)=_;rw[if_pos hl];rfl
  have n':NoD E R W tops (told++[fX q.2]):=⟨n.e,n.r,n.w,n.t,by
   have h1:=n.o;refine cy λd hd=>?_
   rcases Ki.mp hd with hd|hd
   ·exact ij (by simpa[aA] using h1) d hd
   ·rw[JW.mp hd];rfl⟩
  have ha:q.1∈as:=by rw[<-K.pl];exact K1.mpr ⟨q,a q j,rfl⟩
  have A:=D5 (cs:=cs) (len:=len) (qs:=qs) (ts:=qs.filter (cf told)) n' ha (K.pt q (a q j));simp only[aP,x,y,A];rw[<-e2];exact⟨_,_,_,rfl,DK,CT K (a q j) rfl⟩
end
structure JOk (tops:PyData) (j:Jb):Prop where
 pt:j.part<j.parts.length
 jb:j.job<=j.row.length
 ln:∀p∈j.parts,1<=p.1
 sp:(j.spent:Int)<j.len
 tl:∀p∈j.parts,∀t,p.2=some t->∃n:Int,dIx tops (.int t)=some (.int n)
theorem JOk.held (h:JOk tops j):∀t,j.held=some t->∃n:Int,dIx tops (.int t)=some (.int n):=by
 intro t e;have hpt:=h.pt;have a:j.parts[j.part]?=some j.parts[j.part]:=J0 h.pt;unfold Jb.held Jb.tool at e;rw[a]at e;by_cases z:j.spent=0
 ·rw[if_pos z]at e;cases e
 ·rw[if_neg z]at e;exact h.tl _ (Kr h.pt) t e
theorem len_pos {tops:PyData} (h:∀p∈j.parts,1<=p.1) (a:j.part<j.parts.length):1<=j.len:=by unfold Jb.len;rw[J0 a];exact h _ (Kr a)
theorem Dt (h:JOk tops j) (c:j.job<j.row.length):JOk tops j.next:=by
 have a:0<j.parts.length:=Nat.lt_of_le_of_lt (Ks _) h.pt;have hsp:=h.sp;unfold Jb.next Jb.step1;by_cases z:(j.spent:Int)+1=j.len
 ·rw[if_pos z];unfold Jb.step2;by_cases y:j.part+1=j.parts.length
  ·rw[if_pos (show ({ j with spent:=0,part:=j.part+1 }:Jb).part=({ j with spent:=0,part:=j.part+1 }:Jb).parts.length from y)];refine⟨a,c,h.ln,?_,h.tl⟩;have:=len_pos (tops:=tops) (j:={ j with spent:=0,part:=0,job:=j.job+1 }) h.ln a;show (0:Int)<_;exact LK (by decide) this
  ·rw[if_neg (show ¬ ({ j with spent:=0,part:=j.part+1 }:Jb).part=({ j with spent:=0,part:=j.part+1 }:Jb).parts.length from y)];have b:j.part+1<j.parts.length:=by have:=h.pt;omega
   refine⟨b,h.jb,h.ln,?_,h.tl⟩;have:=len_pos (tops:=tops) (j:={ j with spent:=0,part:=j.part+1 }) h.ln b;show (0:Int)<_;exact LK (by decide) this
 ·rw[if_neg z];unfold Jb.step2;rw[if_neg (show ¬ ({ j with spent:=j.spent+1 }:Jb).part=({ j with spent:=j.spent+1 }:Jb).parts.length from JX h.pt)];refine⟨h.pt,h.jb,h.ln,?_,h.tl⟩;show ((j.spent+1:Nat):Int)<j.len;omega
theorem lF (h:js≠[]):g0 key js∈js:=by
 have hl:0<js.length:=KL.mpr h;have hb:=rP (λi j=>ltD ((js.map key).getD i .none) ((js.map key).getD j .none)) (js.length-1);have a:iW (js.map key)<js.length:=by unfold iW;rw[J6];omega
 unfold g0;rw[K6,J0 a];exact Kr a
theorem fJ {len:Str} (h:js≠[]):cF tops len js∈js:=by
 unfold cF;split
 ·exact lF h
 ·have hn:=nR (ts:=js.map λj=>((0:Addr),j)) (by simpa using h);have hm:(js.map λj=>((0:Addr),j)).map (·.2)=js:=by rw[Kb];exact KD js
  rw[hm]at hn;have a:js.filter (gm js)≠[]:=by
   obtain⟨p,r,e⟩:=Le hn;have b:p∈(js.map λj=>((0:Addr),j)).filter (λp=>gm js p.2):=by rw[e];exact J9
   obtain⟨h1,h2⟩:=Kk.mp b;obtain⟨j,c,rfl⟩:=K1.mp h1;exact LJ (Kk.mpr ⟨c,h2⟩)
  exact (Kk.mp (lF a)).1
theorem nM {t:Int} (h:j.there t=true):j.job<j.row.length:=by
 unfold Jb.there at h;by_cases z:j.job<j.row.length
 ·exact z
 ·rw[La (by omega)]at h;cases h
theorem tQ (j:Jb):j.next.num=j.num:=by unfold Jb.next Jb.step1 Jb.step2;split <;> split <;> rfl
structure wt (tops:PyData) (js:List Jb):Prop where
 ok:∀j∈js,JOk tops j
 nd:(js.map (·.num)).Nodup
theorem zB {b:Jb}:(de b js).map (·.num)=js.map (·.num):=by
 unfold de;rw[Kb];refine Ke λj hj=>?_
 show (if j.num=b.num then b.next else j).num=j.num;by_cases z:j.num=b.num
 ·rw[if_pos z,tQ,z]
 ·rw[if_neg z]
theorem sO {len:Str} {told:List PyData} (h:wt tops js):wt tops (cz tops len (js,told)).1:=by
 unfold cz;by_cases z:bP told js=[]
 ·rw[if_pos z];exact h
 ·rw[if_neg z];have a:=fJ (tops:=tops) (len:=len) z;obtain⟨hm,b⟩:=Kk.mp a;refine⟨λj c=>?_,by rw[zB];exact h.nd⟩;obtain⟨k,e,rfl⟩:=K1.mp c;by_cases y:k.num=(cF tops len (bP told js)).num
  ·simp only[y,if_true];exact Dt (h.ok _ hm) (nM b)
  ·simp only[if_neg y];exact h.ok k e
def sP (tops:PyData) (len:Str):Nat->List Jb×List PyData->Option (List PyData)
 |0,_=>none
 |n+1,s=>if s.1.all Jb.done=true then some s.2 else sP tops len n (cz tops len s)
def rnC (cs:Cs):Ds->Rs Bool:=fQ (gT (gF mD (ae (gL (a9 9 (cn (af 5)) bc (ba cs.Jobs "are_done" (aL cs) (af 9) ah) aO)) ah)))
theorem uh {len:Str}:(cz tops len s).2.length=s.2.length+1:=by unfold cz;split <;> simp
theorem wu {len:Str} (h:aA (.list s.2)=true):aA (.list (cz tops len s).2)=true:=by
 have h1:∀d∈s.2,aA d=true:=ij (by simpa[aA] using h);refine cy λd hd=>?_
 unfold cz at hd;split at hd
 ·rcases Ki.mp hd with hd|hd
  ·exact h1 d hd
  ·rw[JW.mp hd];rfl
 ·rcases Ki.mp hd with hd|hd
  ·exact h1 d hd
  ·rw[JW.mp hd];rfl
section
variable {E R W:PyData} {len:Str}
theorem Hk {qs:List (Addr×Jb)} (hl:qs.length<=1000) (a:qs.map (·.1)=as) (nd:as.Nodup) (h:wt tops (qs.map (·.2))):QOk as qs:=by
 have hm:∀p∈qs,JOk tops p.2:=λp a=>h.ok _ (K1.mpr ⟨p,a,rfl⟩)
 refine⟨hl,a,nd,?_,λp a=>(hm p a).pt,λp a=>(hm p a).jb⟩;have:=h.nd;rw[Kb]at this;exact this
theorem uQ (i:pB len) (nd:as.Nodup):∀(n:Nat) (qs:List (Addr×Jb)) (told t:List PyData) (x7 x8:Option PyData),qs.length<=1000->qs.map (·.1)=as->wt tops (qs.map (·.2))->NoD E R W tops told->told.length+n<=1000000->sP tops len n (qs.map (·.2),told)=some t ->
  ∃a c f,bV (rnC cs) (rnB cs as) n (rnD cs.Jobs E R W tops len qs told x7 x8)=.nx (rnD cs.Jobs E R W tops len a t c f)
 |0,_,_,_,_,_,_,_,_,_,_,h=>by cases h
 |n+1,qs,told,t,x7,x8,hl,b,hj,no,hn,h=>by
  have K:=Hk hl b nd hj;have hc:rnC cs (rnD cs.Jobs E R W tops len qs told x7 x8)=.ok (!((qs.map (·.2)).all Jb.done)):=cond_of hl;unfold sP at h;unfold bV;rw[hc];simp only[az];cases z:(qs.map (·.2)).all Jb.done with
  |true =>rw[if_pos z]at h;cases h;simp only[Bool.not_true,Kh,if_false];exact⟨qs,x7,x8,rfl⟩
  |false =>
   rw[if_neg (by rw[z];exact Kf)]at h;simp only[Bool.not_false,if_true];obtain⟨a,c,f,e,f1,f2⟩:=Co (cs:=cs) K no i (λp b=>(hj.ok _ (K1.mpr ⟨p,b,rfl⟩)).held) (by omega) x7 x8;rw[e];have g:a.length<=1000:=by have:=congrArg List.length f1;rw[J6,J6]at this;omega
   refine uQ i nd n a _ t c f g (by rw[f1];exact b) (by rw[f2];exact sO hj) ⟨no.e,no.r,no.w,no.t,wu (s:=(qs.map (·.2),told)) no.o⟩ (by rw[uh];show told.length+1+n<=_;omega) ?_;rw[f2];exact h
end
noncomputable def cA (ps:List (Int×Option Int)):Int:=(ps.map (·.1)).sum
theorem eR (p:Int×Option Int) (r:List (Int×Option Int)):cA (p::r)=p.1+cA r:=by unfold cA;rw[J5,Lf]
def Jb.work (j:Jb):Int:=cA j.parts
def Jb.cur (j:Jb):Int:=cA (j.parts.take j.part)+j.spent
def Jb.tot (j:Jb):Int:=j.job*j.work+j.cur
theorem lr:∀{ps:List (Int×Option Int)} {k:Nat} (h:k<ps.length),cA (ps.take (k+1))=cA (ps.take k)+ps[k].1
 |[],k,h=>by cases h
 |p::r,0,_=>by rw[Lj,List.take_zero,eR];show p.1+cA []=cA []+p.1;omega
 |p::r,k+1,h=>by
  have a:k<r.length:=by simpa using h
  have b:=lr (ps:=r) (k:=k) a;rw[Lj,Lj,eR,eR,b];show p.1+(cA (r.take k)+r[k].1)=p.1+cA (r.take k)+r[k].1;omega
theorem pj (h:JOk tops j):j.next.tot=j.tot+1:=by
 have hpt:=h.pt;have hlen:j.len=j.parts[j.part].1:=by unfold Jb.len;rw[J0 h.pt];rfl
 have ht:=lr h.pt;unfold Jb.next Jb.step1;by_cases z:(j.spent:Int)+1=j.len
 ·rw[if_pos z];unfold Jb.step2;by_cases y:j.part+1=j.parts.length
  ·rw[if_pos (show ({ j with spent:=0,part:=j.part+1 }:Jb).part=({ j with spent:=0,part:=j.part+1 }:Jb).parts.length from y)];have hw:cA (j.parts.take (j.part+1))=cA j.parts:=by rw[y,List.take_length]
   show ((j.job+1:Nat):Int)*cA j.parts+(cA (j.parts.take 0)+((0:Nat):Int))=(j.job:Int)*cA j.parts+(cA (j.parts.take j.part)+(j.spent:Int))+1;have a:cA (j.parts.take 0)=0:=rfl;have e1:((j.job+1:Nat):Int)*cA j.parts=(j.job:Int)*cA j.parts+cA j.parts:=by rw[Int.natCast_add,Int.add_mul];simp
   rw[a,e1];omega
  ·rw[if_neg (show ¬ ({ j with spent:=0,part:=j.part+1 }:Jb).part=({ j with spent:=0,part:=j.part+1 }:Jb).parts.length from y)];show (j.job:Int)*cA j.parts+(cA (j.parts.take (j.part+1))+((0:Nat):Int))=(j.job:Int)*cA j.parts+(cA (j.parts.take j.part)+(j.spent:Int))+1;omega
 ·rw[if_neg z];unfold Jb.step2;rw[if_neg (show ¬ ({ j with spent:=j.spent+1 }:Jb).part=({ j with spent:=j.spent+1 }:Jb).parts.length from JX h.pt)];show (j.job:Int)*cA j.parts+(cA (j.parts.take j.part)+((j.spent+1:Nat):Int))=(j.job:Int)*cA j.parts+(cA (j.parts.take j.part)+(j.spent:Int))+1;omega
theorem mr:∀(a b:List (Int×Option Int)),cA (a++b)=cA a+cA b
 |[],b=>by show cA b=0+cA b;omega
 |p::r,b=>by rw[Ku,eR,eR,mr r b];omega
theorem kL:∀{ps:List (Int×Option Int)},(∀p∈ps,1<=p.1)->0<=cA ps
 |[],_=>LR 0
 |p::r,h=>by
  have:=h p J9;have ih:=kL (ps:=r) λq a=>h q (J8 _ a)
  rw[eR];omega
theorem rV {ps:List (Int×Option Int)} (h:∀p∈ps,1<=p.1) (k:Nat):cA (ps.take k)<=cA ps:=by
 have e:=mr (ps.take k) (ps.drop k);rw[List.take_append_drop]at e;have:=kL (ps:=ps.drop k) λq a=>h q (List.mem_of_mem_drop a)
 omega
theorem nG (h:JOk tops j):0<=j.cur/\j.cur<j.work:=by
 have hpt:=h.pt;have hlen:j.len=j.parts[j.part].1:=by unfold Jb.len;rw[J0 h.pt];rfl
 have ht:=lr h.pt;have h1:=rV h.ln (j.part+1);have h2:=kL (ps:=j.parts.take j.part) λq a=>h.ln q (List.mem_of_mem_take a)
 have h3:=h.sp;unfold Jb.cur Jb.work;omega
theorem vM (h:JOk tops j) {k:Nat} (hj:j.job<k):j.tot<(k:Int)*j.work:=by obtain⟨c0,c1⟩:=nG h;have:=KS (a:=(j.job:Int)+1) (b:=(k:Int)) (c:=j.work) (by omega) (by omega);rw[Int.add_mul,Int.one_mul]at this;unfold Jb.tot;omega
theorem gZ (j:Jb):j.next.row=j.row:=by unfold Jb.next Jb.step1 Jb.step2;split <;> split <;> rfl
theorem ia (j:Jb):j.next.parts=j.parts:=by unfold Jb.next Jb.step1 Jb.step2;split <;> split <;> rfl
def Jb.left (j:Jb):Nat:=((j.row.length:Int)*j.work-j.tot).toNat
theorem p9 (j:Jb):j.next.work=j.work:=by unfold Jb.work;rw[ia]
theorem xN (h:JOk tops j) (a:j.job<j.row.length):j.next.left+1=j.left:=by have h1:=pj h;have h2:=vM h a;unfold Jb.left;rw[gZ,p9,h1];omega
theorem xw {b:Jb}:∀{r:List Jb},(∀k∈r,k.num≠b.num)->de b r=r
 |[],_=>rfl
 |k::t,h=>by show (if k.num=b.num then b.next else k)::de b t=_;rw[if_neg (h k J9),xw λx a=>h x (J8 _ a)]
theorem lE {b:Jb} {r:List Jb} (nd:((j::r).map (·.num)).Nodup) (a:b∈j::r):(j=b/\de b (j::r)=b.next::r)\/(j.num≠b.num/\b∈r/\de b (j::r)=j::de b r):=by
 rw[J5,Kp]at nd;have e:de b (j::r)=(if j.num=b.num then b.next else j)::de b r:=rfl;by_cases z:j.num=b.num
 ·left;have c:j=b:=by
   rcases J7.mp a with h|h
   ·exact h.symm
   ·exact (nd.1 (K1.mpr ⟨b,h,z.symm⟩)).elim
  refine⟨c,?_⟩;rw[e,if_pos z,xw λk f q=>nd.1 (K1.mpr ⟨k,f,q.trans z.symm⟩)]
 ·right;refine⟨z,?_,by rw[e,if_neg z]⟩;rcases J7.mp a with h|h
  ·exact (z (by rw[h])).elim
  ·exact h
theorem uG {f:Jb->Nat} {b:Jb}:∀{js:List Jb},(js.map (·.num)).Nodup->b∈js->f b.next+1=f b->((de b js).map f).sum+1=(js.map f).sum
 |[],_,a,_=>by cases a
 |j::r,nd,a,hf=>by
  rcases lE nd a with⟨g,e⟩|⟨_,c,e⟩
  ·rw[e,J5,J5,Lf,Lf,g];omega
  ·rw[J5,Kp]at nd;have:=uG nd.2 c hf;rw[e,J5,J5,Lf,Lf];omega
def wM (js:List Jb):Nat:=(js.map Jb.left).sum
theorem kC {b k:Jb} (hb:b∈js) (a:k∈de b js):k∈js\/k=b.next:=by
 obtain⟨j,c,rfl⟩:=K1.mp a;by_cases z:j.num=b.num
 ·right;exact if_pos z
 ·left;rw[if_neg z];exact c
theorem jl {len:Str} {told:List PyData} (z:bP told js=[]):cz tops len (js,told)=(js,told++[.none]):=by unfold cz;exact if_pos z
theorem kY {len:Str} {told:List PyData} (z:bP told js≠[]):∃b,b∈js/\b.there (told.length:Int)=true/\cz tops len (js,told)=(de b js,told++[fX b]):=by obtain⟨hm,a⟩:=Kk.mp (fJ (tops:=tops) (len:=len) z);refine⟨_,hm,a,?_⟩;unfold cz;exact if_neg z
theorem CZ (h:JOk tops j) (hd:j.done=false):j.job<j.row.length:=by have:=h.jb;unfold Jb.done at hd;rw[beq_eq_false_iff_ne]at hd;omega
theorem oa {tops:PyData} {len:Str} {B:Nat}:∀(n:Nat) (js:List Jb) (told:List PyData),wt tops js->(∀j∈js,∀c∈j.row,c<(B:Int))->wM js+(B-told.length)<n->∃t,sP tops len n (js,told)=some t
 |0,_,_,_,_,hn=>by omega
 |n+1,js,told,h,hr,hn=>by
  unfold sP;by_cases z:js.all Jb.done=true
  ·exact⟨told,if_pos z⟩
  ·rw[if_neg (show ¬ ((js,told).1.all Jb.done=true) from z)];by_cases y:bP told js=[]
   ·rw[jl y];refine oa n js _ h hr ?_;rw[K9]at z;obtain⟨j,o⟩:=Classical.not_forall.mp z;obtain⟨hm,hd⟩:=Classical.not_imp.mp o;have a:=CZ (h.ok j hm) (Bool.eq_false_iff.mpr hd);have hc:=hr j hm _ (Kr a);have g:¬ j.there (told.length:Int)=true:=λe=>by have:j∈bP told js:=Kk.mpr ⟨hm,e⟩;rw[y]at this;cases this
    unfold Jb.there at g;rw[J0 a]at g;simp only[decide_eq_true_eq]at g;rw[K0,Kv];omega
   ·obtain⟨b,l,g,e⟩:=kY (tops:=tops) (len:=len) y;have i:=sO (len:=len) (told:=told) h;rw[e]at i ⊢;have hs:=uG (f:=Jb.left) h.nd l (xN (h.ok _ l) (nM g));refine oa (B:=B) n _ _ i (λk m=>?_) ?_
    ·rcases kC l m with m|rfl
     ·exact hr k m
     ·rw[gZ];exact hr b l
    ·rw[K0,Kv];unfold wM at hn ⊢;omega
def jU (r:List Int) (t:Int):Nat:=(r.filter λc=>decide (c<=t)).length
theorem eN (a:Int) (s:List Int) (t:Int):jU (a::s) t=(if a<=t then 1 else 0)+jU s t:=by
 unfold jU;rw[L5];by_cases z:a<=t
 ·rw[if_pos (decide_eq_true z),if_pos z,Ka];omega
 ·rw[if_neg (by simpa using z),if_neg z];omega
theorem BP (r:List Int) (t:Int):jU r t<=r.length:=List.length_filter_le _ _
theorem qp {t u:Int} (h:t<=u):∀r:List Int,jU r t<=jU r u
 |[]=>JU _
 |a::s=>by
  have ih:=qp h s;rw[eN,eN];by_cases z:a<=t
  ·rw[if_pos z,if_pos (by omega)];omega
  ·rw[if_neg z];omega
theorem qE {t:Int}:∀{r:List Int},(∀c∈r,t<c)->jU r t=0
 |[],_=>rfl
 |a::s,h=>by have:=h a J9;rw[eN,if_neg (by omega),qE λc hc=>h c (J8 _ hc)]
theorem wR {t:Int}:∀{r:List Int} {k:Nat} (b:k<r.length),r.Pairwise (· < ·)->t<r[k]->jU r t<=k
 |[],_,b,_,_=>by cases b
 |a::s,0,_,hp,h=>by rw[Lu]at hp;have h:t<a:=h;have:=hp.1;rw[eN,if_neg (by omega),qE λc hc=>Int.lt_trans h (this c hc)];exact JU _
 |a::s,k+1,b,hp,h=>by
  rw[Lu]at hp;have e:k<s.length:=by simpa using b
  have ih:=wR e hp.2 (show t<s[k] from h);rw[eN];split <;> omega
theorem xJ {t:Int}:∀{r:List Int} {k:Nat} (c:k<r.length),r.Pairwise (· < ·)->r[k]<=t->k<jU r t
 |[],_,c,_,_=>by cases c
 |a::s,0,_,hp,h=>by have h:a<=t:=h;rw[eN,if_pos h];omega
 |a::s,k+1,c,hp,h=>by
  rw[Lu]at hp;have b:k<s.length:=by simpa using c
  have h:s[k]<=t:=h;have ih:=xJ b hp.2 h;have:=hp.1 _ (Kr b);rw[eN,if_pos (by omega)];omega
def iI (t:Int) (j:Jb):Int:=(jU j.row t:Int)*j.work-j.tot
structure IvJ (tops:PyData) (t:Int) (js:List Jb):Prop where
 ok:wt tops js
 srt:∀j∈js,j.row.Pairwise (· < ·)
 low:∀j∈js,0<=iI t j
theorem vc {t:Int} (h:JOk tops j) (c:j.row.Pairwise (· < ·)) (b:j.there t=true):0<iI t j:=by have a:=nM b;unfold Jb.there at b;rw[J0 a]at b;have:=vM h (xJ a c (of_decide_eq_true b));unfold iI;omega
theorem lK {t u:Int} (e:t<=u) (h:JOk tops j):iI t j<=iI u j:=by have h1:=qp e j.row;have h2:=nG h;have:=KS (a:=(jU j.row t:Int)) (b:=(jU j.row u:Int)) (c:=j.work) (by omega) (by omega);unfold iI;omega
theorem Eo {len:Str} {told:List PyData} (h:IvJ tops (told.length:Int) js):IvJ tops ((cz tops len (js,told)).2.length:Int) (cz tops len (js,told)).1:=by
 have c:=sO (len:=len) (told:=told) h.ok;by_cases z:bP told js=[]
 ·rw[jl z]at c ⊢;refine⟨c,h.srt,λj a=>?_⟩;have:=h.low j a;have:=lK (u:=(((told++[PyData.none]).length:Nat):Int)) (t:=(told.length:Int)) (by rw[K0];omega) (h.ok.ok j a);show 0<=iI (((told++[PyData.none]).length:Nat):Int) j;omega
 ·obtain⟨b,f,g,e⟩:=kY (tops:=tops) (len:=len) z;rw[e]at c ⊢;refine⟨c,λj a=>?_,λj a=>?_⟩
  ·rcases kC f a with a|rfl
   ·exact h.srt j a
   ·rw[gZ];exact h.srt b f
  ·show 0<=iI (((told++[fX b]).length:Nat):Int) j;rcases kC f a with a|rfl
   ·have:=h.low j a;have:=lK (u:=(((told++[fX b]).length:Nat):Int)) (t:=(told.length:Int)) (by rw[K0];omega) (h.ok.ok j a);omega
   ·have h2:=vc (h.ok.ok b f) (h.srt b f) g;have i:=lK (u:=(((told++[fX b]).length:Nat):Int)) (t:=(told.length:Int)) (by rw[K0];omega) (h.ok.ok b f);have l:=pj (h.ok.ok b f);unfold iI at h2 i ⊢;rw[gZ,p9,l];omega
theorem DN (h:JOk tops j):j.tot / j.work=(j.job:Int):=by obtain⟨c0,c1⟩:=nG h;unfold Jb.tot;rw[Int.add_comm,Int.add_mul_ediv_right _ _ (by omega),Int.ediv_eq_zero_of_lt c0 c1];omega
def e9 (j:Jb):Int×List (Int×Option Int)×List Int:=(j.num,j.parts,j.row)
theorem qO {b:Jb}:∀{js:List Jb},(js.map (·.num)).Nodup->b∈js->(de b js).map e9=js.map e9
 |[],_,a=>by cases a
 |j::r,nd,a=>by
  rcases lE nd a with⟨f,e⟩|⟨_,c,e⟩
  ·rw[e,J5,J5,f];unfold e9;rw[tQ,ia,gZ]
  ·rw[J5,Kp]at nd;rw[e,J5,J5,qO nd.2 c]
theorem dO {g:Ds->Rs PyData} {d:PyData} (hi:i<δ.length) (a:g (mask O δ)=.ok d):aQ O i g δ=.nx (δ.set i (some d)):=by unfold aQ;rw[if_pos hi,a];rfl
def mkJ (es:List Er) (rs:List Int) (k:Nat) (row:List Int):Jb:=⟨(k:Int),(fY es (k:Int)).parts,(placeOf rs (k:Int):Int),row,0,0,0⟩
def startJ (es:List Er) (rs:List Int) (rows:List (List Int)):List Jb:=rows.mapIdx (mkJ es rs)
section
theorem jn (i:Nat):(startJ es rs rows)[i]?=(rows[i]?).map (mkJ es rs i):=Kd
theorem cW (h:j∈startJ es rs rows):∃(k:Nat) (row:List Int),k<rows.length/\row∈rows/\rows[k]?=some row/\j=mkJ es rs k row:=by obtain⟨k,b⟩:=List.mem_iff_getElem?.mp h;rw[jn]at b;obtain⟨row,a,e⟩:=KN.mp b;exact⟨k,row,(K5.mp a).1,Kn a,a,e.symm⟩
theorem fL:(startJ es rs rows).length=rows.length:=L9
theorem wm:(startJ es rs rows).map (·.num)=(List.range rows.length).map λ(k:Nat)=>(k:Int) :=
 List.ext_getElem (by simp[startJ]) (λi h1 h2=>by simp[startJ,mkJ])
theorem Cn (n:Nat):((List.range n).map λ(k:Nat)=>(k:Int)).Nodup:=List.Pairwise.map _ (λa b h e=>h (by omega)) List.nodup_range
theorem lZ (k:Nat) (row:List Int):(mkJ es rs k row).tot=0:=by show ((0:Nat):Int)*_+(cA (List.take 0 _)+((0:Nat):Int))=0;rw[List.take_zero];have:cA []=0:=rfl;rw[this];simp
end
theorem rX:∀{ps:List (Int×Option Int)},(∀p∈ps,p.1<=20)->cA ps<=20*(ps.length:Int)
 |[],_=>LR 0
 |p::r,h=>by
  have:=h p J9;have ih:=rX (ps:=r) λq a=>h q (J8 _ a)
  rw[eR,Ka];omega
theorem w5 {α:Type} (f:α->Nat) {c:Nat}:∀{l:List α},(∀x∈l,f x<=c)->(l.map f).sum<=l.length*c
 |[],_=>Ks _
 |a::r,h=>by
  have h1:=h a J9;have ih:=w5 f (l:=r) λx b=>h x (J8 _ b)
  rw[J5,Lf,Ka,Nat.add_mul];omega
theorem nO {t n:Int} (t0:0<=t) (t3:t<=3) (h:eG es rs t=some n):dIx (aM es rs) (.int t)=some (.int n):=by
 obtain⟨m,rfl⟩:∃m:Nat,t=(m:Int):=⟨t.toNat,by omega⟩
 show atI ((List.range 4).map λ(t:Nat)=>cU (eG es rs t)) (m:Int)=_;refine mT ?_;rw[JY,LG (by omega),Ln,h];rfl
theorem pJ (es:List Er) (rs:List Int):aA (aM es rs)=true:=cy λd hd=>by obtain⟨t,_,rfl⟩:=K1.mp hd;exact qX _
structure Ran (es:List Er) (rs:List Int) (rows:List (List Int)) (len:Str):Prop where
 eok:wj es
 rok:je es.length rs
 ln:rows.length=es.length
 le:pB len
def ju (es:List Er) (rs:List Int) (rows:List (List Int)) (len:Str):Option (List PyData):=sP (aM es rs) len 1000000 (startJ es rs rows,[])
section
variable {len:Str} {t:List PyData}
theorem ky (h:wj es) (f:je es.length rs) (hl:rows.length=es.length):wt (aM es rs) (startJ es rs rows):=by
 refine⟨λj g=>?_,by rw[wm];exact Cn _⟩;obtain⟨k,row,hk,_,_,rfl⟩:=cW g;have c:(0:Int)<=(k:Int):=by omega
 have h1:(k:Int)<es.length:=by omega
 have ok:=h.ok _ (gO c h1);have a:0<(fY es (k:Int)).parts.length:=KL.mpr ok.p1;refine⟨a,Ks _,λp b=>(ok.pl p b).1,?_,λp b u e=>?_⟩
 ·have:=len_pos (tops:=.none) (j:=mkJ es rs k row) (λp b=>(ok.pl p b).1) a;show (0:Int)<_;exact LK (by decide) this
 ·obtain⟨i,l⟩:=(ok.pl p b).2.2 u e;have m:(fY es (k:Int)).has u=true:=by unfold Er.has;rw[Lb];exact⟨p,b,by rw[e];exact beq_self_eq_true _⟩
  obtain⟨n,hn⟩:=sY es u rs 0 (k:Int) (f.mem c h1) m;exact⟨n,nO i l hn⟩
theorem zY (R:Ran es rs rows len) (C:Cms es rows):∃t,ju es rs rows len=some t:=by
 have a:=C.mf;refine oa (B:=10000) 1000000 _ [] (ky R.eok R.rok R.ln) (λj b c hc=>?_) ?_
 ·obtain⟨k,row,_,hm,_,rfl⟩:=cW b;have:=(a row hm).hi c hc;omega
 ·have f:wM (startJ es rs rows)<=(startJ es rs rows).length*4800:=w5 Jb.left λj b=>by
   obtain⟨k,row,hk,hm,_,rfl⟩:=cW b;have ok:=R.eok.ok _ (gO (n:=(k:Int)) (by omega) (by have:=R.ln;omega));have h1:=rX λp e=>(ok.pl p e).2.1
   have h2:=ok.p2;have h3:=(a row hm).few;have g:=kL λp e=>(ok.pl p e).1
   unfold Jb.left;rw[lZ];have h5:((mkJ es rs k row).row.length:Int)*(mkJ es rs k row).work<=60*80:=Int.mul_le_mul (by show (row.length:Int)<=60;omega) (by show cA (fY es (k:Int)).parts<=80;omega) g (by decide);omega
  rw[fL]at f;have h6:=R.eok.l6;have h7:=R.ln;show wM (startJ es rs rows)+(10000-0)<1000000;have h8:rows.length*4800<=6*4800:=Nat.mul_le_mul_right _ (by omega);omega
end
def fsJ (j:Jb):List PyData:=[.int j.num,.tuple (j.parts.map a8),.int j.rank,bS j.row]
theorem wq (h:∀j∈js,j.job=0/\j.part=0/\j.spent=0):jz C JN JT as (js.map fsJ)=(as.zip js).map (jD C):=by
 unfold jz;rw[List.zip_map_right,Kb];refine Ke λp c=>?_
 obtain⟨h1,h2,e⟩:=h p.2 (Ll (a:=p.1) (b:=p.2) c).2;show bW C p.1 (JN.zip (fsJ p.2)++tlD JT)=bW C p.1 p.2.fds;unfold Jb.fds;rw[h1,h2,e];rfl
section
variable {len:Str} {t:List PyData}
theorem DC (R:Ran es rs rows len) (c:ju es rs rows len=some t) (hl:as.length=rows.length) (nd:as.Nodup) :
  iF cs aU (aL cs) (cj cs) (aH cs) ff as [some (aR es),some (aT rs),some (cmD rows),some (.str len),some (aM es rs),some (.list ((as.zip (startJ es rs rows)).map (jD cs.Jobs))),none,none,none]=.rt (.list t):=by
 have b:(as.zip (startJ es rs rows)).map (·.1)=as:=List.map_fst_zip (by rw[fL,hl];exact JU _);have a:(as.zip (startJ es rs rows)).map (·.2)=startJ es rs rows:=List.map_snd_zip (by rw[fL,hl];exact JU _);obtain⟨qs',y7,y8,e⟩:=uQ (cs:=cs) (E:=aR es) (R:=aT rs) (W:=cmD rows) (tops:=aM es rs) (len:=len) (as:=as) R.le nd 1000000 (as.zip (startJ es rs rows)) [] t none none
  (by rw[List.length_zip,fL];have:=R.eok.l6;have:=R.ln;omega) b (by rw[a];exact ky R.eok R.rok R.ln) ⟨qQ es,pe rs,nX rows,pJ es rs,cy λd hd=>by cases hd⟩ (by rw[KQ];omega) (by rw[a];exact c)
 have f:jq [6] 6 ah [some (aR es),some (aT rs),some (cmD rows),some (.str len),some (aM es rs),some (.list ((as.zip (startJ es rs rows)).map (jD cs.Jobs))),none,none,none]=.nx (rnD cs.Jobs (aR es) (aT rs) (cmD rows) (aM es rs) len (as.zip (startJ es rs rows)) [] none none):=rfl;show aF (jq [6] 6 ah) (aF (λδ=>bV (rnC cs) (rnB cs as) 1000000 δ) (bw (af 6))) _=_;rw[aP,f];show (match bV (rnC cs) (rnB cs as) 1000000 (rnD cs.Jobs (aR es) (aT rs) (cmD rows) (aM es rs) len (as.zip (startJ es rs rows)) [] none none) with
  |.nx δ'=>bw (af 6) δ'
  |r=>r)=_
 rw[e];rfl
end
def An:PyData->List Int
 |.list xs=>(gU xs).getD []
 |_=>[]
def B8:PyData->List (List Int)
 |.list l=>l.map An
 |_=>[]
theorem A6 (rows:List (List Int)):B8 (cmD rows)=rows:=by
 show (rows.map bS).map An=rows;rw[Kb];have:∀r∈rows,(An∘bS) r=id r:=λr _=>by show (gU (r.map PyData.int)).getD []=r;rw[fK];rfl
 rw[Ke this,KD]
def lenOf:PyData->Str
 |.str s=>s
 |_=>""
def Cc (d r c l:PyData):PyData:=match ju (kG d) (fT r) (B8 c) (lenOf l) with
 |some t=>.list t
 |none=>.none
theorem sQ {len:Str} {t:List PyData} (a:ju es rs rows len=some t):Cc (aR es) (aT rs) (cmD rows) (.str len)=.list t:=by unfold Cc;rw[vO,oj,A6,show lenOf (.str len)=len from rfl,a]
def atD (δ:Ds) (i:Nat):PyData:=((δ[i]?).getD none).getD .none
open Classical in
def jT:Ds->Sr:=λδ=>if ∃es rs rows len t,Ran es rs rows len/\ju es rs rows len=some t/\δ=[some (aR es),some (aT rs),some (cmD rows),some (.str len),some (aM es rs),none,none,none,none] then .rt (Cc (atD δ 0) (atD δ 1) (atD δ 2) (atD δ 3)) else .no
theorem E5 {len:Str} {t:List PyData} (R:Ran es rs rows len) (a:ju es rs rows len=some t):jT [some (aR es),some (aT rs),some (cmD rows),some (.str len),some (aM es rs),none,none,none,none]=.rt (.list t):=by unfold jT;rw[if_pos ⟨es,rs,rows,len,t,R,a,rfl⟩];exact congrArg Sr.rt (sQ a)
theorem Ek (cs:Cs):∀δ,jT δ≠.no->∃d ds a,jT δ=.rt d/\5<δ.length/\δ.length=9/\(eZ (ae (af 2) ah)) (mask [6] δ)=.ok ds/\ds.length<=1000000/\a.length=ds.length/\(∀(i:Nat) d,ds[i]?=some d->∃f fs,dS d=some f/\a[i]?=some fs/\(ae (af 9) (ae (g2 dIx (g2 dIx (af 0) (af 9)) (gC (.int 3))) (ae (vW (af 1) (af 9)) (ae (af 10) ah)))) (mask [6] δ++f)=.ok fs/\fs.length=JN.length) /\
   ∀as:List Addr,as.length=ds.length->as.Nodup->iF cs aU (aL cs) (cj cs) (aH cs) ff as (δ.set 5 (some (.list (jz cs.Jobs JN JT as a))))=.rt d:=by
 intro δ b;by_cases hx:∃es rs rows len t,Ran es rs rows len/\ju es rs rows len=some t/\δ=[some (aR es),some (aT rs),some (cmD rows),some (.str len),some (aM es rs),none,none,none,none]
 ·obtain⟨es,rs,rows,len,t,R,g,rfl⟩:=hx;have hln:=R.ln;refine⟨.list t,fm (rows.map bS),(startJ es rs rows).map fsJ,E5 R g,(by decide:5<9),rfl,rfl,?_,?_,?_,?_⟩
  ·rw[gH,J6];have:=R.eok.l6;omega
  ·rw[gH,J6,J6,fL]
  ·intro i d hd;unfold fm at hd;rw[Kd,JY]at hd;cases q:rows[i]? with
   |none=>rw[q]at hd;cases hd
   |some row =>
    rw[q]at hd;have e:some (PyData.tuple [.int (i:Int),bS row])=some d:=hd;cases e;have hi:=(K5.mp q).1;have h:(0:Int)<=(i:Int):=by omega
    have h1:(i:Int)<es.length:=by omega
    refine⟨[some (.int (i:Int)),some (bS row)],fsJ (mkJ es rs i row),rfl,?_,?_,rfl⟩
    ·rw[JY,jn,q];rfl
    ·have a1:dIx (aR es) (.int (i:Int))=some (fY es (i:Int)).d:=sN h h1;have a2:=IK (fY es (i:Int));have l:=uv (R.rok.mem h h1);show (ae (af 9) (ae (g2 dIx (g2 dIx (af 0) (af 9)) (gC (.int 3))) (ae (vW (af 1) (af 9)) (ae (af 10) ah)))) [some (aR es),some (aT rs),some (cmD rows),some (.str len),some (aM es rs),none,none,none,none,some (.int (i:Int)),some (bS row)]=_;simp only[aE,aI,bQ,aq,aw,c8,Hf,Rs.ag,a1,a2,Rs.ak,aT,l];rfl
  ·intro as c nd;rw[gH,J6]at c;rw[wq λj m=>by obtain⟨k,row,_,_,_,rfl⟩:=cW m;exact⟨rfl,rfl,rfl⟩];exact DC R g c nd
 ·unfold jT at b;rw[if_neg hx]at b;exact absurd rfl b
open Classical in
def dj (cs:Cs):Gf:=λds=>if ∃es rs rows len t,Ran es rs rows len/\ju es rs rows len=some t/\ds=[aR es,aT rs,cmD rows,.str len] then .ok (Cc (ds.getD 0 .none) (ds.getD 1 .none) (ds.getD 2 .none) (ds.getD 3 .none)) else .no
theorem ke {len:Str} {t:List PyData} (R:Ran es rs rows len) (a:ju es rs rows len=some t):dj cs [aR es,aT rs,cmD rows,.str len]=.ok (.list t):=by unfold dj;rw[if_pos ⟨es,rs,rows,len,t,R,a,rfl⟩];exact congrArg Rs.ok (sQ a)
theorem Bk (cs:Cs):∀ds,ds.length=4->dj cs ds≠.no->bq (aF (aQ [6] 4 (ar aU (ae (af 0) (ae (af 1) ah)))) jT (ds.map some++List.replicate 5 none))=dj cs ds:=by
 intro ds hl a;by_cases hx:∃es rs rows len t,Ran es rs rows len/\ju es rs rows len=some t/\ds=[aR es,aT rs,cmD rows,.str len]
 ·obtain⟨es,rs,rows,len,t,R,b,rfl⟩:=hx;rw[ke R b];have c:=g6 (es:=es) (rs:=rs) (by have:=R.eok.l6;omega) (λe f=>(R.eok.ok e f).sh) R.rok;have g:aQ [6] 4 (ar aU (ae (af 0) (ae (af 1) ah))) [some (aR es),some (aT rs),some (cmD rows),some (.str len),none,none,none,none,none]=.nx [some (aR es),some (aT rs),some (cmD rows),some (.str len),some (aM es rs),none,none,none,none]:=by have h:ar aU (ae (af 0) (ae (af 1) ah)) (mask [6] [some (aR es),some (aT rs),some (cmD rows),some (.str len),none,none,none,none,none])=.ok (aM es rs):=c;exact dO (by decide:4<9) h
  show bq (aF (aQ [6] 4 (ar aU (ae (af 0) (ae (af 1) ah)))) jT [some (aR es),some (aT rs),some (cmD rows),some (.str len),none,none,none,none,none])=_;rw[aP,g];simp only;rw[E5 R b];rfl
 ·exfalso;apply a;unfold dj;rw[if_neg hx]
open Classical in
def dk (cs:Cs):Gf:=λds=>if ∃es rs rows len t,Ran es rs rows len/\Cms es rows/\ju es rs rows len=some t/\ds=[aR es,aT rs,cmD rows,.str len] then .ok (Cc (ds.getD 0 .none) (ds.getD 1 .none) (ds.getD 2 .none) (ds.getD 3 .none)) else .no
theorem k9 {len:Str} {t:List PyData} (R:Ran es rs rows len) (C:Cms es rows) (a:ju es rs rows len=some t):dk cs [aR es,aT rs,cmD rows,.str len]=.ok (.list t):=by unfold dk;rw[if_pos ⟨es,rs,rows,len,t,R,C,a,rfl⟩];exact congrArg Rs.ok (sQ a)
theorem IT (cs:Cs):LLq (xh cs (aZ cs) (dj cs) (bo cs) (bx cs)) 4 0 (dk cs):=by
 intro ds hl a;by_cases hx:∃es rs rows len t,Ran es rs rows len/\Cms es rows/\ju es rs rows len=some t/\ds=[aR es,aT rs,cmD rows,.str len]
 ·obtain⟨es,rs,rows,len,t,R,C,b,rfl⟩:=hx;rw[k9 R C b];have k1:=jx cs R.eok.l1 R.eok.l6 R.eok.ok;have k2:=jt cs R.eok.l6 R.rok;have k3:=eK (cs:=cs) R.eok C;have c:=ke (cs:=cs) R b;show bq (xh cs (aZ cs) (dj cs) (bo cs) (bx cs) [some (aR es),some (aT rs),some (cmD rows),some (.str len)])=_;unfold xh;simp only[aP,xt,bD,aE,aI,aq,aw,Rs.ag,k1,k2,k3,c,az,bL,aX]
 ·exfalso;apply a;unfold dk;rw[if_neg hx]
end RS
variable {js:List RS.Jb}
namespace L2
open PySem PySem.Spec PyProof.Rows
end L2
namespace RS
open PySem L2
variable {a:Int} {j:Jb} {tgt:PyData->Ds->Option Ds} {m:Nat}
theorem tO:∀a b:List Int,PyData.eqvAll (a.map PyData.int) (b.map PyData.int)=decide (a=b)
 |[],[]=>by simp[PyData.eqvAll]
 |[],_::_=>by simp[PyData.eqvAll]
 |_::_,[]=>by simp[PyData.eqvAll]
 |x::a,y::b=>by
  have h:(x==y)=decide (x=y):=by by_cases z:x=y <;> simp[z]
  simp[PyData.eqvAll,PyData.eqv,tO a b,h]
theorem CN (a b:List Int):dNe (.list (a.map PyData.int)) (.list (b.map PyData.int))=some (.bool (!decide (a=b))):=by unfold dNe;rw[cy (fM a),cy (fM b),shaped_ints,shaped_ints];simp[PyData.eqv,tO]
def hvS (every late m:Int) (row:List Int):Int:=row.foldl (λm c=>(if c-late>m then c-late else m)+every) m
theorem wN (every late:Int):∀(row:List Int) (m c:Int),hvM every late m row=true->¬ c<(if c-late>hvS every late m row then c-late else hvS every late m row)->hvM every late m (row++[c])=true
 |[],m,c,_,h=>by show (if c<(if c-late>m then c-late else m) then false else true)=true;exact if_neg h
 |a::r,m,c,h1,h=>by
  rw[Ku];unfold hvM at h1 ⊢;by_cases z:a<(if a-late>m then a-late else m)
  ·rw[if_pos z]at h1;cases h1
  ·rw[if_neg z]at h1 ⊢;exact wN every late r _ c h1 h
structure CrI (every late span:Int) (made:List Int) (moment:Int):Prop where
 lo:-late<=moment
 hv:hvM every late (0-late) made=true
 ea:hvS every late (0-late) made<=moment
 la:∀c,made.getLast?=some c->c+1<=moment+late
 c0:∀c∈made,0<=c
 c1:∀c∈made,c<span
theorem Cy {every late moment c:Int} {made:List Int} (h:CrI every late span made moment) (hs:moment+late<span) (e:0<=c) (h1:moment<=c) (h2:c<=moment+late) (he:1<=every) (hl:0<=late) (hx:moment+every<=a):CrI every late span (made++[c]) a:=by
 have b:=h.ea;have hlo:=h.lo;refine⟨by omega,wN every late made _ c h.hv (by split <;> omega),?_,λd hd=>?_,λd hd=>?_,λd hd=>?_⟩
 ·unfold hvS at b ⊢;rw[List.foldl_append];show (if c-late>List.foldl _ _ made then c-late else List.foldl _ _ made)+every<=a;split <;> omega
 ·rw[List.getLast?_concat]at hd;cases hd;omega
 ·rcases Ki.mp hd with hd|hd
  ·exact h.c0 d hd
  ·rw[JW.mp hd];exact e
 ·rcases Ki.mp hd with hd|hd
  ·exact h.c1 d hd
  ·rw[JW.mp hd];omega
theorem AR {every late:Int} {moment:Int} (h:-late<=moment):CrI every late span [] moment:=⟨h,rfl,by show 0-late<=moment;omega,λc hc=>(by cases hc),λc hc=>(by cases hc),λc hc=>(by cases hc)⟩
theorem qm {every late:Int} (hl:late<every) (f:0<=late):∀(row:List Int) (m:Int),hvM every late m row=true->(∀c∈row,m<=c)/\row.Pairwise (· < ·)
 |[],_,_=>⟨λc hc=>(by cases hc),List.Pairwise.nil⟩
 |a::r,m,h=>by
  unfold hvM at h;by_cases z:a<(if a-late>m then a-late else m)
  ·rw[if_pos z]at h;cases h
  ·rw[if_neg z]at h;obtain⟨h1,h2⟩:=qm hl f r _ h;have hm:m<=a:=by split at z <;> omega
   have b:∀c∈r,a<c:=λc hc=>by have:=h1 c hc;split at this <;> omega
   refine⟨λc hc=>?_,Lu.mpr ⟨b,h2⟩⟩;rcases J7.mp hc with e|hc
   ·rw[e];exact hm
   ·have:=b c hc;omega
theorem EA {g:Ds->Rs PyData} {d:PyData} (hi:i<δ.length) (a:g δ=.ok d) (hn:eM d=true):oP i g δ=.nx (δ.set i (some d)):=by unfold oP;rw[if_pos hi,a,az,if_pos hn]
theorem HD (k:Int):eC (.int 104729) (.int k)=some (.int (104729*k)):=rA (by decide) (by decide)
theorem Iu (k:Int):eC (.int 7919) (.int k)=some (.int (7919*k)):=rA (by decide) (by decide)
theorem Ht (a:Int):eC (.int a) (.int 48271)=some (.int (a*48271)):=AG (by decide) (by decide)
theorem Iq (a:Int):dq (.int a) (.int 2147483647)=some (.int (a % 2147483647)):=by rw[qv,if_pos (by decide)]
theorem IG {k:Int} (h0:0<=k) (h1:k<=60):eC (.int a) (.int k)=some (.int (a*k)):=AG (by omega) (by omega)
theorem AW {seed k:Int} (a:af 4 δ=.ok (.int seed)) (b:af 7 δ=.ok (.int k)) (c:0<=k) (h1:k<=60) :
  ∃e:Int,g2 dq (g2 eC (g2 aV (g2 aV (af 4) (g2 eC (g2 eC (gC (.int 104729)) (af 7)) (af 7))) (g2 eC (gC (.int 7919)) (af 7))) (gC (.int 48271))) (gC (.int 2147483647)) δ=.ok (.int e):=by
 generalize hA:(seed+104729*k*k+7919*k)*48271 % 2147483647=A;refine⟨A,?_⟩;rw[bQ,bQ,bQ,bQ,bQ,bQ,bQ];rw[a,b];simp only[c8,Rs.ag,HD,IG c h1,Iu,Ht,Iq,dZ,Rs.ak,hA]
def crC:Ds->Rs Bool:=(Dg (gT (g2 dLt (g2 aV (af 5) (g2 dIx (af 2) (gC (.int 2)))) (af 3))) (gT (g2 dLt (gF b8 (ae (af 6) ah)) (gC (.int 60)))))
def crB:Ds->Sr:=(aF (aQ [6] 8 (g2 dq (g2 eC (g2 aV (g2 aV (af 4) (g2 eC (g2 eC (gC (.int 104729)) (af 7)) (af 7))) (g2 eC (gC (.int 7919)) (af 7))) (gC (.int 48271))) (gC (.int 2147483647))))
 (aF (aQ [6] 9 (gF gK (ae (gC (.int 0)) (ae (g2 aV (af 5) (g2 dq (g2 ik (af 8) (gC (.int 7))) (g2 aV (g2 dIx (af 2) (gC (.int 2))) (gC (.int 1))))) ah))))
 (aF (sIf (gT (g2 dNe (af 6) (mH ah))) (oP 9 (gF gK (ae (af 9) (ae (g2 aV (g2 dIx (af 6) (g1 mF (gC (.int 1)))) (gC (.int 1))) ah)))) bg)
 (aF (jM [6] 6 (af 9))
 (aF (aQ [6] 5 (g2 aV (af 5) (g2 dIx (af 2) (gC (.int 0)))))
 (aF (sIf (gT (g2 dEq (g2 dq (g2 ik (af 8) (gC (.int 61))) (gC (.int 3))) (gC (.int 0)))) (aQ [6] 5 (g2 aV (af 5) (g2 dq (g2 ik (af 8) (gC (.int 997))) (g2 dIx (af 2) (gC (.int 0)))))) bg)
 (aQ [6] 7 (g2 aV (af 7) (gC (.int 1))))))))))
section
variable {e:Er} {S A:PyData} {seed moment:Int} {made:List Int}
def crD (e:Er) (S A:PyData) (span seed moment:Int) (made:List Int) (k:Int) (x8 a:Option PyData):Ds:=[some S,some A,some e.d,some (.int span),some (.int seed),some (.int moment),some (.list (made.map PyData.int)),some (.int k),x8,a]
theorem HU (e:Er):dIx e.d (.int 0)=some (.int e.every):=rfl
theorem FL (e:Er):dIx e.d (.int 2)=some (.int e.late):=rfl
theorem xG {k:Int} {x8 a:Option PyData}:crC (crD e S A span seed moment made k x8 a)=.ok (decide (moment+e.late<span)&&decide (made.length<60)):=by
 have hl:decide (((made.map PyData.int).length:Int)<60)=decide (made.length<60):=by rw[J6];exact decide_eq_decide.mpr (by omega)
 unfold crC crD;simp only[Fe,fH,bQ,f6,aE,aI,aq,aw,c8,Rs.ag,FL,dZ,Hj,j4,Rs.ak,bt,hl];cases decide (moment+e.late<span) <;> simp
theorem DS (ok:e.Ok) (h:CrI e.every e.late span made moment) (C:moment+e.late<span) (hm:made.length<60) (x8 i:Option PyData) :
  ∃c b D E,crB (crD e S A span seed moment made (made.length:Int) x8 i)=.nx (crD e S A span seed b (made++[c]) ((made++[c]).length:Int) D E)/\CrI e.every e.late span (made++[c]) b:=by
 have e1:=ok.e1;have e2:=ok.e2;have l1:=ok.l1;have l2:=ok.l2;have hlo:=h.lo;obtain⟨a,n⟩:=AW (δ:=mask [6] (crD e S A span seed moment made (made.length:Int) x8 i)) (seed:=seed) (k:=(made.length:Int)) rfl rfl (by omega) (by omega);have F:aQ [6] 8 (g2 dq (g2 eC (g2 aV (g2 aV (af 4) (g2 eC (g2 eC (gC (.int 104729)) (af 7)) (af 7))) (g2 eC (gC (.int 7919)) (af 7))) (gC (.int 48271))) (gC (.int 2147483647))) (crD e S A span seed moment made (made.length:Int) x8 i)=.nx (crD e S A span seed moment made (made.length:Int) (some (.int a)) i):=dO (by decide:8<10) n
 -- the first reckoning of the coming
 have G:0<=a / 7 % (e.late+1)/\a / 7 % (e.late+1)<e.late+1:=⟨KR _ (by omega),KW _ (by omega)⟩
 have H:ik (.int a) (.int 7)=some (.int (a / 7)):=by rw[xf,if_pos (by decide)]
 have B:dq (.int (a / 7)) (.int (e.late+1))=some (.int (a / 7 % (e.late+1))):=by rw[qv,if_pos (by omega)]
 generalize a / 7 % (e.late+1)=q at G B;have o:∃c:Int,aQ [6] 9 (gF gK (ae (gC (.int 0)) (ae (g2 aV (af 5) (g2 dq (g2 ik (af 8) (gC (.int 7))) (g2 aV (g2 dIx (af 2) (gC (.int 2))) (gC (.int 1))))) ah))) (crD e S A span seed moment made (made.length:Int) (some (.int a)) i)=.nx (crD e S A span seed moment made (made.length:Int) (some (.int a)) (some (.int c)))/\0<=c/\moment<=c/\c<=moment+e.late:=by refine⟨if moment+q>0 then moment+q else 0,?_,by split <;> omega,by split <;> omega,by split <;> omega⟩;refine dO (by decide:9<10) ?_;show gF gK _ [some S,some A,some e.d,some (.int span),some (.int seed),some (.int moment),none,some (.int (made.length:Int)),some (.int a),i]=_;simp only[f6,aE,aI,bQ,aq,aw,c8,Rs.ag,FL,H,dZ,B,Rs.ak,zF]
 obtain⟨c,o,c0,c1,I⟩:=o
 -- behind the one ahead
 have f:∃c':Int,sIf (gT (g2 dNe (af 6) (mH ah))) (oP 9 (gF gK (ae (af 9) (ae (g2 aV (g2 dIx (af 6) (g1 mF (gC (.int 1)))) (gC (.int 1))) ah)))) bg (crD e S A span seed moment made (made.length:Int) (some (.int a)) (some (.int c)))=.nx (crD e S A span seed moment made (made.length:Int) (some (.int a)) (some (.int c')))/\0<=c'/\moment<=c'/\c'<=moment+e.late:=by
  have p:dNe (.list (made.map PyData.int)) (.list [])=some (.bool (!decide (made=[]))):=CN made [];unfold crD;rw[dF];simp only[fH,bQ,aq,aw,vC,aI,Rs.ag,p,Rs.ak,bt,az];cases hk:made.getLast? with
  |none =>have r:made=[]:=List.getLast?_eq_none_iff.mp hk;rw[r];exact⟨c,rfl,c0,c1,I⟩
  |some l =>
   have r:made≠[]:=λz=>by rw[z]at hk;cases hk
   have hla:=h.la l hk;have s:dIx (.list (made.map PyData.int)) (.int (-1))=some (.int l):=by rw[BF,lS,List.getLast?_map,hk];rfl
   rw[decide_eq_false r];simp only[Bool.not_false,if_true];refine⟨if l+1>c then l+1 else c,?_,by split <;> omega,by split <;> omega,by split <;> omega⟩;refine EA (by decide:9<10) ?_ rfl;simp only[f6,aE,aI,bQ,gG,aq,aw,c8,EL,Rs.ag,s,dZ,Rs.ak,zF]
 obtain⟨c',f,u,v,w⟩:=f;have J:jM [6] 6 (af 9) (crD e S A span seed moment made (made.length:Int) (some (.int a)) (some (.int c')))=.nx (crD e S A span seed moment (made++[c']) (made.length:Int) (some (.int a)) (some (.int c'))):=by show (if (made.map PyData.int).length<1000000 then Sr.nx _ else Sr.no)=_;rw[if_pos (by rw[J6];omega)];unfold crD;rw[Kz];rfl
 have K:aQ [6] 5 (g2 aV (af 5) (g2 dIx (af 2) (gC (.int 0)))) (crD e S A span seed moment (made++[c']) (made.length:Int) (some (.int a)) (some (.int c')))=.nx (crD e S A span seed (moment+e.every) (made++[c']) (made.length:Int) (some (.int a)) (some (.int c'))):=dO (by decide:5<10) rfl;have g:∃j,sIf (gT (g2 dEq (g2 dq (g2 ik (af 8) (gC (.int 61))) (gC (.int 3))) (gC (.int 0)))) (aQ [6] 5 (g2 aV (af 5) (g2 dq (g2 ik (af 8) (gC (.int 997))) (g2 dIx (af 2) (gC (.int 0)))))) bg (crD e S A span seed (moment+e.every) (made++[c']) (made.length:Int) (some (.int a)) (some (.int c')))=.nx (crD e S A span seed j (made++[c']) (made.length:Int) (some (.int a)) (some (.int c')))/\moment+e.every<=j:=by
  have x:ik (.int a) (.int 61)=some (.int (a / 61)):=by rw[xf,if_pos (by decide)]
  have L:dq (.int (a / 61)) (.int 3)=some (.int (a / 61 % 3)):=by rw[qv,if_pos (by decide)]
  have m:ik (.int a) (.int 997)=some (.int (a / 997)):=by rw[xf,if_pos (by decide)]
  have M:dq (.int (a / 997)) (.int e.every)=some (.int (a / 997 % e.every)):=by rw[qv,if_pos (by omega)]
  have hx:0<=a / 997 % e.every:=KR _ (by omega);have hc:gT (g2 dEq (g2 dq (g2 ik (af 8) (gC (.int 61))) (gC (.int 3))) (gC (.int 0))) (crD e S A span seed (moment+e.every) (made++[c']) (made.length:Int) (some (.int a)) (some (.int c')))=.ok (a / 61 % 3==0):=by unfold crD;simp only[fH,bQ,aq,aw,c8,Rs.ag,x,L,Rs.ak,jv,bt]
  rw[dF,hc,az];cases (a / 61 % 3==0) with
  |false=>exact⟨_,rfl,LR _⟩
  |true =>rw[if_pos rfl];refine⟨moment+e.every+a / 997 % e.every,dO (by decide:5<10) ?_,by omega⟩;show g2 aV _ _ [some S,some A,some e.d,some (.int span),some (.int seed),some (.int (moment+e.every)),none,some (.int (made.length:Int)),some (.int a),some (.int c')]=_;simp only[bQ,aq,aw,c8,Rs.ag,HU,m,M,dZ,Rs.ak]
 obtain⟨j,g,y⟩:=g;have N:aQ [6] 7 (g2 aV (af 7) (gC (.int 1))) (crD e S A span seed j (made++[c']) (made.length:Int) (some (.int a)) (some (.int c')))=.nx (crD e S A span seed j (made++[c']) ((made++[c']).length:Int) (some (.int a)) (some (.int c'))):=by
  have hl:((made++[c']).length:Int)=(made.length:Int)+1:=by rw[K0,Kv];omega
  rw[hl];exact dO (by decide:7<10) rfl
 refine⟨c',j,some (.int a),some (.int c'),?_,Cy h C u v w (by omega) l1 y⟩;unfold crB;rw[aP,F];simp only;rw[aP,o];simp only;rw[aP,f];simp only;rw[aP,J];simp only;rw[aP,K];simp only;rw[aP,g];simp only;rw[N]
end
theorem oM {c:Ds->Rs Bool} {b:Ds->Sr} {I:Nat->Ds->Prop} {J:Ds->Prop} (h:∀k δ,I k δ->(c δ=.ok false/\J δ)\/(c δ=.ok true/\∃f,f < k/\∃a,b δ=.nx a/\I f a)):∀(n k:Nat) (δ:Ds),I k δ->k<n->∃a,bV c b n δ=.nx a/\J a
 |0,_,_,_,hn=>by cases hn
 |n+1,k,δ,i,hn=>by
  unfold bV;rcases h k δ i with⟨e,j⟩|⟨e,f,g,a,e2,i'⟩
  ·rw[e,az,if_neg Kf];exact⟨δ,rfl,j⟩
  ·rw[e,az,if_pos rfl,e2];exact oM h n f a i' (K4 g (Nat.le_of_lt_succ hn))
section
variable {e:Er} {S A:PyData} {seed moment:Int} {made:List Int}
theorem Ct (ok:e.Ok) (h:CrI e.every e.late span made moment) (hl:made.length<=60) (hn:60<n) (x8 g:Option PyData) :
  ∃a f i j,bV crC crB n (crD e S A span seed moment made (made.length:Int) x8 g)=.nx (crD e S A span seed f a (a.length:Int) i j)/\CrI e.every e.late span a f/\a.length<=60:=by
 obtain⟨δ',e1,a,f,i,j,rfl,h1,h2⟩:=oM (c:=crC) (b:=crB) (I:=λk δ=>∃made moment x8 g,δ=crD e S A span seed moment made (made.length:Int) x8 g/\CrI e.every e.late span made moment/\made.length<=60/\k=60-made.length)
  (J:=λδ=>∃a f i j,δ=crD e S A span seed f a (a.length:Int) i j/\CrI e.every e.late span a f/\a.length<=60) (λk δ l=>by
   obtain⟨made,moment,x8,g,hd,h,hl,hk⟩:=l;subst hd;by_cases z:moment+e.late<span/\made.length<60
   ·right;refine⟨by rw[xG,decide_eq_true z.1,decide_eq_true z.2];rfl,?_⟩;obtain⟨c,m,i,j,o,h'⟩:=DS (S:=S) (A:=A) (seed:=seed) ok h z.1 z.2 x8 g;have hl2:(made++[c]).length=made.length+1:=by rw[K0,Kv]
    exact⟨60-(made++[c]).length,by omega,_,o,made++[c],m,i,j,rfl,h',by omega,rfl⟩
   ·left;refine⟨?_,made,moment,x8,g,rfl,h,hl⟩;rw[xG];refine congrArg Rs.ok (Bool.eq_false_iff.mpr ?_);rw[Ne,JZ,decide_eq_true_eq,decide_eq_true_eq];exact z) n (60-made.length) _ ⟨made,moment,x8,g,rfl,h,hl,rfl⟩ (by omega)
 exact⟨a,f,i,j,e1,h1,h2⟩
end
def aW (cs:Cs):Gf:=gfG 4 6 (cG cs ai)
theorem lI (cs:Cs):LLq (cG cs ai) 4 6 (aW cs):=gr
theorem pN {e:Er} (ok:e.Ok) (ha:0<=a) (hs:span<=10000):∃row,aW cs [aj ns,.int a,e.d,.int span]=.ok (bS row)/\oz row/\hvE e row=true:=by
 have e1:=ok.e1;have e2:=ok.e2;have b:Bb (.int 10) (.int 9)=some (.int 1000000000):=rfl;have f:=bR (ns:=ns) (k:=a) (many:=1000000000) ha (by decide);have g:dq (.int (mixed ns a 1000000000)) (.int (e.every+2))=some (.int (mixed ns a 1000000000 % (e.every+2))):=by rw[qv,if_pos (by omega)]
 have hm0:0<=mixed ns a 1000000000 % (e.every+2):=KR _ (by omega);generalize mixed ns a 1000000000=seed at *;generalize seed % (e.every+2)=m0 at *;obtain⟨row,m',y8,y9,i,hc,hl⟩:=Ct (e:=e) (S:=aj ns) (A:=.int a) (span:=span) (seed:=seed) (made:=[]) (moment:=m0-e.late) ok (AR (by omega)) (by decide) (n:=1000000) (by decide) none none;refine⟨row,?_,⟨hl,hc.c0,λc h=>by have:=hc.c1 c h;omega⟩,hc.hv⟩;have j:aQ [6] 4 (ar ai (ae (af 0) (ae (af 1) (ae (g2 Bb (gC (.int 10)) (gC (.int 9))) ah)))) [some (aj ns),some (.int a),some e.d,some (.int span),none,none,none,none,none,none]=.nx [some (aj ns),some (.int a),some e.d,some (.int span),some (.int seed),none,none,none,none,none]:=by refine dO (by decide:4<10) ?_;show ar ai _ [some (aj ns),some (.int a),some e.d,some (.int span),none,none,none,none,none,none]=_;simp only[bD,aE,aI,bQ,aq,aw,c8,Rs.ag,b,Rs.ak,f]
 have l:aQ [6] 5 (g2 fA (g2 dq (af 4) (g2 aV (g2 dIx (af 2) (gC (.int 0))) (gC (.int 2)))) (g2 dIx (af 2) (gC (.int 2)))) [some (aj ns),some (.int a),some e.d,some (.int span),some (.int seed),none,none,none,none,none]=.nx [some (aj ns),some (.int a),some e.d,some (.int span),some (.int seed),some (.int (m0-e.late)),none,none,none,none]:=by refine dO (by decide:5<10) ?_;show g2 fA _ _ [some (aj ns),some (.int a),some e.d,some (.int span),some (.int seed),none,none,none,none,none]=_;simp only[bQ,aq,aw,c8,Rs.ag,HU,FL,dZ,g,u6,Rs.ak]
 have m:jq [6] 6 ah [some (aj ns),some (.int a),some e.d,some (.int span),some (.int seed),some (.int (m0-e.late)),none,none,none,none]=.nx [some (aj ns),some (.int a),some e.d,some (.int span),some (.int seed),some (.int (m0-e.late)),some (.list []),none,none,none]:=rfl;have o:aQ [6] 7 (gC (.int 0)) [some (aj ns),some (.int a),some e.d,some (.int span),some (.int seed),some (.int (m0-e.late)),some (.list []),none,none,none]=.nx (crD e (aj ns) (.int a) span seed (m0-e.late) [] (([]:List Int).length:Int) none none):=dO (by decide:7<10) rfl;show bq (cG cs ai [some (aj ns),some (.int a),some e.d,some (.int span),none,none,none,none,none,none])=_;have p:cG cs ai=aF (aQ [6] 4 (ar ai (ae (af 0) (ae (af 1) (ae (g2 Bb (gC (.int 10)) (gC (.int 9))) ah)))))
  (aF (aQ [6] 5 (g2 fA (g2 dq (af 4) (g2 aV (g2 dIx (af 2) (gC (.int 0))) (gC (.int 2)))) (g2 dIx (af 2) (gC (.int 2)))))
  (aF (jq [6] 6 ah) (aF (aQ [6] 7 (gC (.int 0))) (aF (λδ=>bV crC crB 1000000 δ) (bw (af 6)))))):=rfl
 rw[p];rw[aP,j];simp only;rw[aP,l];simp only;rw[aP,m];simp only;rw[aP,o];simp only;rw[aP,i];rfl
def bO (cs:Cs):Gf:=gfG 4 0 (dm cs (aW cs))
theorem pU (cs:Cs):LLq (dm cs (aW cs)) 4 0 (bO cs):=gr
theorem AH:∀{es:List Er} {rows:List (List Int)},rows.length=es.length->(∀(i:Nat) (h:i<es.length) (h':i<rows.length),oz rows[i]/\hvE es[i] rows[i]=true)->Cms es rows
 |[],[],_,_=>.nil
 |[],_::_,h,_=>by cases h
 |_::_,[],h,_=>by cases h
 |e::es,r::rows,h,k=>by have k0:=k 0 (Nat.succ_pos _) (Nat.succ_pos _);refine .cons k0.1 k0.2 (AH (by simpa using h) λi h1 h2=>?_);exact k (i+1) (Nat.succ_lt_succ h1) (Nat.succ_lt_succ h2)
theorem GA (l6:es.length<=6) {a x1:Option PyData} {r:Ds}:gQ (ae (gF b8 (ae (af 2) ah)) ah) (a::x1::some (aR es)::r)=.ok (bF 0 es.length):=by
 have b:=kB (j:=(es.length:Int)) (by omega) (by omega);rw[Kq]at b;have hv:(ae (gF b8 (ae (af 2) ah)) ah) (a::x1::some (aR es)::r)=.ok [.int (es.length:Int)]:=by simp only[aE,aI,f6,aq,aw,Rs.ag,HY,Rs.ak]
 rw[j7,hv,Rs.ag,b]
theorem vp (h:wj es) (ha:0<=a) (g:span<=10000):∃rows,bO cs [aj ns,.int a,aR es,.int span]=.ok (cmD rows)/\Cms es rows:=by
 have j:∀i:Nat,∃row,i<es.length->aW cs [aj ns,.int (a+(i:Int)),(fY es (i:Int)).d,.int span]=.ok (bS row)/\oz row/\hvE (fY es (i:Int)) row=true:=λi=>by
  by_cases z:i<es.length
  ·obtain⟨row,h1⟩:=pN (cs:=cs) (h.ok _ (gO (n:=(i:Int)) (by omega) (by omega))) (ns:=ns) (a:=a+(i:Int)) (span:=span) (by omega) g;exact⟨row,λ_=>h1⟩
  ·exact⟨[],λy=>(z y).elim⟩
 obtain⟨F,c⟩:=Classical.axiomOfChoice j;have l6:=h.l6;refine⟨(List.range es.length).map F,?_,AH (by simp) λi h1 h2=>?_⟩
 ·have m:a9 4 (gQ (ae (gF b8 (ae (af 2) ah)) ah)) bc (ar (aW cs) (ae (af 0) (ae (g2 aV (af 1) (af 4)) (ae (g2 dIx (af 2) (af 4)) (ae (af 3) ah))))) aO [some (aj ns),some (.int a),some (aR es),some (.int span)]=.ok ((bF 0 es.length).map λd=>bS (F (deI d).toNat)):=by
   refine cK rfl ?_ (by rw[cM];omega) λd hd=>?_
   ·exact GA l6
   ·obtain⟨k,f,rfl⟩:=K1.mp hd;have b:=Lv.mp f;have hn:(0:Int)+(k:Int)=(k:Int):=by omega
    have hd2:(deI (.int (k:Int))).toNat=k:=Kq k;have a2:dIx (aR es) (.int (k:Int))=some (fY es (k:Int)).d:=sN (by omega) (by omega);rw[hn,hd2];simp only[Ku,Kt,bD,aE,aI,bQ,aq,aw,Rs.ag,dZ,a2,Rs.ak,(c k b).1]
  show bq (dm cs (aW cs) [some (aj ns),some (.int a),some (aR es),some (.int span)])=_;unfold dm;simp only[bL,pL,m,Rs.ag,az,aX];unfold cmD bF;rw[Kb,Kb];refine congrArg (λl=>Rs.ok (PyData.list l)) (Ke λk f=>?_);show bS (F (deI (.int (0+(k:Int)))).toNat)=bS (F k);rw[show (0:Int)+(k:Int)=(k:Int) by omega,show (deI (.int (k:Int))).toNat=k from Kq k]
 ·have e:=nu (es:=es) (n:=(i:Int)) (by omega) (by omega);rw[Kq,J0 h1]at e;have o:es[i]=fY es (i:Int):=Option.some.inj e;have:=(c i h1).2;rw[List.getElem_map,List.getElem_range,o];exact this
theorem uf {xs:List α} {k:Nat} {v:α} (h:xs[k]?=some v):atI xs (k:Int)=some v:=sL (Lp k) (by rw[Kq];exact h)
structure Sx (js:List Jb):Prop where
 num:∀(i:Nat) (h:i<js.length),js[i].num=(i:Int)
 row:∀j∈js,j.row.length<=1000
 wk:∀j∈js,j.work<=1000
section
variable {S E R D:PyData}
theorem rf {f:PyData->PyData->Option PyData} {a b:Ds->Rs PyData} {x y z:PyData} (ha:a δ=.ok x) (c:b δ=.ok y) (e:f x y=some z):g2 f a b δ=.ok z:=by rw[bQ,ha,Rs.ag,c,Rs.ag,e];rfl
end
def i6 (k:Nat) (l:List PyData):List PyData:=l.mapIdx λi d=>.tuple [.int ((k+i:Nat):Int),d]
theorem yx {body:Ds->Sr} {d:PyData} {r:List PyData} {δ1 a:Ds} (h1:tgt d δ=some δ1) (h2:body δ1=.nx a):forL tgt body (d::r) δ=forL tgt body r a:=by rw[forL,h1];simp only[h2]
theorem jO (k:Nat) (d:PyData) (r:List PyData):i6 k (d::r)=.tuple [.int (k:Int),d]::i6 (k+1) r:=by
 unfold i6;rw[LQ];have a:(λ(i:Nat) (d:PyData)=>PyData.tuple [.int ((k+(i+1):Nat):Int),d])=λi d=>.tuple [.int ((k+1+i:Nat):Int),d]:=by funext i d;rw[show k+(i+1)=k+1+i by omega]
 rw[a];rfl
theorem sV {ks:List Jb} (h:ks.map e9=js.map e9):ks.length=js.length:=by
 have:=congrArg List.length h
 rwa[J6,J6]at this
theorem w6 {ks:List Jb} (h:ks.map e9=js.map e9) (s:Sx js):Sx ks:=by
 have hl:=sV h;have hm:∀k∈ks,∃j∈js,e9 j=e9 k:=λk a=>by have:e9 k∈ks.map e9:=K1.mpr ⟨k,a,rfl⟩;rw[h]at this;exact K1.mp this
 refine⟨λi hi=>?_,λk a=>?_,λk a=>?_⟩
 ·have e:(ks.map e9)[i]?=(js.map e9)[i]?:=by rw[h]
  rw[JY,JY,J0 hi,J0 (hl▸hi)]at e;have e2:e9 ks[i]=e9 (js[i]'(hl▸hi)):=Option.some.inj e;have:=congrArg (·.1) e2;exact this.trans (s.num i (hl▸hi))
 ·obtain⟨j,b,e⟩:=hm k a;have e2:j.row=k.row:=congrArg (·.2.2) e;rw[<-e2];exact s.row j b
 ·obtain⟨j,b,e⟩:=hm k a;have e2:j.parts=k.parts:=congrArg (·.2.1) e;have:=s.wk j b;unfold Jb.work at this ⊢;rw[<-e2];exact this
theorem rF {lt:Nat->Nat->Bool} (a:∀i,lt i i=false) (b:∀i j k,lt i j=true->lt j k=true->lt i k=true):∀(n i:Nat),i<=n->lt i (bst lt n)=false
 |0,i,h=>by
  have:i=0:=by omega
  rw[this];exact a 0
 |n+1,i,h=>by
  unfold bst;cases q:lt (n+1) (bst lt n) with
  |true =>
   rw[if_pos rfl];by_cases z:i=n+1
   ·rw[z];exact a _
   ·have c:=rF a b n i (by omega);cases y:lt i (n+1) with
    |false=>rfl
    |true=>rw[b _ _ _ y q]at c;cases c
  |false =>
   rw[if_neg Kf];by_cases z:i=n+1
   ·rw[z];exact q
   ·exact rF a b n i (by omega)
theorem GL (d:PyData):ltD d d=false:=by
 have h:∀l:List Int,HT.lexLt l l=false:=λl=>by
  induction l with
  |nil=>rfl
  |cons a r ih=>show (if a=a then HT.lexLt r r else _)=false;rw[if_pos rfl,ih]
 unfold ltD;split
 ·rename_i e1 e2;rw[e1]at e2;cases e2;exact h _
 ·rfl
theorem Aa:∀a b c:List Int,HT.lexLt a b=true->HT.lexLt b c=true->HT.lexLt a c=true
 |[],[],_,h,_=>by cases h
 |[],_::_,[],_,h=>by cases h
 |[],_::_,_::_,_,_=>rfl
 |_::_,[],_,h,_=>by cases h
 |_::_,_::_,[],_,h=>by cases h
 |x::a,y::b,z::c,h1,h2=>by
  have h1:(if x=y then HT.lexLt a b else decide (x<y))=true:=h1;have h2:(if y=z then HT.lexLt b c else decide (y<z))=true:=h2;show (if x=z then HT.lexLt a c else decide (x<z))=true;by_cases e1:x=y
  ·rw[if_pos e1]at h1;by_cases e2:y=z
   ·rw[if_pos e2]at h2;rw[if_pos (e1.trans e2)];exact Aa a b c h1 h2
   ·rw[if_neg e2]at h2;rw[if_neg (λq=>e2 (e1.symm.trans q)),e1];exact h2
  ·rw[if_neg e1]at h1;have l1:=of_decide_eq_true h1;by_cases e2:y=z
   ·rw[if_neg (λq=>e1 (q.trans e2.symm)),<-e2];exact h1
   ·rw[if_neg e2]at h2;have l2:=of_decide_eq_true h2;rw[if_neg (by omega)];exact decide_eq_true (by omega)
theorem GK (a b c:PyData) (h1:ltD a b=true) (h2:ltD b c=true):ltD a c=true:=by
 unfold ltD at h1 h2 ⊢;cases ka:jZ a with
 |none=>rw[ka]at h1;cases h1
 |some p =>
  cases kb:jZ b with
  |none=>rw[ka,kb]at h1;cases h1
  |some q =>
   cases kc:jZ c with
   |none=>rw[kb,kc]at h2;cases h2
   |some r =>rw[ka,kb]at h1;rw[kb,kc]at h2;exact Aa _ _ _ h1 h2
theorem qZ {key:Jb->PyData} (c:js≠[]) (e:j∈js):ltD (key j) (key (g0 key js))=false:=by
 have hl:0<js.length:=KL.mpr c;have hm:=rF (lt:=λi j=>ltD ((js.map key).getD i .none) ((js.map key).getD j .none)) (λi=>GL _) (λi j k=>GK _ _ _) (js.length-1);have hb:=rP (λi j=>ltD ((js.map key).getD i .none) ((js.map key).getD j .none)) (js.length-1);obtain⟨i,hi,rfl⟩:=Lk e;have h1:=hm i (by omega);have b:iW (js.map key)=bst (λi j=>ltD ((js.map key).getD i .none) ((js.map key).getD j .none)) (js.length-1):=by unfold iW;rw[J6]
 have a:iW (js.map key)<js.length:=by rw[b];omega
 have e1:(js.map key).getD i .none=key js[i]:=by rw[K6,JY,J0 hi];rfl
 have e2:(js.map key).getD (iW (js.map key)) .none=key (g0 key js):=by unfold g0;rw[K6,JY,J0 a,K6,J0 a];rfl
 rw[<-b]at h1;rw[e1,e2]at h1;exact h1
theorem DD (a b c d:Int):ltD (.tuple [.int a,.int b]) (.tuple [.int c,.int d])=if a=c then (if b=d then false else decide (b<d)) else decide (a<c):=rfl
theorem zX (h:js≠[]):js.filter (gm js)≠[]:=by
 have hn:=nR (ts:=js.map λj=>((0:Addr),j)) (by simpa using h);have hm:(js.map λj=>((0:Addr),j)).map (·.2)=js:=by rw[Kb];exact KD js
 rw[hm]at hn;obtain⟨p,r,e⟩:=Le hn;have a:p∈(js.map λj=>((0:Addr),j)).filter (λp=>gm js p.2):=by rw[e];exact J9
 obtain⟨h1,h2⟩:=Kk.mp a;obtain⟨j,b,rfl⟩:=K1.mp h1;exact LJ (Kk.mpr ⟨b,h2⟩)
theorem ya (h:j.held=some T):iq tops j=.tuple [.int (if mG tops T<j.rank then mG tops T else j.rank),.int 0]:=by unfold iq;rw[h]
theorem yf (h:j.held=none):iq tops j=.tuple [.int j.rank,.int 1]:=by unfold iq;rw[h]
theorem yl {len:Str} {ts:List Jb} (g:ts≠[]) (c:(cF tops len ts).spent=0) (e:(cF tops len ts).tool=some T) (a:mG tops T<=(cF tops len ts).rank):∀j∈ts,j.held≠some T:=by
 intro j h i;unfold cF at c e a;split at c
 ·rename_i z;rw[if_pos z]at e a;have hm:=qZ (key:=iq tops) g h;have l:(g0 (iq tops) ts).held=none:=by unfold Jb.held;rw[if_pos c]
  rw[ya i,yf l,DD]at hm;generalize (g0 (iq tops) ts).rank=r at *;generalize mG tops T=u at *;by_cases q:(if u<j.rank then u else j.rank)=r
  ·rw[if_pos q]at hm;revert hm;decide
  ·rw[if_neg q]at hm;have:=of_decide_eq_false hm;split at this <;> split at q <;> omega
 ·rename_i z;rw[if_neg z]at e;have f:=(Kk.mp (lF (key:=Ej (if (len==("asked":Str))=true then qu ts else [])) (zX g))).2;generalize g0 (Ej (if (len==("asked":Str))=true then qu ts else [])) (ts.filter (gm ts))=b at *;have hw:b.wanted=some T:=by unfold Jb.wanted;rw[if_pos c,e]
  unfold gm nE at f;rw[hw]at f;have hn:ts.find? (λk=>k.held==some T)=none:=Option.isNone_iff_eq_none.mp f;have:=LI.mp hn j h;rw[i]at this;exact this (beq_self_eq_true _)
theorem l7 {t:Int} (e:IvJ tops t js) (f:j∈js) (hs:j.spent≠0):j.there t=true:=by
 cases ht:j.there t with
 |true=>rfl
 |false =>
  have h:=e.ok.ok j f;have hl:=e.low j f;have hc:jU j.row t<=j.job:=by
   by_cases z:j.job<j.row.length
   ·unfold Jb.there at ht;rw[J0 z]at ht;have:=of_decide_eq_false ht;exact wR z (e.srt j f) (by omega)
   ·have:=BP j.row t;omega
  obtain⟨c0,c1⟩:=nG h;have:=KS (a:=(jU j.row t:Int)) (b:=(j.job:Int)) (c:=j.work) (by omega) (by omega);have h2:=kL (ps:=j.parts.take j.part) λq g=>h.ln q (List.mem_of_mem_take g)
  unfold iI Jb.tot Jb.cur at hl;omega
theorem qH (h:JOk tops j) (e:j.next.held=some T):j.tool=some T:=by
 unfold Jb.next Jb.step1 at e;by_cases z:(j.spent:Int)+1=j.len
 ·rw[if_pos z]at e;unfold Jb.step2 at e;split at e
  ·unfold Jb.held at e;rw[if_pos rfl]at e;cases e
  ·unfold Jb.held at e;rw[if_pos rfl]at e;cases e
 ·rw[if_neg z]at e;unfold Jb.step2 at e;rw[if_neg (show ¬ ({ j with spent:=j.spent+1 }:Jb).part=({ j with spent:=j.spent+1 }:Jb).parts.length from JX h.pt)]at e;unfold Jb.held at e;rw[if_neg (show ¬ ({ j with spent:=j.spent+1 }:Jb).spent=0 from Nat.succ_ne_zero _)]at e;exact e
theorem qU (h:j.held=some T):j.tool=some T/\j.spent≠0:=by
 unfold Jb.held at h;by_cases z:j.spent=0
 ·rw[if_pos z]at h;cases h
 ·rw[if_neg z]at h;exact⟨h,z⟩
theorem kZ (j:Jb):j.next.rank=j.rank:=by unfold Jb.next Jb.step1 Jb.step2;split <;> split <;> rfl
structure HvJ (tops:PyData) (js:List Jb):Prop where
 one:∀i∈js,∀j∈js,∀T,i.held=some T->j.held=some T->i.num=j.num
 top:∀j∈js,∀p∈j.parts,∀T,p.2=some T->mG tops T<=j.rank
theorem kW {b k:Jb} (a:k∈de b js):(k∈js/\k.num≠b.num)\/k=b.next:=by
 obtain⟨j,c,rfl⟩:=K1.mp a;by_cases z:j.num=b.num
 ·right;exact if_pos z
 ·left;rw[if_neg z];exact⟨c,z⟩
theorem rh (h:JOk tops j) (b:j.tool=some T):∃p∈j.parts,p.2=some T:=by have a:=h.pt;unfold Jb.tool at b;rw[J0 a]at b;exact⟨_,Kr a,b⟩
theorem xY {len:Str} {told:List PyData} (f:IvJ tops (told.length:Int) js) (hv:HvJ tops js) (z:bP told js≠[]) (a:(cF tops len (bP told js)).tool=some T):∀j∈js,j.held=some T->j.num=(cF tops len (bP told js)).num:=by
 obtain⟨hm,hth⟩:=Kk.mp (fJ (tops:=tops) (len:=len) z);intro j b c;obtain⟨h1,h2⟩:=qU c;by_cases y:(cF tops len (bP told js)).spent=0
 ·obtain⟨p,g,e⟩:=rh (f.ok.ok _ hm) a;exact (yl z y a (hv.top _ hm p g T e) j (Kk.mpr ⟨b,l7 f b h2⟩) c).elim
 ·exact hv.one j b _ hm T c (by unfold Jb.held;rw[if_neg y];exact a)
theorem DT {len:Str} {told:List PyData} (f:IvJ tops (told.length:Int) js) (hv:HvJ tops js):HvJ tops (cz tops len (js,told)).1:=by
 by_cases z:bP told js=[]
 ·rw[jl z];exact hv
 ·have e:cz tops len (js,told)=(de (cF tops len (bP told js)) js,told++[fX (cF tops len (bP told js))]):=by unfold cz;exact if_neg z
  have hm:cF tops len (bP told js)∈js:=(Kk.mp (fJ (tops:=tops) (len:=len) z)).1;have a:=λT l=>xY (len:=len) (T:=T) f hv z l
  rw[e];generalize cF tops len (bP told js)=b at *;refine⟨λi hi j c T h1 h2=>?_,λj c p g T e=>?_⟩
  ·rcases kW hi with⟨hi,m⟩|rfl
   ·rcases kW c with⟨c,h⟩|rfl
    ·exact hv.one i hi j c T h1 h2
    ·exact (m (a T (qH (f.ok.ok b hm) h2) i hi h1)).elim
   ·rcases kW c with⟨c,h⟩|rfl
    ·exact (h (a T (qH (f.ok.ok b hm) h1) j c h2)).elim
    ·rfl
  ·rcases kC hm c with c|rfl
   ·exact hv.top j c p g T e
   ·rw[ia]at g;rw[kZ];exact hv.top b hm p g T e
section
end
theorem eV {f:Gf} {a:Ds->Rs (List PyData)} {d:PyData} (ha:a δ=.ok ds) (b:f ds=.ok d):ar f a δ=.ok d:=by rw[bD,ha,Rs.ag,b]
theorem iw {a b:Ds->Sr} {c:Ds} (h:a δ=.nx c):aF a b δ=b c:=by rw[aP,h]
theorem G0 {body:Ds->Sr} (h:src (mask O δ)=.ok ds):iy O src tgt body δ=forL tgt body ds δ:=by rw[su,h,az]
theorem Cms.sorted (h:Cms es rows) (ok:∀e∈es,e.Ok):∀r∈rows,r.Pairwise (· < ·):=by
 induction h with
 |nil=>intro r a;cases a
 |cons a hv _ ih =>
  intro b h';rcases J7.mp h' with rfl|h'
  ·have o:=ok _ J9;exact (qm o.l3 o.l1 _ _ hv).2
  ·exact ih (λe c=>ok e (J8 _ c)) b h'
section
variable {len:Str}
theorem B6 (h:i<(startJ es rs rows).length):∃row,(startJ es rs rows)[i]=mkJ es rs i row:=by
 have e:=jn (es:=es) (rs:=rs) (rows:=rows) i;rw[J0 h]at e;cases q:rows[i]? with
 |none=>rw[q]at e;cases e
 |some row=>rw[q]at e;exact⟨row,Option.some.inj e⟩
theorem zJ (R:Ran es rs rows len) (C:Cms es rows):IvJ (aM es rs) ((([]:List PyData).length:Nat):Int) (startJ es rs rows):=by
 refine⟨ky R.eok R.rok R.ln,λj a=>?_,λj a=>?_⟩
 ·obtain⟨k,row,_,hm,_,rfl⟩:=cW a;exact C.sorted R.eok.ok row hm
 ·have hw:=nG ((ky R.eok R.rok R.ln).ok j a);obtain⟨k,row,_,hm,_,rfl⟩:=cW a;unfold iI;rw[lZ];have:=Int.mul_nonneg (Lp (jU (mkJ es rs k row).row ((([]:List PyData).length:Nat):Int))) (show 0<=(mkJ es rs k row).work by omega);omega
theorem Bv (R:Ran es rs rows len) (C:Cms es rows):Sx (startJ es rs rows):=by
 refine⟨λi hi=>?_,λj a=>?_,λj a=>?_⟩
 ·obtain⟨row,e⟩:=B6 hi;rw[e];rfl
 ·obtain⟨k,row,_,hm,_,rfl⟩:=cW a;have:=(C.mf row hm).few;show row.length<=1000;omega
 ·obtain⟨k,row,hk,hm,_,rfl⟩:=cW a;have ok:=R.eok.ok _ (gO (n:=(k:Int)) (by omega) (by have:=R.ln;omega));have h1:=rX λp b=>(ok.pl p b).2.1
  have h2:=ok.p2;show cA (fY es (k:Int)).parts<=1000;omega
end
theorem CH:PySem.SeqAt.shaped (.str "none")=true:=by decide +kernel
theorem Cm (ns:List Int):∃len,dIx (.list [.str "high",.str "asked",.str "none"]) (.int (mixed ns 10 3))=some (.str len)/\pB len:=by
 have h0:=bZ ns 10 (many:=3) (by decide);have h1:=cp ns 10 (many:=3) (by decide);generalize mixed ns 10 3=m at *;have:m=0\/m=1\/m=2:=by omega
 rcases this with rfl|rfl|rfl
 ·exact⟨"high",rfl,⟨wL⟩⟩
 ·exact⟨"asked",rfl,⟨uu⟩⟩
 ·exact⟨"none",rfl,⟨CH⟩⟩
def stJ (tops:PyData) (len:Str) (js:List Jb):Nat->List Jb×List PyData
 |0=>(js,[])
 |i+1=>cz tops len (stJ tops len js i)
section
variable {len:Str}
theorem eF:∀i,(stJ tops len js i).2.length=i
 |0=>rfl
 |i+1=>by show (cz tops len _).2.length=_;rw[uh,eF i]
theorem oH {b:Jb}:∀{js:List Jb},(js.map (·.num)).Nodup->b∈js->(de b js).map (·.rank)=js.map (·.rank)
 |[],_,a=>(nomatch a)
 |j::r,nd,a=>by
  rcases lE nd a with⟨f,e⟩|⟨_,c,e⟩
  ·rw[e,J5,J5,f,kZ]
  ·rw[J5,Kp]at nd;rw[e,J5,J5,oH nd.2 c]
theorem rm (a:IvJ tops 0 js) (hv:HvJ tops js):∀i:Nat,IvJ tops (i:Int) (stJ tops len js i).1/\HvJ tops (stJ tops len js i).1/\(stJ tops len js i).1.map e9=js.map e9/\(stJ tops len js i).1.map (·.rank)=js.map (·.rank)
 |0=>⟨a,hv,rfl,rfl⟩
 |i+1=>by
  obtain⟨h1,h2,g,h⟩:=rm a hv i;have hl:=eF (tops:=tops) (len:=len) (js:=js) i;have h1:IvJ tops ((stJ tops len js i).2.length:Int) (stJ tops len js i).1:=by rw[hl];exact h1
  have q:=Eo (len:=len) h1;have c:=DT (len:=len) h1 h2;have e:cz tops len ((stJ tops len js i).1,(stJ tops len js i).2)=stJ tops len js (i+1):=rfl;rw[e]at q c;rw[eF]at q;refine⟨q,c,?_,?_⟩
  all_goals
   rw[<-e];by_cases z:bP (stJ tops len js i).2 (stJ tops len js i).1=[]
   ·rw[jl z];assumption
   ·obtain⟨b,f,_,e2⟩:=kY (tops:=tops) (len:=len) z;rw[e2]
    first|exact (qO h1.ok.nd f).trans g|exact (oH h1.ok.nd f).trans h
end
structure Trc (tops:PyData) (n:Nat) (q:Nat->Nat->Jb) (who:Nat->Option Nat):Prop where
 lt:∀{i m:Nat},who i=some m->m<n
 on:∀{i m},who i=some m->q m (i+1)=(q m i).next
 off:∀{i m},m<n->who i≠some m->q m (i+1)=q m i
 ok:∀{m} i,m<n->JOk tops (q m i)
 thr:∀{i m:Nat},who i=some m->(q m i).there (i:Int)=true
 idl:∀{i m:Nat},who i=none->m<n->(q m i).there (i:Int)=false
 srt:∀{m} i,m<n->(q m i).row.Pairwise (· < ·)
 low:∀{m:Nat} (i:Nat),m<n->0<=iI (i:Int) (q m i)
 spt:∀{m:Nat} (i:Nat),m<n->(q m i).spent≠0->(q m i).there (i:Int)=true
 tp:∀{m:Nat} (i:Nat) {T:Int},m<n->(q m i).held=some T->mG tops T<=(q m i).rank
 num:∀{m:Nat} (i:Nat),m<n->(q m i).num=(m:Int)
section
variable {q:Nat->Nat->Jb} {who:Nat->Option Nat}
theorem Trc.stay (R:Trc tops n q who) (hm:m<n):∀i,(q m i).parts=(q m 0).parts/\(q m i).row=(q m 0).row/\(q m i).rank=(q m 0).rank
 |0=>⟨rfl,rfl,rfl⟩
 |i+1=>by
  have h:=R.stay hm i;by_cases w:who i=some m
  ·rw[R.on w,ia,gZ,kZ];exact h
  ·rw[R.off hm w];exact h
theorem Trc.tot1 (R:Trc tops n q who) (hm:m<n):(q m (i+1)).tot=(q m i).tot+(if who i=some m then 1 else 0):=by
 by_cases w:who i=some m
 ·rw[R.on w,if_pos w,pj (R.ok i hm)]
 ·rw[R.off hm w,if_neg w];omega
theorem Trc.wk (R:Trc tops n q who) (hm:m<n) (i:Nat):(q m i).work=(q m 0).work:=by unfold Jb.work;rw[(R.stay hm i).1]
theorem Trc.wpos (R:Trc tops n q who) (hm:m<n) (i:Nat):0<(q m i).work:=by have:=nG (R.ok i hm);omega
theorem Trc.job_tot (R:Trc tops n q who) (hm:m<n) (i:Nat):((q m i).job:Int)=(q m i).tot / (q m 0).work:=by rw[<-R.wk hm i];exact (DN (R.ok i hm)).symm
end
def qJ (tops:PyData) (len:Str) (js:List Jb) (m i:Nat):Jb:=(stJ tops len js i).1.getD m default
def thA (tops:PyData) (len:Str) (js:List Jb) (i:Nat):List Jb:=bP (stJ tops len js i).2 (stJ tops len js i).1
open Classical in
def pH (tops:PyData) (len:Str) (js:List Jb) (i:Nat):Option Nat:=if thA tops len js i=[] then none else some (cF tops len (thA tops len js i)).num.toNat
section
variable {len:Str}
theorem jG (h:m<(stJ tops len js i).1.length):qJ tops len js m i=(stJ tops len js i).1[m]:=by unfold qJ;rw[K6,J0 h];rfl
theorem sR (a:IvJ tops 0 js) (hv:HvJ tops js) (i:Nat):(stJ tops len js i).1.length=js.length:=sV (rm a hv i).2.2.1
theorem q9 (h:j∈thA tops len js i):j∈(stJ tops len js i).1/\j.there (i:Int)=true:=by have:=Kk.mp h;rw[eF]at this;exact this
theorem gX (b:IvJ tops 0 js) (hv:HvJ tops js) (c:Sx js) (h:pH tops len js i=some m):m<js.length/\thA tops len js i≠[]/\qJ tops len js m i=cF tops len (thA tops len js i):=by
 unfold pH at h;split at h
 ·cases h
 ·rename_i z;have hm:=(q9 (fJ (tops:=tops) (len:=len) z)).1;obtain⟨k,a,e⟩:=Lk hm;have hn:=(w6 (rm b hv i).2.2.1 c).num k a;rw[e]at hn;have:m=k:=by injection h with h;omega
  subst this;exact⟨by rw[<-sR b hv i];exact a,z,by rw[jG a,e]⟩
theorem xk (i:Nat):(stJ tops len js (i+1)).1=if thA tops len js i=[] then (stJ tops len js i).1 else de (cF tops len (thA tops len js i)) (stJ tops len js i).1:=by show (cz tops len (stJ tops len js i)).1=_;unfold cz thA;split <;> rfl
theorem D8 {T:Nat} (h:i<T):(stJ tops len js T).2[i]?=some (if thA tops len js i=[] then .none else fX (cF tops len (thA tops len js i))):=by
 induction h with
 |refl =>show (cz tops len (stJ tops len js i)).2[i]?=_;unfold cz thA;split <;> (show (_++[_])[i]?=_;rw[Kc (by rw[eF];omega),eF,Nat.sub_self];rfl)
 |step a ih =>
  rename_i T;have hl:=eF (tops:=tops) (len:=len) (js:=js) T;have:(stJ tops len js (T+1)).2[i]?=(stJ tops len js T).2[i]?:=by show (cz tops len (stJ tops len js T)).2[i]?=_;unfold cz;have a:i<T:=a;split <;> (show (_++[_])[i]?=_;rw[K8 (by omega)])
  rw[this,ih]
theorem G6 (a:IvJ tops 0 js) (hv:HvJ tops js) (c:Sx js):Trc tops js.length (qJ tops len js) (pH tops len js):=by
 have inv:=λi=>rm (len:=len) a hv i
 have f:=λi=>sR (len:=len) a hv i
 have mem:∀{m} i,m<js.length->qJ tops len js m i∈(stJ tops len js i).1:=λ{m} i h=>by
  have hm:m<(stJ tops len js i).1.length:=by rw[f];exact h
  rw[jG hm];exact Kr hm
 have num:∀{m} i,m<js.length->(qJ tops len js m i).num=(m:Int):=λ{m} i h=>by
  have hm:m<(stJ tops len js i).1.length:=by rw[f];exact h
  rw[jG hm];exact (w6 (inv i).2.2.1 c).num m hm
 have iv':∀i,IvJ tops ((stJ tops len js i).2.length:Int) (stJ tops len js i).1:=λi=>by rw[eF];exact (inv i).1
 refine⟨λh=>(gX a hv c h).1,λ{i m} h=>?_,λ{i m} hm h=>?_,λ{m} i h=>(inv i).1.ok.ok _ (mem i h),λ{i m} h=>?_,λ{i m} h hm=>?_,λ{m} i h=>(inv i).1.srt _ (mem i h),λ{m} i h=>(inv i).1.low _ (mem i h),λ{m} i h hs=>l7 (inv i).1 (mem i h) hs,λ{m} i {T} h ht=>?_,λ{m} i h=>num i h⟩
 ·obtain⟨hm,z,e⟩:=gX a hv c h;have h1:m<(stJ tops len js (i+1)).1.length:=by rw[f];exact hm
  have b:m<(stJ tops len js i).1.length:=by rw[f];exact hm
  have e1:qJ tops len js m (i+1)=(de (cF tops len (thA tops len js i)) (stJ tops len js i).1).getD m default:=by unfold qJ;rw[xk,if_neg z]
  rw[e1,<-e];unfold de;rw[K6,JY,J0 b,<-jG b];simp
 ·unfold qJ;rw[xk];split
  ·rfl
  ·rename_i z;have b:m<(stJ tops len js i).1.length:=by rw[f];exact hm
   have hn:=num i hm;rw[jG b]at hn;have hw:pH tops len js i=some (cF tops len (thA tops len js i)).num.toNat:=by unfold pH;rw[if_neg z]
   have hw':=gX a hv c hw;have g:¬ (stJ tops len js i).1[m].num=(cF tops len (thA tops len js i)).num:=λe=>h (by rw[hw,<-e,hn];rfl)
   unfold de;rw[K6,JY,J0 b,K6,J0 b];simp[g]
 ·obtain⟨hm,z,e⟩:=gX a hv c h;rw[e];exact (q9 (fJ z)).2
 ·unfold pH at h;split at h
  ·rename_i z;by_cases t:(qJ tops len js m i).there (i:Int)=true
   ·have:qJ tops len js m i∈thA tops len js i:=Kk.mpr ⟨mem i hm,by rw[eF];exact t⟩;rw[z]at this;cases this
   ·simpa using t
  ·cases h
 ·obtain⟨h1,h2⟩:=qU ht;obtain⟨p,j,e⟩:=rh ((inv i).1.ok.ok _ (mem i h)) h1;exact (inv i).2.1.top _ (mem i h) p j T e
theorem CA (a:IvJ tops 0 js) (hv:HvJ tops js) (c:Sx js) {p:Nat} (h:pH tops "high" js i=some m) (f:p<js.length) (t:(qJ tops "high" js p i).there (i:Int)=true):ltD (iq tops (qJ tops "high" js p i)) (iq tops (qJ tops "high" js m i))=false:=by
 obtain⟨hm,z,e⟩:=gX a hv c h;have b:p<(stJ tops "high" js i).1.length:=by rw[sR a hv];exact f
 have:qJ tops "high" js p i∈thA tops "high" js i:=Kk.mpr ⟨by rw[jG b];exact Kr b,by rw[eF];exact t⟩;rw[e];have e2:cF tops "high" (thA tops "high" js i)=g0 (iq tops) (thA tops "high" js i):=by unfold cF;exact if_pos (by decide)
 rw[e2];exact qZ z this
end
def IA (tops:PyData) (n:Nat) (q:Nat->Nat->Jb) (who:Nat->Option Nat):Prop:=∀{i m p:Nat},who i=some m->p<n->(q p i).there (i:Int)=true->ltD (iq tops (q p i)) (iq tops (q m i))=false
section
variable {q:Nat->Nat->Jb} {who:Nat->Option Nat}
end
section
variable {q:Nat->Nat->Jb} {who:Nat->Option Nat}
end
section
variable {q:Nat->Nat->Jb} {who:Nat->Option Nat}
theorem Trc.passed (R:Trc tops n q who) (hm:m<n) {B:Nat} {v:Int}:∀(d:Nat),(q m B).tot<v->v<=(q m (B+d)).tot->∃t,B<=t/\t<B+d/\who t=some m/\(q m t).tot=v-1
 |0,h1,h2=>by rw[Nat.add_zero]at h2;omega
 |d+1,h1,h2=>by
  by_cases h:v<=(q m (B+d)).tot
  ·obtain⟨t,a1,a2,a⟩:=R.passed hm d h1 h;exact⟨t,a1,by omega,a⟩
  ·have:=R.tot1 (i:=B+d) hm;have h2:v<=(q m (B+d+1)).tot:=h2;by_cases w:who (B+d)=some m
   ·rw[if_pos w]at this;exact⟨B+d,by omega,by omega,w,by omega⟩
   ·rw[if_neg w]at this;omega
end
theorem gY (l:PTl) (k:Int×Int) (v:Int) (a:Int×Int):eJ (kx l k v) a=if a=k then some v else eJ l a:=by
 unfold kx;by_cases ha:(l.any λp=>decide (p.1=k))=true
 ·rw[if_pos ha];unfold eJ
  induction l with
  |nil=>cases ha
  |cons p r ih =>
   rw[J5];by_cases z:p.1=k
   ·rw[if_pos z,Ko,Ko];by_cases y:a=k
    ·rw[if_pos y];have:decide (p.1=a)=true:=decide_eq_true (by rw[z,y]);simp only[this];rfl
    ·rw[if_neg y];have:decide (p.1=a)=false:=decide_eq_false λq=>y (q.symm.trans z)
     simp only[this];cases b:(r.any λp=>decide (p.1=k)) with
     |true=>rw[ih b,if_neg y]
     |false =>
      have:r.map (λp=>if p.1=k then (p.1,v) else p)=r:=by
       have h:∀q∈r,(λp:(Int×Int)×Int=>if p.1=k then (p.1,v) else p) q=id q:=λq c=>if_neg λe=>by have:=List.any_eq_false.mp b q c;exact this (decide_eq_true e)
       rw[Ke h,KD]
      rw[this]
   ·rw[if_neg z,Ko,Ko];have b:(r.any λp=>decide (p.1=k))=true:=by rw[L0,decide_eq_false z,Bool.false_or]at ha;exact ha
    by_cases y:p.1=a
    ·simp only[decide_eq_true y];rw[if_neg λq=>z (y.trans q)]
    ·simp only[decide_eq_false y];exact ih b
 ·rw[if_neg ha];unfold eJ;rw[List.find?_append];by_cases y:a=k
  ·rw[if_pos y];have:l.find? (λp=>decide (p.1=a))=none:=LI.mpr λp f q=>ha (Lb.mpr ⟨p,f,by rw[<-y];exact q⟩)
   rw[this,y];show ((([(k,v)]:PTl).find? λp=>decide (p.1=k))).map (·.2)=_;rw[Ko];simp
  ·rw[if_neg y];have:([(k,v)]:PTl).find? (λp=>decide (p.1=a))=none:=by
    rw[Ko];have:decide (k=a)=false:=decide_eq_false λq=>y q.symm
    simp only[this];rfl
   rw[this,Option.or_none]
def lQ (d:PyData):Prop:=d=.none\/∃k:Int×Int,d=.tuple [.int k.1,.int k.2]
def endsF:Nat->List PyData->PTl->PTl
 |_,[],l=>l
 |i,d::r,l=>endsF (i+1) r (match fq d with
  |some k=>kx l k ((i:Int)+1)
  |none=>l)
theorem ue {k:Int×Int}:∀(t:List PyData) (i:Nat) (l:PTl),((∃(j:Nat) (d:PyData),t[j]?=some d/\fq d=some k)\/∃v,eJ l k=some v)->∃v,eJ (endsF i t l) k=some v
 |[],i,l,h=>by
  rcases h with⟨j,d,h,_⟩|h
  ·simp at h
  ·exact h
 |d::r,i,l,h=>by
  unfold endsF;refine ue r (i+1) _ ?_;rcases h with⟨j,e,h1,h2⟩|⟨v,h⟩
  ·cases j with
   |zero =>cases h1;right;rw[h2];exact⟨_,by show eJ (kx l k _) k=_;rw[gY,if_pos rfl]⟩
   |succ j=>exact .inl ⟨j,e,h1,h2⟩
  ·right;split
   ·rename_i k0 hk;rw[gY];split
    ·exact⟨_,rfl⟩
    ·exact⟨v,h⟩
   ·exact⟨v,h⟩
theorem BO (l:PTl) (k:Int×Int) (v:Int):(kx l k v).length<=l.length+1:=by unfold kx;split <;> simp
def anD (W D:PyData) (l:PTl) (x3 x4:Option PyData):Ds:=[some W,some D,some (dtD l),x3,x4]
def anB:Ds->Sr:=sIf (gT (g1 ji (af 4))) (lp 2 (af 4) (g2 aV (af 3) (gC (.int 1)))) bg
theorem Dj {W D d:PyData} {l:PTl} (hd:lQ d) (hl:l.length<1000000):anB (anD W D l (some (.int (i:Int))) (some d))=.nx (anD W D (match fq d with
  |some k=>kx l k ((i:Int)+1)
  |none=>l) (some (.int (i:Int))) (some d)):=by
 rcases hd with rfl|⟨k,rfl⟩
 ·rfl
 ·have e:anB (anD W D l (some (.int (i:Int))) (some (.tuple [.int k.1,.int k.2])))=lp 2 (af 4) (g2 aV (af 3) (gC (.int 1))) (anD W D l (some (.int (i:Int))) (some (.tuple [.int k.1,.int k.2]))):=rfl;rw[e];unfold lp;show (match vX (dtD l) with
   |some l=>_
   |none=>_)=_
  rw[wW];show (if l.length<1000000 then _ else _)=_;rw[if_pos hl];rfl
theorem xK {W D:PyData}:∀(t:List PyData) (i:Nat) (l:PTl) (x3 x4:Option PyData),(∀d∈t,lQ d)->l.length+t.length<1000000->∃a b,forL (gj [3,4]) anB (i6 i t) (anD W D l x3 x4)=.nx (anD W D (endsF i t l) a b)
 |[],i,l,x3,x4,_,_=>⟨x3,x4,rfl⟩
 |d::r,i,l,x3,x4,h,hl=>by
  rw[Ka]at hl;rw[jO,yx (δ1:=anD W D l (some (.int (i:Int))) (some d)) rfl (Dj (h d J9) (by omega))];refine xK r (i+1) _ _ _ (λe c=>h e (J8 _ c)) ?_;split
  ·have:=BO l ‹_› ((i:Int)+1);omega
  ·omega
theorem qA {α:Type} {f:α->PyData} {elt:Ds->Rs PyData} {δ:Ds} {g:Nat->α->PyData}:∀(l:List α) (i:Nat),(∀(j:Nat) a,l[j]?=some a->elt (δ++[some (.int ((i+j:Nat):Int)),some (f a)])=.ok (g (i+j) a))->cJ bc elt dS δ (i6 i (l.map f))=.ok (l.mapIdx λj a=>g (i+j) a)
 |[],_,_=>rfl
 |a::r,i,h=>by
  have e:=qA r (i+1) λj b m=>by have:=h (j+1) b m;rw[show i+(j+1)=i+1+j by omega]at this;exact this
  rw[J5,jO];unfold cJ;have c:=h 0 a rfl;rw[Nat.add_zero]at c;simp only[dS,bc,Rs.b9,Rs.ag,if_true,c,e];rw[LQ,Nat.add_zero];congr 3;funext j b;rw[show i+(j+1)=i+1+j by omega]
theorem sy (l:List PyData):fm l=i6 0 l:=by unfold fm i6;congr 1;funext i d;rw[KP]
theorem og {f:α->PyData} {elt:Ds->Rs PyData} {g:Nat->α->PyData} {l:List α} (hn:δ.length=n0) (b:src δ=.ok (fm (l.map f))) (hl:l.length<=1000000) (h:∀(j:Nat) a,l[j]?=some a->elt (δ++[some (.int (j:Int)),some (f a)])=.ok (g j a)):a9 n0 src bc elt dS δ=.ok (l.mapIdx g):=by
 unfold a9;rw[if_pos hn,b,Rs.ag,if_pos (by rw[gH,J6];exact hl),sy];have:=qA (f:=f) (elt:=elt) (δ:=δ) (g:=g) l 0 λj a e=>by rw[KP];exact h j a e
 rw[this];congr 2;funext j a;rw[KP]
theorem nh (h:δ[i]?=some (some (.list ds))) (hl:ds.length<=1000000):eZ (ae (af i) ah) δ=.ok (fm ds):=by
 have e:af i δ=.ok (.list ds):=by unfold af;rw[h]
 unfold eZ;rw[aE,e,aI];rfl
def cw (cs:Cs):Gf:=gfG 3 0 (eh cs)
def uV (l:PTl) (n k:Nat) (c:Int):PyData:=.int ((eJ l ((n:Int),(k:Int))).getD 0-c)
theorem pW {l:PTl} (hl:row.length<=1000) (h:∀k,k<row.length->∃v,eJ l ((n:Int),(k:Int))=some v):cw cs [.int (n:Int),bS row,dtD l]=.ok (.list (row.mapIdx (uV l n))):=by
 have b:a9 3 (eZ (ae (af 1) ah)) bc (g2 fA (A5 (af 2) (fZ (ae (af 0) (ae (af 3) ah)))) (af 4)) dS [some (.int (n:Int)),some (bS row),some (dtD l)]=.ok (row.mapIdx (uV l n)):=by
  refine og (f:=PyData.int) rfl (nh rfl (by rw[J6];omega)) (by omega) λj a e=>?_
  obtain⟨v,hv⟩:=h j (K5.mp e).1;have h1:A5 (af 2) (fZ (ae (af 0) (ae (af 3) ah))) [some (.int (n:Int)),some (bS row),some (dtD l),some (.int (j:Int)),some (.int a)]=.ok (.int v):=by
   show (match vX (dtD l),fq (.tuple [.int (n:Int),.int (j:Int)]) with
    |some l,some k=>(match eJ l k with
     |some v=>Rs.ok (PyData.int v)
     |none=>.no)
    |_,_=>.no)=_
   rw[wW];show (match eJ l ((n:Int),(j:Int)) with
     |some v=>Rs.ok (PyData.int v)
     |none=>.no)=_
   rw[hv]
  show g2 fA _ (af 4) [some (.int (n:Int)),some (bS row),some (dtD l),some (.int (j:Int)),some (.int a)]=_;rw[rf (x:=.int v) (y:=.int a) (z:=.int (v-a)) h1 rfl rfl];unfold uV;rw[hv];rfl
 show bq (eh cs [some (.int (n:Int)),some (bS row),some (dtD l)])=_;unfold eh;simp only[bL,pL,b,Rs.ag,az,aX]
def cx (cs:Cs):Gf:=gfG 2 3 (eo cs (cw cs))
theorem pR {t:List PyData} (hr:rows.length<=1000) (hl:∀r∈rows,r.length<=1000) (i:∀d∈t,lQ d) (tl:t.length<1000000) (h:∀(n:Nat) (row:List Int),rows[n]?=some row->∀k,k<row.length->∃v,eJ (endsF 0 t []) ((n:Int),(k:Int))=some v) :
  cx cs [cmD rows,.list t]=.ok (.list (rows.mapIdx λn row=>.list (row.mapIdx (uV (endsF 0 t []) n)))):=by
 show bq (eo cs (cw cs) [some (cmD rows),some (.list t),none,none,none])=_;unfold eo;have e1:wK 2 [some (cmD rows),some (.list t),none,none,none]=.nx (anD (cmD rows) (.list t) [] none none):=rfl;rw[iw e1];obtain⟨b,c,e2⟩:=xK (W:=cmD rows) (D:=.list t) t 0 [] none none i (by simpa using tl);have g:iy [2] (eZ (ae (af 1) ah)) (gj [3,4]) anB (anD (cmD rows) (.list t) [] none none)=.nx (anD (cmD rows) (.list t) (endsF 0 t []) b c):=by rw[G0 (ds:=fm t) (nh rfl (by omega)),sy,e2]
 unfold anB at g;rw[iw g];have l:a9 5 (eZ (ae (af 0) ah)) bc (ar (cw cs) (ae (af 5) (ae (af 6) (ae (af 2) ah)))) dS (anD (cmD rows) (.list t) (endsF 0 t []) b c)=.ok (rows.mapIdx λn row=>.list (row.mapIdx (uV (endsF 0 t []) n))):=by
  refine og (f:=bS) rfl (nh rfl (by rw[J6];omega)) (by omega) λj a e=>?_
  exact eV rfl (pW (hl a (Kn e)) (h j a e))
 simp only[bL,pL,l,Rs.ag,az,aX]
theorem BN {len:Str} (R:Ran es rs rows len):HvJ (aM es rs) (startJ es rs rows):=by
 refine⟨λi hi j f T h1 h2=>?_,λj f p g T e=>?_⟩
 ·obtain⟨k,row,_,_,_,rfl⟩:=cW hi;cases h1
 ·obtain⟨k,row,hk,_,_,rfl⟩:=cW f;have hln:=R.ln;have h:(0:Int)<=(k:Int):=by omega
  have h1:(k:Int)<es.length:=by omega
  have ok:=R.eok.ok _ (gO h h1);obtain⟨l,m⟩:=(ok.pl p g).2.2 T e;have o:(fY es (k:Int)).has T=true:=by unfold Er.has;rw[Lb];exact⟨p,g,by rw[e];exact beq_self_eq_true _⟩
  have hm:=R.rok.mem h h1;have a:=wy hm;have b:rs[placeOf rs (k:Int)]?=some (k:Int):=by have:=List.findIdx_getElem (xs:=rs) (p:=(·==(k:Int))) (w:=a);rw[J0 a];exact congrArg some (eq_of_beq this)
  have c:(k:Int)∈rs.take (placeOf rs (k:Int)+1):=by rw[List.take_succ,b];exact JS _ J9
  obtain⟨n,hn,hle⟩:=(Cb es T rs 0 (placeOf rs (k:Int))).mpr ⟨(k:Int),c,o⟩;have:mG (aM es rs) T=n:=by unfold mG;rw[nO l m hn]
  rw[this];show n<=(placeOf rs (k:Int):Int);omega
structure Top (f:Int->Int) (T:Int):Prop where
 fix:f T=T
 one:1<=T
 low:∀s,1<=s->s<T->¬ f s<=s
section
variable {E Rr N h:PyData} {f:Int->Int} {most:Int}
end
theorem wY {tops:PyData} {len:Str} {js:List Jb} {out:List PyData}:∀(n k:Nat),sP tops len n (stJ tops len js k)=some out->∃T,k<=T/\T<k+n/\out=(stJ tops len js T).2/\(stJ tops len js T).1.all Jb.done=true
 |0,k,h=>by cases h
 |n+1,k,h=>by
  unfold sP at h;split at h
  ·rename_i hd;cases h;exact⟨k,JU _,by omega,rfl,hd⟩
  ·obtain⟨T,h1,h2,a,b⟩:=wY n (k+1) h;exact⟨T,by omega,by omega,a,b⟩
section
variable {len:Str} {t:List PyData}
theorem CM (R:Ran es rs rows len) (C:Cms es rows) (c:ju es rs rows len=some t) :
  ∃q who T,Trc (aM es rs) es.length q who/\(len="high"->IA (aM es rs) es.length q who)/\(∀m,m<es.length->∃row,rows[m]?=some row/\q m 0=mkJ es rs m row)/\t.length=T/\T<1000000 /\
   (∀i,i<T->t[i]?=some (match who i with
    |some m=>fX (q m i)
    |none=>.none))/\∀m,m<es.length->(q m T).job=(q m T).row.length:=by
 have b:IvJ (aM es rs) 0 (startJ es rs rows):=zJ R C;have hv:=BN R;have f:=Bv R C;have hl:(startJ es rs rows).length=es.length:=by rw[fL,R.ln]
 have c:sP (aM es rs) len 1000000 (stJ (aM es rs) len (startJ es rs rows) 0)=some t:=c;obtain⟨T,_,h2,g,l⟩:=wY 1000000 0 c;have h:=G6 (len:=len) b hv f;rw[hl]at h;refine⟨qJ (aM es rs) len (startJ es rs rows),pH (aM es rs) len (startJ es rs rows),T,h,λe {i m p} w hp th=>?_,λm hm=>?_,by rw[g,eF],by omega,λi hi=>?_,λm hm=>?_⟩
 ·subst e;exact CA b hv f w (by rw[hl];exact hp) th
 ·have a:m<rows.length:=by rw[R.ln];exact hm
  refine⟨rows[m],J0 a,?_⟩;unfold qJ;show (startJ es rs rows).getD m default=_;rw[K6,jn,J0 a];rfl
 ·rw[g,D8 hi];cases w:pH (aM es rs) len (startJ es rs rows) i with
  |none =>
   unfold pH at w;split at w
   ·rename_i z;rw[if_pos z]
   ·cases w
  |some m =>obtain⟨_,z,e⟩:=gX b hv f w;rw[if_neg z];show _=some (fX (qJ _ _ _ m i));rw[e]
 ·have j:m<(stJ (aM es rs) len (startJ es rs rows) T).1.length:=by rw[sR b hv,hl];exact hm
  rw[jG j];have:=K9.mp l _ (Kr j);unfold Jb.done at this;have:=eq_of_beq this;omega
end
section
variable {len:Str} {t:List PyData}
theorem lV (j:Jb):fq (fX j)=some (j.num,(j.job:Int)):=rfl
theorem Trc.told {q:Nat->Nat->Jb} {who:Nat->Option Nat} (R:Trc tops n q who) {t:List PyData} {T:Nat} (g:∀i,i<T->t[i]?=some (match who i with
    |some m=>fX (q m i)
    |none=>.none)) (hl:t.length=T) (h:∀m,m<n->(q m 0).tot=0) (l:∀m,m<n->(q m T).job=(q m T).row.length) {a:Nat} (ha:a<n) {k:Nat} (hk:k<(q a 0).row.length) :
  (∃(j:Nat) (d:PyData),t[j]?=some d/\fq d=some ((a:Int),(k:Int)))/\∀(j:Nat) (d:PyData),t[j]?=some d->fq d=some ((a:Int),(k:Int))->(q a j).tot<((k:Int)+1)*(q a 0).work:=by
 have wp:=R.wpos ha 0;constructor
 ·have h1:((k:Int)+1)*(q a 0).work<=(q a T).tot:=by have e:(q a T).tot=((q a T).job:Int)*(q a T).work+(q a T).cur:=rfl;have cb:=nG (R.ok T ha);rw[R.wk ha T,l a ha,(R.stay ha T).2.1]at e;have:=KS (a:=(k:Int)+1) (b:=((q a 0).row.length:Int)) (c:=(q a 0).work) (by omega) (by omega);omega
  have hkn:0<=(k:Int)*(q a 0).work:=Int.mul_nonneg (by omega) (by omega);have h2:(k:Int)*(q a 0).work+1<=(q a T).tot:=by rw[Int.add_mul]at h1;omega
  obtain⟨i,_,hi,w,e⟩:=R.passed ha (B:=0) (v:=(k:Int)*(q a 0).work+1) T (by rw[h a ha];omega) (by rw[KP];exact h2);rw[KP]at hi;have:=g i hi;rw[w]at this;refine⟨i,_,this,?_⟩;show fq (fX (q a i))=_;rw[lV,R.num i ha,R.job_tot ha i,e];rw[show (k:Int)*(q a 0).work+1-1=(k:Int)*(q a 0).work by omega,Int.mul_ediv_cancel _ (by omega)]
 ·intro j d hd f;have o:j<T:=by rw[<-hl];exact (K5.mp hd).1
  rw[g j o]at hd;cases w:who j with
  |none=>rw[w]at hd;cases hd;cases f
  |some m =>
   rw[w]at hd;cases hd;rw[lV]at f;have e1:=Option.some.inj f;have hm:=R.lt w;have e2:=congrArg Prod.fst e1;have p:=congrArg Prod.snd e1;simp only at e2 p;rw[R.num j hm]at e2;have:m=a:=by omega
   subst this;have:=vM (R.ok j hm) (k:=k+1) (by omega);rw[R.wk hm j]at this;rw[show ((k+1:Nat):Int)=(k:Int)+1 by omega]at this;exact this
end
end RS
set_option maxHeartbeats 4000000
namespace L2
open PySem PySem.Spec PyProof.Rows
variable {f:Nat}
abbrev liD (ns:List Int):PyData:=.list (ns.map .int)
abbrev iO (nss:List (List Int)):PyData:=.list (nss.map liD)
structure k8 (H:Hp) (D:Addr) (bs:List Addr) (nss:List (List Int)):Prop where
 hd:H D=some (.lst (bs.map V.ref))
 nd:(D::bs).Nodup
 len:bs.length=nss.length
 get:∀(i:Nat) b ns,bs[i]?=some b->nss[i]?=some ns->H b=some (.lst (ns.map V.int))
theorem k8.same {bs:List Addr} (N:k8 H D bs nss) (s:ao H H'):k8 H' D bs nss:=⟨s _ _ N.hd,N.nd,N.len,λi b ns h1 h2=>s _ _ (N.get i b ns h1 h2)⟩
theorem k8.own {bs:List Addr} (N:k8 H D bs nss):Ls H (D::bs):=λa ha=>by
 rcases J7.mp ha with z|z
 ·exact⟨_,by rw[z];exact N.hd,rfl⟩
 ·obtain⟨i,hi,e⟩:=List.mem_iff_getElem.mp z;have b:i<nss.length:=by rw[<-N.len];exact hi
  exact⟨_,N.get i a nss[i] (by rw[<-e];exact J0 hi) (J0 b),rfl⟩
theorem tF {K:PySem.W.Frag} {H:Hp}:∀{bs:List Addr} {nss:List (List Int)},bs.length=nss.length->(∀(i:Nat) b ns,bs[i]?=some b->nss[i]?=some ns->H b=some (.lst (ns.map V.int)))->Iss K H (nss.map liD) (bs.map V.ref)
 |[],[],_,_=>cq
 |b::bs,ns::nss,hl,h=>bT (gx (h 0 b ns rfl rfl) (nz ns)) (tF (by simpa using hl) λi b ns h1 h2=>h (i+1) b ns h1 h2)
 |[],_::_,hl,_=>by cases hl
 |_::_,[],hl,_=>by cases hl
theorem k8.is {bs:List Addr} (N:k8 H D bs nss) (c:∀a∈D::bs,a∉A):Is K (del H A) (iO nss) (.ref D) :=
 gx (by rw[aB (c D J9)];exact N.hd) (tF N.len λi b ns h1 h2=>by rw[aB (c b (J8 _ (Kn h1)))];exact N.get i b ns h1 h2)
theorem md {K:PySem.W.Frag} {H:Hp}:∀{ns:List Int} {xs:List V},Iss K H (ns.map PyData.int) xs->xs=ns.map V.int
 |[],xs,h=>h.nil_of
 |n::ns,xs,h=>by obtain⟨v,r,rfl,h1,h2⟩:=Iss.cons_of h;rw[h1.ofInt,md h2];rfl
def lN (K:PySem.W.Frag) (E:XK) (n0:Nat) (gi gs:Ds->Rs (List PyData)) (tgt:PyData->Option Ds):TE:=λσ H Q=>∃A δ,cT K H A δ σ/\δ.length=n0/\∃ds nss,gi δ=.ok ds/\ds.length<=1000000/\nss.length=ds.length /\
 (∀(i:Nat) d,ds[i]?=some d->∃b ns,tgt d=some b/\nss[i]?=some ns/\gs (δ++b)=.ok (ns.map .int)) /\
 ∀(bs:List Addr) (D:Addr) (H':Hp),k8 H' D bs nss->(∀a∈D::bs,H a=none)->ao H H'->Q (.ref D) H'
theorem F8 {E:XK} {own:List Str} {g:TG} {tt:TT} (hT:TgD K n0 own.length tgt g) (Z:∀σ H Q,cD K E0 bc σ H Q->tt σ H Q) :
  ∀σ H Q,lN K E n0 gi gs tgt σ H Q->tLC own.length (iD K E gi) g tt (lD K E0 gs) σ H Q:=by
 intro σ H Q ⟨A,δ,R,hn0,ds,nss,q,hz,F,hel,o⟩;have hσ:σ.length=n0:=by rw[<-R.len];exact hn0
 refine⟨A,δ,R,?_⟩;rw[q];intro J H1 S hJ D G;have T:=R.same S;have nD:D∉A:=T.ls.new G;refine⟨λi m ys H'=>m=ds.length-i/\i<=ds.length/\ao H1 H'/\H' D=some (.lst ys)/\∃bs:List Addr,bs.length=i/\ys=bs.map V.ref/\bs.Nodup/\(∀a∈bs,H1 a=none/\a≠D/\∃u,H' a=some u)/\∀(k:Nat) b ns,bs[k]?=some b->nss[k]?=some ns->H' b=some (.lst (ns.map V.int)),
  ⟨ds.length,by simp,Ks _,bp G,ay,[],rfl,rfl,Lw,λa h=>(K7 h).elim,λk b ns h=>by cases h⟩,?_⟩
 rintro i m ys H' ⟨rfl,hi,C,hl,bs,l,rfl,nd,f,c3⟩
 refine⟨hl,?_⟩;have sG:ao (del H1 A) H':=av.trans C;have I:∀b∈D::A,(del H1 A) b=none:=λb n=>by
  rcases J7.mp n with z|z
  ·rw[z,aB nD];exact G
  ·exact eQ z
 obtain⟨jg,js,jy⟩:=hJ H' (D::A) sG (λb n=>by
  rcases J7.mp n with z|z
  ·exact⟨_,by rw[z];exact hl,rfl⟩
  ·exact (T.ls.same C) b z) I
 by_cases hlt:i<ds.length
 ·refine .inr ⟨jg i hlt,λx H2 σ' L y=>?_⟩;obtain⟨s2,d,ed,hd⟩:=jy i x H2 hlt y;obtain⟨U,ns,et,ef,eg⟩:=hel i d ed;have l2:H2 D=some (.lst (bs.map V.ref)):=s2 _ _ hl;have M:Ls H2 (D::A):=λb n=>by
   rcases J7.mp n with z|z
   ·exact⟨_,by rw[z];exact l2,rfl⟩
   ·exact (T.ls.same (C.trans s2)) b z
  obtain⟨hol,hgo⟩:=hT d x σ σ' H2 (D::A) (λr H2=>tt r H2 λb H3 =>
   if b=true then lD K E0 gs r H3 λv H4=>H4 D=some (.lst (bs.map V.ref))/\(bs.map V.ref).length<sizeLine/\(∃j,r=σ++j/\j.length=own.length)/\∃m',m' < ds.length-i/\_
   else (∃j,r=σ++j/\j.length=own.length)/\∃m',m' < ds.length-i/\_) U hσ L M hd et
  refine hgo λvs N O=>?_
  have P:ao (del H1 A) (del H2 (D::A)):=jo (sG.trans s2) I;have RE:cT K H2 (D::A) (δ++U) (σ++vs):=by
   refine⟨M,by rw[K0,K0,R.len,N,hol],λk e X=>?_⟩;by_cases hk:k<δ.length
   ·rw[K8 hk]at X;obtain⟨u,e1,w⟩:=T.get k e X;exact⟨u,by rw[K8 (by rw[<-R.len];exact hk)];exact e1,w.same P⟩
   ·rw[Kc (by omega)]at X;obtain⟨u,e1,w⟩:=O _ e X;exact⟨u,by rw[Kc (by rw[<-R.len];omega),<-R.len];exact e1,w⟩
  refine Z _ _ _ ⟨D::A,δ++U,RE,?_⟩;intro H3 s;have hI:∀{p q:Prop},p->(if true=true then p else q):=λh=>by rw[if_pos rfl];exact h
  refine hI ⟨D::A,δ++U,RE.same s,?_⟩;rw[eg];intro a xs H4 na Y ha hx;cases md hx;have l4:H4 D=some (.lst (bs.map V.ref)):=Y _ _ (s _ _ l2);have B:a≠D:=λz=>by rw[z,s _ _ l2]at na;cases na
  have naA:a∉bs:=λz=>by obtain⟨_,_,u,w⟩:=f a z;rw[s _ _ (s2 _ _ w)]at na;cases na
  have hlt2:i<nss.length:=by rw[F];exact hlt
  refine⟨l4,by rw[sizeLine_eq,J6,l];omega,⟨vs,rfl,N⟩,ds.length-(i+1),by omega,rfl,hlt,?_,ay,bs++[a],by rw[K0,l];rfl,by rw[Kz];rfl,?_,λb n=>?_,λk b ms h1 h2=>?_⟩
  ·exact ao.put (((C.trans s2).trans s).trans Y) G
  ·exact Ly.mpr ⟨nd,by simp,λb n c hc e=>by rw[JW.mp hc]at e;exact naA (e▸n)⟩
  ·rcases Ki.mp n with z|z
   ·obtain⟨h1,h2,u,w⟩:=f b z;exact⟨h1,h2,u,by rw[au h2];exact Y _ _ (s _ _ (s2 _ _ w))⟩
   ·cases JW.mp z;exact⟨((C.trans s2).trans s).free na,B,_,by rw[au B];exact ha⟩
  ·by_cases hk:k<bs.length
   ·rw[K8 hk]at h1;have nb:=(f b (Kn h1)).2.1;rw[au nb];exact Y _ _ (s _ _ (s2 _ _ (c3 k b ms h1 h2)))
   ·rw[Kc (by omega)]at h1;have:k=i:=by have:=(K5.mp h1).1;simp at this;omega
    subst this;rw[l,Nat.sub_self]at h1;cases h1;rw[ef]at h2;cases h2;rw[au B];exact ha
 ·have e:i=ds.length:=by omega
  refine .inl ⟨by rw[e];exact js,o bs D H' ⟨hl,Kp.mpr ⟨λz=>(f D z).2.1 rfl,nd⟩,by rw[l,F,e],c3⟩ (λa ha=>?_) (S.trans C)⟩;rcases J7.mp ha with z|z
  ·rw[z];exact S.free G
  ·exact S.free (f a z).1
theorem mq {f:Nat} {H:Hp} {Q b:St->Hp->Prop}:∀(is:List Nat) (vs:List V) (σ:St),f∉is->lz is vs σ H Q->(∀a,Q a H->a[f]?=σ[f]?->b a H)->lz is vs σ H b
 |[],vs,σ,_,h,k=>⟨h.1,k σ h.2 rfl⟩
 |i::is,vs,σ,hf,⟨v,r,e,h⟩,k=>⟨v,r,e,mq is r _ (λz=>hf (J8 _ z)) h λa q z=>k a q (z.trans (Kg λw=>hf (by rw[w];exact J9)))⟩
def TgF (K:PySem.W.Frag) (f:Nat) (tgt:PyData->Ds->Option Ds) (g:TG):Prop:=∀(d:PyData) (v:V) (H0:Hp) (A0:List Addr) (H:Hp) (A:List Addr) (δ b:Ds) (σ:St) (Q:St->Hp->Prop),bf K H0 A0 H A [] δ σ->Is K (del H (A++A0)) d v->tgt d δ=some b ->
 (∀a,bf K H0 A0 H A [] b a->a[f]?=σ[f]?->Q a H)->g v σ H Q
theorem Dm {is:List Nat} (hi:f∉is):TgF K f (gj is) (L2.De K is.length (lz is)):=λd v H0 A0 H A δ b σ Q R h e k=>by
 obtain⟨p,xs,e1,h1,h2,g⟩:=xM (O:=[]) (is:=is) (λ_ _=>K7) d v H0 A0 H A δ b σ (λa _=>bf K H0 A0 H A [] b a) R h e λa c=>c
 exact⟨p,xs,e1,h1,h2,mq is xs σ hi g λa c z=>k a c z⟩
section
theorem bf.hide (R:bf K H0 A0 H A [] δ σ) (s:ao H H') (hn:∀a∈B,H a=none) (hB:Ls H' B):bf K H0 A0 H' (B++A) [] (δ.set f none) (σ.set f (some v)) where
 same:=R.same.trans s
 ls0:=R.ls0
 new:=λa ha=>(Ki.mp ha).elim (λz=>R.same.free (hn a z)) (R.new a)
 ls:=λa ha=>(Ki.mp ha).elim (hB a) ((R.ls.same s) a)
 len:=by simp[R.len]
 pl:=λi d hi e=>by
  rcases get_set e with⟨z,e⟩|⟨z,e⟩
  ·cases e
  ·obtain⟨u,e1,h1⟩:=R.pl i d hi e;refine⟨u,ib z e1,h1.same λb o q=>?_⟩;obtain⟨y,q⟩:=aS q;rw[aB (λw=>?_)]
   ·exact s _ _ q
   ·rcases Ki.mp w with w|w
    ·rcases Ki.mp w with w|w
     ·rw[hn b w]at q;cases q
     ·exact y (Kl _ w)
    ·exact y (JS _ w)
 own:=λi d hi=>by cases hi
 inj:=λi j d e a hi=>by cases hi
theorem bf.hid (R:bf K H0 A0 H A [] δ σ) (f:b∈A) (g:DW o=true):bf K H0 A0 (upd H b o) A [] δ σ where
 same:=λc u e=>by
  have h:c≠b:=λz=>by rw[z,R.new b f]at e;cases e
  rw[au h];exact R.same c u e
 ls0:=R.ls0
 new:=R.new
 ls:=λc hc=>by
  by_cases z:c=b
  ·exact⟨_,by rw[z,ay],g⟩
  ·rw[au z];exact R.ls c hc
 len:=R.len
 pl:=λi d hi e=>by rw[hV (Kl _ f)];exact R.pl i d hi e
 own:=λi d hi=>by cases hi
 inj:=λi j d e a hi=>by cases hi
theorem bf.show {b:PyData} (R:bf K H0 A0 H A [] δ σ) (c:σ[f]?=some (some v)) (h:Is K (del H A0) b v):bf K H0 A0 H [] [] (δ.set f (some b)) σ where
 same:=R.same
 ls0:=R.ls0
 new:=λa h=>by cases h
 ls:=λa h=>by cases h
 len:=by simp[R.len]
 pl:=λi d hi e=>by
  rcases get_set e with⟨z,e⟩|⟨z,e⟩
  ·cases e;subst z;exact⟨v,c,h⟩
  ·obtain⟨u,e1,h1⟩:=R.pl i d hi e;exact⟨u,e1,h1.same nP⟩
 own:=λi d hi=>by cases hi
 inj:=λi j d e a hi=>by cases hi
end
def put2 (nss:List (List Int)) (i j z:Int):Option (List (List Int)):=(ixN nss.length i).bind λk=>nss[k]?.bind λns=>(ixN ns.length j).bind λl=>some (nss.set k (ns.set l z))
theorem CW {i j z:Int} (h:put2 nss i j z=some n'):∃k ns l,ixN nss.length i=some k/\nss[k]?=some ns/\ixN ns.length j=some l/\n'=nss.set k (ns.set l z):=by unfold put2 at h;obtain⟨k,e1,h⟩:=KG.mp h;obtain⟨ns,e2,h⟩:=KG.mp h;obtain⟨l,a,h⟩:=KG.mp h;exact⟨k,ns,l,e1,e2,a,(Option.some.inj h).symm⟩
def nV (g1 g2 gv:Ds->Rs PyData) (δ:Ds) (n:List (List Int)):Option (List (List Int)):=match gv δ,g1 δ,g2 δ with
 |.ok (.int z),.ok (.int i),.ok (.int j)=>put2 n i j z
 |_,_,_=>none
theorem zP {g1 g2:Ds->Rs PyData} {n:List (List Int)} (h:nV g1 g2 gv δ n=some n'):∃z i j,gv δ=.ok (.int z)/\g1 δ=.ok (.int i)/\g2 δ=.ok (.int j)/\put2 n i j z=some n':=by
 unfold nV at h;split at h
 ·exact⟨_,_,_,by assumption,by assumption,by assumption,h⟩
 ·cases h
def kP (tgt:PyData->Ds->Option Ds) (ca:Ds->Rs Bool) (g1 g2 gv:Ds->Rs PyData):List PyData->Ds->List (List Int)->Option (Ds×List (List Int))
 |[],δ,n=>some (δ,n)
 |d::r,δ,n=>(tgt d δ).bind λδ1=>match ca δ1 with
  |.ok true=>(nV g1 g2 gv δ1 n).bind λn'=>kP tgt ca g1 g2 gv r δ1 n'
  |.ok false=>kP tgt ca g1 g2 gv r δ1 n
  |_=>none
def qc:List PyData->Option (List (List Int))
 |[]=>some []
 |.list ds::r=>(intsOf ds).bind λns=>(qc r).map (ns::·)
 |_=>none
theorem tD:∀{ds:List PyData} {nss:List (List Int)},qc ds=some nss->ds=nss.map liD
 |[],nss,h=>by cases h;rfl
 |.list ds::r,nss,h=>by unfold qc at h;obtain⟨ns,e1,h⟩:=KG.mp h;obtain⟨l,e2,h⟩:=KN.mp h;subst h;rw[kX e1,tD e2];rfl
 |.none::_,_,h=>by cases h
 |.bool _::_,_,h=>by cases h
 |.int _::_,_,h=>by cases h
 |.str _::_,_,h=>by cases h
 |.tuple _::_,_,h=>by cases h
 |.dict _::_,_,h=>by cases h
theorem oh {gs:Ds->Rs (List PyData)} {tgt:PyData->Option Ds} {δ:Ds}:∀{ds:List PyData} {nss:List (List Int)},cJ bc (gL gs) tgt δ ds=.ok (nss.map liD)->nss.length=ds.length/\∀(i:Nat) d,ds[i]?=some d->∃a ns,tgt d=some a/\nss[i]?=some ns/\gs (δ++a)=.ok (ns.map .int)
 |[],nss,h=>by
  unfold cJ at h;cases nss with
  |nil=>exact⟨rfl,λi d e=>by cases e⟩
  |cons=>cases h
 |d::r,nss,h=>by
  unfold cJ at h;cases et:tgt d with
  |none=>rw[et]at h;cases h
  |some a =>
   simp only[et,bc,Rs.b9,Rs.ag,if_true]at h;cases eg:gs (δ++a) with
   |rz C=>simp only[gL,eg,Rs.cN]at h;cases h
   |no=>simp only[gL,eg,Rs.aY]at h;cases h
   |ok l =>
    simp only[gL,eg,Rs.ag,Rs.b9]at h;cases ec:cJ bc (gL gs) tgt δ r with
    |rz C=>rw[ec]at h;cases h
    |no=>rw[ec]at h;cases h
    |ok l2 =>
     rw[ec,Rs.ag]at h;cases nss with
     |nil=>cases h
     |cons ns nss =>
      injection h with h
      rw[J5]at h;injection h with h1 h2
      injection h1 with h1
      subst h1 h2;obtain⟨c,f⟩:=oh ec;refine⟨by simp[c],λi e b=>?_⟩;cases i with
      |zero=>cases b;exact⟨a,ns,et,rfl,eg⟩
      |succ i=>exact f i e b
def l8 (f n0:Nat) (gi gs:Ds->Rs (List PyData)) (tg1:PyData->Option Ds) (gw:Ds->Rs (List PyData)) (tgt:PyData->Ds->Option Ds) (ca:Ds->Rs Bool) (g1 g2 gv:Ds->Rs PyData):Ds->Sr:=λδ=>if f<δ.length then match a9 n0 gi bc (gL gs) tg1 δ with
 |.ok dss=>match qc dss,gw (δ.set f none) with
  |some nss,.ok ds=>match kP tgt ca g1 g2 gv ds (δ.set f none) nss with
   |some (δ',n')=>.nx (δ'.set f (some (iO n')))
   |none=>.no
  |_,_=>.no
 |_=>.no else .no
theorem zW {tgt:PyData->Ds->Option Ds} {g1 g2:Ds->Rs PyData}:l8 f n0 gi gs tg1 gw tgt ca g1 g2 gv δ=.no\/∃ds nss b a n',f<δ.length/\δ.length=n0/\gi δ=.ok ds/\ds.length<=1000000/\cJ bc (gL gs) tg1 δ ds=.ok (nss.map liD)/\gw (δ.set f none)=.ok b/\kP tgt ca g1 g2 gv b (δ.set f none) nss=some (a,n')/\l8 f n0 gi gs tg1 gw tgt ca g1 g2 gv δ=.nx (a.set f (some (iO n'))):=by
 unfold l8;split
 case isFalse=>exact .inl rfl
 rename_i c;split
 case h_2=>exact .inl rfl
 rename_i dss e;split
 case h_2=>exact .inl rfl
 rename_i nss ds e1 e2;split
 case h_2=>exact .inl rfl
 rename_i a n' g;right;unfold a9 at e;split at e
 case isFalse=>cases e
 rename_i hn;cases eg:gi δ with
 |rz C=>rw[eg]at e;cases e
 |no=>rw[eg]at e;cases e
 |ok di =>
  rw[eg,Rs.ag]at e;split at e
  case isFalse=>cases e
  rename_i h;rw[tD e1]at e;exact⟨di,nss,ds,a,n',c,hn,rfl,h,e,e2,g,rfl⟩
theorem k8.put {bs:List Addr} {k l:Nat} {z:Int} (N:k8 H D bs nss) (a:bs[k]?=some b) (hn:nss[k]?=some ns):k8 (upd H b (.lst ((ns.map V.int).set l (.int z)))) D bs (nss.set k (ns.set l z)):=by
 obtain⟨n1,n2⟩:=Kp.mp N.nd;have g:D≠b:=λe=>n1 (e▸Kn a)
 refine⟨by rw[au g];exact N.hd,N.nd,by rw[List.length_set];exact N.len,λi c h h1 h2=>?_⟩;rcases get_set h2 with⟨e,f⟩|⟨e,f⟩
 ·subst e;rw[a]at h1;cases h1;rw[f,ay,List.map_set]
 ·have j:c≠b:=λw=>by subst w;obtain⟨p1,p2⟩:=K5.mp h1;obtain⟨m,n⟩:=K5.mp a;exact e ((List.getElem_inj (h₀:=m) (h₁:=p1) n2).mp (by rw[p2,n]))
  rw[au j];exact N.get i c h h1 f
theorem Bg {E:XK} {tgt:PyData->Ds->Option Ds} {g1 g2:Ds->Rs PyData} {Gr:Ds->Sr} {g:TG} {ss:List Stmt} {c k1 k2:Expr} {p1 p3 p4 p5:Pos}
  (hS:PS X st (wA (lN X.K E n0 gi gs tg1) (gJ f))) (hi:X.N[f]?=some x) (hv:Vis X.env.scope x)
  (hw:PID X E tg iter gw) (hT:TgF X.K f tgt g) (hg:PG X tg g) (T:PCD X E c ca) (h1:PD X E k1 g1) (h2:PD X E k2 g2) (he:PD X E e gv) (hr:PBD X E [] ss Gr)
  (hp:PassesOwn (model X.prog X.w) X.A X.env X.xe) (hc:X.calm=true) (hs:∀x,foldedSetIterable iter X.env x=pure x)
  (hd:(x==("__debug__":Str))=false) (U:(x==("__classdict__":Str))=false) (W:sJ k1)
  (ha:∀v,assign (.Subscript (.Subscript (.Name x pn) k1 p1) k2 p2) X.env v=(do
   let ov <-holding [v] (eval (.Subscript (.Name x pn) k1 p1) X.env);let iv <-holding [v,ov] (eval k2 X.env)
   standAt p2
   holding [v,ov,iv] (setItem ov iv v)
   release [v,ov,iv] []))
  (Y:swapsWithSole [.Subscript (.Subscript (.Name x pn) k1 p1) k2 p2] e p3.line X.env=pure false) (Z:swappedStores [.Subscript (.Subscript (.Name x pn) k1 p1) k2 p2] e X.env=pure none)
  (h11:(assignEach [.Subscript (.Subscript (.Name x pn) k1 p1) k2 p2] X.env).map (·.2)=[assign (.Subscript (.Subscript (.Name x pn) k1 p1) k2 p2) X.env]) :
  PBD X E [] (st::.For tg iter [.If c [.Assign [.Subscript (.Subscript (.Name x pn) k1 p1) k2 p2] e p3] [] p4] [] p5::ss) (aF (l8 f n0 gi gs tg1 gw tgt ca g1 g2 gv) Gr):=by
 refine (cu hS (cu (BM hp hc hw hg (fz (ug T (fz (Ca he (Aj (wF mZ (ic hi hv hd U) h1 W) h2 set_list ha) Y Z h11)) mU)) hs) hr)).imp λD σ H rz3=>?_
 obtain⟨H0,A0,A,δ,R,o⟩:=rz3;rcases zW (f:=f) (n0:=n0) (gi:=gi) (gs:=gs) (tg1:=tg1) (gw:=gw) (tgt:=tgt) (ca:=ca) (g1:=g1) (g2:=g2) (gv:=gv) (δ:=δ) with z|⟨di,nss,n,G,ne,hf,hn,e1,hz,e2,e3,e4,z⟩
 ·unfold aF at o;rw[z]at o;exact o.elim
 unfold aF at o;rw[z]at o;obtain⟨hl,hel⟩:=oh e2;have RP:=R.part;rw[kq]at RP;refine⟨A++A0,δ,RP,hn,di,nss,e1,hz,hl,hel,λbs j Ha N fr s1=>?_⟩;have Ra:=R.hide (f:=f) (v:=.ref j) s1 fr N.own;have hσ:(σ.set f (some (V.ref j)))[f]?=some (some (.ref j)):=Km (by rw[<-R.len];exact hf);have RQ:=Ra.part;rw[kq]at RQ;refine⟨_,_,RQ,?_⟩;rw[e3];intro J H1 s2 hJ;have R1:=(Ra.step s2).more;refine⟨λi m s H'=>m=n.length-i/\i<=n.length/\∃u n',bf X.K (un H0 (del H1 ((j::bs)++A++A0))) A0 H' ((j::bs)++A) [] u s/\s[f]?=some (some (.ref j))/\k8 H' j bs n'/\kP tgt ca g1 g2 gv (n.drop i) u n'=some (G,ne),⟨n.length,by simp,Ks _,_,nss,R1,hσ,N.same s2,e4⟩,?_⟩
 rintro i m s H' ⟨rfl,hi',u,n',I,r,N',o'⟩
 have sG:ao (del H1 ((j::bs)++A++A0)) (un H0 (del H1 ((j::bs)++A++A0))):=Iv (Ra.same.trans s2) av;have hB:∀b∈(j::bs)++A++A0,(del H1 ((j::bs)++A++A0)) b=none:=λb L=>eQ L
 obtain⟨jg,js,jy⟩:=hJ H' ((j::bs)++A++A0) (sG.trans I.same) I.lsA hB;by_cases hlt:i<n.length
 ·refine .inr ⟨jg i hlt,?_⟩;have edr:n.drop i=n[i]::n.drop (i+1):=L3 hlt;rw[edr]at o';unfold kP at o';obtain⟨δ1,et,o'⟩:=KG.mp o';refine⟨λB H2=>∃p n2,bf X.K (un H0 (del H1 ((j::bs)++A++A0))) A0 H2 ((j::bs)++A) [] p B/\B[f]?=some (some (.ref j))/\k8 H2 j bs n2/\kP tgt ca g1 g2 gv (n.drop (i+1)) p n2=some (G,ne),λB H2 ⟨p,n2,q⟩=>⟨n.length-(i+1),by omega,rfl,hlt,p,n2,q⟩,λy H2 yy=>?_⟩;obtain⟨s3,d,ed,hd'⟩:=jy i y H2 hlt yy;have:n[i]=d:=by have:=J0 hlt;rw[this]at ed;exact Option.some.inj ed
  rw[this]at et;refine hT d y _ _ _ _ _ _ _ _ (I.step s3) hd' et λσ3 R3 k3=>?_
  rw[r]at k3;have N3:=N'.same s3;refine cD.run R3.full (λt h H4 s4 _=>?_) (λC h _ _=>?_) (λh=>?_)
  ·rw[h]at o';have R4:=R3.step s4;have S:=N3.same s4;cases t with
   |false=>exact⟨δ1,n',R4,k3,S,o'⟩
   |true =>
    obtain⟨n2,e5,o'⟩:=KG.mp o';obtain⟨zz,ii,jj,ez,F,ej,e6⟩:=zP e5;obtain⟨k,ns,l,ek,en,el,rfl⟩:=CW e6;rw[if_pos rfl];refine eD.run R4.full (λd5 M v5 H5 s5 R5 hv5=>?_) (λC h _ _=>by rw[ez]at h;cases h) (λh=>by rw[ez]at h;cases h);rw[ez]at M;cases M;cases hv5.ofInt;refine⟨_,k3,?_⟩;refine eD.run R5 (λd6 O v6 H6 s6 R6 hv6=>?_) (λC h _ _=>by rw[F]at h;cases h) (λh=>by rw[F]at h;cases h);rw[F]at O;cases O;cases hv6.ofInt;have N6:=(S.same s5).same s6;obtain⟨hk,_⟩:=K5.mp en;have P:k<bs.length:=by rw[S.len];exact hk
    have L:bs[k]?=some bs[k]:=J0 P;refine⟨j,bs.map V.ref,ii,.ref bs[k],rfl,rfl,SqL.of N6.hd,?_,?_⟩
    ·unfold atI;rw[J6,S.len,ek];show (bs.map V.ref)[k]?=_;rw[JY,L];rfl
    refine eD.run R6 (λd7 Q v7 H7 s7 R7 hv7=>?_) (λC h _ _=>by rw[ej]at h;cases h) (λh=>by rw[ej]at h;cases h);rw[ej]at Q;cases Q;cases hv7.ofInt;have N7:=N6.same s7;refine⟨bs[k],ns.map V.int,jj,l,rfl,rfl,N7.get k _ ns L en,by rw[J6];exact el,?_⟩;have R7':=((R4.step s5).step s6).step s7;exact⟨δ1,_,R7'.hid (Kl _ (J8 _ (Kr P))) rfl,k3,N7.put L en,o'⟩
  ·rw[h]at o';cases o'
  ·rw[h]at o';cases o'
 ·have F:i=n.length:=by omega
  rw[F,LB]at o';cases o';refine .inl ⟨by rw[F];exact js,H0,A0,[],_,(I.less yR R.ls0).show r (N'.is λa ha=>I.apart (Kl _ ha)),o⟩
theorem Dk {E:XK} {g:TG} (a:swapsWith (.ListComp elt [⟨tg,iter,[],0⟩] scope pos) (some (.Name x pos')) spos.line X.env=pure true) (hc:X.calm=true) (c:X.N.Nodup) (hi:PID X E tg iter gi)
  (e:TgD X.K n0 (dH tg).length tgt g) (f:∀C s2 H2 fp,PG (bk X tg scope C s2 H2 fp) tg g) (j:∀C s2 H2 fp,PLD (bk X tg scope C s2 H2 fp) E0 elt gs)
  (b:X.N[i]?=some x) (l:Loc X.env.scope x) (hB:Dc X tg scope=true) (m:∀x,foldedSetIterable iter X.env x=pure x) (n:X.fn x=true\/X.env.scope.names.lookup x=some .local) :
  PS X (.Assign [.Name x pos'] (.ListComp elt [⟨tg,iter,[],0⟩] scope pos) spos) (wA (lN X.K E n0 gi gs tgt) (gJ i)) :=
 PS.imp (kJ (own:=dH tg) (te:=lD X.K E0 gs) hc c b l a hi f (λC s2 H2 fp=>PIf.nil.pts) (λC s2 H2 fp=>j C s2 H2 fp) hB m n) λD σ H h=>F8 e (PIf.tt (X:=X) PIf.nil) σ H _ h
end L2
namespace RS
open PySem L2
def dE (cs:Cs):Ds->Sr :=
 (aF (l8 3 6 (cn (af 1)) (a9 7 (cn (af 6)) bc (gC (.int 0)) aO) aO (eZ (ae (af 2) ah)) (gj [4,5]) (gT (g1 ji (af 5))) (g2 dIx (af 5) (gC (.int 0))) (g2 dIx (af 5) (gC (.int 1))) (g2 fA (g2 aV (af 4) (gC (.int 1))) (g2 dIx (g2 dIx (af 1) (g2 dIx (af 5) (gC (.int 0)))) (g2 dIx (af 5) (gC (.int 1))))))
  (bw (af 3)))
def wH (cs:Cs) (b0 dQ dk ai bO bJ bh:Gf):Ds->Sr :=
 (aF (aQ [] 1 (ar bh (ae (af 0) (ae (gC (.int 12)) (ae (gC (.int 4)) (ae (gC (.int 28)) (ae (gC (.bool true)) ah)))))))
  (aF (aQ [] 2 (ar bJ (ae (af 0) (ae (gC (.int 0)) (ae (gF b8 (ae (af 1) ah)) ah)))))
  (aF (aQ [] 3 (ar bO (ae (af 0) (ae (gC (.int 5)) (ae (af 1) (ae (gC (.int 50)) ah))))))
  (aF (aQ [] 4 (g2 dIx (mH (ae (gC (.str "high")) (ae (gC (.str "asked")) (ae (gC (.str "none")) ah)))) (ar ai (ae (af 0) (ae (gC (.int 10)) (ae (gC (.int 3)) ah))))))
  (aF (aQ [] 5 (ar dk (ae (af 1) (ae (af 2) (ae (af 3) (ae (af 4) ah))))))
  (aF (aQ [] 6 (ar dQ (ae (af 1) (ae (af 2) (ae (af 3) (ae (af 4) ah))))))
  (bw (vS (g1 (gz "list") (af 6)) (g2 dEq (af 6) (ar b0 (ae (af 1) (ae (af 3) (ae (af 5) ah)))))))))))))
end RS
set_option maxHeartbeats 1000000
namespace RS
open PySem L2
theorem uC {len:Str} {t:List PyData} (R:Ran es rs rows len) (C:Cms es rows) (p:ju es rs rows len=some t) :
  (∀d∈t,lQ d)/\t.length<1000000/\(∀(a:Nat) (row:List Int),rows[a]?=some row->∀k,k<row.length->∃v,eJ (endsF 0 t []) ((a:Int),(k:Int))=some v) /\
   ∀d∈t,∀k:Int×Int,fq d=some k->∃(n j:Nat) (row:List Int),k=((n:Int),(j:Int))/\rows[n]?=some row/\j<row.length:=by
 obtain⟨q,who,T,f,_,o,hlen,hT,b,g⟩:=CM R C p;have r:∀m,m<es.length->(q m 0).tot=0:=λm hm=>by obtain⟨row,_,e⟩:=o m hm;rw[e];exact lZ m row
 refine⟨λd hd=>?_,by omega,λa row h k l=>?_,λd hd k l=>?_⟩
 ·obtain⟨i,hi,e⟩:=Lk hd;have:=b i (by omega);rw[J0 hi,e]at this;cases w:who i with
  |none=>rw[w]at this;left;exact Option.some.inj this
  |some m=>rw[w]at this;right;exact⟨((q m i).num,((q m i).job:Int)),Option.some.inj this⟩
 ·have ha:a<es.length:=by rw[<-R.ln];exact (K5.mp h).1
  obtain⟨row',h',e⟩:=o a ha;rw[h]at h';cases h';exact ue t 0 [] (.inl (f.told b hlen r g ha (k:=k) (by rw[e];exact l)).1)
 ·obtain⟨i,hi,e⟩:=Lk hd;have:=b i (by omega);rw[J0 hi,e]at this;cases w:who i with
  |none=>rw[w]at this;cases Option.some.inj this;cases l
  |some m =>
   rw[w]at this;rw[Option.some.inj this,lV]at l;have hm:=f.lt w;obtain⟨row,h',s⟩:=o m hm;have th:=f.thr w;have st:=(f.stay hm i).2.1;rw[s]at st;refine⟨m,(q m i).job,row,by rw[<-Option.some.inj l,f.num i hm],h',?_⟩;unfold Jb.there at th;rw[st]at th;show (q m i).job<(mkJ es rs m row).row.length;split at th
   ·rename_i c hc;exact (K5.mp hc).1
   ·cases th
def dQ (cs:Cs):Gf:=gfG 4 0 (gP cs (dk cs) (cx cs))
def D3 (rows:List (List Int)) (l:PTl):PyData:=.list (rows.mapIdx λn row=>.list (row.mapIdx (uV l n)))
theorem tI {len:Str} {t:List PyData} (R:Ran es rs rows len) (C:Cms es rows) (a:ju es rs rows len=some t):dQ cs [aR es,aT rs,cmD rows,.str len]=.ok (D3 rows (endsF 0 t [])):=by
 obtain⟨h1,h2,b,_⟩:=uC R C a;have hl:rows.length<=1000:=by have:=R.ln;have:=R.eok.l6;omega
 show bq (gP cs (dk cs) (cx cs) [some (aR es),some (aT rs),some (cmD rows),some (.str len)])=_;unfold gP;have e1:ar (dk cs) (ae (af 0) (ae (af 1) (ae (af 2) (ae (af 3) ah)))) [some (aR es),some (aT rs),some (cmD rows),some (.str len)]=.ok (.list t):=eV rfl (k9 R C a);have e2:ar (cx cs) (ae (af 2) (ae (ar (dk cs) (ae (af 0) (ae (af 1) (ae (af 2) (ae (af 3) ah))))) ah)) [some (aR es),some (aT rs),some (cmD rows),some (.str len)]=.ok (D3 rows (endsF 0 t [])):=by refine eV (ds:=[cmD rows,.list t]) ?_ (pR hl (λr a=>by have:=(C.mf r a).few;omega) h1 h2 b);simp only[aE,aI,aq,aw,e1,Rs.ag]
 simp only[bL,e2,az,aX]
theorem oO:∀l:List Int,intsOf (l.map PyData.int)=some l
 |[]=>rfl
 |a::r=>by show (intsOf (r.map PyData.int)).map (a::·)=_;rw[oO r];rfl
theorem qb:∀l:List (List Int),qc (l.map liD)=some l
 |[]=>rfl
 |a::r=>by show (intsOf (a.map PyData.int)).bind (λns=>(qc (r.map liD)).map (ns::·))=_;rw[oO,qb r];rfl
theorem Dl {f:Nat} {tgt:PyData->Ds->Option Ds} {g1 g2:Ds->Rs PyData} {a:Ds} (b:f<δ.length) (c:a9 n0 gi bc (gL gs) tg1 δ=.ok (nss.map liD)) (hw:gw (δ.set f none)=.ok ds) (hn:kP tgt ca g1 g2 gv ds (δ.set f none) nss=some (a,n')) :
  l8 f n0 gi gs tg1 gw tgt ca g1 g2 gv δ=.nx (a.set f (some (iO n'))):=by
 unfold l8;rw[if_pos b,c];simp only[qb,hw,hn]
def kg (l:PTl) (n k:Nat) (c:Int):Int:=match eJ l ((n:Int),(k:Int)) with
 |some v=>v-c
 |none=>0
def fF (rows:List (List Int)) (l:PTl):List (List Int):=rows.mapIdx λn row=>row.mapIdx (kg l n)
theorem C9 {l:PTl} {k:Nat} {v:Int} (hn:rows[n]?=some row) (a:k<row.length):put2 (fF rows l) (n:Int) (k:Int) (v-row[k])=some (fF rows (kx l ((n:Int),(k:Int)) v)):=by
 have hl:n<rows.length:=(K5.mp hn).1;have i1:ixN (fF rows l).length (n:Int)=some n:=by unfold ixN fF;rw[L9,if_pos (by omega),if_pos (by omega)];rfl
 have i2:(fF rows l)[n]?=some (row.mapIdx (kg l n)):=by unfold fF;rw[Kd,hn];rfl
 have b:ixN (row.mapIdx (kg l n)).length (k:Int)=some k:=by unfold ixN;rw[L9,if_pos (by omega),if_pos (by omega)];rfl
 unfold put2;rw[i1,Ky,i2,Ky,b,Ky];congr 1;refine KI λi=>?_
 unfold fF;by_cases z:n=i
 ·subst z;rw[Km (by rw[L9];exact hl),Kd,hn];show some _=some _;congr 1;refine KI λj=>?_
  by_cases y:k=j
  ·subst y;rw[Km (by rw[L9];exact a),Kd,J0 a];show some _=some (kg _ _ _ _);unfold kg;rw[gY,if_pos rfl]
  ·rw[Kg y,Kd,Kd];congr 1;funext c;unfold kg;rw[gY,if_neg λe=>y (by injection e with _ e;omega)]
 ·rw[Kg z,Kd,Kd];cases rows[i]? with
  |none=>rfl
  |some r =>
   show some _=some _;congr 1;refine KI λj=>?_
   rw[Kd,Kd];congr 1;funext c;unfold kg;rw[gY,if_neg λe=>z (by injection e with e _;omega)]
def b0 (cs:Cs):Gf:=gfG 3 3 (dE cs)
def laD (E W D:PyData) (x4 a:Option PyData):Ds:=[some E,some W,some D,none,x4,a]
def v5:Ds->Rs PyData:=g2 fA (g2 aV (af 4) (gC (.int 1))) (g2 dIx (g2 dIx (af 1) (g2 dIx (af 5) (gC (.int 0)))) (g2 dIx (af 5) (gC (.int 1))))
def n5:=kP (gj [4,5]) (gT (g1 ji (af 5))) (g2 dIx (af 5) (gC (.int 0))) (g2 dIx (af 5) (gC (.int 1))) v5
theorem xI {E D:PyData} {rows:List (List Int)}:∀(t:List PyData) (i:Nat) (l:PTl) (x4 a:Option PyData),(∀d∈t,lQ d)->(∀d∈t,∀k:Int×Int,fq d=some k->∃(n j:Nat) (row:List Int),k=((n:Int),(j:Int))/\rows[n]?=some row/\j<row.length) ->
  ∃b c,n5 (i6 i t) (laD E (cmD rows) D x4 a) (fF rows l)=some (laD E (cmD rows) D b c,fF rows (endsF i t l))
 |[],i,l,x4,a,_,_=>⟨x4,a,rfl⟩
 |d::r,i,l,x4,a,g,hk=>by
  obtain⟨b,c,m⟩:=xI (E:=E) (D:=D) (rows:=rows) r (i+1) (match fq d with
   |some k=>kx l k ((i:Int)+1)
   |none=>l) (some (.int (i:Int))) (some d) (λd h=>g d (J8 _ h)) (λd h=>hk d (J8 _ h))
  refine⟨b,c,?_⟩;rw[jO];have p:gj [4,5] (.tuple [.int (i:Int),d]) (laD E (cmD rows) D x4 a)=some (laD E (cmD rows) D (some (.int (i:Int))) (some d)):=rfl;show (gj [4,5] (.tuple [.int (i:Int),d]) (laD E (cmD rows) D x4 a)).bind (λδ1=>match gT (g1 ji (af 5)) δ1 with
   |.ok true=>(nV (g2 dIx (af 5) (gC (.int 0))) (g2 dIx (af 5) (gC (.int 1))) v5 δ1 (fF rows l)).bind λn'=>n5 (i6 (i+1) r) δ1 n'
   |.ok false=>n5 (i6 (i+1) r) δ1 (fF rows l)
   |_=>none)=_
  rw[p,Ky];rcases g d J9 with rfl|⟨k,rfl⟩
  ·exact m
  ·obtain⟨n,j,row,e1,e2,o⟩:=hk _ J9 k rfl;have c1:gT (g1 ji (af 5)) (laD E (cmD rows) D (some (.int (i:Int))) (some (.tuple [.int k.1,.int k.2])))=.ok true:=rfl;rw[c1];subst e1;have hv:v5 (laD E (cmD rows) D (some (.int (i:Int))) (some (.tuple [.int (n:Int),.int (j:Int)])))=.ok (.int ((i:Int)+1-row[j])):=by have a1:dIx (cmD rows) (.int (n:Int))=some (bS row):=uf (by rw[JY,e2];rfl);have a2:dIx (bS row) (.int (j:Int))=some (.int row[j]):=uf (by rw[JY,J0 o];rfl);exact rf (x:=.int ((i:Int)+1)) (y:=.int row[j]) rfl (rf (x:=bS row) (y:=.int (j:Int)) (rf (x:=cmD rows) (y:=.int (n:Int)) rfl rfl a1) rfl a2) rfl
   have h1:nV (g2 dIx (af 5) (gC (.int 0))) (g2 dIx (af 5) (gC (.int 1))) v5 (laD E (cmD rows) D (some (.int (i:Int))) (some (.tuple [.int (n:Int),.int (j:Int)]))) (fF rows l)=some (fF rows (kx l ((n:Int),(j:Int)) ((i:Int)+1))):=by have e:g2 dIx (af 5) (gC (.int 0)) (laD E (cmD rows) D (some (.int (i:Int))) (some (.tuple [.int (n:Int),.int (j:Int)])))=.ok (.int (n:Int)):=rfl;have f:g2 dIx (af 5) (gC (.int 1)) (laD E (cmD rows) D (some (.int (i:Int))) (some (.tuple [.int (n:Int),.int (j:Int)])))=.ok (.int (j:Int)):=rfl;unfold nV;simp only[hv,e,f];exact C9 e2 o
   show (nV _ _ _ _ _).bind _=_;rw[h1,Ky];exact m
theorem CO (rows:List (List Int)):fF rows []=rows.map λr=>r.map λ_=>0:=by
 unfold fF;refine KI λi=>?_
 rw[Kd,JY];congr 1;funext r;refine KI λj=>?_
 rw[Kd,JY];rfl
theorem law_answers_is {E:PyData} {t:List PyData} (hr:rows.length<=1000) (hl:∀r∈rows,r.length<=1000) (tl:t.length<1000000) (b:∀d∈t,lQ d) (c:∀d∈t,∀k:Int×Int,fq d=some k->∃(n j:Nat) (row:List Int),k=((n:Int),(j:Int))/\rows[n]?=some row/\j<row.length) :
  b0 cs [E,cmD rows,.list t]=.ok (iO (fF rows (endsF 0 t []))):=by
 obtain⟨y4,y5,e⟩:=xI (E:=E) (D:=.list t) (rows:=rows) t 0 [] none none b c;have g:a9 6 (cn (af 1)) bc (gL (a9 7 (cn (af 6)) bc (gC (.int 0)) aO)) aO (laD E (cmD rows) (.list t) none none)=.ok ((fF rows []).map liD):=by
  have h:=cK (n0:=6) (src:=cn (af 1)) (elt:=gL (a9 7 (cn (af 6)) bc (gC (.int 0)) aO)) (δ:=laD E (cmD rows) (.list t) none none) (f:=λd=>match d with
   |.list ds=>.list (ds.map λ_=>.int 0)
   |d=>d) (ds:=rows.map bS) rfl rfl (by rw[J6];omega) λd hd=>by
    obtain⟨r,a,rfl⟩:=K1.mp hd;have:=cK (n0:=7) (src:=cn (af 6)) (elt:=gC (.int 0)) (δ:=laD E (cmD rows) (.list t) none none++[some (bS r)]) (f:=λ_=>.int 0) (ds:=r.map PyData.int) rfl rfl (by rw[J6];have:=hl r a;omega) λd _=>rfl
    unfold gL;rw[this];rfl
  rw[h,CO,Kb,Kb];congr 1;refine Ke λr _=>?_
  show PyData.list ((r.map PyData.int).map λ_=>.int 0)=.list ((r.map λ_=>(0:Int)).map PyData.int);rw[Kb,Kb];rfl
 have hw:eZ (ae (af 2) ah) (laD E (cmD rows) (.list t) none none)=.ok (i6 0 t):=by rw[nh rfl (by omega),sy]
 unfold n5 at e;have e1:=Dl (f:=3) (n0:=6) (δ:=laD E (cmD rows) (.list t) none none) (by decide:3<6) g hw e;unfold v5 at e1;show bq (dE cs [some E,some (cmD rows),some (.list t),none,none,none])=_;unfold dE;have e2:aF _ (bw (af 3)) (laD E (cmD rows) (.list t) none none)=_:=iw e1;exact congrArg bq e2
theorem DO {l:PTl} (h:∀(a:Nat) (row:List Int),rows[a]?=some row->∀k,k<row.length->∃v,eJ l ((a:Int),(k:Int))=some v):D3 rows l=iO (fF rows l):=by
 unfold D3 iO fF;congr 1;refine KI λi=>?_
 rw[Kd,JY,Kd];cases q:rows[i]? with
 |none=>rfl
 |some row =>
  show some (PyData.list _)=some (PyData.list _);congr 2;refine KI λj=>?_
  rw[Kd,JY,Kd];cases p:row[j]? with
  |none=>rfl
  |some c =>obtain⟨v,hv⟩:=h i row q j (K5.mp p).1;show some (uV l i j c)=some (PyData.int (kg l i j c));unfold uV kg;rw[hv];rfl
theorem jw:∀l:List Int,PyData.eqvAll (l.map PyData.int) (l.map PyData.int)=true
 |[]=>by simp[PyData.eqvAll]
 |n::r=>by simp[PyData.eqvAll,PyData.eqv,jw r]
theorem xa:∀l:List (List Int),PyData.eqvAll (l.map liD) (l.map liD)=true
 |[]=>by simp[PyData.eqvAll]
 |n::r=>by have:=jw n;simp[PyData.eqvAll,PyData.eqv,xa r,this]
theorem xl:∀l:List (List Int),PyData.canLayAll0 (l.map liD)=true/\PyData.depthAll (l.map liD)<=5
 |[]=>by simp[PyData.canLayAll0,PyData.depthAll]
 |n::r=>by have h1:=iY n;have h2:=depthAll_ints n;obtain⟨a,h4⟩:=xl r;refine⟨by simp[PyData.canLayAll0,PyData.canLay0,h1,a],?_⟩;simp only[J5,PyData.depthAll,PyData.depth];omega
theorem G7 (l:List (List Int)):dEq (iO l) (iO l)=some (.bool true):=by
 have hd:aA (iO l)=true:=cy λd hd=>by obtain⟨r,_,rfl⟩:=K1.mp hd;exact cy (fM r)
 have b:SeqAt.shaped (iO l)=true:=by
  obtain⟨h1,h2⟩:=xl l;have a:(iO l).depth<=64:=by show (PyData.list (l.map liD)).depth<=64;simp only[PyData.depth];omega
  unfold iO at a ⊢;simp[SeqAt.shaped,PyData.canLay0,h1,a]
 unfold dEq;rw[hd,b];have:=xa l;simp[PyData.eqv,this]
theorem law_holds (cs:Cs) (ns:List Int):wH cs (b0 cs) (dQ cs) (dk cs) ai (bO cs) bJ bh (some (aj ns)::List.replicate 6 none)=.rt (.bool true):=by
 obtain⟨es,rs,_,l1,l4,hok,n,e,f⟩:=Bc ns 12 28 (by decide) (by decide) (by decide);have l6:es.length<=6:=by omega
 have ok:wj es:=⟨l1,l6,hok⟩
 obtain⟨rows,g,C⟩:=vp (cs:=cs) ok (ns:=ns) (a:=5) (span:=50) (by decide) (by decide);obtain⟨len,hlen,le⟩:=Cm ns;have i:=bR (ns:=ns) (k:=10) (many:=3) (by decide) (by decide);have R:Ran es rs rows len:=⟨ok,n,C.len,le⟩
 obtain⟨t,j⟩:=zY R C;have b:=k9 (cs:=cs) R C j;have c:=tI (cs:=cs) R C j;obtain⟨h1,h2,o,p⟩:=uC R C j;have l:rows.length<=1000:=by have:=R.ln;omega
 have m:=law_answers_is (cs:=cs) (E:=aR es) l (λr h=>by have:=(C.mf r h).few;omega) h2 h1 p;rw[DO o]at c;have q:aQ [] 1 (ar bh (ae (af 0) (ae (gC (.int 12)) (ae (gC (.int 4)) (ae (gC (.int 28)) (ae (gC (.bool true)) ah)))))) [some (aj ns),none,none,none,none,none,none]=.nx [some (aj ns),some (aR es),none,none,none,none,none]:=dO (by decide:1<7) (eV rfl e);have s2:aQ [] 2 (ar bJ (ae (af 0) (ae (gC (.int 0)) (ae (gF b8 (ae (af 1) ah)) ah)))) [some (aj ns),some (aR es),none,none,none,none,none]=.nx [some (aj ns),some (aR es),some (aT rs),none,none,none,none]:=by refine dO (by decide:2<7) (eV (ds:=[aj ns,.int 0,.int (es.length:Int)]) ?_ f);show (ae (af 0) (ae (gC (.int 0)) (ae (gF b8 (ae (af 1) ah)) ah))) [some (aj ns),some (aR es),none,none,none,none,none]=_;simp only[aE,aI,f6,aq,aw,c8,Rs.ag,HY,Rs.ak]
 have s:aQ [] 3 (ar (bO cs) (ae (af 0) (ae (gC (.int 5)) (ae (af 1) (ae (gC (.int 50)) ah))))) [some (aj ns),some (aR es),some (aT rs),none,none,none,none]=.nx [some (aj ns),some (aR es),some (aT rs),some (cmD rows),none,none,none]:=dO (by decide:3<7) (eV rfl g);have u:aQ [] 4 (g2 dIx (mH (ae (gC (.str "high")) (ae (gC (.str "asked")) (ae (gC (.str "none")) ah)))) (ar ai (ae (af 0) (ae (gC (.int 10)) (ae (gC (.int 3)) ah))))) [some (aj ns),some (aR es),some (aT rs),some (cmD rows),none,none,none]=.nx [some (aj ns),some (aR es),some (aT rs),some (cmD rows),some (.str len),none,none] :=
  dO (by decide:4<7) (rf (x:=.list [.str "high",.str "asked",.str "none"]) (y:=.int (mixed ns 10 3)) rfl (eV rfl i) hlen)
 have v:aQ [] 5 (ar (dk cs) (ae (af 1) (ae (af 2) (ae (af 3) (ae (af 4) ah))))) [some (aj ns),some (aR es),some (aT rs),some (cmD rows),some (.str len),none,none]=.nx [some (aj ns),some (aR es),some (aT rs),some (cmD rows),some (.str len),some (.list t),none]:=dO (by decide:5<7) (eV rfl b);have w:aQ [] 6 (ar (dQ cs) (ae (af 1) (ae (af 2) (ae (af 3) (ae (af 4) ah))))) [some (aj ns),some (aR es),some (aT rs),some (cmD rows),some (.str len),some (.list t),none]=.nx [some (aj ns),some (aR es),some (aT rs),some (cmD rows),some (.str len),some (.list t),some (iO (fF rows (endsF 0 t [])))]:=dO (by decide:6<7) (eV rfl c);unfold wH;show aF _ _ [some (aj ns),none,none,none,none,none,none]=_;rw[iw q,iw s2,iw s,iw u,iw v,iw w];have z:g1 (gz "list") (af 6) [some (aj ns),some (aR es),some (aT rs),some (cmD rows),some (.str len),some (.list t),some (iO (fF rows (endsF 0 t [])))]=.ok (.bool true):=by
  have:gz "list" (iO (fF rows (endsF 0 t [])))=some (.bool true):=pY (cy λd hd=>by obtain⟨r,_,rfl⟩:=K1.mp hd;exact cy (fM r))
  show (Rs.ok (iO (fF rows (endsF 0 t [])))).bind (λx=>Rs.dz (gz "list" x))=_;rw[Rs.ag,this];rfl
 have A:g2 dEq (af 6) (ar (b0 cs) (ae (af 1) (ae (af 3) (ae (af 5) ah)))) [some (aj ns),some (aR es),some (aT rs),some (cmD rows),some (.str len),some (.list t),some (iO (fF rows (endsF 0 t [])))]=.ok (.bool true) :=
  rf rfl (eV rfl m) (G7 _)
 rw[bL,sq,z];show ofR ((Rs.ok (.bool true:PyData)).bind _) _=_;rw[Rs.ag,bt];simp only[A,Rs.ag,az,if_true]
theorem Ii (cs:Cs):LLq (wH cs (b0 cs) (dQ cs) (dk cs) ai (bO cs) bJ bh) 1 6 (eX 63):=lawT_of (law_holds cs)
end RS
namespace L2
open PySem PySem.Spec PyProof.Rows
section
variable {E:XK}
end
end L2
set_option maxHeartbeats 4000000
namespace L2
open PySem PySem.Spec PyProof.Rows
def ndB:List Str->Bool
 |[]=>true
 |x::r=>!r.elem x&&ndB r
theorem rn:∀{l:List Str},ndB l=true->l.Nodup
 |[],_=>Lw
 |x::r,h=>by simp only[ndB,JZ,LM]at h;exact Kp.mpr ⟨λz=>(by have:=List.elem_eq_true_of_mem z;rw[h.1]at this;cases this),rn h.2⟩
section
variable {k n':Nat}
def AtX (X:Cx) (P:Program) (w:World) (K:PySem.W.Frag) (mg:Str->Option Value) (base:Heap):Prop:=X.prog=P/\X.w=w/\X.K=K/\X.mg=mg/\X.base=base
theorem gA.to (h:gA P w K mg base k x n gf) (a:AtX X P w K mg base) (hn:n=n'):gA X.prog X.w X.K X.mg X.base k x n' gf:=by obtain⟨rfl,rfl,rfl,rfl,rfl⟩:=a;subst hn;exact h
theorem gR.to (h:gR P w K mg base k C m n gf) (a:AtX X P w K mg base) (hn:n=n'):gR X.prog X.w X.K X.mg X.base k C m n' gf:=by obtain⟨rfl,rfl,rfl,rfl,rfl⟩:=a;subst hn;exact h
theorem iT.to (h:iT P w K mg base k C m g) (a:AtX X P w K mg base):iT X.prog X.w X.K X.mg X.base k C m g:=by obtain⟨rfl,rfl,rfl,rfl,rfl⟩:=a;exact h
theorem Bj.to {l:List Str} (h:Bj P w K mg base k x C l) (a:AtX X P w K mg base):Bj X.prog X.w X.K X.mg X.base k x C l:=by obtain⟨rfl,rfl,rfl,rfl,rfl⟩:=a;exact h
end
def wB (K:PySem.W.Frag) (C:Addr) (m q:Str) (st:Stmt) (ps:List Str):Prop:=∃f fd,Fun K m q st f fd/\Binds K fd ps []/\Meth K C m f
def JA (K:PySem.W.Frag) (C:Addr) (q:Str) (st:Stmt) (ps:List Str):Prop:=∃f fd,Mk K C f/\Fun K "__init__" q st f fd/\Binds K fd ps []
end L2
namespace RS
open PySem PySem.Spec PyProof.Rows L2
theorem Ax (d:α) {us:List α} (h:us.length=n):∃f:Nat->α,us=(List.range n).map f :=
 ⟨λi=>us.getD i d,List.ext_getElem (by simp[h]) λi h1 h2=>by simp[K6,J0 h1]⟩
section
variable {q:Str} {G:Ds->Sr} {gf:Gf}
abbrev Bod (P:Program) (w:World) (K:PySem.W.Frag) (mg:Str->Option Value) (base:Heap) (q:Str) (st:Stmt) (k:Nat) (O:List Nat) (N:List Str) (G:Ds->Sr):Prop:=∀(f:Addr) (cdv:Value) (A:Around) (outer:List Env) (s:Shared) (H:Hp) (E:XK),N.Nodup->bU k (A.deeper (envOfC q (ax st) s.heap.objs.size f cdv))->PBD (cH (CXW P w) P w K mg base N q (ax st) f cdv A outer s H E) E O (bK st) G
theorem dA (P:Program) (w:World) (base:Heap) (k:Nat) (O:List Nat) (N:List Str) (h:bM K mg x st ps) (a:∀ds,ds.length=ps.length->gf ds≠.no->bq (G (ds.map some++List.replicate (N.length-ps.length) none))=gf ds)
  (body:Bod P w K mg base x st k O N G) (S:cB N ps (ax st):=by exact⟨rfl,rfl,rfl,by decide +kernel,rfl,by decide +kernel,by decide +kernel⟩) (c:∀i∈O,ps.length<=i:=by decide):gA P w K mg base (k+1) x ps.length gf:=by
 obtain⟨f,fd,F,b,m⟩:=h;exact gA.of F S b m c (λcdv A outer s H E=>body f cdv A outer s H E S.nd) a
theorem dM (P:Program) (w:World) (base:Heap) (k:Nat) (O:List Nat) (N:List Str) (h:wB K C m q st ps) (cl:Cls K C) (a:∀ds,ds.length=ps.length->gf ds≠.no->bq (G (ds.map some++List.replicate (N.length-ps.length) none))=gf ds)
  (body:Bod P w K mg base q st k O N G) (S:cB N ps (ax st):=by exact⟨rfl,rfl,rfl,by decide +kernel,rfl,by decide +kernel,by decide +kernel⟩) (c:∀i∈O,ps.length<=i:=by decide):gR P w K mg base (k+1) C m ps.length gf:=by
 obtain⟨f,fd,F,b,hm⟩:=h;exact gR.of F S b cl hm c (λcdv A outer s H E=>body f cdv A outer s H E S.nd) a
theorem dK (k:Nat) (N:List Str) {p:Str} {G:List Addr->Ds->Sr} (h:wB K C m q st [p]) (cl:Cls K C) (e:∀a fds c,fo fds=true->fds.length<1000->g fds=some c->∃δ,G [a] (some (bW C a fds)::List.replicate (N.length-1) none)=.nx δ/\δ[0]?=some (some (bW C a c)))
  (body:∀(as:List Addr) (f:Addr) (cdv:Value) (A:Around) (outer:List Env) (s:Shared) (H:Hp) (E:XK),N.Nodup->bU k (A.deeper (envOfC q (ax st) s.heap.objs.size f cdv))->PBN as (cH (CXW P w) P w K mg base N q (ax st) f cdv A outer s H E) E [] (bK st) (G as)) (S:cB N [p] (ax st):=by exact⟨rfl,rfl,rfl,by decide +kernel,rfl,by decide +kernel,by decide +kernel⟩):iT P w K mg base (k+1) C m g:=by
 obtain⟨f,fd,F,b,hm⟩:=h;exact iT.of F S b cl hm (λas cdv A outer s H E=>body as f cdv A outer s H E S.nd) e
theorem dT (k:Nat) (O:List Nat) (N:List Str) (h:bM K mg x st ps) (hm:∀g,PySem.W.nsIn K mainGlobals x=some (some (.ref g))->mg x=some (.ref g)) (a:Cv K x) (hB:mz mg base) (hK:K.In base) (e:∀ds,ds.length=ps.length->gf ds≠.no->bq (G (ds.map some++List.replicate (N.length-ps.length) none))=gf ds)
  (body:∀(f:Addr) (cdv:Value) (A:Around) (outer:List Env) (s:Shared) (H:Hp) (E:XK),N.Nodup->bU k (A.deeper (envOfC x (ax st) s.heap.objs.size f cdv))->∀c j,zZ (cH (CXW P w) P w K mg base N x (ax st) f cdv A outer s H E) c j->PBD (cH (CXW P w) P w K mg base N x (ax st) f cdv A outer s H E) E O (bK st) G) (S:cB N ps (ax st):=by exact⟨rfl,rfl,rfl,by decide +kernel,rfl,by decide +kernel,by decide +kernel⟩) (l:∀i∈O,ps.length<=i:=by decide) (n:x∈kF:=by decide) (o:∀(f L:Addr) (cdv:Value),(envOfC x (ax st) L f cdv).qual++"<lambda>"=x++".<locals>.<lambda>":=by exact λ_ _ _=>rfl):gA P w K mg base (k+1) x ps.length gf:=by
 obtain⟨f,fd,F,b,m⟩:=h;exact gA.ofL F S b m l n hm a hB hK (o f) (λcdv A outer s H E=>body f cdv A outer s H E S.nd) e
theorem dL (k:Nat) (O:List Nat) (N:List Str) (F:Fun K x x st f fd) (a:∀ds,ds.length=ps.length->gf ds≠.no->bq (G (ds.map some++List.replicate (N.length-ps.length) none))=gf ds)
  (body:Bod P w K mg base x st k O N G) (S:cB N ps (ax st):=by exact⟨rfl,rfl,rfl,by decide +kernel,rfl,by decide +kernel,by decide +kernel⟩) (b:∀i∈O,ps.length<=i:=by decide):fD P w K mg base (CXW P w) (k+1) f fd ps (spD K ps.length gf) :=
 xg F S b (λcdv A outer s H E=>body f cdv A outer s H E S.nd) a
end
end RS
set_option maxHeartbeats 0
namespace RS
open PySem PySem.Spec PyProof.Rows L2
def top (i:Nat):Stmt:=PySem.Challenge.pw_ranksure_k05_answers.main.body.getD i (.Pass ⟨0,0,0,0⟩)
structure wZ (K:PySem.W.Frag) (C:Addr):Prop where
 cl:Cls K C
 na:∀f∈["number", "parts", "rank", "row", "job", "part", "spent"],eO K C f
 mi:JA K C "Jobs.__init__" (inClass (top 29) 0) ["self", "number", "parts", "rank", "row"]
 mt_Jobs_are_done:wB K C "are_done" "Jobs.are_done" (inClass (top 29) 1) ["self"]
 mt_Jobs_is_there:wB K C "is_there" "Jobs.is_there" (inClass (top 29) 2) ["self", "time"]
 mt_Jobs_held:wB K C "held" "Jobs.held" (inClass (top 29) 3) ["self"]
 mt_Jobs_wanted:wB K C "wanted" "Jobs.wanted" (inClass (top 29) 4) ["self"]
 mt_Jobs_go_on:wB K C "go_on" "Jobs.go_on" (inClass (top 29) 5) ["self"]
structure Tx (K:PySem.W.Frag) (mg:Str->Option Value) (cs:Cs):Prop where
 f_is_whole:bM K mg "is_whole" (top 13) ["thing", "least", "most"]
 f_is_tuple:bM K mg "is_tuple" (top 14) ["thing", "fewest", "most"]
 f_is_part:bM K mg "is_part" (top 15) ["thing"]
 f_are_parts:bM K mg "are_parts" (top 16) ["thing"]
 f_is_errand:bM K mg "is_errand" (top 17) ["thing"]
 f_checked:bM K mg "checked" (top 18) ["errands"]
 f_checked_ranks:bM K mg "checked_ranks" (top 19) ["errands", "ranks"]
 f_has_tool:bM K mg "has_tool" (top 20) ["errand", "tool"]
 f_height:bM K mg "height" (top 21) ["errands", "ranks", "tool"]
 f_heights_of:bM K mg "heights_of" (top 22) ["errands", "ranks"]
 f_have_moments:bM K mg "have_moments" (top 26) ["errand", "row"]
 f_is_row:bM K mg "is_row" (top 27) ["errand", "thing"]
 f_checked_comings:bM K mg "checked_comings" (top 28) ["errands", "comings"]
 f_height_by_high:bM K mg "height_by_high" (top 30) ["jobs", "tops"]
 f_holder:bM K mg "holder" (top 31) ["there", "tool"]
 f_lent_ranks:bM K mg "lent_ranks" (top 32) ["there"]
 f_picked:bM K mg "picked" (top 33) ["there", "tops", "lending"]
 f_run_of:bM K mg "run_of" (top 34) ["errands", "ranks", "rows", "lending"]
 f_run:bM K mg "run" (top 35) ["errands", "ranks", "comings", "lending"]
 f_answers_of:bM K mg "answers_of" (top 36) ["number", "row", "ends"]
 f_answers_in:bM K mg "answers_in" (top 37) ["rows", "told"]
 f_answers:bM K mg "answers" (top 38) ["errands", "ranks", "comings", "lending"]
 f_law_cell_at:bM K mg "_law_cell_at" (top 40) ["_law_script", "_law_k"]
 f_law_mixed:bM K mg "_law_mixed" (top 41) ["_law_script", "_law_k", "_law_many"]
 f_law_errand:bM K mg "_law_errand" (top 42) ["_law_script", "_law_at_here", "_law_top", "_law_tools"]
 f_law_errands:bM K mg "_law_errands" (top 43) ["_law_script", "_law_at_here", "_law_most", "_law_top", "_law_tools"]
 f_law_ranks:bM K mg "_law_ranks" (top 44) ["_law_script", "_law_at_here", "_law_many"]
 f_law_coming_row:bM K mg "_law_coming_row" (top 45) ["_law_script", "_law_at_here", "_law_errand_here", "_law_span"]
 f_law_comings:bM K mg "_law_comings" (top 46) ["_law_script", "_law_at_here", "_law_errands_here", "_law_span"]
 f_law_answers:bM K mg "_law_answers" (top 52) ["_law_errands_here", "_law_comings_here", "_law_done"]
 f_law:bM K mg "law" (top 53) ["_law_script"]
 bs:∀x∈["all", "bool", "enumerate", "int", "isinstance", "len", "list", "max", "min", "range", "set", "tuple", "zip"],mg x=none
 cst:∀q∈([("LAST_COMING",9999),("LEAST_EVERY",2),("MOST_COMINGS",60),("MOST_ERRANDS",6),("MOST_EVERY",60),("MOST_LATE",20),("MOST_LENGTH",20),("MOST_PARTS",4),("TOOLS",4)]:List (Str×Int)),∃t,mg q.1=some (.int q.2 t)
 e_NoComings:tH K mg "NoComings" cs.NoComings
 e_NoErrands:tH K mg "NoErrands" cs.NoErrands
 e_NoRanks:tH K mg "NoRanks" cs.NoRanks
 m_Jobs:mg "Jobs"=some (.ref cs.Jobs)
 k_Jobs:wZ K cs.Jobs
 tb_picked:Cv K "picked"
 nm_picked:∀g,PySem.W.nsIn K mainGlobals "picked"=some (some (.ref g))->mg "picked"=some (.ref g)
structure Ty (K:PySem.W.Frag) (mg:Str->Option Value) (cs:Cs) (base:Heap):Prop extends Tx K mg cs where
 hB:mz mg base
 hK:K.In base
section
theorem vA:cB ["_law_script", "_law_k"] ["_law_script", "_law_k"] (ax (top 40)):=⟨rfl,rfl,rfl,by decide +kernel,rfl,by decide +kernel,by decide +kernel⟩
theorem wg (F:Fun K "_law_cell_at" "_law_cell_at" (top 40) f fd) (bl:mg "len"=none):fD P w K mg base CX0 1 f fd ["_law_script", "_law_k"] (z0 K):=by
 refine F.ok vA (λvs H Q E h=>?_) (λcdv A outer s H vs Q E l h=>?_)
 ·obtain⟨a,ns,k,rfl,_⟩:=h;rfl
 ·obtain⟨a,ns,k,rfl,e,m,g⟩:=h;refine⟨_,cu (ug (vT (HG (pv 1) (fR iz rfl bl PySem.boot_len (dJ (pv 0) fU)))) (fz (pD (wF mZ (pv 0) (pv 1) (λ_ _=>rfl)))) mU)
   (cu (ug (kz (vJ l.units) (pv 0) (vz fU) (jc _)) (fz (pD fi)) mU)
   (fz (pD (dX lA (dX lY (wF mZ (pv 0) (dX n8 (pv 1) (fR iz rfl bl PySem.boot_len (dJ (pv 0) fU))) (λ_ _=>rfl)) fi) (pv 1))))),?_⟩
  refine⟨_,rfl,_,rfl,a,_,rfl,.inl e,k,_,rfl,rfl,_,rfl,?_⟩;have hlen:(ns.map V.int).length=ns.length:=J6 ..;rw[hlen];refine HK (λhc=>?_) (λhc=>?_)
  ·have hc:k<(ns.length:Int):=of_decide_eq_true hc;have hi:k.toNat<ns.length:=by omega
   refine⟨_,rfl,_,rfl,a,_,k,.int (ns.getD k.toNat 0),rfl,rfl,e,sL m ?_,?_⟩
   ·rw[JY,J0 hi,K6,J0 hi];rfl
   ·have:=g H (ao.refl H);rw[show cellAt ns k=ns.getD k.toNat 0 by unfold cellAt;rw[if_pos hc]]at this;exact this
  ·have hc:¬ k<(ns.length:Int):=λz=>hc (decide_eq_true z)
   refine⟨_,rfl,Ks _,λp i=>⟨.list (ns.map .int),.list [],(sC e (qa ns)).same (fW i),sC (SqL.of ay) ph,shaped_ints ns,vL,_,rfl,?_⟩⟩;rw[Cf];refine HK (λb=>?_) (λb=>?_)
   ·have b:ns=[]:=of_decide_eq_true b;have:=g _ (fW (o:=.lst []) i);rw[show cellAt ns k=0 by unfold cellAt;rw[if_neg hc,if_pos b]]at this;exact this
   ·have b:¬ ns=[]:=λz=>b (decide_eq_true z)
    have c:0<(ns.length:Int):=by
     cases ns with
     |nil=>exact absurd rfl b
     |cons _ _=>simp
    have h1:0<=k % (ns.length:Int):=KR _ (by omega);have h2:k % (ns.length:Int)<(ns.length:Int):=KW _ c;have hi:(k % (ns.length:Int)).toNat<ns.length:=by omega
    have j:ao H (upd H p (.lst [])):=fW i;refine⟨_,rfl,_,rfl,_,rfl,a,_,rfl,.inl (j.seq e),_,_,rfl,rfl,by rw[hlen];exact c,a,_,_,.int (ns.getD (k % (ns.length:Int)).toNat 0),rfl,rfl,j.seq e,?_,_,_,rfl,rfl,.inr ⟨by decide,by decide⟩,_,rfl,_,_,rfl,rfl,?_⟩
    ·rw[hlen];refine sL h1 ?_;rw[JY,J0 hi,K6,J0 hi];rfl
    ·have:=g _ j;rw[show cellAt ns k=ns.getD (k % (ns.length:Int)).toNat 0*31+k by unfold cellAt;rw[if_neg hc,if_neg b]]at this;exact this
theorem uM:cB ["_law_script", "_law_k", "_law_many", "_law_drawn"] ["_law_script", "_law_k", "_law_many"] (ax (top 41)):=⟨rfl,rfl,rfl,by decide +kernel,rfl,by decide +kernel,by decide +kernel⟩
theorem A1 {b:FuncData} (F:Fun K "_law_mixed" "_law_mixed" (top 41) f fd) (e:Fun K "_law_cell_at" "_law_cell_at" (top 40) c b) (g:Binds K b ["_law_script", "_law_k"] []) (j:mg "_law_cell_at"=some (.ref c)) (bl:mg "len"=none):fD P w K mg base CX0 2 f fd ["_law_script", "_law_k", "_law_many"] (EW K):=by
 have l:fD P w K mg base CX0 1 c b _ (z0 K):=wg e bl;refine F.ok uM (λvs H Q E h=>?_) (λcdv A outer s H vs Q E m h=>?_)
 ·obtain⟨a,ns,k,many,rfl,_⟩:=h;rfl
 ·obtain⟨a,ns,k,many,rfl,n,o,hm,p⟩:=h;refine⟨_,cu (lP (i:=3) uM.nd rfl (Or.inl rfl) (dX n8 (dX lY (dX lA (dX lA (xq l m rfl j e.kp g .nil Hu (dJ (pv 0) (dJ (pv 1) fU))) (dX lY fi (pv 1))) fi) fi) fi))
   (fz (pD (dX n8 (dX n8 (dX lA (dX lA (dX lY (pv 3) (pv 3)) (dX lY fi (pv 3))) (pv 1)) fi) (pv 2)))),?_⟩
  refine⟨_,rfl,_,rfl,a,ns,k,rfl,n,o,λH1 q=>?_⟩;refine⟨_,rfl,_,_,rfl,rfl,.inl ⟨by decide,by decide⟩,_,_,rfl,rfl,_,_,rfl,rfl,_,_,rfl,rfl,.inr ⟨by decide,by decide⟩,_,_,rfl,rfl,(by show (0:Int)<2147483647;decide),?_⟩;have b1:=DX ns k;have b2:=D0 ns k;have eD:(cellAt ns k+7919*k+1)*48271 % 2147483647=yB ns k:=rfl;refine⟨_,rfl,_,rfl,_,_,rfl,rfl,.inl ⟨?_,?_⟩,_,rfl,_,_,rfl,rfl,.inl ⟨by decide,by decide⟩,_,_,rfl,rfl,_,rfl,_,_,rfl,rfl,_,_,rfl,rfl,(by show (0:Int)<2147483629;decide),_,rfl,_,_,rfl,rfl,hm,p H1 q⟩
  ·show -(2 ^ 64)<(cellAt ns k+7919*k+1)*48271 % 2147483647;rw[eD];omega
  ·show (cellAt ns k+7919*k+1)*48271 % 2147483647<2 ^ 64;rw[eD];omega
theorem tT (T:Tx K mg cs):gA P w K mg base 2 "_law_mixed" 3 ai:=by obtain⟨f,fd,F,b,m⟩:=T.f_law_mixed;obtain⟨fC,fdC,a,c,e⟩:=T.f_law_cell_at;exact gA.old (A1 F a c e (T.bs _ (by decide))) m F.kp b C8
theorem wC (T:Tx K mg cs):MkD P w K mg base 1 "Jobs" cs.Jobs JN JT:=by
 obtain⟨f,fd,M,F,b⟩:=T.k_Jobs.mi;refine⟨f,fd,_,M,mW (k:=0) (N:=["self", "number", "parts", "rank", "row"]) F ⟨rfl,rfl,rfl,by decide +kernel,rfl,by decide +kernel,by decide +kernel⟩ (λvs H Q E h=>?_) (λcdv A outer s H vs Q E hr h=>?_),b,T.m_Jobs⟩
 ·obtain⟨x,dx,args,rfl,hl,_⟩:=h;rw[Ka,hl];rfl
 ·obtain⟨x,dx,args,rfl,hl,c,k⟩:=h;obtain⟨g,rfl⟩:=Ax .non hl;refine⟨_,(cu (jd (pv 0) (pv 1) rfl) (cu (jd (pv 0) (pv 2) rfl) (cu (jd (pv 0) (pv 3) rfl) (cu (jd (pv 0) (pv 4) rfl) (cu (jd (pv 0) fi rfl) (cu (jd (pv 0) fi rfl) (fz (jd (pv 0) fi rfl)))))))),?_⟩;refine⟨_,rfl,_,rfl,x,cs.Jobs,dx,_,rfl,c,T.k_Jobs.cl,T.k_Jobs.na _ (by decide),(by show 0<1000;decide),_,rfl,_,rfl,x,cs.Jobs,dx,_,rfl,ay,T.k_Jobs.cl,T.k_Jobs.na _ (by decide),(by show 1<1000;decide),_,rfl,_,rfl,x,cs.Jobs,dx,_,rfl,ay,T.k_Jobs.cl,T.k_Jobs.na _ (by decide),(by show 2<1000;decide),_,rfl,_,rfl,x,cs.Jobs,dx,_,rfl,ay,T.k_Jobs.cl,T.k_Jobs.na _ (by decide),(by show 3<1000;decide),_,rfl,x,cs.Jobs,dx,_,rfl,ay,T.k_Jobs.cl,T.k_Jobs.na _ (by decide),(by show 4<1000;decide),_,rfl,x,cs.Jobs,dx,_,rfl,ay,T.k_Jobs.cl,T.k_Jobs.na _ (by decide),(by show 5<1000;decide),_,rfl,x,cs.Jobs,dx,_,rfl,ay,T.k_Jobs.cl,T.k_Jobs.na _ (by decide),(by show 6<1000;decide),?_⟩;exact k _ (λb a=>by rw[au a,au a,au a,au a,au a,au a,au a]) (by rw[ay];rfl)
set_option hygiene false
local macro_rules | `(tactic| infer_instance)=>`(tactic| first|((with_reducible show _=_);exact rfl)|(with_reducible first|(show PD _ _ _ _;first|refine' Ge ..|refine' GV ..|refine' Ck ..|refine' ID ..|refine' Fc ..|refine' Hc ..|refine' Gg ..|refine' HJ ..|refine' F9 ..|refine' GG ..|refine' Ff ..|refine' Hg ..|refine' F2 ..|refine' GW ..|refine' FV ..|refine' FQ ..|refine' Gi ..|refine' IJ ..|refine' HA ..|refine' F3 ..|refine' Hd ..|refine' E6 ..|refine' CF ..|refine' GU ..|(show PD _ _ _ (ar _ _);apply C4)|refine' zt ..|refine' zA ..|refine' Gu ..|refine' Fx ..|refine' AO ..|refine' vB ..|refine' yN ..|refine' Ec ..|refine' DQ ..|refine' EJ ..|refine' Bo ..|(show PD _ _ _ (ba _ _ _ _ ah);apply Ai)|(show PD _ _ _ (ba _ _ _ _ _);apply En)|refine' IH ..|refine' HQ ..|refine' HI ..|refine' HL ..|refine' Gw ..|refine' EB ..)|(show PAD _ _ _ _;first|refine' B0 ..|refine' Dn ..)|(show PCD _ _ _ _;first|refine' Gd ..|refine' FK ..|refine' Gs ..|refine' FE ..|refine' DG ..|refine' AE ..|refine' DI ..|refine' EM (xo ..)|refine' EM (zR ..)|refine' Dz ..)|(show PSD _ _ _ _ _;first|refine' sH ..|refine' Ac ..|refine' yZ ..|(show PSD _ _ _ _ (pA _ _ _ _ _ _ _);apply zD)|refine' BL ..|refine' Ay ..|(show PSD _ _ _ (.Assign _ (.ListComp _ _ _ _) _) (aQ _ _ (gL _));apply Ar;apply BK;focus with_unfolding_all exact rfl)|refine' Dx ..|refine' Bf ..|refine' Et ..|refine' yw ..|refine' Bp ..|refine' CG ..|refine' vt ..|refine' Cq ..|refine' AD ..|(show PSD _ _ _ _ (iy _ _ _ _);apply DA)|refine' ye ..)|(show PBD _ _ _ _ _;first|refine' sI ..|refine' mS ..|refine' g9 ..)|(show PLD _ _ _ _;first|(show PLD _ _ _ (a9 _ _ _ _ _);apply AI)|refine' EG ..|refine' yz ..)|(show PID _ _ _ _ _;first|refine' vj ..|refine' Bx ..|refine' Cj ..|refine' Ex ..)|(show PIf _ _ _;first|exact PIf.nil|refine' PIf.one ..)|(show PWD _ _ _ _;first|refine' xo ..|refine' zR ..|refine' Ag ..|refine' Ed ..)|(show TgS _ _ _ _;first|refine' AZ ..|refine' xM ..)|(show PSN _ _ _ _ _ _;first|refine' Hh ..|refine' yq ..|refine' DY ..|refine' vl ..|(show PSN _ _ _ _ _ (jS _ _ _ _ _);apply zV)|refine' GY ..)|(show PBN _ _ _ _ _ _;first|refine' Di ..|refine' xy ..|refine' uY ..)) <;> infer_instance|((with_reducible show PBD _ _ _ _ (aF (l8 _ _ _ _ _ _ _ _ _ _ _) _));apply Bg) <;> infer_instance|((with_reducible show PS _ _ _);apply Dk;focus with_unfolding_all exact rfl) <;> infer_instance|exact Dm (by decide)|((with_reducible show PBD _ _ _ _ _); first|refine' g9 ?_ ?_|refine' mS ?_) <;> infer_instance|((with_reducible show PBN _ _ _ _ _ _); first|refine' uY ?_ ?_|refine' xy ?_) <;> infer_instance|((with_reducible show PG _ _ _); first|refine' sE ?_ ?_ ?_|refine' A3 ?_ ?_) <;> infer_instance|((with_reducible show PGs _ _ _); first|refine' oT ?_ ?_|exact wG) <;> infer_instance|exact rfl|((with_reducible show gA _ _ _ _ _ _ _ _ _);(with_reducible refine' gA.to ?z1 ?z2 ?z3);(case z1=>with_reducible assumption);(case z2=>exact⟨rfl,rfl,rfl,rfl,rfl⟩);(case z3=>rfl))|((with_reducible show gR _ _ _ _ _ _ _ _ _ _);(with_reducible refine' gR.to ?z1 ?z2 ?z3);(case z1=>with_reducible assumption);(case z2=>exact⟨rfl,rfl,rfl,rfl,rfl⟩);(case z3=>rfl))|((with_reducible show iT _ _ _ _ _ _ _ _ _);(with_reducible refine' iT.to ?z1 ?z2);(case z1=>with_reducible assumption);(case z2=>exact⟨rfl,rfl,rfl,rfl,rfl⟩))|exact hr|exact D4|exact sW|exact T.bs _ (by decide +kernel)|exact T.cst (_,_) (by decide +kernel)|exact .inl rfl|exact .inr rfl|exact .inr (.inl rfl)|exact .inr (.inr rfl)|exact nd|exact rn (by kernel_rfl)|exact PassesOwn.leaving|exact AQ|exact tj|exact λ_=>rfl|exact λ_ _=>rfl|((with_reducible intro _ _ _ _);infer_instance)|exact T.e_NoComings|exact T.e_NoErrands|exact T.e_NoRanks|exact FJ|exact T.k_Jobs.cl|exact T.k_Jobs.na _ (by decide +kernel)|exact BQ|exact bt_bool|exact ux|exact rS|exact bU.u1 hr|exact hr.units|exact⟨rfl,rfl,rfl,rfl⟩|exact hr.in1.deeper _|exact bU.u1 (hr.in1.deeper _)|decide|with_unfolding_all rfl)
local macro_rules | `(tactic| nofun)=>`(tactic| (try have:=pZ P w T;try have:=wx P w T;try have:=oB P w T;try have:=zN P w T;try have:=wd P w T;try have:=yg P w T;try have:=u0 P w T;try have:=sZ P w T;try have:=yA P w T;try have:=kA P w T;try have:=vg P w T;try have:=Cg P w T;try have:=iC P w T;try have:=fg P w T;try have:=p6 P w T;try have:=uA P w T;try have:=Aq P w T;try have:=rQ P w T;try have:=lW P w T;try have:=oS P w T;try have:=fh P w T;try have:=hW P w T;try have:=Ad P w T;try have:=mK P w T;try have:=IW P w T;try have:=sr P w T;try have:=rG P w T;try have:=xU P w T;try have:=tT (P:=P) (w:=w) (base:=base) T.toTx;try have:=lu P w T;try have:=pK P w T;try have:=uZ P w T;try have:=sF P w T;try have:=pV P w T))
local macro_rules | `(tactic| and_intros)=>`(tactic| (nofun;intro f cdv A outer s H E nd hr;infer_instance))
theorem yM (T:Tx K mg cs) { aU aL cj aH gf:Gf} {gm_Jobs_go_on:List (Str×PyData)->Option (List (Str×PyData))} (iC:gA P w K mg base 3 "heights_of" 2 aU) (fg:gR P w K mg base 1 cs.Jobs "are_done" 1 aL) (oS:gA P w K mg base 6 "picked" 3 cj) (fh:gR P w K mg base 1 cs.Jobs "is_there" 2 aH) (hW:iT P w K mg base 3 cs.Jobs "go_on" gm_Jobs_go_on) (wC:MkD P w K mg base 1 "Jobs" cs.Jobs JN JT) {Gt:Ds->Sr}
  (hGt:∀δ,Gt δ≠.no->∃d ds fss,Gt δ=.rt d/\5<δ.length/\δ.length=9/\(eZ (ae (af 2) ah)) (mask [6] δ)=.ok ds/\ds.length<=1000000/\fss.length=ds.length/\(∀(i:Nat) d,ds[i]?=some d->∃ow fs,dS d=some ow/\fss[i]?=some fs/\(ae (af 9) (ae (g2 dIx (g2 dIx (af 0) (af 9)) (gC (.int 3))) (ae (vW (af 1) (af 9)) (ae (af 10) ah)))) (mask [6] δ++ow)=.ok fs/\fs.length=JN.length) /\
   ∀as:List Addr,as.length=ds.length->as.Nodup->iF cs aU aL cj aH gm_Jobs_go_on as (δ.set 5 (some (.list (jz cs.Jobs JN JT as fss))))=.rt d)
  (hL:∀ds,ds.length=4->gf ds≠.no->bq (aF (aQ [6] 4 (ar aU (ae (af 0) (ae (af 1) ah)))) Gt (ds.map some++List.replicate 5 none))=gf ds):gA P w K mg base 7 "run_of" 4 gf :=
 dA P w base 6 [6] ["errands", "ranks", "rows", "lending", "tops", "queues", "told", "there", "best"] T.f_run_of hL λf cdv A outer s H E nd hr=>g9 (by infer_instance) (Ey (PS.imp (kJ (i:=5) (M:=["errands", "ranks", "rows", "lending", "tops", "queues", "told", "there", "best"]) (own:=["number", "row"]) (te:=eMk K E0 cs.Jobs JN JT (ae (af 9) (ae (g2 dIx (g2 dIx (af 0) (af 9)) (gC (.int 3))) (ae (vW (af 1) (af 9)) (ae (af 10) ah))))) rfl nd rfl (by first|exact Or.inl rfl|exact Or.inr rfl) rfl (show PID _ E _ _ (eZ (ae (af 2) ah)) from by infer_instance) (λ_ _ _ _=>(A3 rfl (oT (sE (i:=9) (rn (by kernel_rfl)) rfl (Or.inl rfl) (.inr rfl)) (oT (sE (i:=10) (rn (by kernel_rfl)) rfl (Or.inl rfl) (.inr rfl)) wG)))) (λ_ _ _ _=>.nil) (λ_ _ _ _=>Ip wC hr sW (by infer_instance))) (λD σ H h=>E8 (n0:=9) tj σ H _ h)) (λas=>by delta iF;infer_instance) (by decide) hGt)
variable (P w) (T:Ty K mg cs base)
def pZ:=dA P w base 0 [] ["_law_errands_here", "_law_comings_here", "_law_done", "_law_found", "_law_time", "_law_job"] (gf:=b0 cs) (G:=dE cs) T.f_law_answers gr (by delta dE;and_intros)
def wx:=dA P w base 0 [] ["thing", "least", "most"] T.f_is_whole (vZ cs) (by delta iu;and_intros)
def oB:=dA P w base 0 [] ["errand", "row", "every", "late", "earliest", "came", "moment"] T.f_have_moments (nC cs) (by delta eE;and_intros)
def zN:=dA P w base 1 [] ["errand", "thing"] T.f_is_row (Ao cs) (by delta ki;and_intros)
def wd:=dA P w base 0 [] ["thing", "fewest", "most"] T.f_is_tuple (wc cs) (by delta iG;and_intros)
def yg:=dA P w base 1 [] ["thing"] T.f_is_part (ym cs) (by delta fI;and_intros)
def u0:=dA P w base 2 [] ["thing"] T.f_are_parts (u3 cs) (by delta fc;and_intros)
def sZ:=dA P w base 3 [] ["thing", "every", "due", "late"] T.f_is_errand (tm cs) (by delta c9;and_intros)
def yA:=dA P w base 4 [] ["errands"] T.f_checked (xZ cs) (by delta gE;and_intros)
def kA:=dA P w base 5 [] ["errands", "comings"] T.f_checked_comings (kH cs) (by delta c7;and_intros)
def vg:=dA P w base 0 [] ["errand", "tool"] T.f_has_tool (vm cs) (by delta ip;and_intros)
def Cg:=dA P w base 1 [] ["errands", "ranks", "tool", "place", "number"] T.f_height (Bs cs) (by delta kh;and_intros)
def iC:=dA P w base 2 [] ["errands", "ranks"] T.f_heights_of (rE cs) (by delta fE;and_intros)
def fg:=dM P w base 0 [] ["self"] (gf:=aL cs) (G:=cR cs) T.k_Jobs.mt_Jobs_are_done T.k_Jobs.cl (mg:=mg) gr (by delta cR;and_intros)
def p6:=dM P w base 0 [] ["self"] (gf:=aC cs) (G:=dD cs) T.k_Jobs.mt_Jobs_wanted T.k_Jobs.cl (mg:=mg) gr (by delta dD;and_intros)
def uA:=dM P w base 0 [] ["self"] (gf:=aJ cs) (G:=eY cs) T.k_Jobs.mt_Jobs_held T.k_Jobs.cl (mg:=mg) gr (by delta eY;and_intros)
def Aq:=dA P w base 1 [] ["there", "tool", "jobs"] (gf:=bu cs) (G:=iX cs _) T.f_holder gr (by delta iX;and_intros)
def rQ:=dA P w base 2 [1] ["there", "lent", "jobs", "other"] (gf:=bX cs) (G:=fu cs _ _) T.f_lent_ranks gr (by delta fu;and_intros)
def lW:=dA P w base 1 [] ["jobs", "tops", "tool"] (gf:=bA cs) (G:=bG cs _) T.f_height_by_high gr (by delta bG;and_intros)
def oS:=dT (P:=P) (w:=w) 5 [] ["there", "tops", "lending", "free", "lent"] (gf:=cj cs) (G:=jf cs _ _ _ _) T.f_picked T.nm_picked T.tb_picked T.hB T.hK gr λf cdv A outer s H E nd hr c Pt TAB=>by delta jf;nofun;exact (g9 (Ac (by infer_instance) (mS (sH (nk (N:=["jobs", "tops"]) (p:="jobs") (cap:=[1]) (T.bs _ (by decide)) hr (by infer_instance) TAB (λq c' s H=>(by infer_instance))))) sI)      (g9 (by infer_instance)      (g9 (by infer_instance)      (mS (sH (nk (N:=["jobs", "lent"]) (p:="jobs") (cap:=[4]) (T.bs _ (by decide)) hr (by infer_instance) TAB (λq c' s H=>(by infer_instance))))))))
def fh:=dM P w base 0 [] ["self", "time"] (gf:=aH cs) (G:=cV cs) T.k_Jobs.mt_Jobs_is_there T.k_Jobs.cl (mg:=mg) gr (by delta cV;and_intros)
def hW:=dK (P:=P) (w:=w) (base:=base) (mg:=mg) 2 ["self"] T.k_Jobs.mt_Jobs_go_on T.k_Jobs.cl (Ah cs) λas f cdv A outer s H E nd hr=>by delta fG;nofun;infer_instance
def Ad:=yM (P:=P) (w:=w) (base:=base) T.toTx (iC P w T) (fg P w T) (oS P w T) (fh P w T) (hW P w T) (wC T.toTx) (Ek cs) (Bk cs)
def mK:=dA P w base 1 [] ["errands", "ranks", "last"] T.f_checked_ranks (mL cs) (by delta cg;and_intros)
def IW:=dA P w base 7 [] ["errands", "ranks", "comings", "lending"] T.f_run (IT cs) (by delta xh;and_intros)
def sr:=dA P w base 0 [] ["number", "row", "ends"] (gf:=cw cs) (G:=eh cs) T.f_answers_of gr (by delta eh;and_intros)
def rG:=dA P w base 1 [2] ["rows", "told", "ends", "time", "done"] (gf:=cx cs) (G:=eo cs _) T.f_answers_in gr (by delta eo;and_intros)
def xU:=dA P w base 8 [] ["errands", "ranks", "comings", "lending"] (gf:=dQ cs) (G:=gP cs _ _) T.f_answers gr (by delta gP;and_intros)
def lu:=dA P w base 2 [6] ["_law_script", "_law_at_here", "_law_errand_here", "_law_span", "_law_seed", "_law_moment", "_law_made", "_law_k", "_law_drawn", "_law_come"] T.f_law_coming_row (lI cs) (by delta cG;and_intros)
def pK:=dA P w base 3 [] ["_law_script", "_law_at_here", "_law_errands_here", "_law_span"] T.f_law_comings (pU cs) (by delta dm;and_intros)
def uZ:=dA P w base 2 [3,4] ["_law_script", "_law_at_here", "_law_many", "_law_left", "_law_made", "_law_k"] T.f_law_ranks (um cs) (by delta gp;and_intros)
def sF:=dA P w base 2 [7] ["_law_script", "_law_at_here", "_law_top", "_law_tools", "_law_every", "_law_late", "_law_due", "_law_parts", "_law_k", "_law_cell"] T.f_law_errand (rq cs) (by delta ft;and_intros)
def pV:=dA P w base 3 [] ["_law_script", "_law_at_here", "_law_most", "_law_top", "_law_tools", "_law_many"] T.f_law_errands (pG cs) (by delta eW;and_intros)
theorem law_ok (T:Ty K mg cs base) (F:Fun K "law" "law" (top 53) f fd):fD P w K mg base (CXW P w) 10 f fd ["_law_script"] (spD K 1 (eX 63)) :=
 dL (ps:=["_law_script"]) 9 [] ["_law_script", "_law_errands_here", "_law_ranks_here", "_law_comings_here", "_law_lending", "_law_done", "_law_answer"] F (Ii cs) (by delta wH;and_intros)
end
end RS
namespace L2
open PySem PySem.Spec PyProof.Rows
theorem DR {kV dc:Value}
  (hb:∀(kV doc pm:Value) (an:Option Addr) (cdv ct:Value) (us:List Value),us.length=ps.length->bindArgs (PySem.W.fnOf m qual (eu st) (bK st) (ax st) .none kV doc pm an cdv ct) ⟨us,[]⟩=pure (ps.zip us))
  (hm:Meth K C m f) (l:K.lookup f=some ⟨oc,od,.func (PySem.W.fnOf m qual (eu st) (bK st) (ax st) .none kV dc pm an cd ct),sl⟩)
  (c:PySem.W.codeIn K cd qual=true) (k:PySem.W.keepIn K (.ref f)=true):∃f fd,Fun K m qual st f fd/\Binds K fd ps []/\Meth K C m f :=
 have F:=vn (st:=st) l c k
 ⟨f,_,F,F.binds hb,hm⟩
end L2
set_option maxHeartbeats 4000000
namespace L2
open PySem PySem.Spec PyProof.Rows
variable {P:Addr} {vs:Array Value}
theorem Am {o:Obj} (h1:PySem.W.nsIn K mainGlobals x=some (some (.ref f))) (h2:K.lookup f=some ⟨oc,od,.func fd,sl⟩) (h3:fd.code=.ref c) (h4:K.lookup c=some o) (h5:o.data=.fields vs) (h6:vs[11]?=some (.ref P)):PySem.W.tabIn K x=some (c,P):=by obtain⟨cl,di,da,so⟩:=o;cases h5;unfold PySem.W.tabIn;rw[h1];simp only;rw[h2];simp only;rw[h3];simp only;rw[h4];simp only;rw[h6]
theorem yH (hl:kF=[x]) {p:Program} {d:DefRec} (hr:(recsOf p).find? (λe=>e.name==x)=some d) (hn:PySem.W.noTabs K=true) (T:Top p loose mean mg mb h) (X:K.In h):kS K h:=by
 refine⟨λP q ⟨x',hx,f,oc,od,fd,sl,c,h1,h2,h3,⟨o,vs,h4,h5,h6⟩,hq⟩=>?_,λP q q' ⟨x1,hx1,_,_,_,_,_,_,_,_,_,_,e1⟩ ⟨x2,hx2,_,_,_,_,_,_,_,_,_,_,e2⟩=>?_⟩
 ·rw[hl]at hx;cases JW.mp hx;have ht:=Am h1 h2 h3 h4 h5 h6;obtain⟨hc,hp⟩:=PySem.W.tab_of T X hr ht;refine⟨hp,?_,?_⟩
  ·cases z:K.lookup P with
   |none=>rfl
   |some o' =>exfalso;have e:=X P o' z;rw[hp]at e;cases e;have h7:=K9.mp hn (P,_) (PySem.W.mem_of_lookupK z);exact absurd (show false=true from h7) Kf
  ·obtain⟨o2,vs2,_,_,_,_,_,_,_,g1,g2,g3,g4,_⟩:=hc;exact⟨c,o2,vs2,g1,g2,g3,g4⟩
 ·rw[hl]at hx1 hx2;rw[e1,e2,JW.mp hx1,JW.mp hx2]
theorem xS {file:Str} {tf:Nat} {flags text:Int} {tg tt:Nat} {inF:Bool} (l:K.lookup c=some ⟨.type "code",od,.fields vs,sl⟩) (h11:vs[11]?=some (.ref P)) (h18:vs.getD 18 .none=.str file tf) (h7:vs.getD 7 .none=.int flags tg) (h9:vs.getD 9 .none=.bool inF) (h10:vs.getD 10 .none=.int text tt) (ne:(c != P)=true):PySem.W.codeHdIn K c P=true:=by unfold PySem.W.codeHdIn;rw[l];simp only;rw[h11,h18,h7,h9,h10,ne];simp
theorem C0 {od2:Option Addr} {sl2:Array (Option Value)} {file:Str} {tf:Nat} {flags text:Int} {tg tt:Nat} {inF:Bool} (h1:PySem.W.nsIn K mainGlobals x=some (some (.ref f))) (h2:K.lookup f=some ⟨oc,od,.func fd,sl⟩) (h3:fd.code=.ref c) (l:K.lookup c=some ⟨.type "code",od2,.fields vs,sl2⟩) (h11:vs[11]?=some (.ref P)) (h18:vs.getD 18 .none=.str file tf) (h7:vs.getD 7 .none=.int flags tg) (h9:vs.getD 9 .none=.bool inF) (h10:vs.getD 10 .none=.int text tt) (ne:(c != P)=true):Cv K x :=
 ⟨f,oc,od,fd,sl,c,P,_,vs,h1,h2,h3,l,rfl,h11,xS l h11 h18 h7 h9 h10 ne⟩
theorem wz (hl:kF=[x]) {p:Program} (hr:((recsOf p).find? (λe=>e.name==x)).isSome=true) (hn:PySem.W.noTabs K=true) (T:Top p loose mean mg mb h) (X:K.In h):kS K h:=by obtain⟨d,hd⟩:=Option.isSome_iff_exists.mp hr;exact yH hl hd hn T X
end L2
set_option hygiene false
local macro_rules | `(tactic| and_intros)=>`(tactic| first|(refine' RS.BZ KX G (λ_ _ _ _ _ _ us hl=>by obtain⟨f,rfl⟩:=RS.Ax PySem.Value.none hl;rfl) ?za ?zl ?zc ?zk;(case za=>k_is);(case zl=>k_is);(case zc=>k_is);(case zk=>k_is))|(refine' L2.DR (λ_ _ _ _ _ _ us hl=>by obtain⟨f,rfl⟩:=RS.Ax PySem.Value.none hl;rfl) ⟨?zm,?zf,?zp⟩ ?zl ?zc ?zq;(case zm=>k_is);(case zf=>k_is);(case zp=>k_is);(case zl=>k_is);(case zc=>k_is);(case zq=>k_is))|(refine' PySem.W.mg_of KX G ?za;(case za=>k_is))|(refine' PySem.W.mg_none_of KX G ?zz;(case zz=>k_is))|(refine' RS.Cu KX G ?zz;(case zz=>k_is))|(refine' RS.xx KX G ?za ?ze;(case za=>k_is);(case ze=>k_exc))|(refine'⟨_,RS.xx KX G ?za ?ze⟩;(case za=>k_is);(case ze=>k_exc))|(refine'⟨?zp,?zh,?zo,?zs⟩;(case zp=>k_is);(case zh=>k_is);(case zo=>k_is);(case zs=>k_is))|(refine' L2.Df (λ_ _ _ _ _ _ us hl=>by obtain⟨f,rfl⟩:=RS.Ax PySem.Value.none hl;rfl) ?za ?zi ?zl ?zc ?zk ?zm ?zx;(case za=>k_is);(case zi=>k_is);(case zl=>k_is);(case zc=>k_is);(case zk=>k_is);(case zm=>k_is);(case zx=>k_is))|exact List.forall_mem_nil _|((first|refine List.forall_mem_cons.2 ⟨?_,?_⟩|refine List.forall_mem_singleton.2 ?_) <;> (try dsimp only) <;> and_intros)|(refine' L2.C0 ?za ?zb ?zc ?zd ?ze ?zf ?zg ?zh ?zi ?zj;(case za=>k_is);(case zb=>k_is);(case zc=>exact rfl);(case zd=>k_is);(case ze=>exact rfl);(case zf=>exact rfl);(case zg=>exact rfl);(case zh=>exact rfl);(case zi=>exact rfl);(case zj=>decide))|exact λg e=>PySem.W.mg_of KX G e|(delta L2.eO;k_is)|(dsimp only;and_intros))
open PySem PySem.W PyProof.Rows
set_option maxRecDepth 100000 in
set_option maxHeartbeats 0 in
theorem PySem.Challenge.cw_ranksure_k05_answers_holds : PySem.Challenge.rw_ranksure_k05_answers.Holds := by
 refine RS.hdTop ?_
 k_fill
 refine RS.HF (l:=PySem.Challenge.rw_ranksure_k05_answers) (n:=63) (k:=10) (x:="_law_script") (st:=RS.top 53) rfl (by decide) rfl ⟨rfl,by decide,by decide⟩ (λw h Y=>PySem.W.km_in_of Y) (λ_ _ _ _ _ _ us hl=>by obtain⟨f,rfl⟩:=RS.Ax PySem.Value.none hl;rfl) ?F (λw h l m mg mb T X=>L2.wz (x:="picked") rfl (by kernel_rfl) (by kernel_rfl) T X)
 case F =>
  intro w mg h KX G;obtain⟨c_NoComings,h_NoComings⟩:∃C,L2.tH (L2.KOf KX) mg "NoComings" C:=by delta L2.KOf;and_intros
  obtain⟨c_NoErrands,h_NoErrands⟩:∃C,L2.tH (L2.KOf KX) mg "NoErrands" C:=by delta L2.KOf;and_intros
  obtain⟨c_NoRanks,h_NoRanks⟩:∃C,L2.tH (L2.KOf KX) mg "NoRanks" C:=by delta L2.KOf;and_intros
  obtain⟨c_Jobs,h_Jobs,k_Jobs⟩:∃C,mg "Jobs"=some (.ref C)/\RS.wZ (L2.KOf KX) C:=by
   delta L2.KOf
   refine'⟨_,PySem.W.mg_of KX G ?za,⟨?zp,?zh,?zo,?zs⟩,?yJobs0,?yJobs1,?yJobs2,?yJobs3,?yJobs4,?yJobs5,?yJobs6⟩
   (case za=>k_is);(case zp=>k_is);(case zh=>k_is);(case zo=>k_is);(case zs=>k_is);all_goals and_intros
  have T:RS.Tx (L2.KOf KX) mg ⟨0,c_NoErrands,c_NoRanks,c_NoComings,0,0,0,0,0,c_Jobs⟩:=by constructor <;> first|assumption|((try delta L2.KOf);and_intros)
  exact⟨T.f_law,λf fd F base hb hn hB=>RS.law_ok _ _ ⟨T,hB,hb⟩ F⟩
end
