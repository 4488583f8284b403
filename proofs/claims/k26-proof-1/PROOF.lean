import PyProof.Rows.All
import OpenK.AllK
import PySem.Challenge.RW_ranksure_k26_whole_asked
import KE.RegKIsAll
import Wide.All
import OpenK.KWalk
import OpenK.KMake
import OpenK.KDescr
import OpenK.KCall
import OpenK.KOwn
import KE.KIsAll
import KE.KItem
import KE.KxBytes
import Wide.FinOn
import Lean
import PyProof.EqAt
import PyProof.EqKinds
import PyProof.TupleCall
import KE.KLam
import KE.LcSums
import PyProof.Rows.EqDataRows
import PyProof.RulesAs
import PyProof.ZipIter
import PyProof.Draws
import KE.KMinKey
import PyProof.Rows.TupAdd
import PyProof.ListMulRoad
import PyProof.AutoListH
import PyProof.Rows.Range3
import PyProof.ListRange
import PyProof.EnumMake
import PyProof.EnumFor
import PyProof.Rows.SetFrom
import PyProof.WalksMore
import PyProof.StrOps2
import PyProof.Rows.MinMaxN
import PyProof.ConsumeWalk
import PyProof.Rows.SortWalk
import PyProof.ExcArgsOwn
import PyProof.StrBlock2
import PyProof.Rows.CallKwBuiltin
import KE.KDictLaws
import KE.KDictMeth
import KE.KDictObj
import KE.KDictLetter
import OpenK.KDict
import KE.KDictOf
import PyProof.Rows.RegDictMethods
import PySem.PyData
import KE.KNestM
noncomputable section
set_option genSizeOf false
set_option genSizeOfSpec false
set_option genInjectivity false
set_option compiler.extract_closed false
set_option bootstrap.genMatcherCode false
set_option Elab.async false
set_option linter.all false
abbrev M1:=@List.getElem?_eq_getElem
abbrev M3:=@List.mem_cons_of_mem
abbrev M4:=@PySem.Heap.get?_push_of_some
abbrev M5:=@List.map_cons
abbrev M6:=@List.length_map
abbrev M7:=@List.mem_cons_self
abbrev M8:=@List.mem_cons
abbrev M9:=@Bool.and_eq_true
abbrev My:=@Nat.le_refl
abbrev ML:=@List.mem_append_right
abbrev MM:=@List.mem_map
abbrev MN:=@List.length_append
abbrev MO:=@List.size_toArray
abbrev MP:=@List.getElem?_map
abbrev MQ:=@Bool.false_ne_true
abbrev MR:=@List.mem_singleton
abbrev MS:=@PySem.Heap.lt_size
abbrev MT:=@List.getD_eq_getElem?_getD
abbrev MU:=@PySem.Heap.get?_push_size
abbrev MV:=@Nat.ne_of_lt
abbrev MW:=@List.length_cons
abbrev MX:=@List.all_eq_true
abbrev MY:=@List.map_congr_left
abbrev MZ:=@Nat.lt_of_lt_of_le
abbrev N0:=@List.getElem?_eq_some_iff
abbrev N1:=@List.not_mem_nil
abbrev N2:=@Bool.false_eq_true
abbrev N3:=@List.mem_filter
abbrev N4:=@List.map_map
abbrev N5:=@List.getElem?_append_left
abbrev N6:=@List.getElem?_append_right
abbrev N7:=@Int.toNat_natCast
abbrev N8:=@List.getElem?_set_ne
abbrev N9:=@List.lookup_cons
abbrev Na:=@List.getElem_mem
abbrev Nb:=@List.mem_append
abbrev Nc:=@List.nodup_cons
abbrev Nd:=@List.filter_cons
abbrev Nf:=@List.sum_cons
abbrev Ng:=@List.find?_cons
abbrev Nh:=@List.mem_append_left
abbrev Ni:=@List.getElem?_set_self
abbrev Nj:=@List.length_singleton
abbrev Nk:=@List.map_append
abbrev Nl:=@Nat.zero_add
abbrev Nm:=@List.mem_of_getElem?
abbrev Nn:=@List.nil_append
abbrev Np:=@Nat.lt_succ_of_lt
abbrev Nq:=@Nat.le_trans
abbrev Nr:=@List.append_nil
abbrev Nt:=@List.mem_of_mem_drop
abbrev Nu:=@Int.mul_le_mul_of_nonneg_right
abbrev Nv:=@List.cons_append
abbrev Nw:=@List.map_nil
abbrev Nx:=@Bool.and_eq_false_iff
abbrev Ny:=@List.getElem?_eq_none
abbrev Nz:=@List.foldl_cons
abbrev NA:=@List.map_id
abbrev NB:=@Bool.and_eq_true_iff
abbrev NC:=@Nat.zero_le
abbrev ND:=@Nat.ne_of_gt
abbrev NF:=@Nat.le_add_right
abbrev NG:=@List.any_eq_true
abbrev NH:=@List.flatMap_cons
abbrev NI:=@List.length_nil
abbrev NJ:=@Array.length_toList
abbrev NK:=@List.replicate_succ
abbrev NL:=@List.length_pos_iff
abbrev NM:=@List.getElem?_range
abbrev NN:=@Int.le_refl
abbrev NO:=@Nat.lt_succ_self
abbrev NP:=@List.drop_eq_getElem_cons
abbrev NQ:=@Option.map_some
abbrev NR:=@Int.emod_nonneg
abbrev NS:=@List.any_cons
abbrev NT:=@List.getElem?_cons_succ
abbrev NU:=@List.getElem?_cons_zero
abbrev NV:=@List.mem_range
abbrev NW:=@List.length_drop
abbrev NX:=@Option.map_eq_some_iff
abbrev NY:=@List.drop_of_length_le
abbrev NZ:=@Int.emod_lt_of_pos
abbrev O0:=@List.ne_nil_of_mem
abbrev O1:=@List.mem_iff_getElem?
abbrev O2:=@Nat.lt_irrefl
abbrev O3:=@List.flatten_cons
abbrev O4:=@List.append_assoc
abbrev O5:=@List.getElem?_mapIdx
abbrev O6:=@List.mem_of_mem_take
abbrev O7:=@Int.toNat_of_nonneg
abbrev O8:=@List.take_succ_cons
abbrev O9:=@List.length_eq_zero_iff
abbrev Oa:=@Bool.and_true
abbrev Ob:=@Int.natCast_nonneg
abbrev Oc:=@Nat.le_succ
abbrev Od:=@List.length_range
abbrev Oe:=@List.length_filter_le
abbrev Of:=@List.length_take
abbrev Og:=@Option.bind_some
abbrev Oh:=@List.ext_getElem
abbrev Oi:=@List.all_cons
abbrev Oj:=@List.exists_cons_of_ne_nil
abbrev Ol:=@List.filterMap_cons
abbrev Om:=@List.getElem_of_mem
abbrev Oo:=@List.of_mem_zip
abbrev Oq:=@List.forIn_cons
abbrev Ot:=@List.getLast?_eq_none_iff
abbrev Ou:=@List.zip_cons_cons
abbrev Ov:=@Int.le_trans
abbrev Ow:=@List.set_cons_succ
abbrev Ox:=@List.set_cons_zero
abbrev Oy:=@List.find?_eq_none
abbrev Oz:=@List.pairwise_cons
abbrev OA:=@List.getElem?_replicate
abbrev OB:=@List.nodup_append
abbrev OC:=@PySem.Heap.get?_update_other
abbrev OD:=@Bool.true_and
abbrev OE:=@Array.getElem?_toList
abbrev OF:=@List.set_append_right
abbrev OG:=@Bool.or_eq_true
abbrev OH:=@Int.add_zero
abbrev OI:=@List.nodup_nil
abbrev OJ:=@List.mem_filterMap
abbrev OK:=@Int.lt_of_lt_of_le
abbrev OL:=@List.map_drop
abbrev OM:=@Bool.not_eq_true'
abbrev ON:=@List.getLast?_map
abbrev OO:=@Nat.le_of_lt
abbrev OP:=@List.getElem_inj
abbrev OQ:=@Option.getD_some
abbrev OR:=@List.drop_length
abbrev OS:=@List.range'_succ
abbrev OT:=@List.take_length
abbrev OU:=@List.mapIdx_cons
abbrev OV:=@Int.zero_add
abbrev OW:=@List.mem_flatMap
variable {p pos pos' cpos spos tp pn kp:Pos}{q P prog:Program}{loose N M ps own names:List Str}{α β:Type}{us its':List Value}{a b it c C dx f D:Addr}{h base h':Heap}{items:Array Value}{w:World}{g':Array GenState}{ch A fp B A0 as:List Addr}{i j n m x1 n0:Nat}{x qual:Str}{E Q:Value->Shared->Prop}{u cd pm ct oc:Value}{s' s:Shared}{e tg body iter elt:Expr}{pins:List (Addr×Obj)}{op:CmpOp}{K:PySem.W.Frag}{g:List (Str×PyData)->Option (List (Str×PyData))}{lo hi:Option Int}{mA mg mb:Str->Option Value}{env:Env}{outer:List Env}{fd:FuncData}{scope:Scope}{params:Arguments}{an od:Option Addr}{osl sl:Array (Option Value)}{l:List (Int×Int)}{ns rs:List Int}{t ds told:List PyData}{XP:(Str->Option Value)->Heap->Prop}{YP:World->Heap->Prop}{st:Stmt}{cl:List (Str×Addr)}{ifs elts:List Expr}{newId:String}{O cap:List Nat}{nd tops:PyData}{tl:List (Str×Int)}{many span T:Int}{rows:List (List Int)}{mean:ExcName->Option Value}
namespace RS
open PySem PySem.W PyProof.Rows
def Aw(p:Program)(w:World)(m:Nat)(ann:Option Value):Nat->SharedT->Thread->Option SharedT
 |0,_,_=>none
 |n+1,s,t=>match through t with
  |true=>some s
  |false=>match Fast.tw6613529449190102663 m ann t with
   |false=>none
   |true=>match Fast.tw10156331382660048174 (Fast.tw11892475500146522536 Fast.tw14364793385576792824) p w s t with
    |some x=>Aw p w m ann n x.1 x.2
    |none=>none
theorem wC{p:Program}{w:World}{m:Nat}{ann:Option Value}:∀{n:Nat}{s s':SharedT}{t:Thread},Aw p w m ann n s t=some s'->topRun treeTable p w m ann n s.abs t=some s'.abs
 |0,_,_,_,h=>by cases h
 |n+1,s,s',t,h=>by
  unfold Aw at h;rw[<-Fast.te6613529449190102663,<-Fast.te10156331382660048174,<-Fast.te11892475500146522536,<-Fast.te14364793385576792824]at h;unfold topRun;cases ht:through t with
  |true=>rw[ht]at h;cases h;rfl
  |false =>
   rw[ht]at h;cases hk:stepOk m ann t with
   |false=>rw[hk]at h;cases h
   |true =>
    rw[hk]at h;cases hs:stepT (denote treeTable) p w s t with
    |none=>rw[hs]at h;cases h
    |some x =>rw[hs]at h;rw[stepT_spec (s':=x.1) (t':=x.2) hs];exact wC h
noncomputable def IL(l:List Obj):BT:=(l.foldl (λx o=>(x.1.ins x.2 o,x.2+1)) (BT.nil,0)).1
def hdS(w:World)(os:OsState):SharedT:=⟨IL (boot_heap w.params).objs.toList,11,(boot_heap w.params).life,Array.mk [],boot_drawn,boot_toks,os⟩
theorem GF(w:World):(λos=>(hdS w os).abs)=λos=>⟨boot_heap w.params,Array.mk [],boot_drawn,boot_toks,os⟩:=by kernel_rfl
theorem Jh(w:World):((boot_heap w.params).isNs mainGlobals&&(Array.mk []:Array GenState).size==0,(boot_heap w.params).objs.size,(boot_heap w.params).nsMap mainGlobals "__annotations__")=(true,11,some (.ref 6)):=by kernel_rfl
def Du(p q:Program)(loose:List Str)(Xt:Shared->Bool){α:Type}(Yf:Shared->α)(h:Heap)(s:Shared) :=
 (staticsOk (importedModules p.main.body) h s.heap&&namesBound p s.heap&&gensDone s&&laidKept h s.heap,Fast.tw4187177175401517315 q loose (importedModules p.main.body) Xt true s,Yf s)
theorem IV{p:Program}{Xt:Shared->Bool}{Yf:Shared->α}{Ya:World->α}{N M:Nat}
  (e:opening p=plainProg p.main.scope.names) (a:Nat.ble 600 N=true) (f:∀s,fenceModules? p s=some s) (le:Nat.ble M N=true)
  (h:∀w,(λos=>(Aw p w 11 (some (.ref 6)) M (hdS w os) (topStub p)).map λs=>Du p q loose Xt Yf (boot_heap w.params) s.abs)=λ_=>some (true,openGood q loose,Ya w)):LeftO p q loose Xt Yf Ya N:=λw=>by
 obtain⟨⟨b,gs,d,k,os⟩,e1,c⟩:=NX.mp (boot_open e a f w);obtain⟨rfl,rfl,rfl,rfl⟩:b=boot_heap w.params/\gs=Array.mk []/\d=boot_drawn/\k=boot_toks:=by simpa using c
 obtain⟨z1,z2,z3⟩:_/\_/\_:=by simpa only[Prod.mk.injEq] using Jh w
 obtain⟨s,g,hv⟩:=NX.mp (congrFun (h w) os);obtain⟨l1,l2,l3⟩:_/\_/\_:=by simpa only[Du,<-Fast.te4187177175401517315,Prod.mk.injEq] using hv
 have r:=wC g;rw[congrFun (GF w) os]at r;have r:=topRun_mono (N-M) _ _ _ _ r;rw[show M+(N-M)=N by have:=Nat.le_of_ble_eq_true le;omega]at r;unfold openEnds;rw[e1];show (topFrom treeTable p w N _).map _=_;have t:topFrom treeTable p w N ⟨boot_heap w.params,Array.mk [],boot_drawn,boot_toks,os⟩=some s.abs:=by unfold topFrom;dsimp only;rw[z1,z2,z3,r];show (match staticsOk (importedModules p.main.body) (boot_heap w.params) s.abs.heap&&namesBound p s.abs.heap&&gensDone s.abs&&laidKept (boot_heap w.params) s.abs.heap with|true=>_|false=>_)=_;rw[l1]
 rw[t];exact congrArg some (Prod.ext l2 l3)
end RS
section
open PySem PySem.W PyProof.Rows
def RS.vw:Program:=view PySem.Challenge.pw_ranksure_k26_whole_asked [1,2,3,4,5,7,8,9,10,11,12,13,14,15,16,17,18,19,20,21,22,23,24,25,27,28,29,30,31,32,33,34,35,36,37,38,40,41,42,43,44,46,47,48,49,50,51,52,53,54,55,56,57,58]
local macro_rules | `(tactic| o_head $H)=>`(tactic| (refine holds_open (N:=5948) (Xt:=λs=>xlAt RS.vw [] s&&recOk (RowW.records (OpenRow.toRowW (OpenLaw.row PySem.Challenge.rw_ranksure_k26_whole_asked))) s) (XP:=XL RS.vw []) (q:=RS.vw) (loose:=[]) (Yf:=Hook.obs $H) (Ya:=Hook.val $H) (YP:=Hook.says $H) ?hl (Hook.of $H) (Hook.keeps $H) (λs e=>xl_of s (NB.mp e).1) XL.keeps (by rfl) (by rfl) (by rfl) (λs e=>recFacts_of (NB.mp e).2) (by rfl) (by assumption) (by decide +kernel) ⟨rfl,rfl,rfl,rfl,rfl,by decide +kernel⟩ ?hw ?hc;(case hl=>refine RS.IV (M:=3024) (by kernel_rfl) (by rfl) (by intro s;kernel_rfl) (by rfl) λw=>?_;kernel_rfl)))
set_option maxRecDepth 100000 in
set_option maxHeartbeats 0 in
open_top RS.hdTop for PySem.Challenge.rw_ranksure_k26_whole_asked
end
set_option maxRecDepth 100000
set_option hygiene false
local macro_rules |`(#[0])=>`((gC (.int 1)))|`(#[1])=>`((gC (.int 0)))|`(#[2])=>`((by decide))|`(#[3])=>`((.list (ts.map (jD cs.Jobs))))|`(#[4])=>`((model X.prog X.w))|`(#[5])=>`((List PyData))|`(#[6])=>`((g2 dIx (g2 dIx (ae 0) (ae 6)) (gC (.int 3))))|`(#[7])=>`((ds.map some++List.replicate (N.length-ps.length) none))|`(#[8])=>`((placeOf rs n))|`(#[9])=>`((dF CX P w K mg base e qual b f cd A outer s H E))|`(#[10])=>`((dF (CXW P w) P w K mg base N qual scope f cd A outer s H E))|`(#[11])=>`((.list ((qs.filter (cT told)).map (jD cs.Jobs))))|`(#[12])=>`((dS (af (g2 aW #[0] (g2 ff (ae 9) (gC (.int 4)))) (af (g2 dIx (mL (af #[1] (af #[0] (af #[0] (af #[1] (af (gC .none) ah)))))) (g2 ff (g2 jN (ae 9) (gC (.int 4))) (gC (.int 5)))) ah))))|`(#[13])=>`((rnD cs.Jobs E R W tops len qs told x7 x8))|`(#[14])=>`((o26 (.list L) (ak i) c l H F (some (r8 a b k (some T))) x7))|`(#[15])=>`((gC (.int 3)))|`(#[16])=>`((bf (gC (.bool false))))|`(#[17])=>`((g2 fE (g2 aW (g2 aW (ae 4) (g2 fE (g2 fE (gC (.int 104729)) (ae 7)) (ae 7))) (g2 fE (gC (.int 7919)) (ae 7))) (gC (.int 48271))))|`(#[18])=>`((aX 10 (bh #[6]) (gT (g2 dEq (g2 dIx (ae 10) #[0]) (ae 9))) (g2 eM (g2 dIx (ae 10) #[1]) #[0]) aG))|`(#[19])=>`((startJ es rs rows))|`(#[20])=>`((ns.map PyData.int))|`(#[21])=>`((af (ae 0) (af (ae 1) ah)))|`(#[22])=>`((jD cs.Jobs p))|`(#[23])=>`((starEach es X.env))|`(#[24])=>`((o26 (.list L) (ak i) c l H F (some (r8 a b k (some T))) (some (r8 j n p (some m)))))|`(#[25])=>`((Int×Option Int))|`(#[26])=>`((model prog w))|`(#[27])=>`((aX 10 (bh #[6]) (iN (gT (g1 eE (g2 dIx (ae 10) #[0]))) (gT (g2 dLe (g2 dIx (ae 4) (g2 dIx (ae 10) #[0])) (ae 3)))) (g2 eM (g2 dIx (ae 10) #[1]) #[0]) aG))|`(#[28])=>`((af (ae 2) ah))|`(#[29])=>`((cy (ae 1) (c9 (g2 aW (ae 3) #[0])) cw))|`(#[30])=>`((stJ tops len js i))|`(#[31])=>`((gL (aX 8 (bh (cy (ae 0) (c9 (ae 2)) (c9 (ae 3)))) (iN (gT (g1 eE (ae 8))) (gT (g2 (pz false) (g2 dIx (ae 8) #[1]) (ae 1)))) (ae 8) aG)))|`(#[32])=>`((rnD cs.Jobs E R W tops len qs told (some #[3]) (some (jD cs.Jobs q))))|`(#[33])=>`((au ao (af (ae 0) (af (g2 aW (g2 aW (ae 1) (gC (.int 4))) (ae 8)) (af (gC (.int 40)) ah)))))|`(#[34])=>`((af (ae 0) (af (g2 aW (ae 1) (ae 5)) (af (gF bS (af (ae 3) ah)) ah))))|`(#[35])=>`([some (aj ns),some (.int a),some (.int top),some (.bool b),some (.int ev),some (.int la),some (.int du),some (.list []),none,none])
namespace L2
open PySem PySem.Spec PyProof.Rows
variable {body:List Stmt}{A:Around}{g:Int->Int->Int}{c:Expr}{M:Model}{es:List Expr}
abbrev Key:=Sum Int Str
def tw:Key->Value->Bool
 |.inl k,v=>Value.isInt k v
 |.inr x,v=>Value.isStrOf x v
def mJ(w:World):Key->Int
 |.inl k=>hashInt k
 |.inr x=>hashStr w x
theorem cZ:∀{k:Key}{v:Value},tw k v=true->(∃i t,k=Sum.inl i/\v=Value.int i t)\/(∃x t,k=Sum.inr x/\v=Value.str x t)
 |.inl i,v,h=>by obtain⟨t,e⟩:=Value.isInt_shape (k:=i) (v:=v) h;exact .inl ⟨i,t,rfl,e⟩
 |.inr x,v,h=>by obtain⟨t,e⟩:=Value.isStrOf_shape (x:=x) (v:=v) h;exact .inr ⟨x,t,rfl,e⟩
theorem AY(i:Int)(t:Tok):tw (.inl i) (.int i t)=true:=by simp[tw,Value.isInt]
theorem BS(x:Str)(t:Tok):tw (.inr x) (.str x t)=true:=by simp[tw,Value.isStrOf]
theorem IU(a b:Int):decide ((Sum.inl a:Key)=Sum.inl b)=(a==b):=by
 by_cases e:a=b
 ·subst e;simp
 ·have h:¬ (Sum.inl a:Key)=Sum.inl b:=λq=>e (Sum.inl.inj q)
  rw[decide_eq_false h];exact (beq_eq_false_iff_ne.mpr e).symm
theorem J6(a b:Str):decide ((Sum.inr a:Key)=Sum.inr b)=decide (a=b):=by
 by_cases e:a=b
 ·subst e;simp
 ·have h:¬ (Sum.inr a:Key)=Sum.inr b:=λq=>e (Sum.inr.inj q)
  rw[decide_eq_false h,decide_eq_false e]
theorem Kj(a:Int)(b:Str):decide ((Sum.inl a:Key)=Sum.inr b)=false:=decide_eq_false (λq=>nomatch q)
theorem IJ(a:Str)(b:Int):decide ((Sum.inr a:Key)=Sum.inl b)=false:=decide_eq_false (λq=>nomatch q)
def dj(prog:Program)(w:World):PySem.KeyKind prog w Key where
 is:=tw
 hash:=mJ w
 inj:=λv a b ha c=>by
  rcases cZ ha with⟨i,t,rfl,rfl⟩|⟨x,t,rfl,rfl⟩
  ·rcases cZ c with⟨j,u,rfl,e⟩|⟨y,u,rfl,e⟩
   ·injection e with e1 _;rw[e1]
   ·exact nomatch e
  ·rcases cZ c with⟨j,u,rfl,e⟩|⟨y,u,rfl,e⟩
   ·exact nomatch e
   ·injection e with e1 _;rw[e1]
 byValue:=λk v h=>by rcases cZ h with⟨i,t,rfl,rfl⟩|⟨x,t,rfl,rfl⟩ <;> rfl
 pyHash:=λhv h=>by
  rcases cZ hv with⟨i,t,rfl,rfl⟩|⟨x,t,rfl,rfl⟩
  ·exact wpAny_pyHash_int h
  ·exact wpAny_pyHash_str h
 eqBool:=λf hv h=>by
  rcases cZ f with⟨i,t,rfl,rfl⟩|⟨x,t,rfl,rfl⟩
  ·rcases cZ hv with⟨j,u,rfl,rfl⟩|⟨y,u,rfl,rfl⟩
   ·rw[IU]at h;exact wpAny_eqBool_int h
   ·rw[Kj]at h;exact SeqAt.EqAt.int_str i t y u _ _ _ _ h
  ·rcases cZ hv with⟨j,u,rfl,rfl⟩|⟨y,u,rfl,rfl⟩
   ·rw[IJ]at h;exact SeqAt.EqAt.str_int x t j u _ _ _ _ h
   ·rw[J6]at h;exact wpAny_eqBool_str h
 «strs»:=λk x t v h=>by
  rcases cZ h with⟨i,u,rfl,e⟩|⟨y,u,rfl,e⟩
  ·exact nomatch e
  ·injection e with e1 _
   subst e1;cases v <;> rfl
theorem w5(prog:Program)(w:World)(i:Int)(t:Tok):(dj prog w).is (.inl i) (.int i t)=true:=AY i t
theorem wV(prog:Program)(w:World)(x:Str)(t:Tok):(dj prog w).is (.inr x) (.str x t)=true:=BS x t
inductive V where
 |non|bl (b:Bool)|int (i:Int)|str (x:Str)|byt (b:Array UInt8)|flt (b:UInt64)|ref (a:Addr)|ty (n:String)
 deriving DecidableEq
variable {xs vs:List V}{v:V}
noncomputable def RelV:V->Value->Prop
 |.non,u=>u=Value.none
 |.bl b,u=>u=Value.bool b
 |.int i,u=>∃t,u=Value.int i t
 |.str x,u=>∃t,u=Value.str x t
 |.byt b,u=>∃t,u=Value.bytes b t
 |.flt b,u=>∃t,u=Value.float b t
 |.ref a,u=>u=Value.ref a
 |.ty n,u=>u=Value.type n
abbrev Vals:List V->List Value->Prop:=Paired RelV
theorem Vals.length(r:Vals xs us):xs.length=us.length:=Paired.length r
theorem Vals.get:∀{xs:List V}{us:List Value}{i:Nat}{x:V},Vals xs us->xs[i]?=some x->∃u,us[i]?=some u/\RelV x u
 |_,_,_,_,.nil,e=>by simp at e
 |_,_,0,_,.cons r _,e=>by simp at e;subst e;exact⟨_,rfl,r⟩
 |_,_,i+1,x,.cons _ t,e=>by obtain⟨u,h1,h2⟩:=Vals.get (i:=i) (x:=x) t (by simpa using e);exact⟨u,by simpa using h1,h2⟩
theorem Vals.set{x:V}{u:Value}(r:RelV x u):∀{xs:List V}{us:List Value}(i:Nat),Vals xs us->Vals (xs.set i x) (us.set i u)
 |_,_,_,.nil=>.nil
 |_,_,0,.cons _ t=>.cons r t
 |_,_,i+1,.cons q t=>.cons q (Vals.set r i t)
theorem Vals.append{ys:List V}{ws:List Value}(h:Vals xs us)(s:Vals ys ws):Vals (xs++ys) (us++ws):=by
 induction h with
 |nil=>exact s
 |cons r t ih=>exact .cons r ih
theorem Vals.take:∀{xs:List V}{us:List Value}(n:Nat),Vals xs us->Vals (xs.take n) (us.take n)
 |_,_,0,_=>.nil
 |_,_,_+1,.nil=>.nil
 |_,_,n+1,.cons r t=>.cons r (Vals.take n t)
theorem Vals.drop:∀{xs:List V}{us:List Value}(n:Nat),Vals xs us->Vals (xs.drop n) (us.drop n)
 |_,_,0,r=>r
 |_,_,_+1,.nil=>.nil
 |_,_,n+1,.cons _ t=>Vals.drop n t
def k7:Option V->Option Value->Prop
 |some v,some u=>RelV v u
 |none,none=>True
 |_,_=>False
def KV{κ:Type}:List (κ×V)->List (κ×Value)->Prop:=Paired λ(p:κ×V)(q:κ×Value)=>p.1=q.1/\RelV p.2 q.2
def kV:Key->V
 |.inl i=>.int i
 |.inr x=>.str x
inductive HO where
 |lst (xs:List V)
 |tup (xs:List V)
 |dK (kvs:List (Key×V))|dT (kvs:List (List Key×V))
 |set (S:Int->Bool) (n:Nat)
 |ins (C dx:Addr) (fs:List (Str×V))
 |own (x:Addr)
 |xd (fs:List (Str×V))
 |met (f x:Addr)
 |rng (lo hi:Int)
 |frz (o:Obj) (u:HO)
 |tbl (q:Str)
 |ext (φ:Heap->Prop)
variable {o:HO}
abbrev Hp:=Addr->Option HO
variable {R:V->V->Hp->Prop}{H:Hp}
noncomputable def upd(H:Hp)(a:Addr)(o:HO):Hp:=λb=>if b=a then some o else H b
theorem aH:upd H a o a=some o:=by unfold upd;rw[if_pos rfl]
theorem aC(h:b≠a):upd H a o b=H b:=by unfold upd;rw[if_neg h]
theorem K3{u:HO}(h:H a=some o)(h':H b=some u)(d:o≠u):a≠b:=by intro e;subst e;rw[h]at h';exact d (Option.some.inj h')
theorem aK(h:H a=some o)(h':H b=none):a≠b:=by intro e;subst e;rw[h]at h';cases h'
def uW(h:Heap)(a:Addr)(items:Array Value):Prop:=∃o,h.get? a=some o/\o.cls=.type "tuple"/\o.dict=none/\∃n,o.data=.seq items n
theorem uW.tup(x:uW h a items):IsTup h a items:=by obtain⟨o,e,c,_,n,d⟩:=x;exact⟨o,e,c,n,d⟩
theorem uW.new(h:Heap)(items:Array Value):uW (h.push { cls:=.type "tuple",data:=.seq items }) h.objs.size items:=⟨_,MU _ rfl,rfl,rfl,_,rfl⟩
section
variable (P:Program)(w:World)
def dO(H:Hp)(h:Heap)(a:Addr):HO->Prop
 |.lst xs=>xs.length<=sizeLine/\∃(b:List Value)(n:Nat),Vals xs b/\h.get? a=some { cls:=.type "list",data:=.seq b.toArray n }
 |.tup xs=>xs.length<=sizeLine/\∃b:List Value,Vals xs b/\uW h a b.toArray
 |.dK kvs=>kvs.length<=sizeLine/\(a==sysModules)=false/\∃vs,KV kvs vs/\h.DictOf (dj P w) a vs
 |.dT kvs=>kvs.length<=sizeLine/\(a==sysModules)=false/\∃xs:List (List Key×Addr×Value),
  Paired (λ(p:List Key×V)(q:List Key×Addr×Value)=>p.1=q.1/\H q.2.1=some (.tup (p.1.map kV))/\RelV p.2 q.2.2) kvs xs /\
  ∃o es e,h.get? a=some o/\o.ExactDict/\o.data=.dict es e/\es.toList=xs.map (entryOfKey (tupleKind (dj P w)))/\(xs.map (·.1)).Nodup
 |.set S n=>h.SetOf (intKind P w) a S n
 |.ins C dx fs=>H dx=some (.own a)/\fs.length<=1000/\dx≠a/\h.get? a=some (W.instObj C dx) /\
  ∃mA,h.Ns1 dx mA/\(∀f,k7 (fs.lookup f) (mA f))/\PySem.Within mA (fs.map (·.1))
 |.own _=>∃o,h.get? a=some o
 |.xd fs=>∃mA,h.Ns1 a mA/\∀f,k7 (fs.lookup f) (mA f)
 |.rng lo hi=>∃t u v,h.get? a=some { cls:=.type "range",data:=.fields #[.int lo t,.int hi u,.int 1 v] }
 |.frz o u=>h.get? a=some o/\dO H h a u
 |.tbl q=>∃ps:Array Value,h.get? a=some { cls:=.none,data:=.fields ps }/\TriplesOk ps.toList/\∀pos c,codeAmong pos ps.toList=some c->∃c' o vs t,c=.ref c'/\H c'=some (.frz o (.own c'))/\o.data=.fields vs/\vs[1]?=some (.str q t)
 |.met f x=>h.get? a=some (W.methodObj (.ref f) (.ref x))
 |.ext φ=>φ h/\(∃o,h.get? a=some o)/\∀h1 h2:Heap,φ h1->(∀o,h1.get? a=some o->h2.get? a=some o)->φ h2
def HOk(H:Hp)(h:Heap):Prop:=∀a o,H a=some o->dO P w H h a o
end
section
variable {H':Hp}
theorem dO.lt(x:dO P w H h a o):a<h.objs.size:=by
 cases o with
 |lst xs=>obtain⟨_,_,_,_,e⟩:=x;exact MS e
 |tup xs=>obtain⟨_,_,_,p⟩:=x;exact p.tup.lt
 |dK kvs=>obtain⟨_,_,_,_,o,_,_,e,_⟩:=x;exact MS e
 |dT kvs=>obtain⟨_,_,_,_,o,_,_,e,_⟩:=x;exact MS e
 |set S n=>obtain⟨o,_,_,_,e,_⟩:=x;exact MS e
 |ins C dx fs=>obtain⟨_,_,_,e,_⟩:=x;exact MS e
 |own y=>obtain⟨_,e⟩:=x;exact MS e
 |xd fs=>obtain⟨_,⟨_,_,_,e,_⟩,_⟩:=x;exact MS e
 |rng lo hi=>obtain⟨_,_,_,e⟩:=x;exact MS e
 |frz ob u=>obtain⟨e,_⟩:=x;exact MS e
 |tbl q=>obtain⟨_,e,_⟩:=x;exact MS e
 |met f y=>exact MS (show h.get? a=some _ from x)
 |ext φ=>obtain⟨_,⟨_,e⟩,_⟩:=x;exact MS e
theorem Paired.mapP{F G:α->β->Prop}{c:List α}{e:List β}(h:Paired F c e)(f:∀a b,F a b->G a b):Paired G c e:=by
 induction h with
 |nil=>exact .nil
 |cons r t ih=>exact .cons (f _ _ r) ih
theorem dO.stay(x:dO P w H h a o)(k:∀b u,(b=a\/H b=some (.own a))->h.get? b=some u->h'.get? b=some u)
  (l:∀b,H b=some (.own a)->H' b=some (.own a)) (m:∀b xs,H b=some (.tup xs)->H' b=some (.tup xs)) (s:∀b o u,H b=some (.frz o u)->H' b=some (.frz o u):=by exact λ_ _ _ q=>q):dO P w H' h' a o:=by
 induction o with
 |lst xs=>obtain⟨z,j,n,r,e⟩:=x;exact⟨z,j,n,r,k _ _ (.inl rfl) e⟩
 |tup xs=>obtain⟨z,j,r,g,e,c⟩:=x;exact⟨z,j,r,g,k _ _ (.inl rfl) e,c⟩
 |dK kvs=>obtain⟨z,y,vs,r,g,es,i,e,c⟩:=x;exact⟨z,y,vs,r,g,es,i,k _ _ (.inl rfl) e,c⟩
 |dT kvs =>obtain⟨z,y,xs,r,g,es,i,e,c⟩:=x;exact⟨z,y,xs,Paired.mapP r λp q z=>⟨z.1,m _ _ z.2.1,z.2.2⟩,g,es,i,k _ _ (.inl rfl) e,c⟩
 |set S n=>obtain⟨g,es,i,t,e,c⟩:=x;exact⟨g,es,i,t,k _ _ (.inl rfl) e,c⟩
 |ins C dx fs =>obtain⟨d,z,ne,e,mA,⟨od,es,i,e2,c⟩,r⟩:=x;exact⟨l _ d,z,ne,k _ _ (.inl rfl) e,mA,⟨od,es,i,k _ _ (.inr d) e2,c⟩,r⟩
 |own y=>obtain⟨g,e⟩:=x;exact⟨g,k _ _ (.inl rfl) e⟩
 |xd fs=>obtain⟨mA,⟨od,es,i,e,c⟩,r⟩:=x;exact⟨mA,⟨od,es,i,k _ _ (.inl rfl) e,c⟩,r⟩
 |rng lo hi=>obtain⟨t,u,v,e⟩:=x;exact⟨t,u,v,k _ _ (.inl rfl) e⟩
 |frz g u ih=>obtain⟨e,q⟩:=x;exact⟨k _ _ (.inl rfl) e,ih q⟩
 |tbl q =>obtain⟨ps,e,t,c⟩:=x;exact⟨ps,k a _ (.inl rfl) e,t,λpos A z=>by obtain⟨c',o,vs,t',e1,e2,B⟩:=c pos A z;exact⟨c',o,vs,t',e1,s _ _ _ e2,B⟩⟩
 |met f y =>have e:h.get? a=some (W.methodObj (.ref f) (.ref y)):=x;show h'.get? a=some (W.methodObj (.ref f) (.ref y));exact k a _ (.inl rfl) e
 |ext φ=>obtain⟨p,⟨o,e⟩,st⟩:=x;exact⟨st _ _ p λo q=>k _ _ (.inl rfl) q,⟨o,k _ _ (.inl rfl) e⟩,st⟩
theorem HOk.lt(x:HOk P w H h)(e:H a=some o):a<h.objs.size:=(x a o e).lt
theorem HOk.fresh(x:HOk P w H h)(e:h.objs.size<=a):H a=none:=by
 cases q:H a with
 |none=>rfl
 |some u=>exact absurd (MZ (x.lt q) e) (O2 _)
theorem HOk.kept(x:HOk P w H h)(k:∀b u,h.get? b=some u->h'.get? b=some u):HOk P w H h':=λa o e =>
 (x a o e).stay (λb u _ q=>k b u q) (λ_ q=>q) λ_ _ q=>q
theorem HOk.laid(x:HOk P w H h)(k:∀b u,h.get? b=some u->h'.get? b=some u)(f:h.objs.size<=a)(new:dO P w (upd H a o) h' a o):HOk P w (upd H a o) h':=λb u e=>by
 have hn:=x.fresh f;by_cases hb:b=a
 ·subst hb;rw[aH]at e;cases e;exact new
 ·rw[aC hb]at e;exact (x b u e).stay (λc v _ q=>k c v q) (λc q=>by rw[aC (aK q hn)];exact q) (λc xs q=>by rw[aC (aK q hn)];exact q) λc ob w' q=>by rw[aC (aK q hn)];exact q
end
def Rd(H:Hp)(a:Addr)(u:HO):Prop:=H a=some u\/∃o,H a=some (.frz o u)
theorem Rd.ok{u:HO}(r:Rd H a u)(x:HOk P w H h):dO P w H h a u:=by
 rcases r with r|⟨o,r⟩
 ·exact x a u r
 ·obtain⟨_,q⟩:=x a _ r;exact q
def Mut:Option HO->Prop
 |some (.lst _)=>True
 |some (.dK _)=>True
 |some (.dT _)=>True
 |some (.set _ _)=>True
 |some (.ins _ _ _)=>True
 |some (.ext _)=>True
 |_=>False
section
variable {x e:Addr}{o':HO}
theorem HOk.write(ok:HOk P w H h)(f:Mut (H x))(l:e=x\/H e=some (.own x))(k:∀b u,b≠e->h.get? b=some u->h'.get? b=some u)(j:∃u,h'.get? e=some u)
  (new:dO P w (upd H x o') h' x o'):HOk P w (upd H x o') h':=λb u q=>by
 have a:∀c y,H c=some (.own y)->c≠x:=λc y r z=>by subst z;rw[r]at f;exact f
 have g:∀c xs,H c=some (.tup xs)->c≠x:=λc xs r z=>by subst z;rw[r]at f;exact f
 have i:∀c o u,H c=some (.frz o u)->c≠x:=λc o u r z=>by subst z;rw[r]at f;exact f
 by_cases hb:b=x
 ·subst hb;rw[aH]at q;cases q;exact new
 ·rw[aC hb]at q;by_cases hbe:b=e
  ·have m:H b=some (.own x):=by
    rcases l with z|z
    ·exact absurd (hbe.trans z) hb
    ·rw[hbe];exact z
   rw[q]at m;cases m;obtain⟨v,hv⟩:=j;exact⟨v,by rw[hbe];exact hv⟩
  ·refine (ok b u q).stay (λc v hc r=>k c v ?_ r) (λc r=>by rw[aC (a c b r)];exact r) (λc xs r=>by rw[aC (g c xs r)];exact r) λc o n r=>by rw[aC (i c o n r)];exact r
   rcases hc with rfl|hc
   ·exact hbe
   ·rintro rfl
    rcases l with z|z
    ·exact a c b hc z
    ·rw[hc]at z;cases z;exact hb rfl
end
structure Un(fs ex:List Addr)(H H':Hp)(h h':Heap):Prop where
 keep:∀b o,h.get? b=some o->H b=none->b∉fs->b∉ex->h'.get? b=some o
 slot:∀b o,h.get? b=some o->H b=none->b∈fs->b∉ex->∃sl,h'.get? b=some { o with slots:=sl }
 free:∀b o,h.get? b=some o->H b=none->b∉ex->H' b=none
 there:∀b o,h.get? b=some o->b∉ex->∃o',h'.get? b=some o'
 tups:∀b xs,H b=some (.tup xs)->H' b=some (.tup xs)
 frzs:∀b o u,H b=some (.frz o u)->H' b=some (.frz o u)
 tbls:∀b q,H b=some (.tbl q)->H' b=some (.tbl q)
section
variable {fs fs' ex ex':List Addr}{H1 H2:Hp}{h1 h2:Heap}{x e:Addr}
theorem Un.any(u:Un fs ex H H1 h h1){a:Obj}(q:h.get? b=some a)(n:H b=none)(c:b∉ex):∃e,h1.get? b=some { a with slots:=e }:=by
 by_cases hb:b∈fs
 ·exact u.slot b a q n hb c
 ·exact⟨a.slots,u.keep b a q n hb c⟩
theorem Un.kept(k:∀b u,h.get? b=some u->h'.get? b=some u):Un fs ex H H h h' :=
 ⟨λb a q _ _ _=>k b a q,λb a q _ _ _=>⟨a.slots,k b a q⟩,λ_ _ _ n _=>n,λb a q _=>⟨a,k b a q⟩,λ_ _ q=>q,λ_ _ _ q=>q,λ_ _ q=>q⟩
theorem Un.refl:Un fs ex H H h h:=Un.kept λ_ _ q=>q
theorem Un.laid(k:∀b u,h.get? b=some u->h'.get? b=some u)(c:h.objs.size<=a)(hn:H a=none):Un fs ex H (upd H a o) h h' where
 keep:=λb u q _ _ _=>k b u q
 slot:=λb u q _ _ _=>⟨u.slots,k b u q⟩
 free:=λb u q n _=>by rw[aC (MV (MZ (MS q) c))];exact n
 there:=λb u q _=>⟨u,k b u q⟩
 tups:=λb xs q=>by rw[aC (aK q hn)];exact q
 frzs:=λb u xs q=>by rw[aC (aK q hn)];exact q
 tbls:=λb ps q=>by rw[aC (aK q hn)];exact q
theorem Un.write(a:Mut (H x))(i:e=x\/H e=some (.own x))(k:∀b u,b≠e->h.get? b=some u->h'.get? b=some u)(c:∃u,h'.get? e=some u):Un fs ex H (upd H x o) h h':=by
 have f:∀b,H b=none->b≠x:=λb n z=>by subst z;rw[n]at a;exact a
 have g:∀b,H b=none->b≠e:=λb n z=>by
  subst z;rcases i with r|r
  ·exact f b n r
  ·rw[n]at r;cases r
 have hm:∀b u,H b=some u->¬ Mut (some u)->b≠x:=λb u q nm z=>by subst z;rw[q]at a;exact nm a
 refine⟨λb u q n _ _=>k b u (g b n) q,λb u q n _ _=>⟨u.slots,k b u (g b n) q⟩,λb u q n _=>by rw[aC (f b n)];exact n,λb u q _=>?_,
  λb xs q=>by rw[aC (hm b _ q λz=>z)];exact q,λb u xs q=>by rw[aC (hm b _ q λz=>z)];exact q,λb ps q=>by rw[aC (hm b _ q λz=>z)];exact q⟩
 by_cases hbe:b=e
 ·subst hbe;exact c
 ·exact⟨u,k b u hbe q⟩
end
def trk(h:Heap)(H:Hp):List Addr:=(List.range h.objs.size).filter λa=>(H a).isSome
def rN(h:Heap)(H:Hp):Heap:=W.hideAll h (trk h H)
theorem AD(h:Heap)(H:Hp):(rN h H).objs.size=h.objs.size:=W.hideAll_size _ _
theorem Cv{o:Obj}(e:h.get? b=some o)(n:H b=none):(rN h H).get? b=some o :=
 W.hideAll_get _ e λhm=>by have q:(H b).isSome=true:=(N3.mp hm).2;rw[n]at q;simp at q
theorem FD{o:Obj}(e:(rN h H).get? b=some o):h.get? b=some o/\H b=none:=by
 have a:h.get? b=some o:=W.of_hideAll (trk h H) e;refine⟨a,?_⟩;cases q:H b with
 |none=>rfl
 |some x =>have hm:b∈trk h H:=N3.mpr ⟨NV.mpr (MS a),by simp[q]⟩;have z:(rN h H).get? b=none:=W.hideAll_none (trk h H) hm;rw[z]at e;cases e
structure Mod(K:W.Frag)(mg:Str->Option Value)(base:Heap):Prop where
 kin:K.In base
 glob:base.Ns mainGlobals mg
 blt:∃mb,base.Ns builtinsNs mb/\∀x:Str,x≠"__name__"->mb x=bootBuiltins x
 nolimit:base.NoLimit
def mq:List Str:=["picked"]
def TabOf(K:W.Frag)(P:Addr)(q:Str):Prop:=∃x∈mq,∃f oc od fd a c,W.nsIn K mainGlobals x=some (some (.ref f))/\K.lookup f=some ⟨oc,od,.func fd,a⟩/\fd.code=.ref c/\(∃o vs,K.lookup c=some o/\o.data=.fields vs/\vs[11]?=some (.ref P))/\q=x++".<locals>.<lambda>"
structure Cx where
 prog:Program
 w:World
 K:W.Frag
 mg:Str->Option Value
 base:Heap
 A:Around
 N:List Str
 s₀:Shared
 H₀:Hp
 env:Env
 outer:List Env
 stack:List Env
 ex:List Addr
 fn:Str->Bool
 calm:Bool
 pn:List (Addr×Obj)
 xe:Value->Shared->Prop
variable {X:Cx}
def frs(l:List Env):List Addr:=l.filterMap (·.frame)
abbrev Cx.fs(X:Cx):List Addr:=frs X.outer
def Vis(sc:Scope)(x:Str):Prop:=sc.names.lookup x=some .local\/sc.names.lookup x=some .cell\/sc.names.lookup x=some .free
def Loc(sc:Scope)(x:Str):Prop:=sc.names.lookup x=some .local\/sc.names.lookup x=some .cell
def Look(env:Env)(h:Heap)(m:Str->Option Value)(x:Str)(u:Value):Prop :=
 (env.kindOf x=some .local/\m x=some u)\/((env.kindOf x=some .cell\/env.kindOf x=some .free)/\∃c,env.cells.lookup x=some c/\h.IsCell c (some u))
structure Cx.Ok(X:Cx):Prop where
 mod:Mod X.K X.mg X.base
 kind:X.env.scope.kind=.function
 glob:X.env.globals=mainGlobals
 blt:X.env.builtins=builtinsNs
 above:X.s₀.heap.objs.size<=X.env.locals
 inj:∀x y c,X.env.cells.lookup x=some c->X.env.cells.lookup y=some c->x=y
 has:∀x,(X.env.kindOf x=some .cell\/X.env.kindOf x=some .free)->∃c,X.env.cells.lookup x=some c
 cab:∀x c,X.fn x=true->X.env.cells.lookup x=some c->X.s₀.heap.objs.size<=c
 hd:X.calm=true->X.A.handled=none
 frames:X.A.frames=some X.stack
 stk:X.stack=X.outer\/(X.stack=X.env::X.outer/\X.env.frame=some X.env.locals)
 exf:∀b∈X.ex,b≠X.env.locals/\∀x c,X.env.cells.lookup x=some c->c≠b
 bs:∀b o,X.base.get? b=some o->X.s₀.heap.get? b=some o/\X.H₀ b=none
 bsz:X.base.objs.size<=X.s₀.heap.objs.size
 noex:∀b o,X.base.get? b=some o->b∉X.ex
 exfs:∀b∈X.ex,b∉X.fs
 funs:X.s₀.heap.FunFrames X.base X.outer
 frf:∀b∈X.fs,X.H₀ b=none
structure Inv(X:Cx)(pins:List (Addr×Obj))(σ:List (Option V))(H:Hp)(s:Shared):Prop where
 ok:X.Ok
 os:s.os=X.s₀.os
 bare:AllBare s.gens
 base:Un X.fs X.ex X.H₀ H X.s₀.heap s.heap
 loc:∃m,s.heap.Ns X.env.locals m/\∀(i:Nat)(x:Str)(v:V),X.N[i]?=some x->σ[i]?=some (some v)->Vis X.env.scope x->∃u,RelV v u/\Look X.env s.heap m x u
 cell:∀x c,X.env.cells.lookup x=some c->∃v,s.heap.IsCell c v
 free:H X.env.locals=none
 freeC:∀x c,X.env.cells.lookup x=some c->H c=none
 pin:∀p∈X.pn++pins,s.heap.get? p.1=some p.2/\H p.1=none/\p.1≠X.env.locals/\p.1∉X.fs/\∀v,p.2.data≠.cell v
 hok:HOk X.prog X.w H s.heap
 len:σ.length=X.N.length
 tab:∀P q,TabOf X.K P q->H P=some (.tbl q)
section
variable {σ:List (Option V)}{H':Hp}
theorem Cx.Ok.nofr(ok:X.Ok){o:Obj}(e:X.base.get? b=some o):b∉X.fs:=λa=>by have:=(ok.funs.mem a).1;rw[e]at this;cases this
theorem Inv.bs(I:Inv X pins σ H s):∀b o,X.base.get? b=some o->s.heap.get? b=some o/\H b=none:=λb o e =>
 ⟨I.base.keep b o (I.ok.bs b o e).1 (I.ok.bs b o e).2 (I.ok.nofr e) (I.ok.noex b o e),I.base.free b o (I.ok.bs b o e).1 (I.ok.bs b o e).2 (I.ok.noex b o e)⟩
theorem Inv.bk(I:Inv X pins σ H s):∀b o,X.base.get? b=some o->s.heap.get? b=some o:=λb o e=>(I.bs b o e).1
theorem Inv.mod(I:Inv X pins σ H s):Mod X.K X.mg X.base:=I.ok.mod
theorem Inv.kIn(I:Inv X pins σ H s):X.K.In s.heap:=I.ok.mod.kin.keeps I.bk
theorem Inv.lt(I:Inv X pins σ H s):X.env.locals<s.heap.objs.size:=let ⟨_,hn,_⟩:=I.loc;hn.lt
theorem Inv.sz(I:Inv X pins σ H s):X.s₀.heap.objs.size<=s.heap.objs.size:=Nq I.ok.above (OO I.lt)
theorem Inv.nofs(I:Inv X pins σ H s)(h:s.heap.objs.size<=a):a∉X.fs:=λb=>by obtain⟨_,o,c,_⟩:=I.ok.funs.mem b;exact absurd (MZ (MS c) (Nq I.sz h)) (O2 _)
theorem Inv.cne(I:Inv X pins σ H s):∀x c,X.env.cells.lookup x=some c->c≠X.env.locals:=λx c e z=>by obtain⟨v,o,f,hd⟩:=I.cell x c e;obtain⟨m,⟨o',es,ep,a,b,_⟩,_⟩:=I.loc;rw[z,a]at f;cases f;rw[b]at hd;cases hd
theorem Inv.funs(I:Inv X pins σ H s):s.heap.FunFrames X.base X.outer:=by
 have all:∀(l:List Env),(∀b∈frs l,b∈X.fs)->X.s₀.heap.FunFrames X.base l->s.heap.FunFrames X.base l:=by
  intro l
  induction l with
  |nil=>intro _ _;trivial
  |cons env r ih =>
   intro f hl;obtain⟨g,⟨L,o,a,hn,h,hd⟩,i⟩:=hl;have hL:L∈X.fs:=f L (by unfold frs;rw[Ol,a];exact M7);obtain⟨sl,e⟩:=I.base.slot L o h (I.ok.frf L hL) hL λz=>I.ok.exfs L z hL
   exact⟨g,⟨L,_,a,hn,e,hd⟩,ih (λb c=>f b (by unfold frs;rw[Ol,a];exact M3 _ c)) i⟩
 exact all X.outer (λ_ c=>c) I.ok.funs
theorem Inv.stack(I:Inv X pins σ H s):s.heap.FunFrames X.base X.stack:=by
 rcases I.ok.stk with e|⟨e,a⟩
 ·rw[e];exact I.funs
 ·rw[e];obtain⟨m,hn,_⟩:=I.loc;refine .cons (by rw[I.ok.kind];decide) a hn ?_ I.funs;exact Heap.get?_none_of_le (Nq I.ok.bsz I.ok.above)
theorem Inv.stkSub(I:Inv X pins σ H s):∀b∈frs X.stack,b∈X.env.locals::X.fs:=λb a=>by
 rcases I.ok.stk with e|⟨e,c⟩
 ·rw[e]at a;exact M3 _ a
 ·rw[e]at a;unfold frs at a;rw[Ol,c]at a;exact a
theorem Inv.stkFree(I:Inv X pins σ H s):∀b∈frs X.stack,H b=none:=λb a=>by
 rcases M8.mp (I.stkSub b a) with e|a
 ·rw[e];exact I.free
 ·obtain⟨_,o,c,_⟩:=I.ok.funs.mem a;exact I.base.free b o c (I.ok.frf b a) λz=>I.ok.exfs b z a
theorem Inv.step{t':Nat}{d':Drawn}(I:Inv X pins σ H s)
  (f:∀b∈ch,(b∈X.ex\/X.s₀.heap.objs.size<=b)/\b≠X.env.locals/\(∀x c,X.env.cells.lookup x=some c->c≠b)/\∀p∈X.pn++pins,p.1≠b)
  (keep:∀b o,b≠X.env.locals->b∉X.fs->b∉ch->s.heap.get? b=some o->H b=none->h'.get? b=some o)
  (slot:∀b o,b≠X.env.locals->b∈X.fs->b∉ch->s.heap.get? b=some o->H b=none->∃B,h'.get? b=some { o with slots:=B }) (free:∀b o,b∉ch->s.heap.get? b=some o->H b=none->H' b=none)
  (there:∀b o,b∉ch->s.heap.get? b=some o->∃o',h'.get? b=some o')
  (tups:∀b xs,H b=some (.tup xs)->H' b=some (.tup xs)) (frzs:∀b o u,H b=some (.frz o u)->H' b=some (.frz o u)) (tbls:∀b q,H b=some (.tbl q)->H' b=some (.tbl q))
  (ns:∀m,s.heap.Ns X.env.locals m->h'.Ns X.env.locals m) (hok:HOk X.prog X.w H' h') (G:AllBare g') :
  Inv X pins σ H' { s with heap:=h',gens:=g',drawn:=d',toks:=t' }:=by
 have A:∀b o,X.s₀.heap.get? b=some o->b≠X.env.locals:=λb o e=>MV (MZ (MS e) I.ok.above)
 have h:∀b o,X.s₀.heap.get? b=some o->b∉X.ex->b∉ch:=λb o e a j=>by
  rcases (f b j).1 with z|z
  ·exact a z
  ·exact absurd (MZ (MS e) z) (O2 _)
 have cellK:∀x c,X.env.cells.lookup x=some c->∀v,s.heap.IsCell c v->h'.IsCell c v:=λx c e v C=>by
  obtain⟨o,y,hd⟩:=C;have g:c∉ch:=λz=>(f c z).2.2.1 x c e rfl
  by_cases hc:c∈X.fs
  ·obtain⟨B,q⟩:=slot c o (I.cne x c e) hc g y (I.freeC x c e);exact⟨_,q,hd⟩
  ·exact⟨o,keep c o (I.cne x c e) hc g y (I.freeC x c e),hd⟩
 refine⟨I.ok,I.os,G,⟨λb o e n j a=>?_,λb o e n j a=>?_,λb o e n a=>?_,λb o e a=>?_,λb xs e=>tups b xs (I.base.tups b xs e),λb o xs e=>frzs b o xs (I.base.frzs b o xs e),λb ps e=>?_⟩,?_,λx c e=>?_,?_,λx c e=>?_,λp E=>?_,hok,I.len,λP q t=>tbls P q (I.tab P q t)⟩
 ·exact keep b o (A b o e) j (h b o e a) (I.base.keep b o e n j a) (I.base.free b o e n a)
 ·obtain⟨B,e1⟩:=I.base.slot b o e n j a;obtain⟨D,e2⟩:=slot b _ (A b o e) j (h b o e a) e1 (I.base.free b o e n a);exact⟨D,e2⟩
 ·obtain⟨o',e1⟩:=I.base.there b o e a;exact free b o' (h b o e a) e1 (I.base.free b o e n a)
 ·obtain⟨o',e1⟩:=I.base.there b o e a;exact there b o' (h b o e a) e1
 ·exact tbls b _ (I.base.tbls b ps e)
 ·obtain⟨m,hn,hl⟩:=I.loc;refine⟨m,ns m hn,λi x v e1 e2 J=>?_⟩;obtain⟨u,r,l⟩:=hl i x v e1 e2 J;refine⟨u,r,?_⟩;rcases l with l|⟨k,c,e,z⟩
  ·exact .inl l
  ·exact .inr ⟨k,c,e,cellK x c e _ z⟩
 ·obtain⟨v,z⟩:=I.cell x c e;exact⟨v,cellK x c e v z⟩
 ·obtain⟨m,⟨o,_,_,y,_⟩,_⟩:=I.loc;exact free _ o (λz=>(f _ z).2.1 rfl) y I.free
 ·obtain⟨v,o,y,hd⟩:=I.cell x c e;exact free c o (λz=>(f c z).2.2.1 x c e rfl) y (I.freeC x c e)
 ·obtain⟨e,n,ne,F,d⟩:=I.pin p E;have g:p.1∉ch:=λz=>(f p.1 z).2.2.2 p E rfl
  exact⟨keep p.1 p.2 ne F g e n,free p.1 p.2 g e n,ne,F,d⟩
theorem Inv.un{t':Nat}(I:Inv X pins σ H s)(u:Un X.fs [] H H' s.heap h')(hok:HOk X.prog X.w H' h'):Inv X pins σ H' { s with heap:=h',toks:=t' }:=by obtain⟨m,⟨o,es,ep,h,r⟩,_⟩:=id I.loc;obtain⟨sl,hL⟩:=u.any h I.free (by simp);exact I.step (g':=s.gens) (d':=s.drawn) (ch:=[]) (λ_ z=>nomatch z) (λb o _ c _ e n=>u.keep b o e n c (by simp)) (λb o _ c _ e n=>u.slot b o e n c (by simp)) (λb o _ e n=>u.free b o e n (by simp)) (λb o _ e=>u.there b o e (by simp)) u.tups u.frzs u.tbls (λm' hm=>by obtain⟨o',f,g,a,i⟩:=hm;rw[h]at a;cases a;exact⟨_,f,g,hL,i⟩) hok I.bare
theorem Inv.call{t':Nat}{d':Drawn}(I:Inv X pins σ H s)(u:Un (frs X.stack) ch H H' s.heap h')(hok:HOk X.prog X.w H' h')(j:AllBare g')
  (a:∀b∈ch,(b∈X.ex\/X.s₀.heap.objs.size<=b)/\b≠X.env.locals/\(∀x c,X.env.cells.lookup x=some c->c≠b)/\∀p∈X.pn++pins,p.1≠b) :
  Inv X pins σ H' { s with heap:=h',gens:=g',drawn:=d',toks:=t' }:=by
 obtain⟨m,⟨o,es,ep,i,r⟩,_⟩:=id I.loc;obtain⟨sl,hL⟩:=u.any i I.free λz=>(a _ z).2.1 rfl
 exact I.step (ch:=ch) a (λb o hL l hc e n=>u.keep b o e n (λz=>(M8.mp (I.stkSub b z)).elim hL l) hc) (λb o _ _ hc e n=>u.any e n hc) (λb o hc e n=>u.free b o e n hc) (λb o hc e=>u.there b o e hc) u.tups u.frzs u.tbls (λm' hm=>by obtain⟨o',g,h,f,q⟩:=hm;rw[i]at f;cases f;exact⟨_,g,h,hL,q⟩) hok j
theorem Inv.turned{t':Nat}(I:Inv X pins σ H s)(k:∀b o,b≠it->s.heap.get? b=some o->h'.get? b=some o)(hn:H it=none)(hL:it≠X.env.locals)
  (h1:it∈X.ex\/X.s₀.heap.objs.size<=it) (h2:∀x c,X.env.cells.lookup x=some c->c≠it) (h3:∀p∈X.pn++pins,p.1≠it):Inv X pins σ H { s with heap:=h',toks:=t' }:=by
 have a:∀b u,H b=some u->b≠it:=λb u e z=>by rw[z,hn]at e;cases e
 refine I.step (g':=s.gens) (d':=s.drawn) (ch:=[it]) (λb f=>?_) (λb o _ _ hc e _=>k b o (λz=>hc (by simp[z])) e) (λb o _ _ hc e _=>⟨o.slots,k b o (λz=>hc (by simp[z])) e⟩) (λ_ _ _ _ n=>n)
  (λb o hc e=>⟨o,k b o (λz=>hc (by simp[z])) e⟩) (λ_ _ e=>e) (λ_ _ _ e=>e) (λb ps e=>e) (λm hm=>?_) (λb u e=>?_) I.bare
 ·have e:b=it:=by simpa using f
  subst e;exact⟨h1,hL,h2,h3⟩
 ·obtain⟨o,es,g,h,r⟩:=hm;exact⟨o,es,g,k _ o (Ne.symm hL) h,r⟩
 ·refine (I.hok b u e).stay (λc v hc q=>k c v ?_ q) (λ_ q=>q) λ_ _ q=>q
  rcases hc with z|z
  ·rw[z];exact a b u e
  ·exact a c _ z
theorem Inv.tok(I:Inv X pins σ H s)(t:Nat):Inv X pins σ H { s with toks:=t }:=I.un (h':=s.heap) (t':=t) Un.refl I.hok
theorem Inv.kept{t':Nat}(I:Inv X pins σ H s)(k:∀b u,s.heap.get? b=some u->h'.get? b=some u):Inv X pins σ H { s with heap:=h',toks:=t' }:=I.un (Un.kept k) (I.hok.kept k)
theorem Inv.laid{t':Nat}(I:Inv X pins σ H s)(k:∀b u,s.heap.get? b=some u->h'.get? b=some u)(c:s.heap.objs.size<=a)(new:dO X.prog X.w (upd H a o) h' a o) :
 Inv X pins σ (upd H a o) { s with heap:=h',toks:=t' }:=I.un (Un.laid k c (I.hok.fresh c)) (I.hok.laid k c new)
theorem Inv.write{x e:Addr}{t':Nat}(I:Inv X pins σ H s)(c:Mut (H x))(f:e=x\/H e=some (.own x))(k:∀b u,b≠e->s.heap.get? b=some u->h'.get? b=some u)(a:∃u,h'.get? e=some u)
 (new:dO X.prog X.w (upd H x o) h' x o):Inv X pins σ (upd H x o) { s with heap:=h',toks:=t' }:=I.un (Un.write c f k a) (I.hok.write c f k a new)
theorem Inv.pins_of{pins':List (Addr×Obj)}(I:Inv X pins σ H s)(h:∀p∈pins',s.heap.get? p.1=some p.2/\H p.1=none/\p.1≠X.env.locals/\p.1∉X.fs/\∀v,p.2.data≠.cell v):Inv X pins' σ H s :=
 ⟨I.ok,I.os,I.bare,I.base,I.loc,I.cell,I.free,I.freeC,λp a=>(Nb.mp a).elim (λz=>I.pin p (Nh _ z)) (h p),I.hok,I.len,I.tab⟩
theorem wj(c:N.Nodup)(a:N[i]?=some x)(b:N[j]?=some x):i=j:=by obtain⟨h1,e1⟩:=N0.mp a;obtain⟨h2,e2⟩:=N0.mp b;exact (OP c).mp (e1.trans e2.symm)
theorem sX{Q:Unit->Shared->Prop}(I:Inv X pins σ H s)(hN:X.N.Nodup)(hi:X.N[i]?=some x)(g:Loc X.env.scope x)(r:RelV v u)
  (h:∀s',Inv X pins (σ.set i (some v)) H s'->(∃a,Heap.SameBut a s.heap s'.heap/\(a=X.env.locals\/X.env.cells.lookup x=some a))->Q () s') (hf:X.fn x=true\/X.env.scope.names.lookup x=some .local:=by first|exact .inl rfl|exact .inr rfl|assumption):wpAny M A (storeName X.env x u) Q E s:=by
 obtain⟨m,hn,hl⟩:=id I.loc;have F:(X.env.scope.kind==.class||(X.env.scope.kind==.module&&X.env.locals != X.env.globals))=false:=by rw[I.ok.kind];rfl
 have t:i<σ.length:=by rw[I.len];exact (N0.mp hi).1
 have cne:=I.cne;have tracked:∀{a:Addr}{h':Heap},(∃o,s.heap.get? a=some o/\H a=none)->Heap.SameBut a s.heap h'->HOk X.prog X.w H h':=λ{a h'} ha f b ob e=>by
  obtain⟨_,_,l⟩:=ha;refine (I.hok b ob e).stay (λc L hc q=>(f.2 c ?_).trans q) (λ_ q=>q) λ_ _ q=>q
  rintro rfl
  rcases hc with rfl|hc
  ·rw[l]at e;cases e
  ·rw[l]at hc;cases hc
 rcases g with B|B
 ·refine wpAny_storeName_local B hn (λh' O f=>?_) F;obtain⟨oL,_,_,P,_⟩:=id hn;refine h _ ⟨I.ok,I.os,I.bare,⟨λb o e n C g=>?_,λb o e n C g=>?_,I.base.free,λb o e g=>?_,I.base.tups,I.base.frzs,I.base.tbls⟩,⟨_,O,λj y R e1 e2 S=>?_⟩,λy c e=>?_,I.free,I.freeC,λp T=>?_,tracked ⟨oL,P,I.free⟩ f,by simpa using I.len,I.tab⟩ ⟨_,f,.inl rfl⟩
  ·exact (f.2 b (MV (MZ (MS e) I.ok.above))).trans (I.base.keep b o e n C g)
  ·obtain⟨U,e1⟩:=I.base.slot b o e n C g;exact⟨U,(f.2 b (MV (MZ (MS e) I.ok.above))).trans e1⟩
  ·obtain⟨o',e1⟩:=I.base.there b o e g;exact⟨o',(f.2 b (MV (MZ (MS e) I.ok.above))).trans e1⟩
  ·by_cases hj:j=i
   ·subst hj;rw[hi]at e1;cases e1;rw[Ni t]at e2;cases e2;exact⟨u,r,.inl ⟨B,by simp⟩⟩
   ·rw[N8 (Ne.symm hj)]at e2;obtain⟨W,Y,q⟩:=hl j y R e1 e2 S;refine⟨W,Y,?_⟩;rcases q with⟨k,e⟩|⟨k,c,e,z⟩
    ·refine .inl ⟨k,?_⟩;have:y≠x:=λe=>hj (wj hN e1 (e▸hi))
     simp[this,e]
    ·exact .inr ⟨k,c,e,z.sameBut f (cne y c e)⟩
  ·obtain⟨L,z⟩:=I.cell y c e;exact⟨L,z.sameBut f (cne y c e)⟩
  ·obtain⟨e,n,ne,Z,d⟩:=I.pin p T;exact⟨(f.2 p.1 ne).trans e,n,ne,Z,d⟩
 ·have D:X.fn x=true:=by
   rcases hf with z|z
   ·exact z
   ·rw[z]at B;cases B
  obtain⟨c,hc⟩:=I.ok.has x (.inl B);obtain⟨L,z⟩:=I.cell x c hc;refine wpAny_storeName_cell I.ok.kind B hc z (λh' G f=>?_);obtain⟨oc,J,K⟩:=id z;refine h { s with heap:=h' } ⟨I.ok,I.os,I.bare,⟨λb o e n C g=>?_,λb o e n C g=>?_,I.base.free,λb o e g=>?_,I.base.tups,I.base.frzs,I.base.tbls⟩,⟨m,hn.sameBut f (Ne.symm (cne x c hc)),λj y R e1 e2 S=>?_⟩,λy c' e=>?_,I.free,I.freeC,λp T=>?_,tracked ⟨oc,J,I.freeC x c hc⟩ f,by simpa using I.len,I.tab⟩ ⟨c,f,.inr hc⟩
  ·exact (f.2 b (MV (MZ (MS e) (I.ok.cab x c D hc)))).trans (I.base.keep b o e n C g)
  ·obtain⟨U,e1⟩:=I.base.slot b o e n C g;exact⟨U,(f.2 b (MV (MZ (MS e) (I.ok.cab x c D hc)))).trans e1⟩
  ·obtain⟨o',e1⟩:=I.base.there b o e g;exact⟨o',(f.2 b (MV (MZ (MS e) (I.ok.cab x c D hc)))).trans e1⟩
  ·by_cases hj:j=i
   ·subst hj;rw[hi]at e1;cases e1;rw[Ni t]at e2;cases e2;exact⟨u,r,.inr ⟨.inl B,c,hc,G⟩⟩
   ·rw[N8 (Ne.symm hj)]at e2;obtain⟨W,Y,q⟩:=hl j y R e1 e2 S;refine⟨W,Y,?_⟩;rcases q with q|⟨k,c',e,z'⟩
    ·exact .inl q
    ·refine .inr ⟨k,c',e,z'.sameBut f ?_⟩
     rintro rfl
     exact hj (wj hN e1 (I.ok.inj _ _ _ e hc▸hi))
  ·by_cases hcc:c'=c
   ·subst hcc;exact⟨_,G⟩
   ·obtain⟨w2,z2⟩:=I.cell y c' e;exact⟨w2,z2.sameBut f hcc⟩
  ·obtain⟨e,n,ne,Z,d⟩:=I.pin p T;refine⟨(f.2 p.1 ?_).trans e,n,ne,Z,d⟩;intro q;rw[q,J]at e;have q':oc=p.2:=Option.some.inj e;exact d L (by rw[<-q'];exact K)
theorem wz{Q:Unit->Shared->Prop}(I:Inv X pins σ H s)(a:X.N.Nodup)(hi:X.N[i]?=some x)(b:Loc X.env.scope x)(r:RelV v u)
  (h:∀s',Inv X pins (σ.set i (some v)) H s'->Q () s') (c:X.fn x=true\/X.env.scope.names.lookup x=some .local:=by first|exact .inl rfl|exact .inr rfl|assumption):wpAny M A (storeName X.env x u) Q E s :=
 sX I a hi b r (λs' e _=>h s' e) c
theorem Inv.call'(I:Inv X pins σ H s)(f:s'.os=s.os)(u:Un (frs X.stack) ch H H' s.heap s'.heap)(hok:HOk X.prog X.w H' s'.heap)(g:AllBare s'.gens)
  (a:∀b∈ch,(b∈X.ex\/X.s₀.heap.objs.size<=b)/\b≠X.env.locals/\(∀x c,X.env.cells.lookup x=some c->c≠b)/\∀p∈X.pn++pins,p.1≠b):Inv X pins σ H' s':=by
 obtain⟨h',g',d',t',o'⟩:=s';have e:o'=s.os:=f;subst e;exact I.call (g':=g') (t':=t') (d':=d') u hok g a
end
abbrev XK:=Value->Option Addr->Hp->Prop
abbrev St:=List (Option V)
variable {σ:St}
abbrev VK:=V->Hp->Prop
abbrev TE:=St->Hp->VK->Prop
variable {t:TE}
abbrev TT:=St->Hp->(Bool->Hp->Prop)->Prop
abbrev TA:=St->Hp->(List V->Hp->Prop)->Prop
structure Ends where
 nx:St->Hp->Prop
 rt:VK
 bk:St->Hp->Prop:=λ_ _=>False
 ct:St->Hp->Prop:=λ_ _=>False
abbrev TS:=Ends->St->Hp->Prop
def EP(X:Cx)(pins:List (Addr×Obj))(σ:St)(Q:VK)(u:Value)(s':Shared):Prop:=∃v H',Inv X pins σ H' s'/\RelV v u/\Q v H'
def TP(X:Cx)(pins:List (Addr×Obj))(σ:St)(Q:Bool->Hp->Prop)(b:Bool)(s':Shared):Prop:=∃H',Inv X pins σ H' s'/\Q b H'
def AP(X:Cx)(pins:List (Addr×Obj))(σ:St)(Q:List V->Hp->Prop)(us:List Value)(s':Shared):Prop:=∃vs H',Inv X pins σ H' s'/\Vals vs us/\Q vs H'
def SP(X:Cx)(pins:List (Addr×Obj))(D:Ends)(f:Flow)(s':Shared):Prop :=
 match f with
 |.next=>∃a H',Inv X pins a H' s'/\D.nx a H'
 |.brk=>∃a H',Inv X pins a H' s'/\D.bk a H'
 |.cont=>∃a H',Inv X pins a H' s'/\D.ct a H'
 |.ret u=>∃v a H',Inv X pins a H' s'/\RelV v u/\D.rt v H'
def PE(X:Cx)(e:Expr)(t:TE):Prop :=
 ∀(pins:List (Addr×Obj))(s:Shared)(σ:St)(H:Hp)(Q:VK),Inv X pins σ H s->t σ H Q->wpAny #[4] X.A (eval e X.env) (EP X pins σ Q) X.xe s
def PT(X:Cx)(e:Expr)(t:TT):Prop :=
 ∀(pins:List (Addr×Obj))(s:Shared)(σ:St)(H:Hp)(Q:Bool->Hp->Prop),Inv X pins σ H s->t σ H Q->wpAny #[4] X.A (isTrue e X.env (eval e X.env)) (TP X pins σ Q) X.xe s
def PW(X:Cx)(e:Expr)(t:TT):Prop :=
 ∀(whole:Sem Value)(pins:List (Addr×Obj))(s:Shared)(σ:St)(H:Hp)(Q:Bool->Hp->Prop),Inv X pins σ H s->t σ H Q->wpAny #[4] X.A (isTrue e X.env whole) (TP X pins σ Q) X.xe s
theorem PW.pt{t:TT}(h:PW X e t):PT X e t:=h _
def PA(X:Cx)(es:List Expr)(t:TA):Prop :=
 ∀(pos:Pos)(pins:List (Addr×Obj))(s:Shared)(σ:St)(H:Hp)(Q:List V->Hp->Prop),Inv X pins σ H s->t σ H Q->wpAny #[4] X.A (spliced (backTo pos #[23])) (AP X pins σ Q) X.xe s
def PS(X:Cx)(st:Stmt)(t:TS):Prop :=
 ∀(pins:List (Addr×Obj))(s:Shared)(σ:St)(H:Hp)(D:Ends),Inv X pins σ H s->t D σ H->wpAny #[4] X.A (exec st X.env) (SP X pins D) X.xe s
def PSs(X:Cx)(st:List Stmt)(t:TS):Prop :=
 ∀(pins:List (Addr×Obj))(s:Shared)(σ:St)(H:Hp)(D:Ends),Inv X pins σ H s->t D σ H->wpAny #[4] X.A (execs st X.env) (SP X pins D) X.xe s
theorem thn{t:Sem α}{Q b:α->Shared->Prop}(h:wpAny M A t Q E s)(c:∀a s,Q a s->b a s):wpAny M A t b E s:=wpAny_mono h c λ_ _ x=>x
section
theorem bin{a b:Expr}{ta tb:TE}(ha:PE X a ta)(i:PE X b tb)(I:Inv X pins σ H s)(h:ta σ H λx H1=>tb σ H1 λy H2=>R x y H2)
  {Q:α->Shared->Prop} {f:Value->Value->Sem α}
  (j:∀v u s2 x y H2,Inv X pins σ H2 s2->RelV x v->RelV y u->R x y H2->wpAny #[4] X.A (f v u) Q X.xe s2) :
  wpAny #[4] X.A (eval a X.env) (λv e=>wpAny #[4] X.A (eval b X.env) (λu g=>wpAny #[4] X.A (f v u) Q X.xe g) X.xe e) X.xe s:=by
 refine thn (ha pins s σ H _ I h) λv l c=>?_
 obtain⟨x,H1,m,n,o⟩:=c;refine thn (i pins l σ H1 _ m o) λu s2 c=>?_
 obtain⟨y,H2,p,q,r⟩:=c;exact j v u s2 x y H2 p n q r
def Li(i:Nat):TE:=λσ H Q=>∃v,σ[i]?=some (some v)/\Q v H
def tC(v:V):TE:=λ_ H Q=>Q v H
theorem kE(g:X.N[i]?=some x)(hv:Vis X.env.scope x)(hd:(x==("__debug__":Str))=false:=by decide)(f:(x==("__classdict__":Str))=false:=by decide):PE X (.Name x pos) (Li i):=by
 intro pins s σ H Q I h;obtain⟨v,e,h⟩:=h;obtain⟨m,hn,hl⟩:=I.loc;obtain⟨u,r,l⟩:=hl i x v g e hv;have fin:EP X pins σ Q u s:=⟨v,H,I,r,h⟩
 rcases l with⟨b,hm⟩|⟨b,c,hc,a⟩
 ·exact wpAny_Name (wpAny_loadName_local I.ok.kind b hn hm fin) hd
 ·rcases b with b|b
  ·exact wpAny_Name (wpAny_loadName_cell I.ok.kind b hc a fin) hd
  ·exact wpAny_Name (wpAny_loadName_free I.ok.kind b hc a fin f) hd
theorem gE{i j pos}:PE X (.Constant (.int i) j pos) (tC (.int i)):=λ_ _ _ H _ I h=>wpAny_Constant_int ⟨.int i,H,I.tok _,⟨_,rfl⟩,h⟩
theorem LC{b j pos}:PE X (.Constant (.bool b) j pos) (tC (.bl b)):=λ_ _ _ H _ I h=>Constant_bool ⟨.bl b,H,I,rfl,h⟩
theorem KA{j pos}:PE X (.Constant .none j pos) (tC .non):=λ_ _ _ H _ I h=>Constant_none ⟨.non,H,I,rfl,h⟩
theorem Kl{x j pos}:PE X (.Constant (.str x) j pos) (tC (.str x)):=λ_ _ _ H _ I h=>Calls.Constant_str ⟨.str x,H,I.tok _,⟨_,rfl⟩,h⟩
def Gl(X:Cx)(x:Str):Prop:=X.env.kindOf x=some .globalImplicit
theorem pJ(I:Inv X pins σ H s)(a:Gl X x)(hm:X.mg x=some u)(h:Q u s)
  (hd:(x==("__debug__":Str))=false:=by decide):wpAny #[4] X.A (eval (.Name x pos) X.env) Q E s :=
 Calls.Name_function_global I.ok.kind a (Calls.loadGlobal_global (by rw[I.ok.glob];exact I.mod.glob.keeps I.bk) hm h) hd
theorem fS(I:Inv X pins σ H s)(a:Gl X x)(hm:X.mg x=none)(hv:bootBuiltins x=some u)(h:Q u s)
  (hn:x≠"__name__":=by decide) (hd:(x==("__debug__":Str))=false:=by decide):wpAny #[4] X.A (eval (.Name x pos) X.env) Q E s:=by
 obtain⟨mb,h1,h2⟩:=I.mod.blt;exact Calls.Name_function_global I.ok.kind a (Calls.loadGlobal_builtin (by rw[I.ok.glob];exact I.mod.glob.keeps I.bk) hm (by rw[I.ok.blt];exact h1.keeps I.bk) ((h2 x hn).trans hv) h) hd
theorem Gg(a:Gl X x)(hm:X.mg x=some u)(r:RelV v u)(hd:(x==("__debug__":Str))=false:=by decide):PE X (.Name x pos) (tC v) :=
 λ_ _ _ H _ I h=>pJ I a hm ⟨v,H,I,r,h⟩ hd
theorem GW(a:Gl X x)(hm:X.mg x=none)(hv:bootBuiltins x=some u)(r:RelV v u)(hn:x≠"__name__":=by decide)(hd:(x==("__debug__":Str))=false:=by decide):PE X (.Name x pos) (tC v) :=
 λ_ _ _ H _ I h=>fS I a hm hv ⟨v,H,I,r,h⟩ hn hd
noncomputable def t2I(ta tb:TE)(k:Int->Int->Hp->Prop):St->Hp->Prop:=λσ H=>ta σ H λx H1=>tb σ H1 λy H2=>∃i j,x=.int i/\y=.int j/\k i j H2
variable {a b:Expr}{ta tb:TE}
def PC(X:Cx)(op:CmpOp)(a b:Expr)(t:TE):Prop :=
 ∀(pins:List (Addr×Obj))(s:Shared)(σ:St)(H:Hp)(Q:VK),Inv X pins σ H s->t σ H Q ->
  wpAny #[4] X.A (eval a X.env) (λv c=>wpAny #[4] X.A (eval b X.env) (λu e=>wpAny #[4] X.A (compareOp op v u) (EP X pins σ Q) X.xe e) X.xe c) X.xe s
theorem xr(b:Expr)(h:op≠.In)(h2:op≠.NotIn):behindInMarks op b=false:=by
 have e1:(op==CmpOp.In)=false:=by cases op <;> first|rfl|exact absurd rfl h
 have e2:(op==CmpOp.NotIn)=false:=by cases op <;> first|rfl|exact absurd rfl h2
 cases b <;> simp[behindInMarks,e1,e2]
def LQ(p:Int->Int->Bool)(ta tb:TE):TE:=λσ H Q=>t2I ta tb (λi j H2=>Q (.bl (p i j)) H2) σ H
abbrev tLt:TE->TE->TE:=LQ λi j=>decide (i<j)
theorem Iw{p:Int->Int->Bool}(ha:PE X a ta)(c:PE X b tb)
  (rule:∀(i j:Int)(t u:Tok)(Q:Value->Shared->Prop)(s:Shared),Q (.bool (p i j)) s->wpAny #[4] X.A (compareOp op (.int i t) (.int j u)) Q X.xe s):PC X op a b (LQ p ta tb):=by
 intro pins s σ H Q I h;refine bin ha c I h λv u s2 x y H2 e f g q=>?_
 obtain⟨i,j,rfl,rfl,q⟩:=q;obtain⟨t,rfl⟩:=f;obtain⟨t',rfl⟩:=g;exact rule i j t t' _ s2 ⟨.bl _,H2,e,rfl,q⟩
theorem KO(ha:PE X a ta)(c:PE X b tb):PC X .Lt a b (tLt ta tb):=Iw ha c λ_ _ _ _ _ _ h=>lt_int h
def Mb(ta:TE):TE:=λσ H Q=>ta σ H λx H1=>Q (.bl (decide (x=.non))) H1
def La(ta:TE):TE:=λσ H Q=>ta σ H λx H1=>Q (.bl (!decide (x=.non))) H1
theorem RelV.none_iff{x:V}{v:Value}(r:RelV x v):(v==Value.none)=decide (x=.non):=by
 cases x with
 |non=>cases r;rfl
 |bl _=>cases r;rfl
 |int _=>obtain⟨t,rfl⟩:=r;rfl
 |str _=>obtain⟨t,rfl⟩:=r;rfl
 |byt _=>obtain⟨t,rfl⟩:=r;rfl
 |flt _=>obtain⟨t,rfl⟩:=r;rfl
 |ref _=>cases r;rfl
 |ty _=>cases r;rfl
theorem Dl{j pos'}(ha:PE X a ta):PC X .Is a (.Constant .none j pos') (Mb ta):=by
 intro pins s σ H Q I h;refine thn (ha pins s σ H _ I h) λv s1 b=>?_
 obtain⟨x,H1,c,e,f⟩:=b;exact Constant_none (is_none_gen ⟨.bl _,H1,c,by rw[e.none_iff];rfl,f⟩)
theorem Fv{j pos'}(ha:PE X a ta):PC X .IsNot a (.Constant .none j pos') (La ta):=by
 intro pins s σ H Q I h;refine thn (ha pins s σ H _ I h) λv s1 b=>?_
 obtain⟨x,H1,c,e,f⟩:=b;exact Constant_none (isnot_none_gen ⟨.bl _,H1,c,by rw[e.none_iff];rfl,f⟩)
def tB(t:TE):TT:=λσ H Q=>t σ H λx H1=>∃c,x=.bl c/\Q c H1
theorem IE(h:PC X op a b t)(h1:behindInMarks op b=false:=by first|exact xr _ #[2] #[2]|rfl):PE X (.Compare a [op] [b] pos) t:=λpins s σ H Q I hw=>wpAny_Compare1 (h pins s σ H Q I hw) h1
theorem yk(h:PC X op a b t)(h1:behindInMarks op b=false:=by first|exact xr _ #[2] #[2]|rfl):PT X (.Compare a [op] [b] pos) (tB t):=by intro pins s σ H Q I hw;refine wpAny_isTrue_Compare1 (thn (h pins s σ H _ I hw) λv s1 h1=>thn h1 λu s2 h2=>thn h2 λc s3 e=>?_) h1;obtain⟨x,H1,f,g,i⟩:=e;obtain⟨d,rfl,q⟩:=i;cases g;exact wpAny_truthy_bool ⟨H1,f,q⟩
theorem IZ(h:PE X e t)(b:∀whole,isTrue e X.env whole=(do let v <-whole;standAt e.pos;holding [v] (truthy v)):=by intro _;rfl):PT X e (tB t):=by intro pins s σ H Q I hw;refine isTrue_plain (thn (h pins s σ H _ I hw) λv s1 a=>?_) (b _);obtain⟨x,H1,c,f,g⟩:=a;obtain⟨d,rfl,q⟩:=g;cases f;exact wpAny_truthy_bool ⟨H1,c,q⟩
variable {tA tB':TT}{rest:List Expr}
def Mz(t u:TT):TT:=λσ H Q=>t σ H λc H1=>if c=true then u σ H1 Q else Q false H1
def tOr(t u:TT):TT:=λσ H Q=>t σ H λc H1=>if c=true then Q true H1 else u σ H1 Q
def MD(t:TT):TT:=λσ H Q=>t σ H λc H1=>Q (!c) H1
theorem Gu(ha:PT X a tA):PW X (.BoolOp .And [a] pos) tA:=by
 intro wh pins s σ H Q I h;refine isTrue_and (thn (ha pins s σ H Q I h) λc s1 e=>?_);cases c with
 |true=>exact isTrue_and_nil e
 |false=>exact e
theorem Kp(ha:PT X a tA):PW X (.BoolOp .Or [a] pos) tA:=by
 intro wh pins s σ H Q I h;refine isTrue_or (thn (ha pins s σ H Q I h) λc s1 e=>?_);cases c with
 |false=>exact isTrue_or_nil e
 |true=>exact e
theorem Il(ha:PT X a tA)(i:PW X (.BoolOp .And (b::rest) pos) tB'):PW X (.BoolOp .And (a::b::rest) pos) (Mz tA tB'):=by
 intro j pins s σ H Q I h;refine isTrue_and (thn (ha pins s σ H _ I h) λc l e=>?_);obtain⟨H1,f,g⟩:=e;cases c with
 |true=>exact i j pins l σ H1 Q f g
 |false=>exact⟨H1,f,g⟩
theorem KN(ha:PT X a tA)(i:PW X (.BoolOp .Or (b::rest) pos) tB'):PW X (.BoolOp .Or (a::b::rest) pos) (tOr tA tB'):=by
 intro j pins s σ H Q I h;refine isTrue_or (thn (ha pins s σ H _ I h) λc l e=>?_);obtain⟨H1,f,g⟩:=e;cases c with
 |true=>exact⟨H1,f,g⟩
 |false=>exact i j pins l σ H1 Q f g
theorem Iz(ha:PT X a tA):PT X (.UnaryOp .Not a pos) (MD tA):=by intro pins s σ H Q I h;exact isTrue_not (ha pins s σ H (λc H1=>Q (!c) H1) I h)
def K6(ta tb:TE):TE:=λσ H Q=>ta σ H λx H1=>∃c,x=.bl c/\if c=true then tb σ H1 Q else Q (.bl false) H1
def L5(ta tb:TE):TE:=λσ H Q=>ta σ H λx H1=>∃c,x=.bl c/\if c=true then Q (.bl true) H1 else tb σ H1 Q
theorem J8{op}(h:PE X a t):PE X (.BoolOp op [a] pos) t:=λpins s σ H Q I hw=>BoolOp_one (h pins s σ H Q I hw)
theorem Jz(ha:PE X a ta)(i:PE X (.BoolOp .And (b::rest) pos) tb):PE X (.BoolOp .And (a::b::rest) pos) (K6 ta tb):=by
 intro pins s σ H Q I h;refine BoolOp_and (thn (ha pins s σ H _ I h) λv j f=>?_);obtain⟨x,H1,g,l,e⟩:=f;obtain⟨c,rfl,e⟩:=e;cases l;refine wpAny_truthy_bool ?_;cases c with
 |true=>exact i pins j σ H1 Q g e
 |false=>exact⟨.bl false,H1,g,rfl,e⟩
theorem Lo(ha:PE X a ta)(i:PE X (.BoolOp .Or (b::rest) pos) tb):PE X (.BoolOp .Or (a::b::rest) pos) (L5 ta tb):=by
 intro pins s σ H Q I h;refine BoolOp_or (thn (ha pins s σ H _ I h) λv j f=>?_);obtain⟨x,H1,g,l,e⟩:=f;obtain⟨c,rfl,e⟩:=e;cases l;refine wpAny_truthy_bool ?_;cases c with
 |false=>exact i pins j σ H1 Q g e
 |true=>exact⟨.bl true,H1,g,rfl,e⟩
def tIf(t:TT)(ta tb:TE):TE:=λσ H Q=>t σ H λc H1=>if c=true then ta σ H1 Q else tb σ H1 Q
theorem CJ(hc:PT X c tA)(ha:PE X a ta)(j:PE X b tb):PE X (.IfExp c a b pos) (tIf tA ta tb):=by
 intro pins s σ H Q I h;refine wpAny_IfExp (thn (hc pins s σ H _ I h) λd f e=>?_);obtain⟨H1,g,i⟩:=e;cases d with
 |true=>exact ha pins f σ H1 Q g i
 |false=>exact j pins f σ H1 Q g i
end
def SqL(K:W.Frag)(H:Hp)(a:Addr)(xs:List V):Prop :=
 Rd H a (.lst xs) \/
  ∃(o:Obj)(b:Array Value)(n:Nat),K.lookup a=some o/\o.cls=.type "list"/\o.dict=none/\o.data=.seq b n/\b.size<=sizeLine/\Vals xs b.toList
def SqT(K:W.Frag)(H:Hp)(a:Addr)(xs:List V):Prop :=
 Rd H a (.tup xs) \/
  ∃(o:Obj)(b:Array Value)(n:Nat),K.lookup a=some o/\o.cls=.type "tuple"/\o.data=.seq b n/\b.size<=sizeLine/\Vals xs b.toList
def Md:Value->Option V
 |.none=>some .non
 |.bool b=>some (.bl b)
 |.int i _=>some (.int i)
 |.str x _=>some (.str x)
 |.bytes b _=>some (.byt b)
 |.float b _=>some (.flt b)
 |.ref a=>some (.ref a)
 |.type n=>some (.ty n)
 |_=>none
theorem RelV.abs{x:V}(r:RelV x u):Md u=some x:=by
 cases x with
 |non=>cases r;rfl
 |bl _=>cases r;rfl
 |int _=>obtain⟨t,rfl⟩:=r;rfl
 |str _=>obtain⟨t,rfl⟩:=r;rfl
 |byt _=>obtain⟨t,rfl⟩:=r;rfl
 |flt _=>obtain⟨t,rfl⟩:=r;rfl
 |ref _=>cases r;rfl
 |ty _=>cases r;rfl
theorem RelV.inj{x y:V}(r:RelV x u)(q:RelV y u):x=y:=Option.some.inj (r.abs.symm.trans q.abs)
theorem Vals.inj{ys:List V}(h:Vals xs us)(h':Vals ys us):xs=ys:=by
 induction h generalizing ys with
 |nil=>cases h';rfl
 |cons r t ih =>
  cases h' with
  |cons r' t'=>rw[r.inj r',ih t']
section
variable {ys:List V}
theorem SqL.of(h:H a=some (.lst xs)):SqL K H a xs:=.inl (.inl h)
theorem SqT.of(h:H a=some (.tup xs)):SqT K H a xs:=.inl (.inl h)
theorem Inv.list(I:Inv X pins σ H s)(h:SqL X.K H a xs):∃b:List Value,Vals xs b/\PlainL s.heap a b.toArray/\xs.length<=sizeLine:=by
 rcases h with h|⟨o,b,n,c,hc,hd,f,hz,r⟩
 ·obtain⟨z,b,n,r,e⟩:=h.ok I.hok;exact⟨b,r,⟨_,n,e,rfl,rfl,rfl⟩,z⟩
 ·refine⟨b.toList,r,⟨o,n,I.kIn a o c,hc,hd,by simpa using f⟩,?_⟩;have e:=r.length;simp only[NJ]at e;omega
theorem Inv.tuple(I:Inv X pins σ H s)(h:SqT X.K H a xs):∃b:List Value,Vals xs b/\IsTup s.heap a b.toArray/\xs.length<=sizeLine:=by
 rcases h with h|⟨o,b,n,c,hc,f,hz,r⟩
 ·obtain⟨z,b,r,p⟩:=h.ok I.hok;exact⟨b,r,p.tup,z⟩
 ·refine⟨b.toList,r,⟨o,I.kIn a o c,hc,n,by simpa using f⟩,?_⟩;have e:=r.length;simp only[NJ]at e;omega
theorem Inv.list_inj(I:Inv X pins σ H s)(h:SqL X.K H a xs)(h':SqL X.K H a ys):xs=ys:=by
 obtain⟨b,r,⟨o,n,e,_,_,d⟩,_⟩:=I.list h;obtain⟨its',f,⟨o',n',c,_,_,d'⟩,_⟩:=I.list h';rw[e]at c;cases c;rw[d]at d';injection d' with d1 _
 have:b=its':=by simpa using congrArg Array.toList d1
 subst this;exact r.inj f
theorem Inv.tuple_inj(I:Inv X pins σ H s)(h:SqT X.K H a xs)(h':SqT X.K H a ys):xs=ys:=by
 obtain⟨b,r,⟨o,e,_,n,d⟩,_⟩:=I.tuple h;obtain⟨its',f,⟨o',c,_,n',d'⟩,_⟩:=I.tuple h';rw[e]at c;cases c;rw[d]at d';injection d' with d1 _
 have:b=its':=by simpa using congrArg Array.toList d1
 subst this;exact r.inj f
end
abbrev Cx.wish(X:Cx)(E:Value->Shared->Prop):Cx:={ X with xe:=E }
abbrev Cx.nox(X:Cx):Cx:=X.wish λ_ _=>False
theorem Cx.Ok.wish(ok:X.Ok)(E:Value->Shared->Prop):(X.wish E).Ok :=
 ⟨ok.mod,ok.kind,ok.glob,ok.blt,ok.above,ok.inj,ok.has,ok.cab,ok.hd,ok.frames,ok.stk,ok.exf,ok.bs,ok.bsz,ok.noex,ok.exfs,ok.funs,ok.frf⟩
theorem Cx.Ok.unwish(ok:(X.wish E).Ok):X.Ok :=
 ⟨ok.mod,ok.kind,ok.glob,ok.blt,ok.above,ok.inj,ok.has,ok.cab,ok.hd,ok.frames,ok.stk,ok.exf,ok.bs,ok.bsz,ok.noex,ok.exfs,ok.funs,ok.frf⟩
section
theorem Inv.wish(I:Inv X pins σ H s)(E:Value->Shared->Prop):Inv (X.wish E) pins σ H s:=⟨I.ok.wish E,I.os,I.bare,I.base,I.loc,I.cell,I.free,I.freeC,I.pin,I.hok,I.len,I.tab⟩
theorem Inv.unwish(I:Inv (X.wish E) pins σ H s):Inv X pins σ H s:=⟨I.ok.unwish,I.os,I.bare,I.base,I.loc,I.cell,I.free,I.freeC,I.pin,I.hok,I.len,I.tab⟩
theorem SP.unwish{D:Ends}{f:Flow}(h:SP (X.wish E) pins D f s'):SP X pins D f s':=by
 cases f with
 |next=>obtain⟨a,H',I,q⟩:=h;exact⟨a,H',I.unwish,q⟩
 |brk=>obtain⟨a,H',I,q⟩:=h;exact⟨a,H',I.unwish,q⟩
 |cont=>obtain⟨a,H',I,q⟩:=h;exact⟨a,H',I.unwish,q⟩
 |ret u=>obtain⟨v,a,H',I,r,q⟩:=h;exact⟨v,a,H',I.unwish,r,q⟩
theorem PSs.nox{st:List Stmt}{t:TS}(h:PSs X.nox st t):PSs X st t:=λpins s σ H D I hw =>
 wpAny_mono (h pins s σ H D (I.wish _) hw) (λ_ _ q=>q.unwish) λ_ _ z=>False.elim z
end
section
variable {rest:List Stmt}{t u:TS}{te:TE}
def K5:TS:=λD σ H=>D.nx σ H
def Mj(t u:TS):TS:=λD σ H=>t { D with nx:=u D } σ H
theorem vf:PSs X [] K5:=λ_ _ σ H _ I h=>wpAny_execs_nil ⟨σ,H,I,h⟩
theorem cO(h1:PS X st t)(h2:PSs X rest u):PSs X (st::rest) (Mj t u):=by
 intro pins s σ H D I h;refine wpAny_execs_cons (thn (h1 pins s σ H { D with nx:=u D } I h) λf b q=>?_);cases f with
 |next =>obtain⟨a,H',c,q⟩:=q;exact h2 pins b a H' D c q
 |ret v=>exact q
 |brk=>exact q
 |cont=>exact q
theorem iC(h1:PS X st t):PSs X [st] t:=by
 intro pins s σ H D I h;refine wpAny_execs_cons (thn (h1 pins s σ H D I h) λf s1 q=>?_);cases f with
 |next=>exact wpAny_execs_nil q
 |ret v=>exact q
 |brk=>exact q
 |cont=>exact q
theorem Inv.quiet(I:Inv X pins σ H s):interactive X.env=false:=by simp[interactive,I.ok.kind]
def Lj(te:TE):TS:=λD σ H=>te σ H λ_ H1=>D.nx σ H1
theorem lQ(b:PE X e te)(c:swapsWith e none pos.line X.env=pure false:=by rfl):PS X (.Expr e pos) (Lj te):=by intro pins s σ H D I h;exact wpAny_Expr_any (thn (b pins s σ H _ I h) λv s1 a=>(by obtain⟨x,H1,f,r1,g⟩:=a;exact⟨σ,H1,f,g⟩)) I.quiet c
def MA(te:TE):TS:=λD σ H=>te σ H D.rt
theorem p6(b:PE X e te):PS X (.Return (some e) pos) (MA te):=by intro pins s σ H D I h;exact wpAny_Return_some (thn (b pins s σ H _ I h) λv s1 a=>(by obtain⟨x,H1,c,f,g⟩:=a;exact⟨x,σ,H1,c,f,g⟩))
def Ml(c:TT)(t u:TS):TS:=λD σ H=>c σ H λb H1=>if b=true then t D σ H1 else u D σ H1
theorem An{a b:List Stmt}{tc:TT}(hc:PT X c tc)(ha:PSs X a t)(j:PSs X b u):PS X (.If c a b pos) (Ml tc t u):=by
 intro pins s σ H D I h;refine wpAny_If (thn (hc pins s σ H _ I h) λd f e=>?_);obtain⟨H1,g,i⟩:=e;cases d with
 |true=>exact ha pins f σ H1 D g i
 |false=>exact j pins f σ H1 D g i
end
abbrev TG:=V->St->Hp->(St->Hp->Prop)->Prop
abbrev TGs:=List V->St->Hp->(St->Hp->Prop)->Prop
def PG(X:Cx)(target:Expr)(t:TG):Prop :=
 ∀(pins:List (Addr×Obj))(s:Shared)(σ:St)(H:Hp)(v:V)(u:Value)(Q:St->Hp->Prop),Inv X pins σ H s->RelV v u->t v σ H Q ->
  wpAny #[4] X.A (assign target X.env u) (λ_ s'=>∃a H',Inv X pins a H' s'/\Q a H') X.xe s
def PGs(X:Cx)(ts:List Expr)(t:TGs):Prop :=
 ∀(pins:List (Addr×Obj))(s:Shared)(σ:St)(H:Hp)(vs:List V)(us:List Value)(Q:St->Hp->Prop),Inv X pins σ H s->Vals vs us->t vs σ H Q ->
  wpAny #[4] X.A (assignInOrder ((assignEach ts X.env).map (·.2)) us) (λ_ s'=>∃a H',Inv X pins a H' s'/\Q a H') X.xe s
abbrev Jx:=V->V->V->Hp->(Hp->Prop)->Prop
def K7(X:Cx)(t:Jx):Prop :=
 ∀(pins:List (Addr×Obj))(s:Shared)(σ:St)(H:Hp)(o i v:V)(a b u:Value)(Q:Hp->Prop),Inv X pins σ H s->RelV o a->RelV i b->RelV v u->t o i v H Q ->
  wpAny #[4] X.A (setItem a b u) (λ_ s'=>∃H',Inv X pins σ H' s'/\Q H') X.xe s
section
def ku(i:Nat):TG:=λv σ H Q=>Q (σ.set i (some v)) H
theorem uK(a:X.N.Nodup)(hi:X.N[i]?=some x)(b:Loc X.env.scope x)(c:X.fn x=true\/X.env.scope.names.lookup x=some .local:=by first|exact .inl rfl|exact .inr rfl|assumption):PG X (.Name x pos) (ku i):=by intro pins s σ H v u Q I r h;exact wpAny_assign_Name (wz I a hi b r (λs' e=>⟨_,H,e,h⟩) c)
def Ku:TGs:=λvs σ H Q=>vs=[]/\Q σ H
def Aj(t:TG)(u:TGs):TGs:=λvs σ H Q=>∃v r,vs=v::r/\t v σ H λa H'=>u r a H' Q
theorem Au:PGs X [] Ku:=by intro pins s σ H vs us Q I r h;obtain⟨e,h⟩:=h;subst e;cases r;exact assignInOrder_nil ⟨σ,H,I,h⟩
theorem qK{t:TG}{u:TGs}(h1:PG X e t)(h2:PGs X es u)
  (c:(assignEach (e::es) X.env).map (·.2)=assign e X.env::(assignEach es X.env).map (·.2):=by rfl):PGs X (e::es) (Aj t u):=by
 intro pins s σ H vs us Q I r h;obtain⟨v,vr,e1,h⟩:=h;subst e1;cases r with
 |cons r rr =>rw[c];refine assignInOrder_cons (thn (h1 pins s σ H _ _ _ I r h) λ_ f a=>?_);obtain⟨b,H1,g,i⟩:=a;exact h2 pins f b H1 _ _ Q g rr i
def II(K:W.Frag)(n:Nat)(t:TGs):TG:=λv σ H Q=>∃a xs,v=.ref a/\SqT K H a xs/\xs.length=n/\t xs σ H Q
theorem DB{k:Nat}{t:TGs}(hc:X.calm=true)(h:PGs X es t)
  (hn:(assignEach es X.env).length=n:=by rfl) (c:(assignEach es X.env).findIdx? (·.1)=none:=by rfl):PG X (.Tuple es k pos) (II X.K n t):=by
 intro pins s σ H v u Q I r hw;obtain⟨a,xs,e1,g,hl,hw⟩:=hw;subst e1;cases r;obtain⟨its,f,i,hz⟩:=I.tuple g;refine assign_Tuple_tuple (I.ok.hd hc) i (by simp[hn,<-hl,f.length]) c λh' j=>?_
 have l:Inv X pins σ H { s with heap:=h' }:=I.kept (t':=s.toks) λb o e=>j b o (MV (MS e)) e
 exact h pins _ σ H xs _ Q l (by simpa using f) hw
def Mh(to a:TE)(t:Jx):TG:=λv σ H Q=>to σ H λo H1=>a σ H1 λi H2=>t o i v H2 λb=>Q σ b
theorem Kz{o i:Expr}{to e:TE}{t:Jx}(f:PE X o to)(hi:PE X i e)(g:K7 X t)
  (ha:∀v,assign (.Subscript o i pos) X.env v=(do
   let b <-holding [v] (eval o X.env);let c <-holding [v,b] (eval i X.env)
   standAt pos
   holding [v,b,c] (setItem b c v)
   release [v,b,c] []):=by intro _;rfl):PG X (.Subscript o i pos) (Mh to e t):=by
 intro pins s σ H v u Q I r h;rw[ha];refine wpAny_bind (wpAny_holding (thn (f pins s σ H _ I h) λb j a=>?_));obtain⟨x,H1,l,m,n⟩:=a;refine wpAny_bind (wpAny_holding (thn (hi pins j σ H1 _ l n) λc s2 a=>?_));obtain⟨y,H2,p,q,w⟩:=a;refine wpAny_bind (wpAny_standAt (wpAny_bind (wpAny_holding (thn (g pins s2 σ H2 x y v b c u _ p m q r w) λ_ s3 a=>?_))));obtain⟨z,A,B⟩:=a;exact wpAny_release ⟨σ,z,A,B⟩
def B5(te:TE)(g:TG):TS:=λD σ H=>te σ H λx H1=>g x σ H1 D.nx
theorem DC{te:TE}{g:TG}(b:PE X e te)(c:PG X tg g)(f:swapsWithSole [tg] e pos.line X.env=pure false:=by rfl)(hw:swappedStores [tg] e X.env=pure none:=by rfl)
  (h1:(assignEach [tg] X.env).map (·.2)=[assign tg X.env]:=by rfl):PS X (.Assign [tg] e pos) (B5 te g):=by
 intro pins s σ H D I h;refine wpAny_Assign_stores (thn (b pins s σ H _ I h) λv i a=>?_) f hw;obtain⟨x,H1,j,l,m⟩:=a;rw[h1];exact thn (c pins i σ H1 x v _ j l m) λ_ s2 q=>q
theorem qX{te:TE}(b:X.N.Nodup)(hi:X.N[i]?=some x)(c:Loc X.env.scope x)(f:PE X e te)(g:swapsWith e (some (.Name x pos')) pos.line X.env=pure false:=by rfl)(j:X.fn x=true\/X.env.scope.names.lookup x=some .local:=by first|exact .inl rfl|exact .inr rfl|assumption) :
  PS X (.Assign [.Name x pos'] e pos) (B5 te (ku i)):=by
 intro pins s σ H D I h;refine wpAny_Assign_Name (thn (f pins s σ H _ I h) λv s1 a=>?_) g;obtain⟨y,H1,l,m,n⟩:=a;exact wz l b hi c m (λs2 o=>⟨_,H1,o,n⟩) j
end
section
def JB(c:TT)(tb:TS):TS:=λD σ H=>∃W:Nat->St->Hp->Prop,(∃m,W m σ H)/\∀m σ H,W m σ H ->
 c σ H λb H1=>if b=true then ∃N:St->Hp->Prop,(∀a H',N a H'->∃e,e < m/\W e a H')/\tb { D with nx:=N,ct:=N,bk:=D.nx } σ H1 else D.nx σ H1
theorem vG{tc:TT}{tb:TS}(t:PassesOwn #[4] X.A X.env X.xe)(hc:PT X c tc)(y:PSs X body tb):PS X (.While c body [] pos) (JB tc tb):=by
 intro pins s σ H D I h;obtain⟨W,⟨z,B⟩,turn⟩:=h;refine wpAny_While (codeAny_whileLoop (λn s'=>∃g H',Inv X pins g H' s'/\W n g H') ?_ z ⟨σ,H,I,B⟩)
 rintro n C ⟨e,H1,E,F⟩
 refine wpAny_passesOwn t (thn (hc pins C e H1 _ E (turn n e H1 F)) λb s2 m=>?_);obtain⟨H2,u,j⟩:=m;cases b with
 |true =>
  obtain⟨N,x,j⟩:=j;rw[if_pos rfl];refine wpAny_passesOwn t (thn (y pins s2 e H2 _ u j) λf s3 l=>?_);cases f with
  |next =>obtain⟨a,i,o,p⟩:=l;obtain⟨q,hm,r⟩:=x a i p;exact⟨q,hm,a,i,o,r⟩
  |cont =>obtain⟨a,i,o,p⟩:=l;obtain⟨q,hm,r⟩:=x a i p;exact⟨q,hm,a,i,o,r⟩
  |brk=>exact l
  |ret v=>exact l
 |false =>rw[if_neg MQ];exact wpAny_execs_nil ⟨e,H2,u,j⟩
end
structure It where
 go:Nat->Hp->Prop
 yld:Nat->Hp->V->Hp->Prop
 stop:Nat->Hp->Prop
def q9(X:Cx)(pins:List (Addr×Obj))(H:Hp)(b:Addr):Prop :=
 H b=none/\b≠X.env.locals/\b∉X.fs/\(b∈X.ex\/X.s₀.heap.objs.size<=b)/\(∀x c,X.env.cells.lookup x=some c->c≠b)/\∀p∈X.pn++pins,p.1≠b
theorem Inv.fpOk{H':Hp}(I:Inv X pins σ H s)(a:s.heap.objs.size<=b)(hn:H' b=none):q9 X pins H' b:=by
 refine⟨hn,ND (MZ I.lt a),I.nofs a,.inr (Nq I.sz a),λx c e z=>?_,λp f z=>?_⟩
 ·obtain⟨v,q⟩:=I.cell x c e;exact absurd (MZ q.lt (by rw[z];exact a)) (O2 _)
 ·exact absurd (MZ (MS (I.pin p f).1) (by rw[z];exact a)) (O2 _)
structure Turn(P:Program)(w:World)(K:W.Frag)(tg:Expr)(J:It)(fp:List Addr)(it:Addr)(tn:Nat->Heap->Prop):Prop where
 mem:it∈fp
 obj:∀i h,tn i h->∀b∈fp,∃o,h.get? b=some o/\∀v,o.data≠.cell v
 keep:∀i h h',tn i h->(∀b∈fp,∀o,h.get? b=some o->h'.get? b=some o)->tn i h'
 item:∀(X:Cx),X.prog=P->X.w=w->X.K=K->X.calm=true->∀(i:Nat)(pins:List (Addr×Obj))(s:Shared)(σ:St)(H:Hp)(E:Value->Shared->Prop),Inv X pins σ H s->(∀b∈fp,q9 X pins H b)->tn i s.heap->J.go i H ->
  wpAny (model P w) X.A (pyNext (.ref it)) (λr s1=>∃u,r=some u /\
   wpAny (model P w) X.A (letOwnedTupleGo tg (.ref it) u) (λ_ s2=>∃x H',Inv X pins σ H' s2/\RelV x u/\J.yld i H x H'/\tn (i+1) s2.heap/\∀b∈fp,H' b=none) E s1) E s
 done:∀(X:Cx),X.prog=P->X.w=w->X.K=K->X.calm=true->∀(i:Nat)(pins:List (Addr×Obj))(s:Shared)(σ:St)(H:Hp)(E:Value->Shared->Prop),Inv X pins σ H s->(∀b∈fp,q9 X pins H b)->tn i s.heap->J.stop i H ->
  wpAny (model P w) X.A (pyNext (.ref it)) (λr s1=>r=none/\Inv X pins σ H s1) E s
 self:∀(A:Around)(i:Nat)(s:Shared)(Q:Value->Shared->Prop)(E:Value->Shared->Prop),tn i s.heap->Q (.ref it) s->wpAny (model P w) A (pyIter (.ref it)) Q E s
abbrev TI:=St->Hp->(It->Hp->Prop)->Prop
def PIE(X:Cx)(pins:List (Addr×Obj))(σ:St)(tg:Expr)(R:It->Hp->Prop)(a:Value)(s2:Shared):Prop :=
 ∃(it:Addr)(fp:List Addr)(tn:Nat->Heap->Prop)(J:It)(H':Hp),a=.ref it/\Inv X pins σ H' s2/\Turn X.prog X.w X.K tg J fp it tn/\tn 0 s2.heap/\(∀b∈fp,q9 X pins H' b)/\R J H'
def PI(X:Cx)(tg iter:Expr)(a:TI):Prop :=
 ∀(pins:List (Addr×Obj))(s:Shared)(σ:St)(H:Hp)(R:It->Hp->Prop),Inv X pins σ H s->a σ H R ->
  wpAny #[4] X.A (eval iter X.env) (λv b=>wpAny #[4] X.A (pyIter v) (PIE X pins σ tg R) X.xe b) X.xe s
theorem zY{o:Obj}{n:String}{vs:Array Value}{Q:Unit->Shared->Prop}(b:s.heap.get? it=some o)(hc:o.cls=.type n)(hd:o.data=.fields vs)
    (hn:["enumerate", "zip", "dict_itemiterator", "dict_reverseitemiterator", "odict_iterator", "itertools.zip_longest", "itertools.pairwise"].contains n=false) (a:Q () s):wpAny M A (letOwnedTupleGo tg (.ref it) u) Q E s:=by
  unfold letOwnedTupleGo
  cases tg <;> first
    |exact wpAny_pure a
    | (cases u <;> first
        |exact wpAny_pure a
        | (refine wpAny_bind (wpAny_load b ?_)
           rw[hc,hd]
           show wpAny M A (if (["enumerate", "zip", "dict_itemiterator", "dict_reverseitemiterator", "odict_iterator", "itertools.zip_longest", "itertools.pairwise"].contains n&&vs[0]?==some (rawInt _))=true then _ else _) Q E s
           rw[if_neg (by intro h;rw[hn,Bool.false_and]at h;cases h)]
           exact wpAny_pure a))
noncomputable def Itl(K:W.Frag)(a:Addr):It :=
 ⟨λi H=>∃xs x,SqL K H a xs/\xs[i]?=some x,λi H x H'=>H'=H/\∀xs,SqL K H a xs->xs[i]?=some x,λi H=>∃xs,SqL K H a xs/\xs.length<=i⟩
noncomputable def Itt(K:W.Frag)(a:Addr):It :=
 ⟨λi H=>∃xs x,SqT K H a xs/\xs[i]?=some x,λi H x H'=>H'=H/\∀xs,SqT K H a xs->xs[i]?=some x,λi H=>∃xs,SqT K H a xs/\xs.length<=i⟩
noncomputable def Itr(lo:Int)(n:Nat):It:=⟨λi _=>i<n,λi H x H'=>H'=H/\x=.int (lo+i),λi _=>n<=i⟩
theorem BC(a it:Addr):Turn P w K tg (Itl K a) [it] it (λi h=>h.IsListIter it a i) where
 mem:=by simp
 obj:=λi h st b f=>by
  have e:b=it:=by simpa using f
  subst e;obtain⟨o,e,c,d⟩:=st;exact⟨o,e,λv z=>by rw[d]at z;cases z⟩
 keep:=λi h h' st k=>st.at λo e=>k it (by simp) o e
 item:=by
  intro X m hw hK hc i pins s σ H E I j st n;subst m hw hK;obtain⟨xs,x,l,q⟩:=n;obtain⟨r,t,p,D⟩:=I.list l;obtain⟨u,F,G⟩:=t.get q;obtain⟨y,f1,f2,A,B,C⟩:=j it (by simp);refine wpAny_pyNext_list_item st p.isList (x:=u) (by simpa using F) λh' g J=>?_
  have L:Inv X pins σ H { s with heap:=h' }:=I.turned (t':=s.toks) (λb o f e=>(J.2 b f).trans e) y f1 A B C;obtain⟨o,e,c,d⟩:=id g;exact⟨u,rfl,zY (s:={ s with heap:=h' }) e c d #[2] ⟨x,H,L,G,⟨rfl,λys M=>by rw[I.list_inj M l];exact q⟩,g,λb f=>(j b f).1⟩⟩
 done:=by intro X m hw hK hc i pins s σ H E I j st n;subst m hw hK;obtain⟨xs,l,q⟩:=n;obtain⟨r,t,p,D⟩:=I.list l;obtain⟨y,f1,f2,A,B,C⟩:=j it (by simp);have hl:=t.length;exact wpAny_pyNext_list_end (I.ok.hd hc) st p.isList (by simp;omega) λh' N=>⟨rfl,I.turned (t':=s.toks) (λb o f e=>N b o f e) y f1 A B C⟩
 self:=λ_ _ _ _ _ st h=>wpAny_pyIter_listiter st h
theorem yg(a it:Addr):Turn P w K tg (Itt K a) [it] it (λi h=>h.IsTupleIter it a i) where
 mem:=by simp
 obj:=λi h st b f=>by
  have e:b=it:=by simpa using f
  subst e;obtain⟨o,e,c,d⟩:=st;exact⟨o,e,λv z=>by rw[d]at z;cases z⟩
 keep:=λi h h' st k=>st.at λo e=>k it (by simp) o e
 item:=by
  intro X n hw hK hc i pins s σ H E I l st q;subst n hw hK;obtain⟨xs,x,m,r⟩:=q;obtain⟨g,t,p,D⟩:=I.tuple m;obtain⟨u,F,G⟩:=t.get r;obtain⟨y,f1,f2,A,B,C⟩:=l it (by simp);refine wpAny_pyNext_tuple_item st (show s.heap.IsTuple a g.toArray from p) (x:=u) (by simpa using F) λh' j J=>?_
  have L:Inv X pins σ H { s with heap:=h' }:=I.turned (t':=s.toks) (λb o f e=>(J.2 b f).trans e) y f1 A B C;obtain⟨o,e,c,d⟩:=id j;exact⟨u,rfl,zY (s:={ s with heap:=h' }) e c d #[2] ⟨x,H,L,G,⟨rfl,λys M=>by rw[I.tuple_inj M m];exact r⟩,j,λb f=>(l b f).1⟩⟩
 done:=by intro X n hw hK hc i pins s σ H E I l st q;subst n hw hK;obtain⟨xs,m,r⟩:=q;obtain⟨g,t,p,D⟩:=I.tuple m;obtain⟨y,f1,f2,A,B,C⟩:=l it (by simp);have hl:=t.length;exact wpAny_pyNext_tuple_end (I.ok.hd hc) st (show s.heap.IsTuple a g.toArray from p) (by simp;omega) λh' N=>⟨rfl,I.turned (t':=s.toks) (λb o f e=>N b o f e) y f1 A B C⟩
 self:=λ_ _ _ _ _ st h=>wpAny_pyIter_tupleiter st h
theorem yJ(it:Addr)(lo:Int)(n:Nat):Turn P w K tg (Itr lo n) [it] it (λi h=>IsRangeIter h it (lo+(i:Nat)*1) ((n:Int)-(i:Nat)) 1) where
 mem:=by simp
 obj:=λi h st b a=>by
  have e:b=it:=by simpa using a
  subst e;exact⟨_,st,λv z=>by have r:Data.fields _=Data.cell v:=z;cases r⟩
 keep:=λi h h' st k=>k it (by simp) _ st
 item:=by
  intro X g hw hK hc i pins s σ H E I f st j;subst g hw hK;obtain⟨l,f1,f2,m,p,q⟩:=f it (by simp);have W:=Walks.range (prog:=X.prog) (w:=X.w) (I.ok.hd hc) it lo 1 n;refine W.item i s _ _ j st λv h' tk hv c u=>?_
  obtain⟨t,rfl⟩:=hv;have x:Inv X pins σ H { s with heap:=h',toks:=tk }:=I.turned (λb o a e=>u b o (by simpa using a) e) l f1 m p q;refine⟨_,rfl,zY (s:={ s with heap:=h',toks:=tk }) (n:="range_iterator") c rfl rfl #[2] ⟨.int (lo+i),H,x,⟨t,?_⟩,⟨rfl,rfl⟩,c,λb a=>(f b a).1⟩⟩;rw[Int.mul_one]
 done:=by intro X g hw hK hc i pins s σ H E I f st j;subst g hw hK;obtain⟨l,f1,f2,m,p,q⟩:=f it (by simp);exact wpAny_pyNext_range_end (I.ok.hd hc) st (by have:n<=i:=j;omega) λh' y=>⟨rfl,I.turned (t':=s.toks) (λb o a e=>y b o a e) l f1 m p q⟩
 self:=λ_ _ _ _ _ st h=>wpAny_pyIter_rangeiter st h
section
def LB(K:W.Frag)(tl:TE):TI:=λσ H R=>tl σ H λx H1=>∃a,x=.ref a/\(∃xs,SqL K H1 a xs)/\R (Itl K a) H1
def Mi(K:W.Frag)(tl:TE):TI:=λσ H R=>tl σ H λx H1=>∃a,x=.ref a/\(∃xs,SqT K H1 a xs)/\R (Itt K a) H1
theorem FU{l:Expr}{tl:TE}(hl:PE X l tl):PI X tg l (LB X.K tl):=by
 intro pins s σ H R I h;refine thn (hl pins s σ H _ I h) λv c g=>?_
 obtain⟨x,H1,f,i,j⟩:=g;obtain⟨a,e,⟨xs,m⟩,q⟩:=j;subst e;cases i;obtain⟨its,rv,p,hz⟩:=f.list m;refine wpAny_pyIter_list p.isList ?_;refine⟨c.heap.objs.size,[c.heap.objs.size],_,_,H1,rfl,f.kept (t':=c.toks) λb o e=>M4 _ e,BC a _,⟨_,MU _ rfl,rfl,rfl⟩,λb n=>?_,q⟩;have e:b=c.heap.objs.size:=by simpa using n
 subst e;exact f.fpOk (My _) (f.hok.fresh (My _))
theorem IS{l:Expr}{tl:TE}(hl:PE X l tl):PI X tg l (Mi X.K tl):=by
 intro pins s σ H R I h;refine thn (hl pins s σ H _ I h) λv c g=>?_
 obtain⟨x,H1,f,j,m⟩:=g;obtain⟨a,e,⟨xs,n⟩,q⟩:=m;subst e;cases j;obtain⟨i,rv,p,hz⟩:=f.tuple n;refine wpAny_pyIter_tuple (show c.heap.IsTuple a i.toArray from p) ?_;refine⟨c.heap.objs.size,[c.heap.objs.size],_,_,H1,rfl,f.kept (t':=c.toks) λb o e=>M4 _ e,yg a _,⟨_,MU _ rfl,rfl,rfl⟩,λb r=>?_,q⟩;have e:b=c.heap.objs.size:=by simpa using r
 subst e;exact f.fpOk (My _) (f.hok.fresh (My _))
theorem Dz{R:It->Hp->Prop}{lo hi:Int}{t u v:Tok}{tk:Nat}(I:Inv X pins σ H s)(h1:-(2 ^ 62)<=lo)(h2:lo<2 ^ 62)(h3:-(2 ^ 62)<=hi)(c:hi<2 ^ 62)
  (q:R (Itr lo (hi-lo).toNat) H):wpAny #[4] X.A (pyIter (.ref s.heap.objs.size)) (PIE X pins σ tg R) E { s with heap:=s.heap.push { cls:=.type "range",data:=.fields #[.int lo t,.int hi u,.int 1 v] },toks:=tk }:=by
 refine wpAny_pyIter_range (IsRange.new ..) (small_one h1 h2 h3 c) ?_;have a:Inv X pins σ H { s with heap:=s.heap.push { cls:=.type "range",data:=.fields #[.int lo t,.int hi u,.int 1 v] },toks:=tk }:=I.kept λb o e=>M4 _ e
 refine⟨(s.heap.push { cls:=.type "range",data:=.fields #[.int lo t,.int hi u,.int 1 v] }).objs.size,[(s.heap.push { cls:=.type "range",data:=.fields #[.int lo t,.int hi u,.int 1 v] }).objs.size],_,_,H,rfl,
  a.kept (t':=tk) λb o e=>M4 _ e,yJ _ lo (hi-lo).toNat,?_,λb f=>?_,q⟩
 ·have e1:lo+((0:Nat):Int)*1=lo:=by simp
  have e2:(((hi-lo).toNat:Nat):Int)-((0:Nat):Int)=Builtin.Range.rangeSize lo hi 1:=by rw[rangeSize_one];split <;> omega
  show IsRangeIter _ _ (lo+((0:Nat):Int)*1) ((((hi-lo).toNat:Nat):Int)-((0:Nat):Int)) 1;rw[e1,e2];exact MU _ rfl
 ·have e:b=(s.heap.push { cls:=.type "range",data:=.fields #[.int lo t,.int hi u,.int 1 v] }).objs.size:=by simpa using f
  subst e;exact a.fpOk (My _) (a.hok.fresh (My _))
def KY(ta:TA):TI:=λσ H R=>ta σ H λvs H1=>∃j:Int,vs=[.int j]/\-(2 ^ 62)<=j/\j<2 ^ 62/\R (Itr 0 j.toNat) H1
theorem Bq{a:Expr}{ta:TA}(f:Gl X "range")(hm:X.mg "range"=none)(ha:PA X [a] ta)(g:starEach [a] X.env=[(false,eval a X.env)]:=by rfl):PI X tg (.Call (.Name "range" p) [a] [] pos) (KY ta):=by
 intro pins s σ H R I h;refine Call_ (fS I f hm boot_range (PyProof.Rows.callWith_type1 (thn (ha pos pins s σ H _ I h) λus s1 b=>?_) g rfl));obtain⟨vs,H1,i,l,c⟩:=b;obtain⟨j,e,c,m,q⟩:=c;subst e;cases l with
 |cons r rr =>cases rr;obtain⟨t,rfl⟩:=r;exact call_range_1 (Dz i (by omega) (by omega) c m (by simpa using q))
def Mv(e:TI)(g:TG)(tb:TS):TS:=λD σ H=>e σ H λJ H1=>∃W:Nat->Nat->St->Hp->Prop,(∃m,W 0 m σ H1)/\∀i m σ H,W i m σ H ->
 (J.stop i H/\D.nx σ H)\/(J.go i H/\∃N:St->Hp->Prop,(∀a H',N a H'->∃c,c < m/\W (i+1) c a H')/\∀x H',J.yld i H x H'->g x σ H' λb H2=>tb { D with nx:=N,ct:=N,bk:=D.nx } b H2)
def qA(fp:List Addr)(h:Heap):List (Addr×Obj):=fp.filterMap λb=>(h.get? b).map λo=>(b,o)
theorem jG{o:Obj}(a:b∈fp)(e:h.get? b=some o):(b,o)∈qA fp h:=OJ.mpr ⟨b,a,by rw[e];rfl⟩
theorem Bf{p:Addr×Obj}(a:p∈qA fp h):p.1∈fp/\h.get? p.1=some p.2:=by
 obtain⟨b,c,e⟩:=OJ.mp a;cases q:h.get? b with
 |none=>rw[q]at e;cases e
 |some o =>rw[q]at e;have f:(b,o)=p:=Option.some.inj e;subst f;exact⟨c,q⟩
theorem Inv.pinned(I:Inv X pins σ H s)(f:∀b∈fp,q9 X pins H b)(g:∀b∈fp,∃o,s.heap.get? b=some o/\∀v,o.data≠.cell v):Inv X (pins++qA fp s.heap) σ H s :=
 I.pins_of λp h=>(Nb.mp h).elim (λz=>I.pin p (ML _ z)) λz=>by obtain⟨a,e⟩:=Bf z;obtain⟨i,f1,f2,_⟩:=f p.1 a;obtain⟨o,c,d⟩:=g p.1 a;rw[e]at c;cases c;exact⟨e,i,f1,f2,d⟩
theorem Inv.unpinned{pl:List (Addr×Obj)}(I:Inv X (pins++pl) σ H s):Inv X pins σ H s:=I.pins_of λp a=>I.pin p (ML _ (Nh _ a))
theorem Ka{S:TI}{g:TG}{tb:TS}(C:PassesOwn #[4] X.A X.env X.xe)(hc:X.calm=true)(hi:PI X tg iter S)(hg:PG X tg g)(j:PSs X body tb)
  (hs:∀x,foldedSetIterable iter X.env x=pure x:=by intro _;rfl):PS X (.For tg iter body [] pos) (Mv S g tb):=by
 intro pins s σ H D I h;refine wpAny_For (thn (hi pins s σ H _ I h) λv s1 h1=>thn h1 λitv s2 h2=>?_) hs;obtain⟨it,fp,tn,J,H2,e,I2,T,L,f2,W,⟨m0,w0⟩,turn⟩:=h2;subst e
 -- what stays true of the iterator's objects through the loop
 have l:∀{H':Hp},(∀b∈fp,H' b=none)->∀b∈fp,q9 X pins H' b:=λhn b j=>⟨hn b j,(f2 b j).2⟩
 refine codeAny_forLoop_any (λn s'=>∃i p H',Inv X pins p H' s'/\tn i s'.heap/\(∀b∈fp,H' b=none)/\W i n p H') ?_ m0 ⟨0,σ,H2,I2,L,λb j=>(f2 b j).1,w0⟩
 rintro n U ⟨i,q,K,Y,E,F,w3⟩
 rcases turn i n q K w3 with⟨stop,qn⟩|⟨go,N,hN,step⟩
 ·refine wpAny_passesOwn C (thn (T.done X rfl rfl rfl hc i pins U q K X.xe Y (l F) E stop) λr s4 c=>?_);obtain⟨M,I4⟩:=c;subst M;exact wpAny_execs_nil ⟨q,K,I4,qn⟩
 ·refine wpAny_passesOwn C (thn (T.item X rfl rfl rfl hc i pins U q K X.xe Y (l F) E go) λr s4 c=>?_);obtain⟨u,M,h4⟩:=c;subst M;refine wpAny_passesOwn C (thn h4 λ_ Z c=>?_);obtain⟨x,H5,I5,r5,y5,B,O⟩:=c;have P:=I5.pinned (l O) (T.obj _ _ B);refine wpAny_passesOwn C (thn (hg _ Z q H5 x u _ P r5 (step x H5 y5)) λ_ s6 c=>?_);obtain⟨Q,H6,I6,q6⟩:=c;refine wpAny_passesOwn C (thn (j _ s6 Q H6 _ I6 q6) λf R z=>?_);have again:∀{a:St}{t:Hp},Inv X (pins++qA fp Z.heap) a t R->N a t->∃m,m<n/\∃i p H',Inv X pins p H' R/\tn i R.heap/\(∀b∈fp,H' b=none)/\W i m p H':=λ{a t} y G=>by obtain⟨m',hm,w7⟩:=hN a t G;refine⟨m',hm,i+1,a,t,y.unpinned,T.keep _ _ _ B λb j o e=>(y.pin (b,o) (ML _ (ML _ (jG j e)))).1,λb j=>?_,w7⟩;obtain⟨o,e,d⟩:=T.obj _ _ B b j;exact (y.pin (b,o) (ML _ (ML _ (jG j e)))).2.1
  cases f with
  |next=>obtain⟨a,t,y,G⟩:=z;exact again y G
  |cont=>obtain⟨a,t,y,G⟩:=z;exact again y G
  |brk=>obtain⟨a,t,y,z⟩:=z;exact⟨a,t,y.unpinned,z⟩
  |ret v=>obtain⟨x7,a,t,y,r7,z⟩:=z;exact⟨x7,a,t,y.unpinned,r7,z⟩
end
abbrev R2:=V->V->Hp->VK->Prop
variable {r:R2}
def OpR(X:Cx)(f:Value->Value->Sem Value)(r:R2):Prop :=
 ∀(pins:List (Addr×Obj))(s:Shared)(σ:St)(H:Hp)(x y:V)(v u:Value)(Q:VK),Inv X pins σ H s->RelV x v->RelV y u->r x y H Q ->
  wpAny #[4] X.A (f v u) (EP X pins σ Q) X.xe s
def UnR(X:Cx)(f:Value->Sem Value)(r:V->Hp->VK->Prop):Prop :=
 ∀(pins:List (Addr×Obj))(s:Shared)(σ:St)(H:Hp)(x:V)(v:Value)(Q:VK),Inv X pins σ H s->RelV x v->r x H Q ->
  wpAny #[4] X.A (f v) (EP X pins σ Q) X.xe s
def kf(X:Cx)(f:Value)(r:List V->Hp->VK->Prop):Prop :=
 ∀(pins:List (Addr×Obj))(s:Shared)(σ:St)(H:Hp)(xs:List V)(us:List Value)(Q:VK),Inv X pins σ H s->Vals xs us->r xs H Q ->
  wpAny #[4] X.A (call f us) (EP X pins σ Q) X.xe s
def tOp(r:R2)(ta tb:TE):TE:=λσ H Q=>ta σ H λx H1=>tb σ H1 λy H2=>r x y H2 Q
def tUn(r:V->Hp->VK->Prop)(ta:TE):TE:=λσ H Q=>ta σ H λx H1=>r x H1 Q
def rI(C:Int->Int->Prop)(g:Int->Int->V):R2:=λx y H Q=>∃i j,x=.int i/\y=.int j/\C i j/\Q (g i j) H
def rI0(g:Int->Int->V):R2:=λx y H Q=>∃i j,x=.int i/\y=.int j/\Q (g i j) H
def rU(g:Int->V):V->Hp->VK->Prop:=λx H Q=>∃i,x=.int i/\Q (g i) H
section
variable {a b:Expr}{ta tb tc:TE}
theorem Ja(ha:PE X a ta)(i:PE X b tb)(I:Inv X pins σ H s)
  (h:ta σ H λx H1=>tb σ H1 λy H2=>R x y H2) {f:Value->Value->Sem Value}
  (j:∀v u s2 x y H2,Inv X pins σ H2 s2->RelV x v->RelV y u->R x y H2->wpAny #[4] X.A (f v u) Q X.xe s2) :
  wpAny #[4] X.A (eval a X.env) (λv e=>wpAny #[4] X.A (eval b X.env) (λu g=>wpAny #[4] X.A (f v u) Q X.xe g) X.xe e) X.xe s:=by
 refine thn (ha pins s σ H _ I h) λv l c=>?_
 obtain⟨x,H1,m,n,o⟩:=c;refine thn (i pins l σ H1 _ m o) λu s2 c=>?_
 obtain⟨y,H2,p,q,r⟩:=c;exact j v u s2 x y H2 p n q r
theorem fu{op:Operator}(c:OpR X (binaryOp op) r)(ha:PE X a ta)(e:PE X b tb):PE X (.BinOp a op b pos) (tOp r ta tb):=by intro pins s σ H Q I h;exact wpAny_BinOp (Ja ha e I h λv u s2 x y H2 f g i q=>c pins s2 σ H2 x y v u Q f g i q)
theorem LX{op:UnaryOp}{r:V->Hp->VK->Prop}(c:UnR X (unaryOp op) r)(ha:PE X a ta):PE X (.UnaryOp op a pos) (tUn r ta):=by intro pins s σ H Q I h;exact UnaryOp_ (thn (ha pins s σ H _ I h) λv e b=>(by obtain⟨x,H1,f,g,i⟩:=b;exact c pins e σ H1 x v Q f g i))
theorem opI{f:Value->Value->Sem Value}{C:Int->Int->Prop}
  (rule:∀(i j:Int)(t u:Tok)(s:Shared)(Q:Value->Shared->Prop)(E:Value->Shared->Prop),C i j->Q (.int (g i j) s.toks) { s with toks:=s.toks+1 }->wpAny #[4] X.A (f (.int i t) (.int j u)) Q E s) :
  OpR X f (rI C λi j=>.int (g i j)):=by
 intro pins s σ H x y v u Q I a b h;obtain⟨i,j,rfl,rfl,hc,q⟩:=h;obtain⟨t,rfl⟩:=a;obtain⟨t',rfl⟩:=b;exact rule i j t t' s _ _ hc ⟨.int (g i j),H,I.tok _,⟨_,rfl⟩,q⟩
theorem Le{f:Value->Value->Sem Value}
  (rule:∀(i j:Int)(t u:Tok)(s:Shared)(Q:Value->Shared->Prop)(E:Value->Shared->Prop),Q (.int (g i j) s.toks) { s with toks:=s.toks+1 }->wpAny #[4] X.A (f (.int i t) (.int j u)) Q E s) :
  OpR X f (rI0 λi j=>.int (g i j)):=by
 intro pins s σ H x y v u Q I a b h;obtain⟨i,j,rfl,rfl,q⟩:=h;obtain⟨t,rfl⟩:=a;obtain⟨t',rfl⟩:=b;exact rule i j t t' s _ _ ⟨.int (g i j),H,I.tok _,⟨_,rfl⟩,q⟩
theorem JQ{f:Value->Value->Sem Value}{g:Int->Int->Bool}
  (rule:∀(i j:Int)(t u:Tok)(s:Shared)(Q:Value->Shared->Prop)(E:Value->Shared->Prop),Q (.bool (g i j)) s->wpAny #[4] X.A (f (.int i t) (.int j u)) Q E s) :
  OpR X f (rI0 λi j=>.bl (g i j)):=by
 intro pins s σ H x y v u Q I a b h;obtain⟨i,j,rfl,rfl,q⟩:=h;obtain⟨t,rfl⟩:=a;obtain⟨t',rfl⟩:=b;exact rule i j t t' s _ _ ⟨.bl (g i j),H,I,rfl,q⟩
def LR(i j:Int):Prop:=0<j/\j<1073741824
def LO(i j:Int):Prop:=0<=j/\j<=1000000/\i.natAbs<2 ^ 64
def FN(i j:Int):Prop:=(-(2 ^ 64)<i/\i<2 ^ 64)\/(-(2 ^ 64)<j/\j<2 ^ 64)
theorem FN.ok{i j:Int}(h:FN i j):IntMulOk i j:=by
 rcases h with⟨h1,h2⟩|⟨h1,h2⟩
 ·exact .of_left (intBits_le_64 h1 h2)
 ·exact .of_right (intBits_le_64 h1 h2)
theorem nv:OpR X (binaryOp .Add) (rI0 λi j=>.int (i+j)):=Le λ_ _ _ _ _ _ _ q=>add_int q
theorem IM:OpR X (binaryOp .Sub) (rI0 λi j=>.int (i-j)):=Le λ_ _ _ _ _ _ _ q=>sub_int q
theorem mX:OpR X (binaryOp .Mult) (rI FN λi j=>.int (i*j)):=opI λ_ _ _ _ _ _ _ hc q=>mul_int q hc.ok
theorem FZ:OpR X (binaryOp .FloorDiv) (rI LR λi j=>.int (i / j)):=opI λi j _ _ _ _ _ hc q=>by have h1:(0:Int)<j:=hc.1;have h2:j<1073741824:=hc.2;exact floordiv_int (by omega) (by rw[Int.fdiv_eq_ediv_of_nonneg i (by omega)];exact q) (.inl (PyProof.noPylong_small (by omega)))
theorem rE:OpR X (binaryOp .Mod) (rI (λ_ j=>0<j) λi j=>.int (i % j)):=opI λi j _ _ _ _ _ hc q=>by have h1:(0:Int)<j:=hc;exact mod_int' (by omega) (by rw[Int.fmod_eq_emod_of_nonneg i (by omega)];exact q)
theorem JP:OpR X (binaryOp .Pow) (rI LO λi j=>.int (i ^ j.toNat)):=opI λ_ _ _ _ _ _ _ hc q=>pow_int_small hc.1 hc.2.1 hc.2.2 q
theorem unI{f:Value->Sem Value}{g:Int->Int}
  (rule:∀(i:Int)(t:Tok)(s:Shared)(Q:Value->Shared->Prop)(E:Value->Shared->Prop),Q (.int (g i) s.toks) { s with toks:=s.toks+1 }->wpAny #[4] X.A (f (.int i t)) Q E s) :
  UnR X f (rU λi=>.int (g i)):=by
 intro pins s σ H x v Q I a h;obtain⟨i,rfl,q⟩:=h;obtain⟨t,rfl⟩:=a;exact rule i t s _ _ ⟨.int (g i),H,I.tok _,⟨_,rfl⟩,q⟩
theorem Kw:UnR X (unaryOp .USub) (rU λi=>.int (-i)):=unI λ_ _ _ _ _ q=>neg_int q
end
section
variable {a b:Expr}{ta tb tc:TE}
theorem DU:OpR X (compareOp .Lt) (rI0 λi j=>.bl (decide (i<j))):=JQ λ_ _ _ _ _ _ _ q=>lt_int q
theorem zQ:OpR X (compareOp .LtE) (rI0 λi j=>.bl (decide (i<=j))):=JQ λ_ _ _ _ _ _ _ q=>le_int q
theorem Lr:OpR X (compareOp .Gt) (rI0 λi j=>.bl (decide (j<i))):=JQ λ_ _ _ _ _ _ _ q=>gt_int q
theorem OpR.or{f:Value->Value->Sem Value}{a:R2}(h:OpR X f r)(h':OpR X f a):OpR X f (λx y H Q=>r x y H Q\/a x y H Q):=by
 intro pins s σ H x y v u Q I b c q;rcases q with q|q
 ·exact h pins s σ H x y v u Q I b c q
 ·exact h' pins s σ H x y v u Q I b c q
theorem jf(b:Expr)(h:op≠.In:=by decide)(h2:op≠.NotIn:=by decide):behindInMarks op b=false:=by
 have e1:(op==CmpOp.In)=false:=by cases op <;> first|rfl|exact absurd rfl h
 have e2:(op==CmpOp.NotIn)=false:=by cases op <;> first|rfl|exact absurd rfl h2
 cases b <;> simp[behindInMarks,e1,e2]
theorem pD(c:OpR X (compareOp op) r)(ha:PE X a ta)(e:PE X b tb)(hm:behindInMarks op b=false):PE X (.Compare a [op] [b] pos) (tOp r ta tb):=by intro pins s σ H Q I h;exact wpAny_Compare1 (Ja ha e I h λv u s2 x y H2 f g i q=>c pins s2 σ H2 x y v u Q f g i q) hm
def HG(t:TE):TT:=λσ H Q=>t σ H λx H'=>∃k,x=.bl k/\Q k H'
theorem iF(g:OpR X (compareOp op) r)(ha:PE X a ta)(i:PE X b tb)(hm:behindInMarks op b=false):PT X (.Compare a [op] [b] pos) (HG (tOp r ta tb)):=by
 intro pins s σ H Q I h;refine wpAny_isTrue_Compare1 (thn (ha pins s σ H _ I h) λv j f=>?_) hm;obtain⟨x,H1,l,m,n⟩:=f;refine thn (i pins j σ H1 _ l n) λu s2 f=>?_
 obtain⟨y,H2,o,p,q⟩:=f;refine thn (g pins s2 σ H2 x y v u _ o m p q) λc s3 f=>?_
 obtain⟨z,t,w,A,k,e,B⟩:=f;subst e;cases A;exact wpAny_truthy_bool ⟨t,w,B⟩
def Jv(r b:R2)(ta tb tc:TE):TE:=λσ H Q=>ta σ H λx H1=>tb σ H1 λy H2=>r x y H2 λz a=>∃k,z=.bl k /\
 (if k=true then tc σ a λc e=>b y c e Q else Q (.bl false) a)
theorem Ef{g:CmpOp}{l:R2}(q:OpR X (compareOp op) r)(i:OpR X (compareOp g) l)(ha:PE X a ta)(t:PE X b tb)(hc:PE X c tc)
  (hm:lastMarks [op,g] [b,c]=false:=by with_unfolding_all rfl):PE X (.Compare a [op,g] [b,c] pos) (Jv r l ta tb tc):=by
 intro pins s σ H Q I h;refine Compare_chain (thn (ha pins s σ H _ I h) λv w f=>?_) hm;obtain⟨x,H1,A,B,C⟩:=f;refine chain_link (thn (t pins w σ H1 _ A C) λu s2 f=>?_);obtain⟨y,H2,D,m,E⟩:=f;refine thn (q pins s2 σ H2 x y v u _ D B m E) λd F f=>?_
 obtain⟨z,n,o,G,k,e,p⟩:=f;subst e;cases G;refine wpAny_truthy_bool ?_;cases k with
 |false=>exact ite_ff ⟨.bl false,n,o,rfl,p⟩
 |true=>exact ite_tt (chain_last (thn (hc pins F σ n _ o p) λJ K j=>(by obtain⟨L,M,N,O,P⟩:=j;exact i pins K σ M y L u J Q N m O P)))
theorem uP:(sizeLine:Nat)<2 ^ 63:=by rw[sizeLine_eq];decide
theorem vals1{x:V}(r:Vals [x] us):∃u,us=[u]/\RelV x u:=by
 cases r with
 |cons r1 r2=>cases r2;exact⟨_,rfl,r1⟩
theorem vals2{x y:V}(r:Vals [x,y] us):∃u a,us=[u,a]/\RelV x u/\RelV y a:=by
 cases r with
 |cons r1 r2 =>
  cases r2 with
  |cons r3 r4=>cases r4;exact⟨_,_,rfl,r1,r3⟩
theorem Bw(hc:X.calm=true):kf X (.builtin "max") (λxs H Q=>∃i j,xs=[.int i,.int j]/\Q (.int (if j>i then j else i)) H):=by
 intro pins s σ H xs us Q I r h;obtain⟨i,j,rfl,q⟩:=h;obtain⟨u,w',rfl,⟨t,rfl⟩,⟨t',rfl⟩⟩:=vals2 r;refine max_two_ints (I.ok.hd hc) λh' tk k=>⟨_,H,I.kept k,?_,q⟩
 by_cases hj:j>i
 ·rw[if_pos hj,if_pos hj];exact⟨_,rfl⟩
 ·rw[if_neg hj,if_neg hj];exact⟨_,rfl⟩
theorem AK(hc:X.calm=true):kf X (.builtin "min") (λxs H Q=>∃i j,xs=[.int i,.int j]/\Q (.int (if j<i then j else i)) H):=by
 intro pins s σ H xs us Q I r h;obtain⟨i,j,rfl,q⟩:=h;obtain⟨u,w',rfl,⟨t,rfl⟩,⟨t',rfl⟩⟩:=vals2 r;refine min_two_ints (I.ok.hd hc) λh' tk k=>⟨_,H,I.kept k,?_,q⟩
 by_cases hj:j<i
 ·rw[if_pos hj,if_pos hj];exact⟨_,rfl⟩
 ·rw[if_neg hj,if_neg hj];exact⟨_,rfl⟩
theorem Be:kf X (.type "int") (λxs H Q=>(∃i,xs=[.int i]/\Q (.int i) H)\/∃k,xs=[.bl k]/\Q (.int (if k then 1 else 0)) H):=by
 intro pins s σ H xs us Q I r h;rcases h with⟨i,rfl,q⟩|⟨k,rfl,q⟩
 ·obtain⟨u,rfl,t,rfl⟩:=vals1 r;exact call_int_int ⟨.int i,H,I,⟨_,rfl⟩,q⟩
 ·obtain⟨u,rfl,a⟩:=vals1 r;cases a;exact call_int_bool ⟨.int (if k then 1 else 0),H,I.tok _,⟨_,rfl⟩,q⟩
end
structure yB(h:Heap)(x dx C:Addr)(mA:Str->Option Value):Prop where
 obj:h.get? x=some (W.instObj C dx)
 ns:h.Ns1 dx mA
 ne:dx≠x
theorem AV(n:h.Ns1 dx mA):∃od,h.get? dx=some od/\∀name,W.lookIn name od=some (mA name):=by
 obtain⟨o,es,ep,c,hd,f,_,hm⟩:=n;refine⟨o,c,λname=>?_⟩;have e:=hm name;unfold nsFind findBy at e;rw[<-Array.find?_toList]at e;unfold W.lookIn;rw[hd];dsimp only;split
 ·rename_i y q;rw[q]at e;exact congrArg some e
 ·rename_i q;rw[q]at e;have a:es.toList.any (·.refKey)=false:=by rw[List.any_eq_false];intro y g;obtain⟨z,t,b⟩:=f y (Array.mem_toList_iff.mp g);simp[DictEntry.refKey,b]
  have i:¬ es.toList.any (·.refKey)=true:=by rw[a];exact MQ
  rw[if_neg i];exact congrArg some e
theorem yB.look{x:Addr}(I:yB h x dx C mA):∃od,W.InstAt h x (W.instObj C dx) C (some od)/\∀name,W.lookIn name od=some (mA name) :=
 let ⟨od,ho,hl⟩:=AV I.ns
 ⟨od,⟨I.obj,rfl,rfl,ho⟩,hl⟩
section
variable {x:Addr}{name:Str}{v:Value}
theorem get_map{expr:Bool}(X:K.In s.heap)(I:yB s.heap x dx C mA)(b:W.plainGet K C name=true)(c:W.hasDictIn K C=true)
  (ha:W.findIn K (.ref C) name=some none) (hv:mA name=some v) (a:W.handedIn v=true) (h:Q v { s with toks:=s.toks+1 }) :
  wpAny #[26] A (getAttr (.ref x) name expr) Q E s:=by
 obtain⟨od,J,hl⟩:=I.look;exact W.get_value X J (W.plainGet_of b).1 (W.findObj_own c ha rfl (by rw[hl,hv])) a h
theorem BZ{pl:Sem Bool}{Q:Value×List Value->Shared->Prop}(X:K.In s.heap)(I:yB s.heap x dx C mA)(a:W.plainGet K C name=true)
  (b:W.findIn K (.ref C) name=some (some (.ref f))) (c:W.isFn K (.ref f)=true) (hv:mA name=none) (h:Q (.ref f,[.ref x]) s) :
  wpAny #[26] A (getMethod (.ref x) name pl) Q E s:=by
 obtain⟨od,J,hl⟩:=I.look;exact W.method_fn X J (W.plainGet_of a).1 (W.plainGet_of a).2 b (beq_iff_eq.mp c) (by show (W.lookIn name od).map (·.isSome)=some false;rw[hl,hv];rfl) h
theorem GS{ns:List Str}{Q:Unit->Shared->Prop}(X:K.In s.heap)(I:yB s.heap x dx C mA)
  (j:W.findIn K (.ref C) "__setattr__"=some (some (.builtin "object.__setattr__"))) (l:W.plainOver K C=true) (m:W.takerIn K C name=some none) (n:W.hasDictIn K C=true)
  (hw:PySem.Within mA ns) (hsz:ns.length<=sizeLine)
  (h:∀h',yB h' x dx C (λy=>if y=name then some v else mA y)->Heap.SameBut dx s.heap h'->Q () { s with heap:=h',toks:=s.toks+2 }) :
  wpAny #[26] A (setAttr (.ref x) name v) Q E s:=by
 obtain⟨od,J,hl⟩:=I.look;refine W.set_plain X J j (W.osa_open (s:={ s with toks:=s.toks+1 }) (r:=none) X J l m λb=>?_);obtain⟨cd,hc,f⟩:=W.any_some n;have o:s.heap.get? x=some ⟨.ref C,some dx,.plain,#[]⟩:=I.obj;refine wpAny_bind (wpAny_pure (wpAny_bind (wpAny_bind (wpAny_loadPart o (wpAny_bind (W.Looks.here (s:={ s with toks:=s.toks+1 }) (W.looks_clsIn X hc) ?_))))));rw[f];refine wpAny_pure (a:=some dx) (wpAny_bind (wpAny_pure (wpAny_bind ?_)));refine wpAny_nsSet1 (s:={ s with toks:=s.toks+1 }) I.ns λh' c e=>?_
 obtain⟨oD,esD,epD,g,hdD,i⟩:=c.count (PySem.Within.cons name v hw);refine wpAny_bind (wpAny_lookBehind g (by rw[hdD];exact pastItsLine_dict (Nq i (by rw[MW];omega))) ?_);exact wpAny_pure (h _ ⟨(e.2 _ (Ne.symm I.ne)).trans I.obj,c,I.ne⟩ e)
theorem Ee{R:Result->Shared->Prop}{vs:List Value}{a:List (Str×Value)}(X:K.In s.heap)(hm:W.makesIn K C=true)
  (hi:W.findIn K (.ref C) "__init__"=some (some (.ref f))) (b:W.typeIn K (.ref f)=some (.type "function"))
  (h:codeAny #[26] (A.under (.builtin "type.__call__" ⟨.ref C::vs,a⟩)) (.call (.ref f) ⟨.ref (s.heap.objs.size+1)::vs,a⟩) (W.InitBack (s.heap.objs.size+1) R)
   { s with heap:=(s.heap.push W.emptyDict).push (W.instObj C s.heap.objs.size) }) :
  codeAny #[26] A (.call (.ref C) ⟨vs,a⟩) R s:=by
 obtain⟨hh,g,d,t,os⟩:=s;exact W.make_core (W.makes_of X hm) (W.looks_findIn X hi) (λself=>W.bind_fn X self b) (.inl rfl) h
end
def iP(f:Str)(v:V):List (Str×V)->List (Str×V)
 |[]=>[(f,v)]
 |(g,x)::r=>if g=f then (g,v)::r else (g,x)::iP f v r
theorem kz(f g:Str)(v:V):∀fs:List (Str×V),(iP f v fs).lookup g=if g=f then some v else fs.lookup g
 |[]=>by
  show List.lookup g [(f,v)]=_;by_cases h:g=f
  ·have a:(g==f)=true:=beq_iff_eq.mpr h;simp only[List.lookup,a,if_pos h]
  ·have a:(g==f)=false:=beq_eq_false_iff_ne.mpr h;simp only[List.lookup,a,if_neg h]
 |(k,x)::r=>by
  have b:=kz f g v r;rw[show iP f v ((k,x)::r)=(if k=f then (k,v)::r else (k,x)::iP f v r) from rfl];by_cases hk:k=f
  ·rw[if_pos hk];by_cases h:g=k
   ·have a:(g==k)=true:=beq_iff_eq.mpr h;simp only[List.lookup,a,if_pos (h.trans hk)]
   ·have a:(g==k)=false:=beq_eq_false_iff_ne.mpr h;simp only[List.lookup,a,if_neg (λe:g=f=>h (e.trans hk.symm))]
  ·rw[if_neg hk];by_cases h:g=k
   ·have a:(g==k)=true:=beq_iff_eq.mpr h;simp only[List.lookup,a,if_neg (λe:g=f=>hk (h.symm.trans e))]
   ·have a:(g==k)=false:=beq_eq_false_iff_ne.mpr h;simp only[List.lookup,a];exact b
theorem n9(f:Str)(v:V):∀fs:List (Str×V),f∈(iP f v fs).map (·.1)/\∀g,g∈fs.map (·.1)->g∈(iP f v fs).map (·.1)
 |[]=>⟨by simp[iP],λg h=>by simp at h⟩
 |(k,x)::r=>by
  obtain⟨i1,i2⟩:=n9 f v r;rw[show iP f v ((k,x)::r)=(if k=f then (k,v)::r else (k,x)::iP f v r) from rfl];by_cases hk:k=f
  ·rw[if_pos hk];subst hk;exact⟨by simp,λg h=>by simpa using h⟩
  ·rw[if_neg hk];refine⟨?_,λg h=>?_⟩
   ·rw[M5];exact M3 _ i1
   ·rw[M5]at h ⊢;rcases M8.mp h with e|e
    ·exact M8.mpr (.inl e)
    ·exact M3 _ (i2 g e)
theorem oT(f:Str)(v:V):∀fs:List (Str×V),(iP f v fs).length<=fs.length+1
 |[]=>by simp[iP]
 |(k,x)::r=>by
  have ih:=oT f v r;rw[show iP f v ((k,x)::r)=(if k=f then (k,v)::r else (k,x)::iP f v r) from rfl];by_cases hk:k=f
  ·rw[if_pos hk,MW,MW];omega
  ·rw[if_neg hk,MW,MW];omega
theorem k7.some_of{o:Option Value}(r:k7 (some v) o):∃u,o=some u/\RelV v u:=by
 cases o with
 |none=>exact (show False from r).elim
 |some u=>exact⟨u,rfl,r⟩
theorem k7.none_of{o:Option Value}(r:k7 none o):o=none:=by
 cases o with
 |none=>rfl
 |some u=>exact (show False from r).elim
theorem Bm(r:RelV v u):W.handedIn u=true:=by
 cases v with
 |non=>cases (show u=Value.none from r);rfl
 |bl b=>cases (show u=Value.bool b from r);rfl
 |int i=>obtain⟨t,e⟩:=(show ∃t,u=Value.int i t from r);cases e;rfl
 |str x=>obtain⟨t,e⟩:=(show ∃t,u=Value.str x t from r);cases e;rfl
 |byt b=>obtain⟨t,e⟩:=(show ∃t,u=Value.bytes b t from r);cases e;rfl
 |flt b=>obtain⟨t,e⟩:=(show ∃t,u=Value.float b t from r);cases e;rfl
 |ref a=>cases (show u=Value.ref a from r);rfl
 |ty n=>cases (show u=Value.type n from r);rfl
section
variable {H':Hp}{fs fs':List (Str×V)}
theorem uJ(hok:HOk P w H h)(e:H a=some (.ins C dx fs)):∃mA,yB h a dx C mA/\(∀f,k7 (fs.lookup f) (mA f))/\PySem.Within mA (fs.map (·.1))/\fs.length<=1000/\H dx=some (.own a):=by
 obtain⟨d,z,ne,b,mA,n,r,q⟩:=(show dO P w H h a (.ins C dx fs) from hok a _ e)
 exact⟨mA,⟨b,n,ne⟩,r,q,z,d⟩
end
structure Cls(K:W.Frag)(C:Addr):Prop where
 pg:W.plainGet K C Str.empty=true
 hd:W.hasDictIn K C=true
 po:W.plainOver K C=true
 sa:W.findIn K (.ref C) "__setattr__"=some (some (.builtin "object.__setattr__"))
theorem Cls.get(c:Cls K C)(f:Str):W.plainGet K C f=true:=c.pg
def fF(K:W.Frag)(C:Addr)(f:Str):Prop:=W.findIn K (.ref C) f=some none
theorem fF.taker{f:Str}(n:fF K C f):W.takerIn K C f=some none:=by unfold W.takerIn;rw[show W.findIn K (.ref C) f=some none from n];rfl
structure Meth(K:W.Frag)(C:Addr)(m:Str)(f:Addr):Prop where
 at_:W.findIn K (.ref C) m=some (some (.ref f))
 fn:W.isFn K (.ref f)=true
 kp:W.keepIn K (.ref f)=true
section
variable {fs:List (Str×V)}{f:Str}
theorem qi{b:Bool}(I:Inv X pins σ H s)(e:H a=some (.ins C dx fs))(c:Cls X.K C)(n:fF X.K C f)(l:fs.lookup f=some v)
  (h:∀u s',Inv X pins σ H s'->RelV v u->Q u s'):wpAny #[4] A (getAttr (.ref a) f b) Q E s:=by
 obtain⟨mA,O,r,_,_,_⟩:=uJ I.hok e;obtain⟨u,i,g⟩:=k7.some_of (v:=v) (o:=mA f) (by rw[<-l];exact r f);exact get_map I.kIn O (c.get f) c.hd n i (Bm g) (h u _ (I.tok _) g)
theorem qd{m:Str}{g:Addr}{pl:Sem Bool}{Q:Value×List Value->Shared->Prop}(I:Inv X pins σ H s)(e:H a=some (.ins C dx fs))(c:Cls X.K C)(k:Meth X.K C m g)(l:fs.lookup m=none)
  (h:Q (.ref g,[.ref a]) s):wpAny #[4] A (getMethod (.ref a) m pl) Q E s:=by
 obtain⟨mA,O,r,_,_,_⟩:=uJ I.hok e;have hn:mA m=none:=k7.none_of (by rw[<-l];exact r m);exact BZ I.kIn O (c.get m) k.at_ k.fn hn h
theorem qY{y:V}{Q:Unit->Shared->Prop}(I:Inv X pins σ H s)(e:H a=some (.ins C dx fs))(c:Cls X.K C)(n:fF X.K C f)(hl:fs.length<1000)(m:RelV y u)
  (h:∀s',Inv X pins σ (upd H a (.ins C dx (iP f y fs))) s'->Q () s'):wpAny #[4] A (setAttr (.ref a) f u) Q E s:=by
 obtain⟨mA,O,r,j,_,l⟩:=uJ I.hok e;have p:(fs.map (·.1)).length<=sizeLine:=by rw[M6,sizeLine_eq];omega
 refine GS I.kIn O c.sa c.po n.taker c.hd j p λh' i t=>h _ ?_
 have hd:∃o,h'.get? dx=some o:=let ⟨o,_,_,e',_⟩:=i.ns;⟨o,e'⟩;refine I.write (x:=a) (e:=dx) (by rw[e];exact True.intro) (.inr l) (λb q v z=>(t.2 b v).trans z) hd ?_;refine⟨by rw[aC O.ne];exact l,?_,O.ne,i.obj,_,i.ns,λg=>?_,λg B=>?_⟩
 ·have:=oT f y fs;omega
 ·show k7 ((iP f y fs).lookup g) (if g=f then some u else mA g);rw[kz];by_cases q:g=f
  ·rw[if_pos q,if_pos q];exact m
  ·rw[if_neg q,if_neg q];exact r g
 ·by_cases q:g=f
  ·rw[q];exact (n9 f y fs).1
  ·refine (n9 f y fs).2 g (j g λz=>B ?_);show (if g=f then some u else mA g)=none;rw[if_neg q];exact z
theorem Inv.made(I:Inv X pins σ H s):Inv X pins σ (upd (upd H s.heap.objs.size (.own (s.heap.objs.size+1))) (s.heap.objs.size+1) (.ins C s.heap.objs.size []))
  { s with heap:=(s.heap.push W.emptyDict).push (W.instObj C s.heap.objs.size) }:=by
 have e1:(s.heap.push W.emptyDict).get? s.heap.objs.size=some W.emptyDict:=MU s.heap rfl;have e2:((s.heap.push W.emptyDict).push (W.instObj C s.heap.objs.size)).get? (s.heap.objs.size+1)=some (W.instObj C s.heap.objs.size):=by
  have:=MU (s.heap.push W.emptyDict) (o:=W.instObj C s.heap.objs.size) rfl
  rwa[Heap.size_push]at this
 have c:(s.heap.push W.emptyDict).Ns s.heap.objs.size (λ_=>none):=⟨W.emptyDict,#[],_,e1,rfl,(λe f=>absurd f (by simp)),λ_=>rfl⟩
 have g:=I.laid (a:=s.heap.objs.size) (o:=.own (s.heap.objs.size+1)) (h':=s.heap.push W.emptyDict) (t':=s.toks) (λb u q=>M4 _ q) (My _) ⟨_,e1⟩;refine g.laid (a:=s.heap.objs.size+1) (o:=.ins C s.heap.objs.size []) (t':=s.toks) (λb u q=>M4 _ q) (Nat.le_of_eq (Heap.size_push _ _)) ?_;have ne:s.heap.objs.size≠s.heap.objs.size+1:=MV (NO _);refine⟨by rw[aC ne,aH],NC _,ne,e2,λ_=>none,(Heap.Ns1.of_empty c).at λo q=>M4 _ q,λ_=>True.intro,λy h=>absurd rfl h⟩
theorem G7{f:Str}(b:attributeBase e f env (eval e env)=eval e env)
  (h:wpAny #[26] A (eval e env) (λo a=>wpAny #[26] A (getAttr o f true) Q E a) E s):wpAny #[26] A (eval (.Attribute e f pos) env) Q E s :=
 Attribute_any_ h (by rw[arm_eval_Attribute,b])
end
def L7(K:W.Frag)(ta:TE)(f:Str):TE:=λσ H Q=>ta σ H λx H1=>∃a C dx fs v,x=.ref a/\H1 a=some (.ins C dx fs)/\Cls K C/\fF K C f/\fs.lookup f=some v/\Q v H1
def Mt(K:W.Frag)(ta tv:TE)(f:Str):TS:=λD σ H=>tv σ H λy H1=>ta σ H1 λx H2=>∃a C dx fs,x=.ref a/\H2 a=some (.ins C dx fs)/\Cls K C/\fF K C f/\fs.length<1000 /\
 D.nx σ (upd H2 a (.ins C dx (iP f y fs)))
def LW(X:Cx)(op:Operator)(a:V->V->Hp->VK->Prop):Prop :=
 ∀(pins:List (Addr×Obj))(s:Shared)(σ:St)(H:Hp)(x y:V)(u v:Value)(Q:VK),Inv X pins σ H s->RelV x u->RelV y v->a x y H Q->wpAny #[4] X.A (inplaceOp op u v) (EP X pins σ Q) X.xe s
def Hn(K:W.Frag)(ta tv:TE)(e:V->V->Hp->VK->Prop)(f:Str):TS:=λD σ H=>ta σ H λx H1=>∃a C dx fs v,x=.ref a/\H1 a=some (.ins C dx fs)/\Cls K C/\fF K C f/\fs.lookup f=some v /\
 tv σ H1 λy H2=>e v y H2 λz c=>∃b fs',c a=some (.ins C b fs')/\fs'.length<1000/\D.nx σ (upd c a (.ins C b (iP f z fs')))
section
variable {o value:Expr}{f:Str}{tpos:Pos}{ta tv:TE}
theorem Ke(g:PE X e ta)(i:attributeBase e f X.env (eval e X.env)=eval e X.env):PE X (.Attribute e f pos) (L7 X.K ta f):=by intro pins s σ H Q I h;refine G7 i (thn (g pins s σ H _ I h) λu s1 b=>?_);obtain⟨x,H1,j,m,a,C,dx,fs,v,ex,ea,c,n,l,q⟩:=b;subst ex;obtain rfl:u=Value.ref a:=m;exact qi j ea c n l λu' s2 o p=>⟨v,H1,o,p,q⟩
theorem gG(ha:PE X o ta)(hv:PE X value tv)(e:swapsWith value (some (.Attribute o f pos')) pos.line X.env=pure false):PS X (.Assign [.Attribute o f pos'] value pos) (Mt X.K ta tv f):=by
 intro pins s σ H D I h;refine plainObj_wpAny_Assign_Attribute (thn (hv pins s σ H _ I h) λu g b=>?_) e;obtain⟨y,H1,i,j,q⟩:=b;refine thn (ha pins g σ H1 _ i q) λm s2 b=>?_
 obtain⟨x,H2,p,r,a,C,dx,fs,ex,ea,c,n,l,t⟩:=b;subst ex;obtain rfl:m=Value.ref a:=r;exact qY p ea c n l j λs3 v=>⟨σ,_,v,t⟩
theorem A8{op:Operator}{i:V->V->Hp->VK->Prop}(ha:PE X o ta)(hv:PE X value tv)(e:LW X op i):PS X (.AugAssign (.Attribute o f tpos) op value pos) (Hn X.K ta tv i f):=by
 intro pins s σ H D I h;refine wpAny_AugAssign_AttributeAny (thn (ha pins s σ H _ I h) λj s1 b=>?_);obtain⟨x,H1,m,p,a,C,dx,fs,v,ex,ea,c,n,l,q⟩:=b;subst ex;obtain rfl:j=Value.ref a:=p;refine qi m ea c n l λu s2 r t=>thn (hv pins s2 σ H1 _ r q) λw A b=>?_
 obtain⟨y,H2,B,E,F⟩:=b;refine thn (e pins A σ H2 v y u w _ B t E F) λw4 s4 b=>?_
 obtain⟨z,H3,G,rz,dx',fs',g,J,L⟩:=b;exact qY G g c n J rz λs5 M=>⟨σ,_,M,L⟩
def Mx:V->V->Hp->VK->Prop:=λx y H Q=>∃i j,x=.int i/\y=.int j/\Q (.int (i+j)) H
theorem JL:LW X .Add Mx:=by
 rintro pins s σ H x y u v Q I a b ⟨i,j,rfl,rfl,q⟩
 obtain⟨t,rfl⟩:=(show ∃t,u=Value.int i t from a)
 obtain⟨t',rfl⟩:=(show ∃t',v=Value.int j t' from b)
 exact PyProof.Rows.iadd_int ⟨.int (i+j),H,I.tok _,⟨_,rfl⟩,q⟩
end
section
variable {c:Value}{b:Bool}
inductive qj (K:W.Frag) (H:Hp):V->Value->Prop where
 |non:qj K H .non (.type "NoneType")
 |bl (x:Bool):qj K H (.bl x) (.type "bool")
 |int (i:Int):qj K H (.int i) (.type "int")
 |str (x:Str):qj K H (.str x) (.type "str")
 |flt (x:UInt64):qj K H (.flt x) (.type "float")
 |lst {a:Addr} {xs:List V} (e:H a=some (.lst xs)):qj K H (.ref a) (.type "list")
 |frz {a:Addr} {o:Obj} {xs:List V} (e:H a=some (.frz o (.lst xs))):qj K H (.ref a) (.type "list")
 |tup {a:Addr} {xs:List V} (e:H a=some (.tup xs)):qj K H (.ref a) (.type "tuple")
 |dK {a:Addr} {kvs:List (Key×V)} (e:H a=some (.dK kvs)):qj K H (.ref a) (.type "dict")
 |dT {a:Addr} {kvs:List (List Key×V)} (e:H a=some (.dT kvs)):qj K H (.ref a) (.type "dict")
 |ins {a C dx:Addr} {fs:List (Str×V)} (e:H a=some (.ins C dx fs)) (cl:Cls K C) (ha:W.findIn K (.ref C) "__class__"=some (some (.builtin "object.__class__")))
  (hn:W.specialIn K (.builtin "object.__class__") "__get__"=some (some (.builtin "getset_descriptor.__get__"))) (htk:W.takesIn K (.builtin "object.__class__")=some true)
  (hm:W.mroIn K C (.type "object")=some true):qj K H (.ref a) (.ref C)
end
structure cm(k:Nat)(A:Around):Prop where
 hd:A.handled=none
 dp:A.depth+3*k+5<recursionLimit
 un:A.units+16*k+200<cLine
theorem cm.mono{k:Nat}(r:cm k A)(h:j<=k):cm j A:=⟨r.hd,by have:=r.dp;omega,by have:=r.un;omega⟩
theorem cm.deeper{k:Nat}(r:cm (k+1) A)(env:Env):cm k (A.deeper env) :=
 ⟨r.hd,by have:=r.dp;show A.depth+1+3*k+5<_;omega,by have:=r.un;show A.units+3+16*k+200<_;omega⟩
theorem cm.in1{k:Nat}(r:cm (k+1) A):cm k A.in1 :=
 ⟨r.hd,by have:=r.dp;show A.depth+3*k+5<_;omega,by have:=r.un;show A.units+1+16*k+200<_;omega⟩
theorem yz{a:List (Str×Value)}:(A.under (.builtin "type.__call__" ⟨.ref C::us,a⟩)).depth=A.depth+1:=by first|rfl|simp[Around.under,Code.weight,Code.isCreation,Code.isGuard,Code.isCaller,Code.frames,Code.isFrame,guardIds]
theorem yA{a:List (Str×Value)}:(A.under (.builtin "type.__call__" ⟨.ref C::us,a⟩)).units=A.units+1:=by first|rfl|simp[Around.under,Code.cUnits,Code.frames,Code.isFrame]
theorem cm.make{k:Nat}(r:cm (k+1) A)(C:Addr)(us:List Value)(a:List (Str×Value)):cm k (A.under (.builtin "type.__call__" ⟨.ref C::us,a⟩)) :=
 ⟨r.hd,by have:=r.dp;rw[yz];omega,by have:=r.un;rw[yA];omega⟩
theorem cm.depth{k:Nat}(r:cm k A):A.depth<recursionLimit:=by have:=r.dp;omega
theorem cm.units{k:Nat}(r:cm k A):A.units+64<cLine:=by have:=r.un;omega
def JE:TA:=λ_ H Q=>Q [] H
def HV(ta:TE)(a:TA):TA:=λσ H Q=>ta σ H λx H1=>a σ H1 λxs H2=>Q (x::xs) H2
section
variable {te:TE}{t:TA}
theorem gJ:PA X [] JE:=λ_ _ _ _ H Q I h=>Calls.spliced_nil ⟨[],H,I,.nil,h⟩
theorem eV(ha:PE X e te)(c:PA X es t)(f:starEach (e::es) X.env=(false,eval e X.env)::starEach es X.env:=by rfl):PA X (e::es) (HV te t):=by intro pos pins s σ H Q I h;rw[f];show wpAny _ _ (spliced ((false,eval e X.env)::backTo pos #[23])) _ _ s;refine Calls.spliced_cons (thn (ha pins s σ H _ I h) λu g a=>?_);obtain⟨x,H1,i,j,l⟩:=a;exact thn (c pos pins g σ H1 _ i l) λus s2 b=>(by obtain⟨xs,H2,m,n,o⟩:=b;exact⟨x::xs,H2,m,.cons j n,o⟩)
def Mw(t:TA):TE:=λσ H Q=>t σ H λxs H1=>xs.length<=sizeLine/\∀p,H1 p=none->Q (.ref p) (upd H1 p (.tup xs))
def MC(t:TA):TE:=λσ H Q=>t σ H λxs H1=>xs.length<=sizeLine/\∀p,H1 p=none->Q (.ref p) (upd H1 p (.lst xs))
theorem IK{x1}(h:PA X es t):PE X (.Tuple es x1 pos) (Mw t):=by intro pins s σ H Q I g;refine wpAny_Tuple_spliced (thn (h pos pins s σ H _ I g) λus a c=>?_);obtain⟨xs,H1,f,r,z,q⟩:=c;refine⟨by rw[<-r.length];exact z,?_⟩;have i:H1 a.heap.objs.size=none:=f.hok.fresh (My _);refine⟨.ref a.heap.objs.size,upd H1 a.heap.objs.size (.tup xs),f.laid (t':=a.toks) (λb u e=>M4 _ e) (My _) ?_,rfl,q _ i⟩;exact⟨z,us,r,⟨_,MU _ rfl,rfl,rfl,_,rfl⟩⟩
theorem xK(h:PA X es t):PE X (.List es pos) (MC t):=by intro pins s σ H Q I g;refine wpAny_List_spliced (thn (h pos pins s σ H _ I g) λus a c=>?_);obtain⟨xs,H1,f,r,z,q⟩:=c;refine⟨by rw[<-r.length];exact z,?_⟩;have i:H1 a.heap.objs.size=none:=f.hok.fresh (My _);refine⟨.ref a.heap.objs.size,upd H1 a.heap.objs.size (.lst xs),f.laid (t':=a.toks) (λb u e=>M4 _ e) (My _) ?_,rfl,q _ i⟩;exact⟨z,us,0,r,MU _ rfl⟩
end
abbrev Sp:=List V->Hp->VK->XK->Prop
abbrev CXT:=List Env->Hp->Shared->XK->Value->Shared->Prop
structure uX(P:Program)(w:World)(K:W.Frag)(mg:Str->Option Value)(base:Heap)(A:Around)(outer:List Env)(s:Shared)(H:Hp):Prop where
 frames:A.frames=some outer
 mod:Mod K mg base
 bs:∀b o,base.get? b=some o->s.heap.get? b=some o/\H b=none
 bsz:base.objs.size<=s.heap.objs.size
 funs:s.heap.FunFrames base outer
 frf:∀b∈frs outer,H b=none
 hok:HOk P w H s.heap
 bare:AllBare s.gens
 tab:∀P q,TabOf K P q->H P=some (.tbl q)
def CE(outer:List Env)(P:Program)(w:World)(H:Hp)(s:Shared)(Q:VK)(u:Value)(s':Shared):Prop :=
 ∃v H',s'.os=s.os/\AllBare s'.gens/\Un (frs outer) [] H H' s.heap s'.heap/\HOk P w H' s'.heap/\RelV v u/\Q v H'
def CR(CX:CXT)(outer:List Env)(P:Program)(w:World)(H:Hp)(s:Shared)(Q:VK)(E:XK)(r:Result)(s':Shared):Prop :=
 match r with
 |.ok (.ret u)=>CE outer P w H s Q u s'
 |.ok _=>False
 |.error e=>CX outer H s E e s'
structure gU(P:Program)(w:World)(K:W.Frag)(mg:Str->Option Value)(base:Heap)(CX:CXT)(k:Nat)(f:Addr)(fd:FuncData)(ps:List Str)(sp:Sp):Prop where
 len:∀vs H Q E,sp vs H Q E->vs.length=ps.length
 run:∀(A:Around)(outer:List Env)(s:Shared)(H:Hp)(args:Args)(us:List Value)(vs:List V)(Q:VK)(E:XK),cm k A->uX P w K mg base A outer s H->BindsTo s fd args (ps.zip us)->Vals vs us->sp vs H Q E ->
  codeAny (model P w) A (.call (.ref f) args) (CR CX outer P w H s Q E) s
theorem uX.make(e:uX P w K mg base A outer s H)(C:Addr)(us:List Value)(a:List (Str×Value)) :
 uX P w K mg base (A.under (.builtin "type.__call__" ⟨.ref C::us,a⟩)) outer s H:=⟨by first|exact e.frames|(simpa[Around.under,Code.envs,Code.isFrame,pushEnvs] using e.frames),e.mod,e.bs,e.bsz,e.funs,e.frf,e.hok,e.bare,e.tab⟩
section
theorem Inv.env0(I:Inv X pins σ H s):uX X.prog X.w X.K X.mg X.base X.A X.stack s H :=
 ⟨I.ok.frames,I.ok.mod,I.bs,Nq I.ok.bsz I.sz,I.stack,I.stkFree,I.hok,I.bare,I.tab⟩
theorem Inv.after{Q:VK}(I:Inv X pins σ H s)(h:CE X.stack X.prog X.w H s Q u s'):EP X pins σ Q u s':=by obtain⟨v,H',os,bare,un,hok,r,q⟩:=h;obtain⟨c,g,d,t,a⟩:=s';obtain rfl:a=s.os:=os;exact⟨v,H',I.call (h':=c) (g':=g) (d':=d) (t':=t) (ch:=[]) un hok bare (λb z=>absurd z (by simp)),r,q⟩
end
def KU(sp:Sp)(dvs:List V)(E:XK)(t:TA):TE:=λσ H Q=>t σ H λvs H1=>sp (vs++dvs) H1 Q E
def Av(C:Addr)(m:Str)(sp:Sp)(dvs:List V)(E:XK)(ta:TE)(t:TA):TE:=λσ H Q=>ta σ H λx H1=>∃a dx fs,x=.ref a/\H1 a=some (.ins C dx fs)/\fs.lookup m=none /\
 t σ H1 λvs H2=>sp (x::(vs++dvs)) H2 Q E
def Ln(C:Addr)(sp:Sp)(dvs:List V)(E:XK)(t:TA):TE:=λσ H Q=>t σ H λvs H1=>∀x dx,H1 x=none->H1 dx=none->dx≠x ->
 sp (.ref x::(vs++dvs)) (upd (upd H1 dx (.own x)) x (.ins C dx [])) (λv H2=>v=.non/\Q (.ref x) H2) E
def Binds(K:W.Frag)(fd:FuncData)(ps:List Str)(ds:List Value):Prop :=
 ∀(s:Shared)(us:List Value),K.In s.heap->(us++ds).length=ps.length->BindsTo s fd ⟨us,[]⟩ (ps.zip (us++ds))
theorem Binds.all(h:∀us:List Value,us.length=ps.length->bindArgs fd ⟨us,[]⟩=pure (ps.zip us)):Binds K fd ps []:=λs us _ hl=>by rw[Nr]at hl ⊢;exact .of_eq (h us hl)
def Passes(CX:CXT)(X:Cx)(E:XK):Prop:=∀(pins:List (Addr×Obj))(σ:St)(H:Hp)(s:Shared)(e:Value)(s':Shared),Inv X pins σ H s->CX X.stack H s E e s'->X.xe e s'
section
variable {CX:CXT}{k:Nat}{sp:Sp}{dvs:List V}{ds:List Value}{E:XK}{m:Str}{apos:Pos}{o:Expr}{ta:TE}{t:TA}
theorem yp{Q:VK}(F:gU X.prog X.w X.K X.mg X.base CX k f fd ps sp)(c:cm k X.A)(g:Binds X.K fd ps ds)(hd:Vals dvs ds)(i:Passes CX X E)
  (I:Inv X pins σ H s) (r:Vals vs us) (h:sp (vs++dvs) H Q E):wpAny #[4] X.A (call (.ref f) us) (EP X pins σ Q) X.xe s:=by
 have b:Vals (vs++dvs) (us++ds):=r.append hd;have hl:(us++ds).length=ps.length:=by rw[<-b.length];exact F.len _ _ _ _ h
 refine wpAny_call (codeAny_mono (F.run X.A X.stack s H ⟨us,[]⟩ (us++ds) (vs++dvs) Q E c I.env0 (g s us I.kIn hl) b h) λr s' a=>?_);cases r with
 |error e=>exact i pins σ H s e s' I a
 |ok fl =>
  cases fl with
  |ret u=>exact I.after a
  |next=>exact False.elim a
  |brk=>exact False.elim a
  |cont=>exact False.elim a
theorem zV(F:gU X.prog X.w X.K X.mg X.base CX k f fd ps sp)(i:cm k X.A)(j:Gl X x)(hm:X.mg x=some (.ref f))(l:W.keepIn X.K (.ref f)=true)(m:Binds X.K fd ps ds)(hd:Vals dvs ds)(n:Passes CX X E)
  (ha:PA X (e::es) t) (a:(x==("__debug__":Str))=false:=by decide) (o:starEach (e::es) X.env=(false,eval e X.env)::starEach es X.env:=by rfl) (b:(backTo pos #[23]).any (·.1)=false:=by rfl) :
  PE X (.Call (.Name x p) (e::es) [] pos) (KU sp dvs E t):=by
 intro pins s σ H Q I h;refine wpAny_Call_Name_kw (pJ I j hm ?_ a);refine W.callWith_K (h₀:=X.base) I.ok.mod.kin l (thn (ha pos pins s σ H _ I h) λus s1 c=>?_) o b;obtain⟨vs,H1,g,r,q⟩:=c;refine⟨g.kIn,?_⟩;exact yp F i m hd n g r q
theorem F8{pl:Sem Bool}(p:PE X o ta)(c:Cls X.K C)(hm:Meth X.K C m f)(F:gU X.prog X.w X.K X.mg X.base CX k f fd ps sp)(v:cm k X.A)(y:Binds X.K fd ps ds)(hd:Vals dvs ds)(z:Passes CX X E)(ha:PA X (e::es) t)
  (g:starEach (e::es) X.env=(false,eval e X.env)::starEach es X.env:=by rfl) (i:(backTo pos #[23]).any (·.1)=false:=by rfl)
  (B:eval (.Call (.Attribute o m apos) (e::es) [] pos) X.env=(do
   let ov <-eval o X.env
   standAt apos.atName
   let (f,first) <-holding [ov] (getMethod ov m pl)
   callWith pos f first (backTo pos (starEach (e::es) X.env)) (backToKw pos (keywordEach [] X.env))):=by rfl) :
  PE X (.Call (.Attribute o m apos) (e::es) [] pos) (Av C m sp dvs E ta t):=by
 intro pins s σ H Q I h;refine W.methodCall_KW (pl:=pl) (thn (p pins s σ H _ I h) λu D b=>?_) B;obtain⟨x,H1,j,G,a,dx,fs,ex,ea,l,q⟩:=b;subst ex;obtain rfl:u=Value.ref a:=G;refine qd j ea c hm l ?_;refine W.callWith_K (first:=[.ref a]) (h₀:=X.base) I.ok.mod.kin hm.kp (thn (ha pos pins D σ H1 _ j q) λus s2 b=>?_) g i;obtain⟨vs,H2,n,r,J⟩:=b;refine⟨n.kIn,?_⟩;exact yp (us:=.ref a::us) (vs:=.ref a::vs) F v y hd z n (.cons rfl r) J
theorem vX{pl:Sem Bool}(g:PE X o ta)(c:Cls X.K C)(hm:Meth X.K C m f)(F:gU X.prog X.w X.K X.mg X.base CX k f fd ps sp)(i:cm k X.A)(j:Binds X.K fd ps ds)(hd:Vals dvs ds)(n:Passes CX X E)
  (p:eval (.Call (.Attribute o m apos) [] [] pos) X.env=(do
   let ov <-eval o X.env
   standAt apos.atName
   let (f,first) <-holding [ov] (getMethod ov m pl)
   callWith pos f first (backTo pos (starEach [] X.env)) (backToKw pos (keywordEach [] X.env))):=by rfl) :
  PE X (.Call (.Attribute o m apos) [] [] pos) (Av C m sp dvs E ta JE):=by
 intro pins s σ H Q I h;refine W.methodCall_KW (pl:=pl) (thn (g pins s σ H _ I h) λu s1 b=>?_) p;obtain⟨x,H1,e,r,a,dx,fs,ex,ea,l,q⟩:=b;subst ex;obtain rfl:u=Value.ref a:=r;refine qd e ea c hm l ?_;exact W.callWith_K0 (first:=[.ref a]) e.kIn hm.kp (yp (us:=[.ref a]) (vs:=[.ref a]) F i j hd n e (.cons rfl .nil) q)
structure Mk(K:W.Frag)(C f:Addr):Prop where
 makes:W.makesIn K C=true
 init:W.findIn K (.ref C) "__init__"=some (some (.ref f))
 fn:W.isFn K (.ref f)=true
 kp:W.keepIn K (.ref C)=true
theorem Dp{Q:VK}(M:Mk X.K C f)(F:gU X.prog X.w X.K X.mg X.base CX k f fd ps sp)(i:cm (k+1) X.A)(j:Binds X.K fd ps ds)(hd:Vals dvs ds)
  (l:Passes CX X E) (I:Inv X pins σ H s) (r:Vals vs us)
  (h:∀x dx,H x=none->H dx=none->dx≠x->sp (.ref x::(vs++dvs)) (upd (upd H dx (.own x)) x (.ins C dx [])) (λv H2=>v=.non/\Q (.ref x) H2) E) :
  wpAny #[4] X.A (call (.ref C) us) (EP X pins σ Q) X.xe s:=by
 have c:=h (s.heap.objs.size+1) s.heap.objs.size (I.hok.fresh (Oc _)) (I.hok.fresh (My _)) (MV (NO _));have b:=Inv.made (C:=C) I;have g:Vals (V.ref (s.heap.objs.size+1)::(vs++dvs)) (Value.ref (s.heap.objs.size+1)::(us++ds)):=.cons rfl (r.append hd);have hl:(Value.ref (s.heap.objs.size+1)::us++ds).length=ps.length:=by have e:=g.length;rw[F.len _ _ _ _ c]at e;exact e.symm
 refine wpAny_call (Ee (f:=f) I.kIn M.makes M.init (beq_iff_eq.mp M.fn) (codeAny_mono (F.run _ X.stack _ _ ⟨Value.ref (s.heap.objs.size+1)::us,[]⟩ (Value.ref (s.heap.objs.size+1)::(us++ds)) _ _ E (i.make C us [])
  (b.env0.make C us []) (j _ (Value.ref (s.heap.objs.size+1)::us) b.kIn hl) g c) λr s' a=>?_))
 cases r with
 |error e=>exact l pins σ _ _ e s' b a
 |ok fl =>
  cases fl with
  |ret u =>obtain⟨v,H',m,n,o,p⟩:=b.after a;subst o;exact⟨n,⟨V.ref (s.heap.objs.size+1),H',m,rfl,p⟩⟩
  |next=>exact False.elim a
  |brk=>exact False.elim a
  |cont=>exact False.elim a
theorem z0(M:Mk X.K C f)(F:gU X.prog X.w X.K X.mg X.base CX k f fd ps sp)(i:cm (k+1) X.A)(j:Gl X x)(hm:X.mg x=some (.ref C))(l:Binds X.K fd ps ds)(hd:Vals dvs ds)(m:Passes CX X E)
  (ha:PA X (e::es) t) (a:(x==("__debug__":Str))=false:=by decide) (n:starEach (e::es) X.env=(false,eval e X.env)::starEach es X.env:=by rfl) (b:(backTo pos #[23]).any (·.1)=false:=by rfl) :
  PE X (.Call (.Name x p) (e::es) [] pos) (Ln C sp dvs E t):=by
 intro pins s σ H Q I h;refine wpAny_Call_Name_kw (pJ I j hm ?_ a);refine W.callWith_K (h₀:=X.base) I.ok.mod.kin M.kp (thn (ha pos pins s σ H _ I h) λus s1 c=>?_) n b;obtain⟨vs,H1,g,r,q⟩:=c;refine⟨g.kIn,?_⟩;exact Dp M F i l hd m g r q
end
def PK(X:Cx)(kws:List Keyword)(t:TA):Prop :=
 ∀(pos:Pos)(pins:List (Addr×Obj))(s:Shared)(σ:St)(H:Hp)(Q:List V->Hp->Prop),Inv X pins σ H s->t σ H Q->wpAny #[4] X.A (evalAll ((backToKw pos (keywordEach kws X.env)).map (·.2))) (AP X pins σ Q) X.xe s
section
variable {CX:CXT}{k:Nat}{ks:List Str}{sp:Sp}{E:XK}{m:Str}{apos kpos:Pos}{o:Expr}{kws:List Keyword}{te ta:TE}{t tk:TA}{nm:Option Str}
theorem Km:PK X [] JE:=λ_ _ _ _ H Q I h=>wpAny_evalAll_nil ⟨[],H,I,.nil,h⟩
theorem FQ(ha:PE X e te)(c:PK X kws t):PK X (⟨nm,e,kpos⟩::kws) (HV te t):=by intro pos pins s σ H Q I h;show wpAny _ _ (evalAll ((do let v <-eval e X.env;standAt pos;pure v)::(backToKw pos (keywordEach kws X.env)).map (·.2))) _ _ s;refine wpAny_evalAll_cons (wpAny_bind (thn (ha pins s σ H _ I h) λu f a=>?_));obtain⟨x,H1,g,i,j⟩:=a;refine wpAny_bind (wpAny_standAt (wpAny_pure ?_));exact thn (c pos pins f σ H1 _ g j) λus s2 b=>(by obtain⟨xs,H2,l,m,n⟩:=b;exact⟨x::xs,H2,l,.cons i m,n⟩)
variable {g:List Value->List Value->List Value}{gV:List V->List V->List V}
end
structure dk(N P:List Str)(sc:Scope):Prop where
 kind:sc.kind=.function
 co:sc.isCoroutine=false
 gen:sc.isGenerator=false
 nd:N.Nodup
 pre:N.take P.length=P
 par:∀x∈P,sc.names.lookup x=some .local\/sc.names.lookup x=some .cell
 nofree:∀y∈sc.names,y.2≠.free
theorem uc{kindOf:Str->Option NameKind}{x:Str}:∀{binds:List (Str×Value)}{m:Str->Option Value},(∀v,(x,v)∉binds)->bindL kindOf binds m x=m x
 |[],_,_=>rfl
 |(n,v)::r,m,h=>by
  unfold bindL;rw[uc λw hw=>h w (M3 _ hw)];split
  ·have:x≠n:=by rintro rfl;exact h v M7
   simp[this]
  ·rfl
theorem sH{kindOf:Str->Option NameKind}{x:Str}:∀{binds:List (Str×Value)}{m:Str->Option Value},(∀v,(x,v)∉binds)->bindC kindOf binds m x=m x
 |[],_,_=>rfl
 |(n,v)::r,m,h=>by
  unfold bindC;rw[sH λw hw=>h w (M3 _ hw)];split
  ·rfl
  ·have:x≠n:=by rintro rfl;exact h v M7
   simp[this]
theorem sA{kindOf:Str->Option NameKind}{x:Str}{v:Value}:∀{P:List Str}{vs:List Value}{i:Nat}{m:Str->Option Value},P.Nodup->P[i]?=some x->vs[i]?=some v->kindOf x=some .local ->
  bindL kindOf (P.zip vs) m x=some v
 |[],_,_,_,_,h,_,_=>by simp at h
 |_::_,[],_,_,_,_,h,_=>by simp at h
 |p::P,w::vs,0,m,nd,h1,h2,hk=>by simp at h1 h2;subst h1;subst h2;show bindL kindOf ((p,w)::P.zip vs) m p=_;unfold bindL;rw[uc λv hv=>(Nc.mp nd).1 (Oo hv).1,if_pos hk];simp
 |p::P,w::vs,i+1,m,nd,h1,h2,hk=>by show bindL kindOf ((p,w)::P.zip vs) m x=_;unfold bindL;exact sA (i:=i) (Nc.mp nd).2 (by simpa using h1) (by simpa using h2) hk
theorem tU{kindOf:Str->Option NameKind}{x:Str}{v:Value}:∀{P:List Str}{vs:List Value}{i:Nat}{m:Str->Option Value},P.Nodup->P[i]?=some x->vs[i]?=some v->kindOf x≠some .local ->
  bindC kindOf (P.zip vs) m x=some v
 |[],_,_,_,_,h,_,_=>by simp at h
 |_::_,[],_,_,_,_,h,_=>by simp at h
 |p::P,w::vs,0,m,nd,h1,h2,hk=>by simp at h1 h2;subst h1;subst h2;show bindC kindOf ((p,w)::P.zip vs) m p=_;unfold bindC;rw[sH λv hv=>(Nc.mp nd).1 (Oo hv).1,if_neg hk];simp
 |p::P,w::vs,i+1,m,nd,h1,h2,hk=>by show bindC kindOf ((p,w)::P.zip vs) m x=_;unfold bindC;exact tU (i:=i) (Nc.mp nd).2 (by simpa using h1) (by simpa using h2) hk
def start(N:List Str)(vs:List V):St:=vs.map some++List.replicate (N.length-vs.length) none
def dF(CX:CXT)(P:Program)(w:World)(K:W.Frag)(mg:Str->Option Value)(base:Heap)(N:List Str)(qual:Str)(scope:Scope)(f:Addr)(cd:Value)(A:Around)(outer:List Env)(s:Shared)(H:Hp)(E:XK):Cx where
 prog:=P
 w:=w
 K:=K
 mg:=mg
 base:=base
 A:=A.deeper (envOfC qual scope s.heap.objs.size f cd)
 N:=N
 s₀:=s
 H₀:=H
 env:=envOfC qual scope s.heap.objs.size f cd
 outer:=outer
 stack:=envOfC qual scope s.heap.objs.size f cd::outer
 ex:=[]
 calm:=true
 fn:=λ_=>true
 pn:=[]
 xe:=λe s'=>wpAny (model P w) (A.deeper (envOfC qual scope s.heap.objs.size f cd)) (leaving (envOfC qual scope s.heap.objs.size f cd) e) (λ_ a=>CX outer H s E e a) (λb a=>CX outer H s E b a) s'
theorem qw{sc:Scope}(h:sc.names.lookup x=some .cell):∃c,(cellsFrom n sc.names []).lookup x=some c:=by have q:=W.cellsFrom_some sc.names n [] (.inl h);exact Option.isSome_iff_exists.mp q
theorem AM{CX:CXT}{t:Shared}{E:XK}
  (S:dk N ps scope) (hd:A.handled=none) (g:uX P w K mg base A outer s H) (hl:vs.length=ps.length) (r:Vals vs us)
  (x:InCallC s s.heap.objs.size (bindL (envOfC qual scope s.heap.objs.size f cd).kindOf (ps.zip us) λ_=>none) (cellsFrom (s.heap.objs.size+1) scope.names []) (bindC (envOfC qual scope s.heap.objs.size f cd).kindOf (ps.zip us) λ_=>none) t) :
  Inv (dF CX P w K mg base N qual scope f cd A outer s H E) [] (start N vs) H t:=by
 have hpl:ps.length<=N.length:=by have:=congrArg List.length S.pre;rw[Of]at this;omega
 obtain⟨h1,tk,rfl,B⟩:=x.done;have j:∀b:Addr,b∉(dF CX P w K mg base N qual scope f cd A outer s H E).ex:=λb z=>absurd (show b∈([]:List Addr) from z) (by simp)
 refine⟨⟨g.mod,S.kind,rfl,rfl,My _,λy z c h1 h2=>?_,λy l=>?_,λy c _ h=>?_,λ_=>hd,Around.frames_deeper g.frames,.inr ⟨rfl,rfl⟩,λb z=>absurd z (j b),g.bs,g.bsz,λb _ _=>j b,λb z=>absurd z (j b),g.funs,g.frf⟩,
  rfl,g.bare,Un.kept B,⟨_,x.toInCall.ns,λi y v h1 h2 h3=>?_⟩,λy c h=>⟨_,x.cell y c h⟩,g.hok.fresh (My _),λy c h=>?_,λp m=>absurd (show p∈([]:List (Addr×Obj)) from m) (by simp),g.hok.kept B,?_,g.tab⟩
 ·exact name_of_addr x.apart (PySem.mem_of_lookup h1) (PySem.mem_of_lookup h2)
 ·have l:scope.names.lookup y=some .cell\/scope.names.lookup y=some .free:=l;rcases l with l|l
  ·exact qw l
  ·exact absurd rfl (S.nofree _ (PySem.mem_of_lookup l))
 ·exact OO (x.above y c (PySem.mem_of_lookup h))
 ·have hi:i<vs.length:=by
   unfold start at h2;by_cases hi:i<vs.length
   ·exact hi
   ·rw[N6 (by simpa using hi)]at h2;rw[OA]at h2;split at h2 <;> cases h2
  have ha:vs[i]?=some v:=by
   unfold start at h2;rw[N5 (by simpa using hi),MP]at h2;cases e:vs[i]? with
   |none=>rw[e]at h2;cases h2
   |some a=>rw[e]at h2;cases h2;rfl
  obtain⟨u,C,D⟩:=r.get ha;have m:ps[i]?=some y:=by rw[<-S.pre,List.getElem?_take_of_lt (by omega)];exact h1
  have o:ps.Nodup:=by rw[<-S.pre];exact S.nd.sublist (List.take_sublist _ _)
  refine⟨u,D,?_⟩;rcases S.par y (Nm m) with k|k
  ·exact .inl ⟨k,sA o m C k⟩
  ·obtain⟨c,e⟩:=qw (n:=s.heap.objs.size+1) k;refine .inr ⟨.inl k,c,e,?_⟩;have q:=x.cell y c e;rw[tU o m C (by show scope.names.lookup y≠_;rw[k];decide)]at q;exact q
 ·exact g.hok.fresh (OO (x.above y c (PySem.mem_of_lookup h)))
 ·unfold start;show _=N.length;rw[MN,M6,List.length_replicate];omega
theorem Dq{CX:CXT}{k:Nat}{name:Str}{B kV doc cdv:Value}
  {sp:Sp} (F:K.lookup f=some ⟨oc,od,.func (W.fnOf name qual params body scope B kV doc pm an cdv ct),osl⟩) (l:W.codeIn K cdv qual=true) (S:dk N ps scope)
  (len:∀vs H Q E,sp vs H Q E->vs.length=ps.length)
  (c:∀(A:Around)(outer:List Env)(s:Shared)(H:Hp)(vs:List V)(Q:VK)(E:XK),cm k (A.deeper (envOfC qual scope s.heap.objs.size f cdv))->sp vs H Q E ->
   ∃t,PSs (dF CX P w K mg base N qual scope f cdv A outer s H E) body t/\t { nx:=λ_ H'=>Q .non H',rt:=Q } (start N vs) H) :
  gU P w K mg base CX (k+1) f (W.fnOf name qual params body scope B kV doc pm an cdv ct) ps sp:=by
 refine⟨len,λA outer s H args us vs Q E m i G r j=>?_⟩;have hl:=len _ _ _ _ j;have C:K.In s.heap:=i.mod.kin.keeps λb o e=>(i.bs b o e).1
 have lim:s.heap.NoLimit:=i.mod.nolimit.keeps λb o e=>(i.bs b o e).1
 have g:∀y∈ps.zip us,scope.names.lookup y.1=some .local\/(scope.names.lookup y.1=some .cell/\((cellsFrom (s.heap.objs.size+1) scope.names []).lookup y.1).isSome=true):=λp L=>by
  obtain⟨n,v⟩:=p;rcases S.par n (Oo L).1 with q|q
  ·exact .inl q
  ·exact .inr ⟨q,W.cellsFrom_some _ _ _ (.inl q)⟩
 refine codeAny_call_function m.depth (C _ _ F) rfl S.co S.gen rfl (W.codeRec_of C l) (G _ _ _ _ ?_);refine wpAny_newFunctionEnv_cells S.kind g λenv M D x=>?_
 subst M;refine⟨lim.keeps x.toInCall.keep,codeAny_func ?_⟩;obtain⟨t,O,R⟩:=c A outer s H vs Q E (m.deeper _) j;have I:Inv (dF CX P w K mg base N qual scope f cdv A outer s H E) [] (start N vs) H D:=AM S m.hd i hl r x;refine wpAny_mono (O [] D (start N vs) H _ I R) (λT s' h=>?_) λe s' h=>h
 have fin:∀{a:St}{H':Hp}{v:V}{u:Value},Inv (dF CX P w K mg base N qual scope f cdv A outer s H E) [] a H' s'->RelV v u->Q v H'->CE outer P w H s Q u s' :=
  λ{a H' v u} J z q=>⟨v,H',J.os,J.bare,J.base,J.hok,z,q⟩
 cases T with
 |ret u =>obtain⟨v,a,H',J,z,q⟩:=h;exact fin J z q
 |next =>obtain⟨a,H',J,q⟩:=h;exact fin (v:=V.non) (u:=Value.none) J rfl q
 |brk =>obtain⟨_,_,_,q⟩:=h;exact False.elim q
 |cont =>obtain⟨_,_,_,q⟩:=h;exact False.elim q
section
variable {t:TA}{id T:String}{r:List V->Hp->VK->Prop}
def tCB(r:List V->Hp->VK->Prop)(t:TA):TE:=λσ H Q=>t σ H λvs H1=>r vs H1 Q
theorem gz(hc:kf X (.builtin id) r)(f:Gl X x)(hm:X.mg x=none)(hv:bootBuiltins x=some (.builtin id))(ha:PA X (e::es) t)(hn:x≠"__name__":=by decide)(a:(x==("__debug__":Str))=false:=by decide)
  (g:starEach (e::es) X.env=(false,eval e X.env)::starEach es X.env:=by rfl) (b:(backTo pos #[23]).any (·.1)=false:=by rfl):PE X (.Call (.Name x p) (e::es) [] pos) (tCB r t):=by
 intro pins s σ H Q I h;refine wpAny_Call_Name_kw (fS I f hm hv ?_ hn a);exact PyProof.Rows.callWith_builtin1 (thn (ha pos pins s σ H _ I h) λus i c=>(by obtain⟨vs,H1,j,l,m⟩:=c;exact hc pins i σ H1 vs us Q j l m)) g b
theorem m9(hc:kf X (.type T) r)(f:Gl X x)(hm:X.mg x=none)(hv:bootBuiltins x=some (.type T))(ha:PA X (e::es) t)(hn:x≠"__name__":=by decide)(a:(x==("__debug__":Str))=false:=by decide)
  (g:starEach (e::es) X.env=(false,eval e X.env)::starEach es X.env:=by rfl) (b:(backTo pos #[23]).any (·.1)=false:=by rfl):PE X (.Call (.Name x p) (e::es) [] pos) (tCB r t):=by
 intro pins s σ H Q I h;refine wpAny_Call_Name_kw (fS I f hm hv ?_ hn a);exact PyProof.Rows.callWith_type1 (thn (ha pos pins s σ H _ I h) λus i c=>(by obtain⟨vs,H1,j,l,m⟩:=c;exact hc pins i σ H1 vs us Q j l m)) g b
end
end L2
variable {xs ys vs:List L2.V}{ws:List (Option L2.V)}{H H' H1 G H0:L2.Hp}{o:L2.HO}{v y:L2.V}{X:L2.Cx}{σ:L2.St}{ta:L2.TA}{CX:L2.CXT}{sp:L2.Sp}{r:L2.V->Option Int->Option Int->L2.Hp->L2.VK->Prop}{κ:Nat->L2.V->L2.Hp->Prop}{kvs:List (List L2.Key×L2.V)}
namespace HT
open PySem PyProof.Rows
noncomputable def lexLt:List Int->List Int->Bool
 |[],[]=>false
 |[],_::_=>true
 |_::_,[]=>false
 |x::xs,y::ys=>if x=y then lexLt xs ys else decide (x<y)
theorem rh(x y:Int)(xs ys:List Int):lexLt (x::xs) (y::ys)=if x=y then lexLt xs ys else decide (x<y):=rfl
theorem ll:lexLt [] []=false:=rfl
theorem qD(y:Int)(ys:List Int):lexLt [] (y::ys)=true:=rfl
theorem qN(x:Int)(xs:List Int):lexLt (x::xs) []=false:=rfl
theorem Ck(A:Around)(s:Shared)(a:Int)(t:Tok)(c:Int)(u:Tok):∃e,SeqAt.EqAt A s (.int a t) (.int c u) e/\(e=true↔a=c) :=
 ⟨(a==c),SeqAt.EqAt.int_int a t c u,by simp⟩
theorem Ed(A:Around)(s:Shared)(a:Int)(t:Tok)(c:Int)(u:Tok)(prog:Program)(w:World)(E:Value->Shared->Prop)(Q:Value->Shared->Prop)(h:Q (.bool (decide (a<c))) s) :
  wpAny #[26] A (richCompare .Lt (.int a t) (.int c u)) Q E s :=
 (PyProof.Rows.lt_int h:wpAny #[26] A (compareOp .Lt (.int a t) (.int c u)) Q E s)
section
open PySem.SeqAt
open PySem.AutoSeq1 (wpAny_loadPart')
open PySem.MeetsSeq PySem.MeetsSeq2 PySem.MeetsSeq3
theorem si(l b:Addr)(items f:Array Value)(n n2:Nat)(dd D:Option Addr)(I E:Array (Option Value))(ns ms:List Int)(hi:IntsAre items.toList ns)(H:IntsAre f.toList ms) :
  Meets (Builtin.«tuple.__lt__» ⟨[.ref l,.ref b],[]⟩)
   (λ_ R s=>s.heap.get? l=some { cls:=.type "tuple",dict:=dd,data:=.seq items n,slots:=I }/\s.heap.get? b=some { cls:=.type "tuple",dict:=D,data:=.seq f n2,slots:=E } /\
    R (.ok (.ret (.bool (lexLt ns ms)))) s) :=
 .of_wp λprog w A R s h=>by
  obtain⟨C,g,d,tk,os⟩:=s;obtain⟨hl,J,h⟩:=h;have f2:=AutoSeq1.sub_tuple_tuple;have z1:items.size=ns.length:=by rw[<-hi.length];simp
  have z2:f.size=ms.length:=by rw[<-H.length];simp
  wp_walk using wpAny_loadPart' hl,wpAny_loadPart' J,wpAny_forIn_list _ (λrest b s'=>b.1=none/\s'=⟨C,g,d,tk,os⟩/\∃(vs ws:List Value)(i j:List Int),rest=vs.zip ws /\
   IntsAre vs i/\IntsAre ws j/\i.length+f.size=j.length+items.size/\R (.ok (.ret (.bool (lexLt i j)))) ⟨C,g,d,tk,os⟩) _
  case turn =>
   rintro⟨y,x⟩ rest b s' ⟨v,rfl,vs,ws,i,j,m,z,o,hlen,p⟩
   cases z with
   |nil=>rw[List.zip_nil_left]at m;cases m
   |cons a t hvi' =>
    cases o with
    |nil=>rw[List.zip_nil_right]at m;cases m
    |cons c u hwi' =>
     rw[Ou]at m;injection m with F B
     injection F with K L
     subst K L;rw[rh]at p;simp only[MW]at hlen;obtain⟨e,M,r⟩:=Ck A.in1 ⟨C,g,d,tk,os⟩ a t c u;refine wpAny_bind (M prog w _ _ ?_);cases e with
     |true =>
      rw[if_pos (r.mp rfl)]at p
      wp_walk
      exact⟨rfl,rfl,_,_,_,_,B,hvi',hwi',by omega,p⟩
     |false =>
      rw[if_neg (λq=>absurd (r.mpr q) MQ)]at p;have G:=Ed A.in1 ⟨C,g,d,tk,os⟩ a t c u prog w
      wp_walk using G
      exact⟨_,rfl,by simpa using p⟩
  case fin =>
   rintro⟨b1,b2⟩ s' ⟨v,rfl,vs,ws,i,j,m,z,o,hlen,p⟩
   simp only at v;subst v;have hv:lexLt i j=decide (items.size<f.size):=by
    cases z with
    |nil =>
     cases o with
     |nil =>simp only[NI]at hlen;rw[ll];exact (decide_eq_false (by omega)).symm
     |cons c u hw =>simp only[NI,MW]at hlen;rw[qD];exact (decide_eq_true (by omega)).symm
    |cons a t hv =>
     cases o with
     |nil =>simp only[NI,MW]at hlen;rw[qN];exact (decide_eq_false (by omega)).symm
     |cons c u hw =>rw[Ou]at m;cases m
   rw[hv]at p
   wp_walk
   exact⟨_,rfl,by simpa[Builtin.Tuple.tupleCompareSizes] using p⟩
  case h =>exact⟨rfl,rfl,items.toList,f.toList,ns,ms,rfl,hi,H,by omega,h⟩
end
section
variable {A:Around}
theorem yC{l:Addr}{a:Array Value}{ms:List Int}(hl:IsTup s.heap l items)(j:IsTup s.heap b a)(hi:IntsAre items.toList ns)(m:IntsAre a.toList ms)
  (o:A.units<cLine) (h:Q (.bool (lexLt ns ms)) s):wpAny #[26] A (compareOp .Lt (.ref l) (.ref b)) Q E s:=by
 obtain⟨⟨cls,dd,data,p⟩,i,hc,n,hd⟩:=id hl;obtain⟨⟨cls2,f,data2,g⟩,c,e,n2,hd2⟩:=id j;simp only at hc hd e hd2;subst hc hd e hd2;exact richCompare_meets_room (op:=.Lt) ⟨_,i,rfl⟩ ⟨_,c,rfl⟩ PySem.F.slot_tuple_lt PySem.F.entry_tuple_lt (PySem.F.args_tuple_lt_2 _ _) (si l b items a n n2 dd f p g ns ms hi m)
  ⟨i,c,show Value.bool (lexLt ns ms)≠Value.notImplemented/\Q (.bool (lexLt ns ms)) s from⟨(λx=>nomatch x),h⟩⟩ o
theorem GP{t:Addr}{vs ws:List Value}(j:IsTup s.heap t vs.toArray)(l:IsTup s.heap b ws.toArray)(hv:vs≠[])
  (h1:ws=[]->Q (.ref t) s) (h2:ws≠[]->Q (.ref s.heap.objs.size) { s with heap:=s.heap.push { cls:=.type "tuple",data:=.seq (vs++ws).toArray } })
  (hsz:vs.length+ws.length<=sizeLine):wpAny #[26] A (binaryOp .Add (.ref t) (.ref b)) Q E s:=by
 obtain⟨⟨cls,dd,data,i⟩,h,hc,n,hd⟩:=id j;obtain⟨⟨cls2,c,data2,f⟩,a,g,n2,hd2⟩:=id l;simp only at hc hd g hd2;subst hc hd g hd2;have e:vs.toArray++ws.toArray=(vs++ws).toArray:=by simp
 by_cases hw:ws=[]
 ·exact concat_meets ⟨_,h,rfl⟩ ⟨_,a,rfl⟩ noFill_tuple_add seq_tuple_add PySem.F.slot_tuple_add PySem.F.entry_tuple_add (PySem.F.args_tuple_add_2 _ _)
   (tuple_addW1 t b vs.toArray ws.toArray n n2 dd c i f (by simpa using hv) (by simp[hw])) ⟨h,a,h1 hw⟩
 ·refine concat_meets ⟨_,h,rfl⟩ ⟨_,a,rfl⟩ noFill_tuple_add seq_tuple_add PySem.F.slot_tuple_add PySem.F.entry_tuple_add (PySem.F.args_tuple_add_2 _ _)
   (tuple_addW2 t b vs.toArray ws.toArray n n2 dd c i f (by simpa using hv) (by simpa using hw) (by rw[MO,MO];exact hsz)) ⟨h,a,?_⟩
  rw[e];exact h2 hw
noncomputable def sIx(n d:Nat):Option Int->Nat
 |none=>d
 |some v=>if v<0 then (v+(n:Int)).toNat else min v.toNat n
theorem pF(n d k:Nat):sIx n d (some (k:Int))=min k n:=by show (if (k:Int)<0 then ((k:Int)+(n:Int)).toNat else min (k:Int).toNat n)=min k n;rw[if_neg (by omega),N7]
theorem Jk(n d:Nat)(hd:d<=n)(o:Option Int):sIx n d o<=n:=by
 cases o with
 |none=>exact hd
 |some v =>
  show (if v<0 then (v+(n:Int)).toNat else min v.toNat n)<=n;by_cases hv:v<0
  ·rw[if_pos hv];omega
  ·rw[if_neg hv];exact Nat.min_le_right _ _
theorem As(v:Int)(n d:Nat):(if v<0 then max (v+(n:Int)) 0 else min v (n:Int))=((sIx n d (some v):Nat):Int):=by
 show (if v<0 then max (v+(n:Int)) 0 else min v (n:Int))=(((if v<0 then (v+(n:Int)).toNat else min v.toNat n):Nat):Int)
 by_cases hv:v<0
 ·simp only[if_pos hv];omega
 ·simp only[if_neg hv];omega
theorem xN(lo hi:Option Int)(n:Nat):Builtin.Slice.sliceAdjust lo hi 1 (n:Int)=(((sIx n 0 lo:Nat):Int),((sIx n n hi:Nat):Int)):=by
 have h1:¬ ((1:Int)<0):=by omega
 unfold Builtin.Slice.sliceAdjust;simp only[h1,if_false];refine Prod.ext ?_ ?_
 ·cases lo with
  |none=>rfl
  |some v=>exact As v n 0
 ·cases hi with
  |none=>rfl
  |some v=>exact As v n n
theorem xH(i j:Nat):Builtin.Slice.slicePlaces (i:Int) (j:Int) 1=j-i:=by
 unfold Builtin.Slice.slicePlaces;have h1:(1:Int)>0:=by omega
 simp only[h1,if_true,Int.ediv_one];split <;> omega
theorem rg{v:Value}{o:Option Int}{Q:Option Int->Shared->Prop}(p:IsPart v o)(h:Q o s):wpAny #[26] A (Builtin.Slice.slicePartIndex v) Q E s:=by
 cases p with
 |none=>exact slicePart_none h
 |int i t=>exact slicePart_int h
theorem ja{c e:Value}{Q:Int×Int×Nat->Shared->Prop}(g:s.heap.IsSliceOf f c e .none)(pl:IsPart c lo)(i:IsPart e hi)
  (h:Q (((sIx n 0 lo:Nat):Int),1,sIx n n hi-sIx n 0 lo) s):wpAny #[26] A (Builtin.Slice.sliceApplied (.ref f) (pure (n:Int))) Q E s:=by
 obtain⟨os,a,hcs,b⟩:=id g;unfold Builtin.Slice.sliceApplied Builtin.Slice.sliceFields;refine wpAny_bind (wpAny_bind (wpAny_field a b (x:=c) rfl (wpAny_bind (wpAny_field a b (x:=e) rfl (wpAny_bind (wpAny_field a b (x:=.none) rfl (wpAny_pure ?_)))))));refine wpAny_bind (slicePart_none ?_);show wpAny _ _ (if ((1:Int)==0)=true then _ else _) _ _ s;rw[if_neg #[2]];refine wpAny_bind (rg pl (wpAny_bind (rg i (wpAny_bind (wpAny_pure ?_)))));show wpAny _ _ (match Builtin.Slice.sliceAdjust lo hi 1 (n:Int) with|(lo,hi)=>pure (lo,(1:Int),Builtin.Slice.slicePlaces lo hi 1)) _ _ s;rw[xN lo hi n];show wpAny _ _ (pure (((sIx n 0 lo:Nat):Int),(1:Int),Builtin.Slice.slicePlaces ((sIx n 0 lo:Nat):Int) ((sIx n n hi:Nat):Int) 1)) _ _ s;rw[xH];exact wpAny_pure h
theorem D5(xs:Array Value)(i k:Nat):((List.range k).filterMap λ(m:Nat)=>xs[((i:Int)+(m:Int)*1).toNat]?).toArray=((xs.toList.drop i).take k).toArray:=by
 have e:(λ(m:Nat)=>xs[((i:Int)+(m:Int)*1).toNat]?)=λm=>xs[i+m]?:=by
  funext m;have:((i:Int)+(m:Int)*1).toNat=i+m:=by omega
  rw[this]
 rw[e];have:=pick_run xs i k;rw[List.filterMap_map]at this;have e2:((λx=>xs[x]?)∘λx=>i+x)=λm=>xs[i+m]?:=rfl
 rw[e2]at this;rw[this]
theorem mQ{t:Addr}{j l:Value}(b:IsTup s.heap t items)(n:s.heap.IsSliceOf c j l .none)(pl:IsPart j lo)(o:IsPart l hi)
  (hw:¬ (sIx items.size 0 lo=0/\sIx items.size items.size hi=items.size))
  (h:Q (.ref s.heap.objs.size) { s with heap:=s.heap.push { cls:=.type "tuple",data:=.seq ((items.toList.drop (sIx items.size 0 lo)).take (sIx items.size items.size hi-sIx items.size 0 lo)).toArray } })
  (hsz:items.size<=sizeLine):wpAny #[26] A (getItem (.ref t) (.ref c)) Q E s:=by
 have a:sizeOk (.seq ((items.toList.drop (sIx items.size 0 lo)).take (sIx items.size items.size hi-sIx items.size 0 lo)).toArray):=by show ((items.toList.drop (sIx items.size 0 lo)).take (sIx items.size items.size hi-sIx items.size 0 lo)).toArray.size<=sizeLine;rw[MO,Of,NW,NJ];omega
 have hj:sIx items.size items.size hi<=items.size:=Jk _ _ (My _) hi;obtain⟨os,e,f,hds⟩:=id n;have g:s.TypeIs (.ref c) "slice":=⟨os,e,f⟩
 unfold getItem
 try with_reducible refine wpAny_holding ?_
 first|refine wpAny_bind (wpAny_pure ?_)|skip
 refine wpAny_bind (wpAny_sequenceKey b.typeIs #[2] ?_);refine wpAny_bind (wpAny_callSpecial?_slot (name:=Str.ofString "__getitem__") b.typeIs PyProof.Rows.slot_tuple_getitem
  (wpAny_call_entry PyProof.Rows.slot_tuple_getitem b.typeIs entry_tuple_getitem ?_ (args_tuple_getitem _ _)))
 show wpAny _ _ (Builtin.Tuple.tupleItemsOf (.ref t) >>= _) _ _ s;refine wpAny_bind (tupleItemsOf_ b ?_);refine wpAny_bind (wpAny_typeOf g ?_);rw[if_pos #[2]];refine wpAny_bind (ja n pl o ?_);have i:¬ ((((sIx items.size 0 lo:Nat):Int)==0&&(1:Int)==1&&(sIx items.size items.size hi-sIx items.size 0 lo)==items.size)=true):=by intro q;rw[M9,M9]at q;have q1:((sIx items.size 0 lo:Nat):Int)=0:=eq_of_beq q.1.1;have q2:sIx items.size items.size hi-sIx items.size 0 lo=items.size:=eq_of_beq q.2;exact hw ⟨by omega,by omega⟩
 show wpAny _ _ (if (((sIx items.size 0 lo:Nat):Int)==0&&(1:Int)==1&&(sIx items.size items.size hi-sIx items.size 0 lo)==items.size)=true then _ else _) _ _ s;rw[if_neg i,D5]
 first
  |exact wpAny_bind (m:=Builtin.Tuple.tupleExact _) (wpAny_newObj_type (wpAny_pure ⟨_,rfl,wpAny_pure h⟩) a)
  |exact wpAny_bind (m:=Builtin.Tuple.tupleExact _) (wpAny_newObj_type (wpAny_bind (wpAny_pure (wpAny_pure ⟨_,rfl,wpAny_pure h⟩))) a)
  |exact wpAny_bind (wpAny_bind (m:=Builtin.Tuple.tupleExact _) (wpAny_newObj_type (wpAny_pure (wpAny_pure ⟨_,rfl,wpAny_pure h⟩)) a))
  |exact wpAny_bind (wpAny_bind (m:=Builtin.Tuple.tupleExact _) (wpAny_newObj_type (wpAny_pure ⟨_,rfl,wpAny_pure h⟩) a))
end
end HT
namespace L2
open PySem PySem.Spec PyProof.Rows
variable {a:List Value}
abbrev TO:=St->Hp->(Option Int->Hp->Prop)->Prop
def PO(X:Cx)(e:Option Expr)(t:TO):Prop :=
 ∀(pins:List (Addr×Obj))(s:Shared)(σ:St)(H:Hp)(Q:Option Int->Hp->Prop),Inv X pins σ H s->t σ H Q ->
  wpAny #[4] X.A (evalPart e X.env) (λu s'=>∃o H',Inv X pins σ H' s'/\IsPart u o/\Q o H') X.xe s
def FW:TO:=λ_ H Q=>Q none H
def LS(t:TE):TO:=λσ H Q=>t σ H λx H1=>∃i,x=.int i/\Q (some i) H1
theorem intsAre_of:∀{us:List Value},Vals (ns.map V.int) us->IntsAre us ns:=by
 induction ns with
 |nil=>intro us r;rw[Nw]at r;cases r;exact .nil
 |cons n ns ih =>
  intro us r;rw[M5]at r;cases r with
  |cons r1 r2 =>obtain⟨t,e⟩:=r1;subst e;exact .cons n t (ih r2)
section
variable {te:TE}{lo hi:Option Expr}{tl th:TO}{p2:Pos}
theorem Ga:PO X none FW:=by intro pins s σ H Q I h;rw[evalPart_none];exact wpAny_pure ⟨none,H,I,.none,h⟩
theorem FT(h:PE X e te):PO X (some e) (LS te):=by
 intro pins s σ H Q I hw;rw[evalPart_some];refine thn (h pins s σ H _ I hw) λu s1 a=>?_
 obtain⟨x,H1,b,c,f⟩:=a;obtain⟨i,rfl,q⟩:=f;obtain⟨t,rfl⟩:=c;exact⟨some i,H1,b,.int i t,q⟩
def SlR(X:Cx)(r:V->Option Int->Option Int->Hp->VK->Prop):Prop :=
 ∀(pins:List (Addr×Obj))(s:Shared)(σ:St)(H:Hp)(x:V)(v a b:Value)(lo hi:Option Int)(c:Addr)(Q:VK),Inv X pins σ H s->RelV x v->s.heap.IsSliceOf c a b .none->IsPart a lo->IsPart b hi->r x lo hi H Q ->
  ∃T id,typeLookup (.type T) "__getitem__"=pure (some (.builtin id))/\s.TypeIs v T/\wpAny #[4] X.A (getItem v (.ref c)) (EP X pins σ Q) X.xe s
theorem SlR.or{a:V->Option Int->Option Int->Hp->VK->Prop}(h:SlR X r)(h':SlR X a):SlR X (λx lo hi H Q=>r x lo hi H Q\/a x lo hi H Q):=by
 intro pins s σ H x v b c lo hi e Q I f g pl i q;rcases q with q|q
 ·exact h pins s σ H x v b c lo hi e Q I f g pl i q
 ·exact h' pins s σ H x v b c lo hi e Q I f g pl i q
def tSl(r:V->Option Int->Option Int->Hp->VK->Prop)(te:TE)(tl th:TO):TE:=λσ H Q=>te σ H λx H1=>tl σ H1 λl H2=>th σ H2 λu a=>r x l u a Q
theorem CD(j:SlR X r)(m:PE X e te)(hl:PO X lo tl)(n:PO X hi th):PE X (.Subscript e (.Slice lo hi none p2) pos) (tSl r te tl th):=by
 intro pins s σ H Q I h;refine Subscript_ (thn (m pins s σ H _ I h) λv o a=>?_);obtain⟨x,H1,p,t,y⟩:=a;refine wpAny_Slice (thn (hl pins o σ H1 _ p y) λf s2 a=>?_);obtain⟨l,H2,z,pl,B⟩:=a;refine thn (n pins s2 σ H2 _ z B) λg c a=>?_
 obtain⟨u,i,C,D,E⟩:=a;rw[evalPart_none];refine wpAny_pure ?_;have F:Inv X pins σ i { c with heap:=c.heap.push { cls:=.type "slice",data:=.fields #[f,g,.none] } }:=C.kept (t':=c.toks) λb ob q=>M4 _ q
 obtain⟨T,id,G,J,K⟩:=j pins { c with heap:=c.heap.push { cls:=.type "slice",data:=.fields #[f,g,.none] } } σ i x v f g l u c.heap.objs.size Q F t (Heap.IsSliceOf.new ..) pl D E;show wpAny #[4] X.A (subscriptTail e (.Slice lo hi none p2) v (.ref c.heap.objs.size)) (EP X pins σ Q) X.xe { c with heap:=c.heap.push { cls:=.type "slice",data:=.fields #[f,g,.none] } };exact tail_any (ops:=[.ref c.heap.objs.size,v]) J G K (by with_unfolding_all rfl)
def vM(xs:List V)(lo hi:Option Int):List V:=(xs.drop (HT.sIx xs.length 0 lo)).take (HT.sIx xs.length xs.length hi-HT.sIx xs.length 0 lo)
theorem oO(xs:List V)(lo hi:Option Int):(vM xs lo hi).length<=xs.length:=by unfold vM;rw[Of,NW];omega
def Ms(K:W.Frag):V->Option Int->Option Int->Hp->VK->Prop:=λx lo hi H Q=>∃a xs,x=.ref a/\SqT K H a xs /\
 ¬ (HT.sIx xs.length 0 lo=0/\HT.sIx xs.length xs.length hi=xs.length)/\∀p,H p=none->Q (.ref p) (upd H p (.tup (vM xs lo hi)))
theorem HX:SlR X (Ms X.K):=by
 intro pins s σ H x v vl vu lo hi sl Q I g i pl j h;obtain⟨a,xs,rfl,l,hw,q⟩:=h;cases g;obtain⟨c,r,e,f⟩:=I.tuple l;have hlen:c.toArray.size=xs.length:=by rw[MO];exact r.length.symm
 refine⟨"tuple",_,PyProof.Rows.slot_tuple_getitem.lookup,e.typeIs,?_⟩;refine HT.mQ e i pl j (by rw[hlen];exact hw) ?_ (by rw[hlen];exact f);rw[hlen];refine⟨.ref s.heap.objs.size,_,I.laid (t':=s.toks) (o:=.tup (vM xs lo hi)) (λb ob q=>M4 _ q) (My _) ?_,rfl,q _ (I.hok.fresh (My _))⟩;exact⟨Nq (oO xs lo hi) f,_,(r.drop (HT.sIx xs.length 0 lo)).take (HT.sIx xs.length xs.length hi-HT.sIx xs.length 0 lo),uW.new _ _⟩
def Mu(K:W.Frag):R2:=λx y H Q=>∃a b ns ms,x=.ref a/\y=.ref b/\SqT K H a (ns.map V.int)/\SqT K H b (ms.map V.int)/\Q (.bl (HT.lexLt ns ms)) H
theorem Ih(f:X.A.units<cLine):OpR X (compareOp .Lt) (Mu X.K):=by intro pins s σ H x y v u Q I g i h;obtain⟨a,b,ns,ms,rfl,rfl,ha,j,q⟩:=h;cases g;cases i;obtain⟨e,l,p1,_⟩:=I.tuple ha;obtain⟨c,m,p2,_⟩:=I.tuple j;have i1:IntsAre e.toArray.toList ns:=intsAre_of l;have i2:IntsAre c.toArray.toList ms:=intsAre_of m;exact HT.yC p1 p2 i1 i2 f ⟨.bl (HT.lexLt ns ms),H,I,rfl,q⟩
def LK(K:W.Frag):R2:=λx y H Q=>∃a b xs ys,x=.ref a/\y=.ref b/\SqT K H a xs/\SqT K H b ys/\xs≠[]/\xs.length+ys.length<=sizeLine /\
 (ys=[]->Q (.ref a) H)/\(ys≠[]->∀p,H p=none->Q (.ref p) (upd H p (.tup (xs++ys))))
theorem Vals.nil_iff(r:Vals xs us):us=[]↔xs=[]:=by
 cases r with
 |nil=>simp
 |cons _ _=>simp
theorem F5:OpR X (binaryOp .Add) (LK X.K):=by intro pins s σ H x y v u Q I g i h;obtain⟨a,b,xs,ys,rfl,rfl,ha,j,l,f,m,n⟩:=h;cases g;cases i;obtain⟨its,e,p1,_⟩:=I.tuple ha;obtain⟨its2,c,p2,_⟩:=I.tuple j;refine HT.GP p1 p2 (λz=>l (e.nil_iff.mp z)) (λz=>⟨.ref a,H,I,rfl,m (c.nil_iff.mp z)⟩) (λz=>?_) (by rw[<-e.length,<-c.length];exact f);refine⟨.ref s.heap.objs.size,_,I.laid (t':=s.toks) (o:=.tup (xs++ys)) (λb ob q=>M4 _ q) (My _) ?_,rfl,n (λw=>z (c.nil_iff.mpr w)) _ (I.hok.fresh (My _))⟩;exact⟨by rw[MN];exact f,_,e.append c,uW.new _ _⟩
end
def ixN(n:Nat)(i:Int):Option Nat:=if 0<=i then (if i<n then some i.toNat else none) else if -(n:Int)<=i then some (i+n).toNat else none
def atI{α:Type}(xs:List α)(i:Int):Option α:=(ixN xs.length i).bind λj=>xs[j]?
theorem u6{i:Int}(h:ixN n i=some j):seqIndex? i n=some j/\j<n/\-(n:Int)<=i/\i<n:=by
 unfold ixN at h;by_cases h0:0<=i
 ·rw[if_pos h0]at h;by_cases h1:i<n
  ·rw[if_pos h1]at h;have e:i.toNat=j:=Option.some.inj h;exact⟨by rw[seqIndex_of h0 h1,e],by omega,by omega,h1⟩
  ·rw[if_neg h1]at h;cases h
 ·rw[if_neg h0]at h;by_cases h1:-(n:Int)<=i
  ·rw[if_pos h1]at h;have e:(i+n).toNat=j:=Option.some.inj h;exact⟨by rw[seqIndex_neg (by omega) h1,e],by omega,h1,by omega⟩
  ·rw[if_neg h1]at h;cases h
theorem zw{xs:List α}{i:Int}{v:α}(h:atI xs i=some v):∃j,seqIndex? i xs.length=some j/\xs[j]?=some v/\j<xs.length/\-(xs.length:Int)<=i/\i<xs.length:=by
 unfold atI at h;cases e:ixN xs.length i with
 |none=>rw[e]at h;cases h
 |some j =>rw[e]at h;obtain⟨h1,h2,h3,a⟩:=u6 e;exact⟨j,h1,h,h2,h3,a⟩
theorem pC{xs:List α}{v:α}(h:xs[j]?=some v):atI xs (j:Int)=some v:=by
 have hj:j<xs.length:=(N0.mp h).1;have e:ixN xs.length (j:Int)=some j:=by unfold ixN;rw[if_pos (by omega),if_pos (by omega)];simp
 unfold atI;rw[e];exact h
def zZ(b:Expr):Prop:=∀o i,subscripted b false o i=operate [o,i] (getItem o i)
def IxR(X:Cx)(r:R2):Prop :=
 ∀(value slice:Expr)(pins:List (Addr×Obj))(s:Shared)(σ:St)(H:Hp)(x y:V)(v u:Value)(Q:VK),Inv X pins σ H s->RelV x v->RelV y u->r x y H Q ->
  subscripted slice false v u=operate [v,u] (getItem v u)->wpAny #[4] X.A (subscriptTail value slice v u) (EP X pins σ Q) X.xe s
def MtR(X:Cx)(id:String)(r:V->List V->Hp->VK->Prop):Prop :=
 ∀(pins:List (Addr×Obj))(s:Shared)(σ:St)(H:Hp)(x:V)(xs:List V)(v:Value)(us:List Value)(Q:VK),Inv X pins σ H s->RelV x v->Vals xs us->r x xs H Q ->
  wpAny #[4] X.A (call (.builtin id) (v::us)) (EP X pins σ Q) X.xe s
section
variable {a b:Expr}{ta tb:TE}
theorem IxR.or{r a:R2}(h:IxR X r)(h':IxR X a):IxR X (λx y H Q=>r x y H Q\/a x y H Q):=by
 intro value slice pins s σ H x y v u Q I b c q e;rcases q with q|q
 ·exact h value slice pins s σ H x y v u Q I b c q e
 ·exact h' value slice pins s σ H x y v u Q I b c q e
theorem B4{r:R2}(c:IxR X r)(ha:PE X a ta)(e:PE X b tb)(f:zZ b):PE X (.Subscript a b pos) (tOp r ta tb):=by intro pins s σ H Q I h;exact Subscript_ (Ja ha e I h λv u s2 x y H2 g i j q=>c a b pins s2 σ H2 x y v u Q g i j q (f _ _))
def Lz(K:W.Frag):R2:=λx y H Q=>∃p xs i v,x=.ref p/\y=.int i/\SqL K H p xs/\atI xs i=some v/\Q v H
def LD(K:W.Frag):R2:=λx y H Q=>∃p xs i v,x=.ref p/\y=.int i/\SqT K H p xs/\atI xs i=some v/\Q v H
theorem u9:IxR X (Lz X.K):=by
 intro value slice pins s σ H x y v u Q I g l h e;obtain⟨p,xs,i,z,rfl,rfl,m,n,q⟩:=h;cases g;obtain⟨t,rfl⟩:=l;obtain⟨a,r,pl,hz⟩:=I.list m;obtain⟨j,h1,h2,h3,o,A⟩:=zw n;obtain⟨w,f,b⟩:=r.get h2;have hl:=r.length;have hn:=uP;have fin:EP X pins σ Q w s:=⟨z,H,I,b,q⟩
 by_cases h0:0<=i
 ·have c:i.toNat=j:=by rw[seqIndex_of h0 A]at h1;exact Option.some.inj h1
  exact item_listR pl.isList h0 (by omega) (by rw[c];simpa using f) fin e
 ·have c:(i+(a.toArray.size:Int)).toNat=j:=by rw[seqIndex_neg (by omega) o]at h1;rw[MO,<-hl];exact Option.some.inj h1
  exact subscriptTail_builtinR (x:=w) pl.isList.typeIs slot_list_getitem.lookup
   (wpAny_getItem_list_neg (Q:=λr s'=>r=w/\EP X pins σ Q r s') pl.isList (by omega) (by rw[MO] <;> omega) (by omega) (by rw[c];simpa using f) ⟨rfl,fin⟩) e
theorem Jg:IxR X (LD X.K):=by
 intro value slice pins s σ H x y v u Q I b c h e;obtain⟨p,xs,i,z,rfl,rfl,f,g,q⟩:=h;cases b;obtain⟨t,rfl⟩:=c;obtain⟨its,r,pl,hz⟩:=I.tuple f;obtain⟨j,h1,h2,h3,h4,h5⟩:=zw g;obtain⟨w,l,a⟩:=r.get h2;have hl:=r.length;have hn:=uP;have fin:EP X pins σ Q w s:=⟨z,H,I,a,q⟩
 exact subscriptTail_builtinR (x:=w) pl.typeIs slot_tuple_getitem.lookup
  (getItem_tuple (j:=j) (Q:=λr s'=>r=w/\EP X pins σ Q r s') pl (by omega) (by omega) (by rw[MO,<-hl];exact h1) (by simpa using l) ⟨rfl,fin⟩) e
theorem xS(a:List Value)(n j:Nat)(u:Value):Obj.mapSeq (·.setIfInBounds j u) { cls:=.type "list",data:=.seq a.toArray n }={ cls:=.type "list",data:=.seq (a.set j u).toArray n }:=by simp[Obj.mapSeq]
theorem Inv.lst{p:Addr}(I:Inv X pins σ H s)(h:H p=some (.lst xs)) :
  ∃(a:List Value)(n:Nat),Vals xs a/\s.heap.get? p=some { cls:=.type "list",data:=.seq a.toArray n }/\xs.length<=sizeLine:=by
 obtain⟨z,a,n,r,e⟩:=I.hok p _ h;exact⟨a,n,r,e,z⟩
theorem Inv.lstUpd{p:Addr}{a:List Value}{n':Nat}{f:Obj->Obj}(I:Inv X pins σ H s)(h:H p=some (.lst xs))
  (g:s.heap.get? p=some { cls:=.type "list",data:=.seq a.toArray n }) (c:f { cls:=.type "list",data:=.seq a.toArray n }={ cls:=.type "list",data:=.seq its'.toArray n' }) (r:Vals ys its') (i:ys.length<=sizeLine) (t:Nat) :
  Inv X pins σ (upd H p (.lst ys)) { s with heap:=s.heap.update p f,toks:=t }:=by
 have e:(s.heap.update p f).get? p=some { cls:=.type "list",data:=.seq its'.toArray n' }:=by rw[Heap.get?_update_self f g (by rw[c] <;> rfl),c]
 refine I.write (x:=p) (e:=p) (by rw[h];trivial) (.inl rfl) (λb u j q=>(OC _ _ (Ne.symm j)).trans q) ⟨_,e⟩ ?_;exact⟨i,its',n',r,e⟩
def Lv:V->V->V->Hp->(Hp->Prop)->Prop:=λo i v H Q=>∃p xs k j,o=.ref p/\i=.int k/\H p=some (.lst xs)/\ixN xs.length k=some j/\Q (upd H p (.lst (xs.set j v)))
theorem set_list:K7 X Lv:=by
 intro pins s σ H o i v ov iv u Q I l m w h;obtain⟨p,xs,k,j,rfl,rfl,e,x,q⟩:=h;cases l;obtain⟨t,rfl⟩:=m;obtain⟨a,n,r,b,y⟩:=I.lst e;obtain⟨h1,h2,h3,f⟩:=u6 x;have hl:=r.length;have hn:=uP;have g:Inv X pins σ (upd H p (.lst (xs.set j v))) { s with heap:=s.heap.update p (Obj.mapSeq (·.setIfInBounds j u)) } :=
  I.lstUpd e b (xS a n j u) (r.set w j) (by rw[List.length_set];exact y) s.toks
 by_cases h0:0<=k
 ·have c:k.toNat=j:=by rw[seqIndex_of h0 f]at h1;exact Option.some.inj h1
  exact W.ki_setAt b h0 (by omega) (by rw[MO,<-hl];exact f) (by rw[c];exact⟨_,g,q⟩)
 ·have c:(k+(a.toArray.size:Int)).toNat=j:=by rw[seqIndex_neg (by omega) h3]at h1;rw[MO,<-hl];exact Option.some.inj h1
  exact W.ki_setBack b (by omega) (by rw[MO,<-hl];exact h3) (by omega) (by rw[c];exact⟨_,g,q⟩)
theorem uv(lo hi:Option Int)(n:Nat):(sliceBounds lo hi none n).1=((HT.sIx n 0 lo:Nat):Int)/\(sliceBounds lo hi none n).2.1=((HT.sIx n n hi:Nat):Int)/\(sliceBounds lo hi none n).2.2=1:=by
 refine⟨?_,?_,rfl⟩
 ·cases lo with
  |none=>simp[sliceBounds,HT.sIx]
  |some i =>
   simp only[sliceBounds,HT.sIx,Option.getD_none,show (1:Int)>0 by decide,if_true];by_cases h:i<0
   ·simp only[h,if_true] <;> omega
   ·simp only[h,if_false] <;> omega
 ·cases hi with
  |none=>simp[sliceBounds,HT.sIx]
  |some i =>
   simp only[sliceBounds,HT.sIx,Option.getD_none,show (1:Int)>0 by decide,if_true];by_cases h:i<0
   ·simp only[h,if_true] <;> omega
   ·simp only[h,if_false] <;> omega
theorem sr(a:List Value)(lo hi:Option Int):slicePick a.toArray lo hi none=((a.drop (HT.sIx a.length 0 lo)).take (HT.sIx a.length a.length hi-HT.sIx a.length 0 lo)).toArray:=by obtain⟨h1,h2,h3⟩:=uv lo hi a.toArray.size;unfold slicePick;rw[h1,h2,h3];simp only[sliceRange_one,pick_run,MO] <;> rfl
def L3(K:W.Frag):V->Option Int->Option Int->Hp->VK->Prop:=λx lo hi H Q=>∃a xs,x=.ref a/\SqL K H a xs/\∀p,H p=none->Q (.ref p) (upd H p (.lst (vM xs lo hi)))
theorem GG:SlR X (L3 X.K):=by intro pins s σ H x v vl vu lo hi sl Q I e f pl g h;obtain⟨a,xs,rfl,i,q⟩:=h;cases e;obtain⟨its,r,c,j⟩:=I.list i;have hlen:=r.length;refine⟨"list",_,slot_list_getitem.lookup,c.isList.typeIs,?_⟩;refine wpAny_getItem_list_slice c.isList f pl g .none (by simp) ?_ (by rw[MO] <;> omega);rw[sr,<-hlen];refine⟨.ref s.heap.objs.size,_,I.laid (t':=s.toks) (o:=.lst (vM xs lo hi)) (λb ob q=>M4 _ q) (My _) ?_,rfl,q _ (I.hok.fresh (My _))⟩;exact⟨Nq (oO xs lo hi) j,_,0,(r.drop (HT.sIx xs.length 0 lo)).take (HT.sIx xs.length xs.length hi-HT.sIx xs.length 0 lo),MU _ rfl⟩
def jS:V->Bool
 |.non=>true
 |.bl _=>true
 |.int _=>true
 |.str _=>true
 |_=>false
noncomputable def eqV:V->V->Bool
 |.non,.non=>true
 |.bl a,.bl b=>a==b
 |.bl a,.int b=>(if a then 1 else 0)==b
 |.int a,.bl b=>a==(if b then 1 else 0)
 |.int a,.int b=>a==b
 |.str a,.str b=>a==b
 |_,_=>false
theorem Ip{A:Around}{x:V}{v:Value}(e:RelV y u)(c:RelV x v)(g:jS y=true)(f:jS x=true):SeqAt.EqAt A s u v (eqV y x):=by
 cases y with
 |non =>
  cases e;cases x with
  |non=>cases c;exact SeqAt.EqAt.same _
  |bl b=>cases c;exact SeqAt.EqAt.none_bool b
  |int b=>obtain⟨t,rfl⟩:=c;exact SeqAt.EqAt.none_int b t
  |str b=>obtain⟨t,rfl⟩:=c;exact SeqAt.EqAt.none_str b t
  |_=>exact absurd (show false=true from f) MQ
 |bl a =>
  cases e;cases x with
  |non=>cases c;exact SeqAt.EqAt.bool_none a
  |bl b=>cases c;exact SeqAt.EqAt.bool_bool a b
  |int b=>obtain⟨t,rfl⟩:=c;exact SeqAt.EqAt.bool_int a b t
  |str b=>obtain⟨t,rfl⟩:=c;exact SeqAt.EqAt.bool_str a b t
  |_=>exact absurd (show false=true from f) MQ
 |int a =>
  obtain⟨t',rfl⟩:=e;cases x with
  |non=>cases c;exact SeqAt.EqAt.int_none a t'
  |bl b=>cases c;exact SeqAt.EqAt.int_bool a t' b
  |int b=>obtain⟨t,rfl⟩:=c;exact SeqAt.EqAt.int_int a t' b t
  |str b=>obtain⟨t,rfl⟩:=c;exact SeqAt.EqAt.int_str a t' b t
  |_=>exact absurd (show false=true from f) MQ
 |str a =>
  obtain⟨t',rfl⟩:=e;cases x with
  |non=>cases c;exact SeqAt.EqAt.str_none a t'
  |bl b=>cases c;exact SeqAt.EqAt.str_bool a t' b
  |int b=>obtain⟨t,rfl⟩:=c;exact SeqAt.EqAt.str_int a t' b t
  |str b=>obtain⟨t,rfl⟩:=c;exact SeqAt.EqAt.str_str a t' b t
  |_=>exact absurd (show false=true from f) MQ
 |_=>exact absurd (show false=true from g) MQ
def eqU(x:V)(u:Value):Bool:=match u with
 |.none=>eqV .non x
 |.bool b=>eqV (.bl b) x
 |.int i _=>eqV (.int i) x
 |.str z _=>eqV (.str z) x
 |_=>false
theorem xD{x:V}(r:RelV y u)(f:jS y=true):eqU x u=eqV y x:=by
 cases y with
 |non=>cases r;rfl
 |bl b=>cases r;rfl
 |int i=>obtain⟨t,rfl⟩:=r;rfl
 |str z=>obtain⟨t,rfl⟩:=r;rfl
 |_=>exact absurd (show false=true from f) MQ
theorem uz{x:V}:∀{xs:List V}{us:List Value},Vals xs us->xs.all jS=true->us.any (eqU x)=xs.any λy=>eqV y x
 |_,_,.nil,_=>rfl
 |y::xs,u::us,.cons r t,f=>by rw[Oi,M9]at f;rw[NS,NS,xD r f.1,uz t f.2]
theorem me{A:Around}{s:Shared}{x:V}{v:Value}(b:RelV x v)(c:jS x=true):∀{xs:List V}{us:List Value},Vals xs us->xs.all jS=true->∀u∈us,SeqAt.EqAt A s u v (eqU x u)
 |_,_,.nil,_=>λu a=>by cases a
 |y::xs,u::us,.cons r t,f=>λe a=>by
  rw[Oi,M9]at f;rcases M8.mp a with rfl|a
  ·rw[xD r f.1];exact Ip r b f.1 c
  ·exact me b c t f.2 e a
def inV(x:V)(xs:List V):Bool:=xs.any λy=>eqV y x
def rIn(K:W.Frag)(neg:Bool):R2:=λx y H Q=>∃p xs,y=.ref p/\(SqL K H p xs\/SqT K H p xs)/\jS x=true/\xs.all jS=true/\Q (.bl (if neg then !inV x xs else inV x xs)) H
theorem tO:OpR X (compareOp .In) (rIn X.K false):=by
 intro pins s σ H x y v u Q I c f h;obtain⟨p,xs,rfl,b,e,fs,q⟩:=h;cases f;rcases b with b|b
 ·obtain⟨a,r,pl,g⟩:=I.list b;refine SeqAt.in_listAt (eqU x) pl.isList (λw hw=>me c e r fs w (by simpa using hw)) ⟨.bl _,H,I,rfl,?_⟩;rw[show a.toArray.any (eqU x)=a.any (eqU x) by simp,uz r fs];exact q
 ·obtain⟨a,r,pl,g⟩:=I.tuple b;refine SeqAt.in_tupleAt (eqU x) pl (λw hw=>me c e r fs w (by simpa using hw)) ⟨.bl _,H,I,rfl,?_⟩;rw[show a.toArray.any (eqU x)=a.any (eqU x) by simp,uz r fs];exact q
theorem jl:kf X (.builtin "len") (λxs H Q=>∃p ys,xs=[.ref p]/\(SqL X.K H p ys\/SqT X.K H p ys)/\Q (.int ys.length) H):=by
 intro pins s σ H xs us Q I r h;obtain⟨p,ys,rfl,a,q⟩:=h;obtain⟨u,rfl,e⟩:=vals1 r;cases e;have hn:=uP;rcases a with a|a
 ·obtain⟨b,c,pl,f⟩:=I.list a;have hlen:=c.length;exact Calls.call_len_list pl.isList (by simp only[MO] <;> omega) ⟨.int ys.length,H,I.tok _,⟨s.toks+1,by rw[MO,hlen]⟩,q⟩
 ·obtain⟨b,c,pl,f⟩:=I.tuple a;have hlen:=c.length;exact len_tuple pl (by simp only[MO] <;> omega) ⟨.int ys.length,H,I.tok _,⟨s.toks+1,by rw[MO,hlen]⟩,q⟩
theorem uD:kf X (.type "list") (λxs H Q=>∃p ys,xs=[.ref p]/\(SqL X.K H p ys\/SqT X.K H p ys)/\∀l,H l=none->Q (.ref l) (upd H l (.lst ys))):=by
 intro pins s σ H xs us Q I r h;obtain⟨p,ys,rfl,f,q⟩:=h;obtain⟨u,rfl,j⟩:=vals1 r;cases j;have fin:∀(a:List Value),Vals ys a->ys.length<=sizeLine->∀(h':Heap)(c':Nat),(∀b o',s.heap.get? b=some o'->h'.get? b=some o') ->
   h'.get? s.heap.objs.size=some { cls:=.type "list",dict:=none,data:=.seq a.toArray c',slots:=#[] }->EP X pins σ Q (.ref s.heap.objs.size) { s with heap:=h' }:=λa c g h' c' kp e =>
  ⟨.ref s.heap.objs.size,_,I.laid (t':=s.toks) kp (My _) (show dO X.prog X.w _ h' _ (.lst ys) from⟨g,a,c',c,e⟩),rfl,q _ (I.hok.fresh (My _))⟩
 rcases f with f|f
 ·obtain⟨a,c,pl,g⟩:=I.list f;have hlen:=c.length;obtain⟨o,i,hc,n,hd⟩:=pl.isList;exact call_list_seq p (.inl rfl) i hc hd (λh' c' kp e=>fin a c g h' c' kp e) (by simp only[MO] <;> omega)
 ·obtain⟨a,c,pl,g⟩:=I.tuple f;have hlen:=c.length;obtain⟨o,i,hc,n,hd⟩:=pl;exact call_list_seq p (.inr rfl) i hc hd (λh' c' kp e=>fin a c g h' c' kp e) (by simp only[MO] <;> omega)
theorem rO:kf X (.type "tuple") (λxs H Q=>∃p ys,xs=[.ref p]/\((SqL X.K H p ys/\∀l,H l=none->Q (.ref l) (upd H l (.tup ys)))\/(SqT X.K H p ys/\Q (.ref p) H))):=by
 intro pins s σ H xs us Q I r h;obtain⟨p,ys,rfl,h⟩:=h;obtain⟨u,rfl,j⟩:=vals1 r;cases j;rcases h with⟨c,q⟩|⟨c,q⟩
 ·obtain⟨a,f,pl,g⟩:=I.list c;have hlen:=f.length;refine call_tuple_list pl.isList (λh' kp=>?_) (by simp only[MO] <;> omega);have i:Inv X pins σ H { s with heap:=h' }:=I.kept (t':=s.toks) kp;have m:Inv X pins σ (upd H h'.objs.size (.tup ys)) { s with heap:=h'.push { cls:=.type "tuple",data:=.seq a.toArray } } :=
   i.laid (t':=s.toks) (λb o e=>M4 _ e) (My _) (show dO X.prog X.w _ _ _ (.tup ys) from⟨g,a,f,uW.new _ _⟩)
  exact⟨.ref h'.objs.size,_,m,rfl,q _ (i.hok.fresh (My _))⟩
 ·obtain⟨a,f,pl,g⟩:=I.tuple c;exact call_tuple_same pl ⟨.ref p,H,I,rfl,q⟩
def tyV(K:W.Frag)(T:String)(x:V)(H:Hp):Prop:=match x with
 |.str _=>T="str"
 |.int _=>T="int"
 |.ref p=>(T="list"/\∃xs,SqL K H p xs)\/(T="tuple"/\∃o,K.lookup p=some o/\o.cls=.type "tuple"/\o.dict=none) \/
  (T="dict"/\((∃kvs,H p=some (.dK kvs))\/∃kvs,H p=some (.dT kvs)))\/(T="set"/\∃S n,H p=some (.set S n))
 |_=>False
theorem Jj{T:String}{x:V}{v:Value}(I:Inv X pins σ H s)(r:RelV x v)(ty:tyV X.K T x H) :
  s.TypeIs v T/\∀a,v=.ref a->∃f,s.heap.get? a=some f/\f.dict=none:=by
 cases x with
 |str z =>obtain⟨t,rfl⟩:=r;cases (show T="str" from ty);exact⟨typeIs_str s z t,λ_ e=>nomatch e⟩
 |int i =>obtain⟨t,rfl⟩:=r;cases (show T="int" from ty);exact⟨typeIs_int s i t,λ_ e=>nomatch e⟩
 |ref p =>
  cases r;rcases ty with⟨rfl,xs,g⟩|⟨rfl,o,b,hc,hd⟩|⟨rfl,b⟩|⟨rfl,S,n,b⟩
  ·obtain⟨its,_,pl,_⟩:=I.list g;refine⟨pl.isList.typeIs,λa e=>?_⟩;cases e;obtain⟨o,n,e,c,hd,_⟩:=pl;exact⟨o,e,hd⟩
  ·refine⟨⟨o,I.kIn p o b,hc⟩,λa e=>?_⟩;cases e;exact⟨o,I.kIn _ o b,hd⟩
  ·have z:∃o,s.heap.get? p=some o/\o.ExactDict:=by
    rcases b with⟨kvs,b⟩|⟨kvs,b⟩
    ·obtain⟨_,_,_,_,o,_,_,e,ex,_⟩:=I.hok p _ b;exact⟨o,e,ex⟩
    ·obtain⟨_,_,_,_,o,_,_,e,ex,_⟩:=I.hok p _ b;exact⟨o,e,ex⟩
   obtain⟨o,e,ex⟩:=z;refine⟨⟨o,e,ex.1⟩,λa e2=>?_⟩;cases e2;exact⟨o,e,ex.2.1⟩
  ·obtain⟨o,_,_,_,e,ex,_⟩:=I.hok p _ b;refine⟨⟨o,e,ex.1⟩,λa e2=>?_⟩;cases e2;exact⟨o,e,ex.2.1⟩
 |_=>exact False.elim ty
def tBM(K:W.Frag)(T:String)(r:V->List V->Hp->VK->Prop)(to:TE)(t:TA):TE:=λσ H Q=>to σ H λx H1=>tyV K T x H1/\t σ H1 λxs H2=>r x xs H2 Q
variable {o:Expr}{es:List Expr}{to:TE}{t:TA}{name:Str}{apos:Pos}{T id:String}{r:V->List V->Hp->VK->Prop}
theorem Ag(p:PlainAttrs T)(slot:Slot T name id)(g:typeOf (.builtin id)=pure (.type "method_descriptor"))(hm:MtR X id r)(q:PE X o to)(ha:PA X (e::es) t)
  (b:attributeBase o name X.env (eval o X.env)=eval o X.env:=by rfl)
  (f:((backTo cpos (starEach (e::es) X.env)).all (λx=>!x.1)&&(backToKw cpos (keywordEach [] X.env)).all (λx=>x.1.isSome)
  &&decide ((e::es).length+([]:List Keyword).length+(if ([]:List Keyword).isEmpty then 0 else 1)<30))=true:=by rfl)
  (c:(apos.endLine==cpos.line)=true:=by rfl) (u:starEach (e::es) X.env=(false,eval e X.env)::starEach es X.env:=by rfl) (a:(backTo cpos #[23]).any (·.1)=false:=by rfl) :
  PE X (.Call (.Attribute o name apos) (e::es) [] cpos) (tBM X.K T r to t):=by
 intro pins s σ H Q I h;refine wpAny_Call_method_late b f c rfl (thn (q pins s σ H _ I h) λv w i=>?_);obtain⟨x,H1,l,m,ty,y⟩:=i;obtain⟨h1,h2⟩:=Jj l m ty;refine⟨T,id,p,slot,g,h1,h2,?_⟩;have n:=ha cpos pins w σ H1 _ l y;rw[u]at n ⊢;refine Calls.callWith_builtin (by show (false||(backTo cpos #[23]).any (·.1))=false;rw[a] <;> rfl) (Calls.evalArgs_plain ?_);exact thn n λus s2 j=>(by obtain⟨vs,H2,z,A,B⟩:=j;exact hm pins s2 σ H2 x vs v us Q z m A B)
end
def MtM(X:Cx)(id:String)(r:V->List V->Hp->VK->Prop):Prop :=
 ∀(pins:List (Addr×Obj))(s:Shared)(σ:St)(H:Hp)(x:V)(xs:List V)(v:Value)(us:List Value)(Q:VK),Inv X pins σ H s->RelV x v->Vals xs us->r x xs H Q ->
  wpAny #[4] X.A (call (.builtin id) (v::us)) (EP X pins σ Q) X.xe s
theorem Vals.one{x:V}(h:Vals [x] us):∃u,us=[u]/\RelV x u:=by
 cases h with
 |cons r t=>cases t;exact⟨_,rfl,r⟩
theorem Vals.eraseIdx:∀{xs:List V}{us:List Value}(i:Nat),Vals xs us->Vals (xs.eraseIdx i) (us.eraseIdx i)
 |_,_,_,.nil=>.nil
 |_,_,0,.cons _ t=>t
 |_,_,i+1,.cons r t=>.cons r (Vals.eraseIdx i t)
theorem Vals.rep{xs:List V}{us:List Value}(h:Vals xs us):∀k:Nat,Vals (List.replicate k xs).flatten (List.replicate k us).flatten
 |0=>.nil
 |k+1=>by rw[NK,NK,O3,O3];exact Vals.append h (Vals.rep h k)
theorem tW{α:Type}:∀(l:List α)(i:Nat),(l.eraseIdx i).length<=l.length
 |[],_=>My _
 |_::_,0=>Oc _
 |_::r,i+1=>Nat.succ_le_succ (tW r i)
theorem foldl_rep(a:List Value):∀(k:Nat)(acc:List Value),
  List.foldl (λx1 x2=>x1++x2) acc.toArray (List.replicate k a.toArray)=(acc++(List.replicate k a).flatten).toArray
 |0,acc=>by simp
 |k+1,acc=>by
  have e:acc.toArray++a.toArray=(acc++a).toArray:=by simp
  have e2:(acc++a)++(List.replicate k a).flatten=acc++(List.replicate (k+1) a).flatten:=by rw[NK,O3,O4]
  rw[<-e2,<-foldl_rep a k (acc++a),<-e,NK,Nz]
section
variable {l:Addr}{zs:List V}
theorem Inv.lset{f:Array Value->Array Value}{t':Nat}(I:Inv X pins σ H s)(b:H l=some (.lst xs))
  (e:s.heap.get? l=some { cls:=.type "list",data:=.seq a.toArray n }) (c:f a.toArray=its'.toArray) (hv:Vals ys its') (g:ys.length<=sizeLine) :
  Inv X pins σ (upd H l (.lst ys)) { s with heap:=s.heap.update l (Obj.mapSeq f),toks:=t' }:=by
 have q:=PySem.IsL.update e f;rw[c]at q;refine I.write (x:=l) (e:=l) (by rw[b];exact trivial) (.inl rfl) (λb' u h i=>(OC s.heap (Obj.mapSeq f) (Ne.symm h)).trans i) ⟨_,q⟩ ?_;exact⟨g,its',_,hv,q⟩
theorem Inv.lnew{t':Nat}(I:Inv X pins σ H s)(hv:Vals ys a)(b:ys.length<=sizeLine) :
  Inv X pins σ (upd H s.heap.objs.size (.lst ys)) { s with heap:=s.heap.push { cls:=.type "list",data:=.seq a.toArray },toks:=t' } :=
 I.laid (λ_ _ q=>M4 _ q) (My _) ⟨b,a,0,hv,MU _ rfl⟩
theorem Inv.fresh(I:Inv X pins σ H s):H s.heap.objs.size=none:=I.hok.fresh (My _)
theorem Inv.lstM(I:Inv X pins σ H s)(b:H l=some (.lst xs)):xs.length<=sizeLine/\∃(a:List Value)(n:Nat),Vals xs a/\xs.length=a.length/\s.heap.get? l=some { cls:=.type "list",data:=.seq a.toArray n }:=by obtain⟨z,a,n,r,e⟩:=I.hok l _ b;exact⟨z,a,n,r,r.length,e⟩
theorem vL(h:n<=sizeLine):Builtin.List.listTooLong n=false:=by unfold Builtin.List.listTooLong;exact decide_eq_false (by omega)
end
section
def Hg:V->List V->Hp->VK->Prop:=λx vs H Q=>∃l xs y,x=.ref l/\vs=[y]/\H l=some (.lst xs)/\xs.length<sizeLine/\Q .non (upd H l (.lst (xs++[y])))
theorem nC:MtM X "list.append" Hg:=by intro pins s σ H x vs v us Q I c f h;obtain⟨l,xs,y,rfl,rfl,b,hz,q⟩:=h;cases c;obtain⟨u,rfl,g⟩:=f.one;obtain⟨z,a,n,r,hl,e⟩:=I.lstM b;refine call_meets F.slot_list_append ⟨_,e,rfl⟩ F.entry_list_append (F.args_list_append_2 _ _) (PySem.list_append l a.toArray n u (by rw[MO];omega)) ⟨e,?_⟩;refine⟨.non,_,I.lset (its':=a++[u]) b e (by simp) (r.append (.cons g .nil)) ?_,rfl,q⟩;rw[MN,Nj];omega
def Fy:V->List V->Hp->VK->Prop:=λx vs H Q=>∃l b xs zs,x=.ref l/\vs=[.ref b]/\H l=some (.lst xs)/\H b=some (.lst zs)/\xs.length+zs.length<=sizeLine/\Q .non (upd H l (.lst (xs++zs)))
theorem AU:MtM X "list.extend" Fy:=by
 intro pins s σ H x vs v us Q I g i h;obtain⟨l,b,xs,zs,rfl,rfl,f,hB,hz,q⟩:=h;cases g;obtain⟨u,rfl,j⟩:=i.one;cases j;obtain⟨z,its,n,r,hl,e⟩:=I.lstM f;obtain⟨z2,a,n2,m,hl2,e2⟩:=I.lstM hB;have hsz:its.toArray.size+a.toArray.size<=sizeLine:=by rw[MO,MO];omega
 have c:¬ (!its.toArray.isEmpty&&Builtin.List.listTooLong (its.toArray.size+a.toArray.size))=true:=by rw[vL hsz,Bool.and_false];exact MQ
 refine call_meets F.slot_list_extend ⟨_,e,rfl⟩ F.entry_list_extend (F.args_list_extend_2 _ _)
  (AutoSeq1.list_extend_list_list_0 l its.toArray n b a.toArray n2 c (by rw[MO];omega) (by omega)) ⟨e,e2,?_⟩
 refine⟨.non,_,I.lset (its':=its++a) f e (by simp) (r.append m) ?_,rfl,q⟩;rw[MN];omega
def Jm:V->List V->Hp->VK->Prop:=λx vs H Q=>∃l xs i k y,x=.ref l/\vs=[.int i]/\H l=some (.lst xs)/\-(2 ^ 63)<=i/\i<2 ^ 63/\seqIndex? i xs.length=some k/\xs[k]?=some y/\Q y (upd H l (.lst (xs.eraseIdx k)))
theorem C4:MtM X "list.pop" Jm:=by
 intro pins s σ H x vs v us Q I f g h;obtain⟨l,xs,i,k,y,rfl,rfl,c,h1,h2,j,m,q⟩:=h;cases f;obtain⟨u,rfl,o⟩:=g.one;obtain⟨t,rfl⟩:=o;obtain⟨z,a,n,r,hl,e⟩:=I.lstM c;obtain⟨w,hw,b⟩:=r.get m;refine call_meets F.slot_list_pop ⟨_,e,rfl⟩ F.entry_list_pop (F.args_list_pop_2 _ _)
  (MeetsSeq.list_pop_at l a.toArray n i t k w (fitsIndex_both h1 h2) (by rw[MO,<-hl];exact j) (by rw[<-OE];exact hw) (by rw[MO];omega)) ⟨e,?_⟩
 refine⟨y,_,I.lset (its':=a.eraseIdx k) c e ?_ (r.eraseIdx k) ?_,b,q⟩
 ·show a.toArray.eraseIdxIfInBounds k=(a.eraseIdx k).toArray;rw[List.eraseIdxIfInBounds_toArray]
 ·have:=tW xs k;omega
def LY:R2:=λx y H Q=>∃l b xs zs,x=.ref l/\y=.ref b/\H l=some (.lst xs)/\H b=some (.lst zs)/\xs.length+zs.length<=sizeLine/\∀p,H p=none->Q (.ref p) (upd H p (.lst (xs++zs)))
theorem Ia:OpR X (binaryOp .Add) LY:=by
 intro pins s σ H x y v u Q I f g h;obtain⟨l,b,xs,zs,rfl,rfl,i,hB,hz,q⟩:=h;cases f;cases g;obtain⟨z,c,n,r,hl,e⟩:=I.lstM i;obtain⟨z2,a,n2,j,hl2,e2⟩:=I.lstM hB;refine PySem.P.add_list e e2 ?_ (by rw[MO,MO];omega);have ea:c.toArray++a.toArray=(c++a).toArray:=by simp
 rw[ea];exact⟨.ref _,_,I.lnew (t':=s.toks) (r.append j) (by rw[MN];omega),rfl,q _ I.fresh⟩
def Ll:R2:=λx y H Q=>∃l k xs,x=.ref l/\y=.int k/\H l=some (.lst xs)/\-(2 ^ 63)<=k/\k<2 ^ 63/\xs.length*k.toNat<=sizeLine /\
 ∀p,H p=none->Q (.ref p) (upd H p (.lst (List.replicate k.toNat xs).flatten))
theorem len_rep(xs:List α)(k:Nat):(List.replicate k xs).flatten.length=k*xs.length:=by
 induction k with
 |zero=>simp
 |succ k ih=>rw[NK,O3,MN,ih,Nat.succ_mul,Nat.add_comm]
theorem Jn:OpR X (binaryOp .Mult) Ll:=by
 intro pins s σ H x y v u Q I o p h;obtain⟨l,k,xs,rfl,rfl,w,h1,h2,j,q⟩:=h;cases o;obtain⟨t,rfl⟩:=p;obtain⟨z,b,n,r,hl,e⟩:=I.lstM w;have hlen:b.toArray.size*k.toNat<=sizeLine:=by rw[MO,<-hl];exact j
 have f:¬ b.toArray.size*k.toNat>(2 ^ 63-1) / 8:=by
  have:(sizeLine:Nat)<=(2 ^ 63-1) / 8:=by decide
  omega
 have g:¬ (!Builtin.List.listFitsIndex k)=true:=by rw[fitsIndex_both h1 h2];exact MQ
 have c:¬ Builtin.List.listTooLong (b.toArray.size*k.toNat)=true:=by rw[vL hlen];exact MQ
 have i:List.foldl (λx1 x2=>x1++x2) #[] (List.replicate (if b.toArray.isEmpty=true then 0 else k.toNat) b.toArray)=(List.replicate k.toNat b).flatten.toArray:=by
  have A:∀m:Nat,List.foldl (λx1 x2=>x1++x2) #[] (List.replicate m b.toArray)=(List.replicate m b).flatten.toArray:=λm=>by have:=foldl_rep b m [];rw[Nn]at this;exact this
  rw[A];cases b with
  |nil=>simp
  |cons a r'=>rw[if_neg (by simp)]
 refine wpAny_binaryOp_repeat_ref (T:="list") (U:="int") #[2] ⟨_,e,rfl⟩ (λs'=>typeIs_int s' k t) noFill_list_mul F.fills_int_mul F.slot_int_rmul repeat_list F.slot_int_index.lookup
  (call_meets F.slot_int_rmul (typeIs_int s k t) F.entry_int_rmul (F.args_int_rmul_2 _ _) (int___rmul___int_list k t l b.toArray n)
   ⟨e,rfl,⟨_,e,rfl⟩,call_meets F.slot_list_mul ⟨_,e,rfl⟩ F.entry_list_mul (F.args_list_mul_2 _ _) (AutoListH.list___mul___list_int_3 l b.toArray n k t g f c) ⟨e,?_⟩⟩)
 rw[i];exact⟨.ref _,_,I.lnew (t':=s.toks) (r.rep k.toNat) (by rw[len_rep,Nat.mul_comm];exact j),rfl,q _ I.fresh⟩
end
section
variable {A:Around}
end
section
end
end L2
namespace Att
open PySem PySem.W PySem.Calls PyProof.Rows
theorem pA{P:Params}:∀(ns:List Int)(vs:List Value),WellAll P h vs (ns.map WData.int)->IntsAre vs ns:=by
 intro ns
 induction ns with
 |nil =>intro vs w;rw[Nw]at w;cases w;exact .nil
 |cons n ns ih =>
  intro vs w;rw[M5]at w;cases w with
  |cons a b =>cases a;exact .cons _ _ (ih _ b)
theorem BO{l:OpenLaw}(hn:l.most=some n){P:Params}{args:List WData}{vals:List Value}
  (b:l.row.toRowW.claim.pre args=true) (f:WellAll P h vals args) :
  ∃a vs ns,vals=[Value.ref a]/\args=[WData.list (ns.map WData.int)]/\h.get? a=some { cls:=.type "list",data:=.seq vs.toArray }/\IntsAre vs ns/\ns.length<=n:=by
 have g:WShape.hasAll [] args [.list .int]=true:=(pre_splitW b).1;have hc:l.pre.holds [] { args:=args }=true:=(pre_splitW b).2;obtain⟨d,r,rfl,h1,h2⟩:=hasAllW_cons g;obtain rfl:=hasAllW_nil h2;obtain⟨xs,rfl,h3⟩:=hasW_list h1;obtain⟨ns,rfl⟩:=items_int h3;have hlen:ns.length<=n:=by
  unfold OpenLaw.pre at hc;have c:(WTm.not (.lt (.lit (.int (n:Int))) (.len (.arg 0)))).holds [] { args:=[.list (ns.map .int)] }=true:=by have c:=(holds_andW hc).1;rw[hn]at c;exact c
  have e:=condW_of c (w_not (w_lt w_lit (w_len_list (w_arg rfl))));rw[M6]at e;refine Nat.le_of_not_lt λq=>?_
  have i:(n:Int)<((ns.length:Nat):Int):=by omega
  first
   |(rw[decide_eq_true i]at e;exact absurd e #[2])
   |(simp at e;omega)
 cases f with
 |cons w1 w2 =>
  cases w2;cases w1 with
  |list ho hall=>exact⟨_,_,ns,rfl,rfl,ho,pA ns _ hall,hlen⟩
theorem BV(l:OpenLaw)(args:List WData):l.row.toRowW.claim.post args (.bool true) args=true :=
 postW_of (r:=l.row.toRowW) (X:=(true==true))
  (show WShape.has [] (.bool true) .bool=true by first|rfl|decide|simp[WShape.has,WShape.arms,WShape.armsAll])
  (show (WTm.eq .res (.lit (.bool true))).value [] { args:=args,res:=some (.bool true),after:=args }=some (.bool (true==true)) from w_eq_bool (w_res rfl) w_lit) rfl
theorem wA{l:OpenLaw}{d:DefRec}
  (hn:l.most=some n) (h:d.params.defaults=[])
  (call:∀(w:World)(s₀ b:Shared)(mg i:Str->Option Value)(c:Addr)(o:Obj)(pm cd doc:Value)(a:Addr)(vs:List Value)(ns:List Int),
   Ground q loose [] XP w s₀ mg i b.heap->YP w b.heap ->
   b.heap.get? c=some o->o.data=.func (docDef d.name d.params d.body d.scope pm cd doc)->b.heap.CodeRec cd d.name->mg d.name=some (.ref c) ->
   b.heap.get? a=some { cls:=.type "list",data:=.seq vs.toArray }->IntsAre vs ns->ns.length<=n->b.gens=#[] ->
   codeAny (model l.prog w) callerA (.call (.ref c) ⟨[.ref a],[]⟩) (λr s'=>r=.ok (.ret (.bool true))/\OldK b.heap s'.heap/\s'.os=b.os/\AllBare s'.gens) b) :
  WalkO q loose XP YP l.row.toRowW d [] (λf vs=>PySem.call f vs):=by
 intro w s₀ b mg i G Y c o pm cd doc t kV u hd j s m v args vals as e hlay hrd p hlo;obtain rfl:t=.none:=Dflts.none s h;obtain rfl:kV=.none:=Dflts.noKw s;obtain⟨a,vs,ns,rfl,rfl,g,hints,hlen⟩:=BO hn e p;refine enter_call (codeAny_mono (call w s₀ b mg i c o pm cd doc a vs ns G Y u (fd_plain hd) j m g hints hlen v) λr s' x=>?_);obtain⟨rfl,h2,h3,y⟩:=x;exact⟨.inl ⟨.bool true,.bool true,[],rfl,λ_=>rfl,.bool true,BV l _,λ_=>⟨List.Pairwise.nil,λ_ hm=>(nomatch hm)⟩⟩,h2,h3,y⟩
section
variable {A:Around}{K:Frag}
end
end Att
namespace L2
open PySem PySem.Spec PyProof.Rows
theorem ua:∀{vs:List Value}{ns:List Int},IntsAre vs ns->Vals (ns.map V.int) vs
 |_,_,.nil=>.nil
 |_,_,.cons n t h=>.cons ⟨t,rfl⟩ (ua h)
def Ir(H:Hp):Prop:=∀b,H b=none\/(∃o xs,H b=some (.frz o (.lst xs)))\/∃q,H b=some (.tbl q)
def mY(K:W.Frag)(h:Heap):Prop:=(∀P q,TabOf K P q->h.get? P=some { cls:=.none,data:=.fields #[] }/\K.lookup P=none/\isCodeTable h P)/\∀P q a,TabOf K P q->TabOf K P a->q=a
section
open Classical
def lh(K:W.Frag):Hp:=λb=>if h:∃q,TabOf K b q then some (.tbl h.choose) else none
theorem dN(K:W.Frag)(b:Addr):lh K b=none\/∃q,TabOf K b q/\lh K b=some (.tbl q):=by
 unfold lh;split
 ·rename_i h;exact .inr ⟨_,h.choose_spec,rfl⟩
 ·exact .inl rfl
theorem tL(a:mY K h){P:Addr}{q:Str}(t:TabOf K P q):lh K P=some (.tbl q):=by
 rcases dN K P with e|⟨b,t',e⟩
 ·unfold lh at e;rw[dif_pos ⟨q,t⟩]at e;cases e
 ·rw[e,a.2 P q b t t']
end
def oU(mg:Str->Option Value)(base:Heap):Prop:=∃bm o,mg "__builtins__"=some (.ref bm)/\bm≠builtinsNs/\bm≠mainGlobals/\base.get? bm=some o/\o.cls=.type "module"/\o.dict=some builtinsNs/\o.data=.plain
theorem law_call{O:Str->Option Value}{k:Nat}{Q:Addr}{c:Shared}{vs:List Value}
  (KX:K.In c.heap) (E:c.heap.Ns mainGlobals mg) (i:c.heap.Ns builtinsNs O) (R:∀x:Str,x≠"__name__"->O x=bootBuiltins x) (G:c.heap.NoLimit) (hg:c.gens=#[])
  (ha:c.heap.get? a=some { cls:=.type "list",data:=.seq vs.toArray }) (hi:IntsAre vs ns) (hl:ns.length<=sizeLine) (hr:cm k callerA)
  (S:oU mg c.heap) (F:∀base:Heap,K.In base->base.Ns mainGlobals mg->oU mg base->gU P w K mg base CX k Q fd [x] sp) (A:∀(s:Shared)(u:Value),BindsTo s fd ⟨[u],[]⟩ [(x,u)])
  (T:∀H:Hp,Ir H->SqL K H a (ns.map V.int)->sp [.ref a] H (λv _=>v=.bl true) λ_ _ _=>False)
  (U:∀H e s',CX [] H c (λ_ _ _=>False) e s'->False) (j:mY K c.heap) :
  codeAny (model P w) callerA (.call (.ref Q) ⟨[.ref a],[]⟩) (λr s'=>r=.ok (.ret (.bool true))/\OldK c.heap s'.heap/\s'.os=c.os/\AllBare s'.gens) c:=by
 have rv:=ua hi;have I:=hi.length
 -- from an abstract heap in which nothing but the script may be tracked
 have core:∀H:Hp,Ir H->SqL K H a (ns.map V.int)->HOk P w H c.heap->(∀b,H b≠none->b=a\/∃q,TabOf K b q)->(H a≠none->K.lookup a=none)->(∀P q,TabOf K P q->H P=some (.tbl q)) ->
   codeAny (model P w) callerA (.call (.ref Q) ⟨[.ref a],[]⟩) (λr s'=>r=.ok (.ret (.bool true))/\OldK c.heap s'.heap/\s'.os=c.os/\AllBare s'.gens) c:=by
  intro H hO hS hok N hK X;have f:∀{b:Addr}{o:Obj},c.heap.get? b=some o->H b=none->(rN c.heap H).get? b=some o:=λe n=>Cv e n
  have Y:∀{b:Addr}{o:Obj}{es:Array DictEntry}{J:Nat},c.heap.get? b=some o->o.data=.dict es J->H b=none:=λ{b o es J} e d=>by
   cases q:H b with
   |none=>rfl
   |some u =>
    rcases N b (by rw[q];simp) with g|⟨B,g⟩
    case inr=>rw[(j.1 b B g).1]at e;cases e;cases d
    subst g;rw[ha]at e;cases e;have d':Data.seq vs.toArray _=Data.dict es J:=d;cases d'
  have l:∀{b:Addr}{m:Str->Option Value},c.heap.Ns b m->(rN c.heap H).Ns b m:=λ{b m} qz2=>(by obtain⟨o,es,J,e,d,r⟩:=qz2;exact⟨o,es,J,f e (Y e d),d,r⟩)
  have L:K.In (rN c.heap H):=λb o e=>f (KX b o e) (by
   cases q:H b with
   |none=>rfl
   |some u =>
    rcases N b (by rw[q];simp) with g|⟨B,g⟩
    case inr=>rw[(j.1 b B g).2.1]at e;cases e
    subst g;rw[hK (by rw[q];simp)]at e;cases e)
  have hM:Mod K mg (rN c.heap H):=⟨L,l E,⟨O,l i,R⟩,let ⟨mc,h1,h2⟩:=G;⟨mc,l h1,h2⟩⟩
  have e0:uX P w K mg (rN c.heap H) callerA [] c H:=⟨rfl,hM,λb o e=>FD e,Nat.le_of_eq (AD _ _),trivial,λb i=>absurd (show b∈([]:List Addr) from i) (by simp),hok,.of_eq hg,X⟩
  have Z:oU mg (rN c.heap H):=by
   obtain⟨bm,ob,b1,b2,b3,M,b5,b6,b7⟩:=S;refine⟨bm,ob,b1,b2,b3,f M ?_,b5,b6,b7⟩;cases q:H bm with
   |none=>rfl
   |some u =>
    rcases N bm (by rw[q];simp) with g|⟨B,g⟩
    case inr=>rw[(j.1 bm B g).1]at M;cases M;cases b5
    subst g;rw[ha]at M;cases M;simp at b5
  refine codeAny_mono ((F _ L (l E) Z).run callerA [] c H ⟨[.ref a],[]⟩ [.ref a] [.ref a] _ _ hr e0 (A c (.ref a)) (.cons rfl .nil) (T H hO hS)) λr s' h=>?_
  cases r with
  |error e=>exact (U H e s' h).elim
  |ok fl =>
   cases fl with
   |next=>exact False.elim h
   |brk=>exact False.elim h
   |cont=>exact False.elim h
   |ret u =>
    obtain⟨v,H',os,bare,un,p,r',q⟩:=h;have q':v=.bl true:=q;subst q';obtain rfl:u=Value.bool true:=r';have old:∀b o,c.heap.get? b=some o->s'.heap.get? b=some o\/(isCodeTable c.heap b/\o.cls=.none/\∃vs more,o.data=.fields vs/\s'.heap.get? b=some { o with data:=.fields (vs++more) }):=λb o e=>?old
    case old =>
     cases q:H b with
     |none=>exact .inl <|un.keep b o e q (by intro z;exact absurd (show b∈([]:List Addr) from z) (by simp)) (by simp)
     |some u =>
      rcases hO b with z|⟨ob,xs,z⟩|⟨B,z⟩
      ·rw[q]at z;cases z
      ·have z2:=un.frzs b ob _ z;obtain⟨e1,_⟩:=hok b _ z;obtain⟨e2,_⟩:=p b _ z2;rw[e]at e1;cases e1;exact .inl e2
      ·have z2:=un.tbls b B z;obtain⟨ps,e2,_⟩:=p b _ z2;rcases N b (by rw[z];simp) with g|⟨q2,g⟩
       ·obtain⟨ps0,D,_⟩:=hok b _ z;rw[g]at D;rw[ha]at D;cases D
       ·obtain⟨D,_,e4⟩:=j.1 b q2 g;rw[e]at D;cases D;exact .inr ⟨e4,rfl,#[],ps,rfl,by simpa using e2⟩
    exact⟨rfl,⟨λb o e=>(old b o e).imp id λz=>.inl z,λb o e=>by rcases old b o e with z|⟨_,_,_,_,_,z⟩ <;> exact⟨_,z⟩⟩,os,bare⟩
 have tok:∀b q,TabOf K b q->dO P w (λ_=>none) c.heap b (.tbl q):=λb q t=>⟨#[],(j.1 b q t).1,trivial,λpos cv z=>nomatch z⟩
 have y:∀(H:Hp) b q,TabOf K b q->dO P w H c.heap b (.tbl q):=λH b q t=>⟨#[],(j.1 b q t).1,trivial,λpos cv z=>nomatch z⟩
 have na:∀q,¬ TabOf K a q:=λq t=>by have:=(j.1 a q t).1;rw[ha]at this;cases this
 cases hk:K.lookup a with
 |some o =>
  have e:=KX a o hk;rw[ha]at e;cases e;refine core (lh K) (λb=>(dN K b).imp id λC=>(by obtain⟨q,_,e⟩:=C;exact .inr ⟨q,e⟩)) (.inr ⟨_,vs.toArray,_,hk,rfl,rfl,rfl,by rw[MO,I];exact hl,by simpa using rv⟩) (λb u z=>?_) (λb z=>?_) (λz=>?_) λP q t=>tL j t
  ·rcases dN K b with e|⟨q,t,e⟩
   ·rw[z]at e;cases e
   ·rw[z]at e;cases e;exact y _ b q t
  ·rcases dN K b with e|⟨q,t,e⟩
   ·exact absurd e z
   ·exact .inr ⟨q,t⟩
  ·rcases dN K a with e|⟨q,t,e⟩
   ·exact absurd e z
   ·exact absurd t (na q)
 |none =>
  have eT:∀b,b≠a->(λb=>if b=a then some (HO.frz { cls:=.type "list",data:=.seq vs.toArray } (.lst (ns.map V.int))) else lh K b) b=lh K b:=λb h=>if_neg h
  have eA:(λb=>if b=a then some (HO.frz { cls:=.type "list",data:=.seq vs.toArray } (.lst (ns.map V.int))) else lh K b) a=some (HO.frz { cls:=.type "list",data:=.seq vs.toArray } (.lst (ns.map V.int))):=if_pos rfl;refine core (λb=>if b=a then some (.frz { cls:=.type "list",data:=.seq vs.toArray } (.lst (ns.map V.int))) else lh K b) (λb=>?_) (.inl (.inr ⟨{ cls:=.type "list",data:=.seq vs.toArray },if_pos rfl⟩)) (λb u z=>?_) (λb z=>?_) (λ_=>hk) λP q t=>?_
  ·by_cases i:b=a
   ·exact .inr (.inl ⟨_,_,if_pos i⟩)
   ·rw[eT b i];exact (dN K b).imp id λC=>(by obtain⟨q,_,e⟩:=C;exact .inr ⟨q,e⟩)
  ·by_cases i:b=a
   ·subst i;rw[eA]at z;cases z;exact⟨ha,by rw[M6];exact hl,vs,_,rv,ha⟩
   ·rw[eT b i]at z;rcases dN K b with e|⟨q,t,e⟩
    · rw[z]at e;cases e
    · rw[z]at e;cases e;exact y _ b q t
  ·by_cases i:b=a
   ·exact .inl i
   ·rcases dN K b with e|⟨q,t,e⟩
    · exact absurd ((if_neg i).trans e) z
    · exact .inr ⟨q,t⟩
  ·exact (if_neg (λz=>na q (by rw[<-z];exact t))).trans (tL j t)
abbrev KOf{K:W.Frag}{h:Heap}(_:K.In h):W.Frag:=K
theorem zH{l:W.OpenLaw}{k:Nat}{d:DefRec}{K:Params->W.Frag}{CX:World->CXT}{sp:World->Sp}
  (hn:l.most=some n) (r:n<=sizeLine) (t:d.params.defaults=[]) (I:cm k callerA)
  (J:∀(w:World)(h:Heap),YP w h->(K w.params).In h)
  (F:∀(w:World)(mg:Str->Option Value)(p:Addr)(h:Heap),(K w.params).In h->h.Ns mainGlobals mg->mg d.name=some (.ref p) ->
   ∃fd:FuncData,(∀(s:Shared)(u:Value),BindsTo s fd ⟨[u],[]⟩ [(x,u)]) /\
    ∀base:Heap,(K w.params).In base->base.Ns mainGlobals mg->oU mg base->gU l.prog w (K w.params) mg base (CX w) k p fd [x] (sp w))
  (y:∀(w:World)(H:Hp)(a:Addr)(ns:List Int),ns.length<=n->Ir H->SqL (K w.params) H a (ns.map V.int)->sp w [.ref a] H (λv _=>v=.bl true) λ_ _ _=>False)
  (A:∀(w:World)(H:Hp)(s:Shared)(e:Value)(s':Shared),CX w [] H s (λ_ _ _=>False) e s'->False) (B:∀(w:World)(h:Heap)(c:List Str)(i:ExcName->Option Value)(mg E:Str->Option Value),PyProof.Rows.Top q c i mg E h->(K w.params).In h->mY (K w.params) h) :
  W.WalkO q loose XP YP l.row.toRowW d [] (λf vs=>PySem.call f vs):=by
 refine Att.wA hn t λw s₀ j mg E p o pm cd doc a vs ns G Y ho hd hcd C m hints hlen L=>?_
 have D:=J w _ Y;obtain⟨fd,N,O⟩:=F w mg p _ D G.T.g C;exact law_call D G.T.g G.T.b G.T.builtins G.T.nolimit L m hints (Nq hlen r) I (by obtain⟨bm,P,M⟩:=W.bmod_of_top G.T;exact⟨bm,P,M.name,M.ne,(λz=>by obtain⟨o,es,ep,e1,e2,_⟩:=M.ns;rw[<-z,M.obj]at e1;cases e1;rw[M.data]at e2;cases e2),M.obj,M.cls,M.dict,M.data⟩) O N (λH Q R=>y w H a ns hlen Q R) (λH e s'=>A w H j e s') (B w _ _ _ _ _ G.T D)
def inClass(s:Stmt)(j:Nat):Stmt:=match s with
 |.ClassDef _ _ _ body _ _ _ _ _ _ _=>body.getD j (.Pass ⟨0,0,0,0⟩)
 |_=>.Pass ⟨0,0,0,0⟩
def fH(s:Stmt):Arguments:=match s with
 |.FunctionDef _ a _ _ _ _ _ _ _ _=>a
 |_=>{ posonlyargs:=[],args:=[],vararg:=none,kwonlyargs:=[],kw_defaults:=[],kwarg:=none,defaults:=[] }
def cf(s:Stmt):List Stmt:=match s with
 |.FunctionDef _ _ b _ _ _ _ _ _ _=>b
 |_=>[]
def aE(s:Stmt):Scope:=match s with
 |.FunctionDef _ _ _ _ _ _ sc _ _ _=>sc
 |_=>{ kind:=.function,names:=[],isGenerator:=false,isCoroutine:=false }
abbrev CX0:CXT:=λ_ _ _ _ _ _=>False
abbrev E0:XK:=λ_ _ _=>False
theorem KJ:Passes CX0 X E0:=λ_ _ _ _ _ _ _ h=>h.elim
structure Fun(K:W.Frag)(x qual:Str)(st:Stmt)(f:Addr)(fd:FuncData):Prop where
 ex:∃(oc:Value)(od:Option Addr)(kV doc pm:Value)(an:Option Addr)(cdv ct:Value)(osl:Array (Option Value)),
  fd=W.fnOf x qual (fH st) (cf st) (aE st) .none kV doc pm an cdv ct/\K.lookup f=some ⟨oc,od,.func fd,osl⟩/\W.codeIn K cdv qual=true
 kp:W.keepIn K (.ref f)=true
section
theorem Fun.ok{k:Nat}(F:Fun K x qual st f fd)(S:dk N ps (aE st))(len:∀vs H Q E,sp vs H Q E->vs.length=ps.length)
  (a:∀(cdv:Value)(A:Around)(outer:List Env)(s:Shared)(H:Hp)(vs:List V)(Q:VK)(E:XK),cm k (A.deeper (envOfC qual (aE st) s.heap.objs.size f cdv))->sp vs H Q E ->
   ∃t,PSs (dF CX0 P w K mg base N qual (aE st) f cdv A outer s H E).nox (cf st) t/\t { nx:=λ_ H'=>Q .non H',rt:=Q } (start N vs) H):gU P w K mg base CX0 (k+1) f fd ps sp:=by
 obtain⟨oc,od,kV,doc,pm,an,cdv,ct,osl,rfl,e,b⟩:=F.ex;refine Dq e b S len λA outer s H vs Q E g c=>?_
 obtain⟨t,h,q⟩:=a cdv A outer s H vs Q E g c;exact⟨t,h.nox,q⟩
theorem Fun.binds(F:Fun K x qual st f fd)
  (h:∀(kV doc pm:Value)(an:Option Addr)(cdv ct:Value)(us:List Value),us.length=ps.length->bindArgs (W.fnOf x qual (fH st) (cf st) (aE st) .none kV doc pm an cdv ct) ⟨us,[]⟩=pure (ps.zip us)):Binds K fd ps []:=by
 obtain⟨oc,od,kV,doc,pm,an,cdv,ct,osl,rfl,lk,hcd⟩:=F.ex;exact .all (h kV doc pm an cdv ct)
theorem xM{kV doc cdv:Value}(l:K.lookup f=some ⟨oc,od,.func (W.fnOf x qual (fH st) (cf st) (aE st) .none kV doc pm an cdv ct),osl⟩)
 (c:W.codeIn K cdv qual=true) (k:W.keepIn K (.ref f)=true):Fun K x qual st f (W.fnOf x qual (fH st) (cf st) (aE st) .none kV doc pm an cdv ct):=⟨⟨oc,od,kV,doc,pm,an,cdv,ct,osl,rfl,l,c⟩,k⟩
end
section
theorem pv(i:Nat)(b:X.N[i]?=some x:=by rfl)(hv:Vis X.env.scope x:=by first|exact Or.inl rfl|exact Or.inr (Or.inl rfl)|exact Or.inr (Or.inr rfl))(hd:(x==("__debug__":Str))=false:=by decide)
 (a:(x==("__classdict__":Str))=false:=by decide):PE X (.Name x pos) (Li i):=kE b hv hd a
end
theorem KS{c A B:Prop}[Decidable c](h1:c->A)(h2:¬ c->B):if c then A else B:=by
 by_cases h:c
 ·rw[if_pos h];exact h1 h
 ·rw[if_neg h];exact h2 h
def ax(H H':Hp):Prop:=∀b o,H b=some o->H' b=some o
theorem ax.refl(H:Hp):ax H H:=λ_ _ h=>h
theorem ax.trans{H2:Hp}(a:ax H H1)(b:ax H1 H2):ax H H2:=λc o h=>b c o (a c o h)
theorem ax.free(e:ax H H'){l:Addr}(h:H' l=Option.none):H l=Option.none:=by
 cases q:H l with
 |none=>rfl
 |some o =>rw[e l o q]at h;cases h
theorem ax.seq(e:ax H H')(h:SqL K H a xs):SqL K H' a xs:=by
 rcases h with (h|⟨o,h⟩)|h
 ·exact .inl (.inl (e _ _ h))
 ·exact .inl (.inr ⟨o,e _ _ h⟩)
 ·exact .inr h
end L2
set_option maxHeartbeats 4000000
namespace L2
open PySem PySem.Spec PyProof.Rows
variable {E:XK}{g:TG}{t:Addr}{f:PyData->PyData->Option PyData}{es:List Expr}
def tK(CX:CXT)(P:Program)(w:World)(K:W.Frag)(mg:Str->Option Value)(base:Heap)(N:List Str)(qual:Str)(scope:Scope)(f:Addr)(cd:Value)(cl:List (Str×Addr))(A:Around)(outer:List Env)(s:Shared)(H:Hp)(E:XK):Cx where
 prog:=P
 w:=w
 K:=K
 mg:=mg
 base:=base
 A:=A.deeper (W.envX qual scope s.heap.objs.size f cd cl)
 N:=N
 s₀:=s
 H₀:=H
 env:=W.envX qual scope s.heap.objs.size f cd cl
 outer:=outer
 stack:=W.envX qual scope s.heap.objs.size f cd cl::outer
 ex:=[]
 calm:=true
 fn:=λ_=>false
 pn:=[]
 xe:=λe s'=>wpAny (model P w) (A.deeper (W.envX qual scope s.heap.objs.size f cd cl)) (leaving (W.envX qual scope s.heap.objs.size f cd cl) e) (λ_ a=>CX outer H s E e a) (λb a=>CX outer H s E b a) s'
theorem tX{α:Type}{y:Str}{u:α}:∀{l:List (Str×α)},(l.map (·.1)).Nodup->(y,u)∈l->l.lookup y=some u
 |[],_,h=>by cases h
 |(z,w)::l,nd,h=>by
  rw[N9];rw[M5,Nc]at nd;rcases M8.mp h with h|h
  ·cases h;simp
  ·have m:y∈l.map (·.1):=List.mem_map_of_mem (f:=(·.1)) h;have:y≠z:=λq=>nd.1 (by subst q;exact m)
   rw[show (y==z)=false by simpa using this];exact tX nd.2 h
theorem BP{y:Str}{u:α}{us:List α}(nd:ps.Nodup)(hl:us.length=ps.length)(h1:ps[i]?=some y)(h2:us[i]?=some u):(ps.zip us).reverse.lookup y=some u:=by
 refine tX ?_ ?_
 ·rw[List.map_reverse,List.map_fst_zip (by omega)];exact (List.reverse_perm ps).symm.nodup nd
 ·rw[List.mem_reverse];refine Nm (i:=i) ?_;rw[List.getElem?_zip_eq_some];exact⟨h1,h2⟩
structure mB(N ps:List Str)(sc:Scope):Prop where
 kind:sc.kind=.function
 co:sc.isCoroutine=false
 gen:sc.isGenerator=false
 nd:N.Nodup
 pre:N.take ps.length=ps
 par:∀x∈ps,sc.names.lookup x=some .local
 nocell:∀x∈sc.names,x.2≠.cell
structure Kd(s:Shared)(H:Hp)(cl:List (Str×Addr))(sc:Scope)(N:List Str)(n:Nat)(ws:List (Option V)):Prop where
 inj:∀x y c,cl.lookup x=some c->cl.lookup y=some c->x=y
 has:∀x,sc.names.lookup x=some .free->∃c,cl.lookup x=some c
 cell:∀x c,cl.lookup x=some c->∃v,s.heap.IsCell c v
 free:∀x c,cl.lookup x=some c->H c=none
 len:N.length=n+ws.length
 val:∀(i:Nat)(x:Str)(v:V),N[n+i]?=some x->ws[i]?=some (some v)->∃u c,RelV v u/\sc.names.lookup x=some .free/\cl.lookup x=some c/\s.heap.IsCell c (some u)
theorem Gi{f:Addr}{A:Around}{h1:Heap}{tk:Nat}
  (S:mB N ps scope) (hd:A.handled=none) (g:uX P w K mg base A outer s H) (hl:vs.length=ps.length) (r:Vals vs us) (C:Kd s H cl scope N ps.length ws)
  (t:h1.Ns s.heap.objs.size (λx=>(ps.zip us).reverse.lookup x)) (B:∀b o,s.heap.get? b=some o->h1.get? b=some o) :
  Inv (tK CX P w K mg base N qual scope f cd cl A outer s H E) [] (vs.map some++ws) H { s with heap:=h1,toks:=tk }:=by
 have j:∀b:Addr,b∉(tK CX P w K mg base N qual scope f cd cl A outer s H E).ex:=λb z=>absurd (show b∈([]:List Addr) from z) (by simp)
 have G:∀c v,s.heap.IsCell c v->h1.IsCell c v:=λc v q=>by obtain⟨o,e,d⟩:=q;exact⟨o,B _ _ e,d⟩
 refine⟨⟨g.mod,S.kind,rfl,rfl,My _,λy z c h1 h2=>C.inj y z c h1 h2,λy m=>?_,λy c z _=>(by cases z),λ_=>hd,Around.frames_deeper g.frames,.inr ⟨rfl,rfl⟩,λb z=>absurd z (j b),g.bs,g.bsz,λb _ _=>j b,λb z=>absurd z (j b),g.funs,g.frf⟩,
  rfl,g.bare,Un.kept B,⟨_,t,λi y v h1 h2 h3=>?_⟩,λy c h=>?_,g.hok.fresh (My _),λy c h=>C.free y c h,λp n=>absurd (show p∈([]:List (Addr×Obj)) from n) (by simp),g.hok.kept B,?_,g.tab⟩
 ·have m:scope.names.lookup y=some .cell\/scope.names.lookup y=some .free:=m;rcases m with m|m
  ·exact absurd rfl (S.nocell _ (PySem.mem_of_lookup m))
  ·exact C.has y m
 ·have h1:N[i]?=some y:=h1;by_cases hi:i<vs.length
  ·have ha:vs[i]?=some v:=by
    rw[N5 (by simpa using hi),MP]at h2;cases e:vs[i]? with
    |none=>rw[e]at h2;cases h2
    |some a=>rw[e]at h2;cases h2;rfl
   obtain⟨u,I,D⟩:=r.get ha;have n:ps[i]?=some y:=by rw[<-S.pre,List.getElem?_take_of_lt (by omega)];exact h1
   have F:ps.Nodup:=by rw[<-S.pre];exact S.nd.sublist (List.take_sublist _ _)
   refine⟨u,D,.inl ⟨S.par y (Nm n),?_⟩⟩;exact BP F (by rw[<-r.length,hl]) n I
  ·rw[N6 (by simpa using hi),M6]at h2;have e:N[ps.length+(i-vs.length)]?=some y:=by rw[<-hl,Nat.add_sub_cancel' (by omega)];exact h1
   obtain⟨u,c,D,k,l,q⟩:=C.val _ _ _ e h2;exact⟨u,D,.inr ⟨.inr k,c,l,G _ _ q⟩⟩
 ·obtain⟨v,q⟩:=C.cell y c h;exact⟨v,G _ _ q⟩
 ·show _=N.length;rw[MN,M6,hl,C.len]
theorem FR{k:Nat}{name:Str}{f c':Addr}{h:Value}{A:Around}{Q:VK}{t:TE}
  (S:mB N ps scope) (p:cm (k+1) A) (j:uX P w K mg base A outer s H) (hl:vs.length=ps.length) (r:Vals vs us) (C:Kd s H cl scope N ps.length ws)
  (x:s.heap.get? f=some (W.kla_obj name qual params body scope cl pm c' h)) (l:s.heap.CodeRec (.ref c') qual)
  (z:bindArgs (W.kla_fn name qual params body scope cl pm (.ref c') h) ⟨us,[]⟩=pure (ps.zip us))
  (c:PE (tK CX P w K mg base N qual scope f (.ref c') cl A outer s H E) body t) (B:t (vs.map some++ws) H Q) :
  codeAny (model P w) A (.call (.ref f) ⟨us,[]⟩) (CR CX outer P w H s Q E) s:=by
 have lim:s.heap.NoLimit:=j.mod.nolimit.keeps λb o e=>(j.bs b o e).1
 refine W.kla_callFunE p.depth x rfl S.co S.gen rfl l ?_;rw[z];refine wpAny_pure (wpAny_newFunctionEnv S.nocell (λy D=>S.par y.1 (Oo (a:=y.1) (b:=y.2) D).1) (λh₁ m i=>⟨lim.fresh _ i,?_⟩) S.kind);have g:∀b o,s.heap.get? b=some o->h₁.get? b=some o:=λb o e=>i.extBut b o (MV (MS e)) (M4 _ e)
 have I:=Gi (CX:=CX) (qual:=qual) (f:=f) (cd:=.ref c') (E:=E) (tk:=s.toks+(ps.zip us).length) S p.hd j hl r C m g;exact W.kla_codeExpr (wpAny_mono (c [] _ _ H Q I B) (λu s' n=>(by obtain⟨v,H',J,F,q⟩:=n;exact⟨v,H',J.os,J.bare,J.base,J.hok,F,q⟩)) λ_ _ y=>y)
def nW:List (Str×NameKind)->List (Str×Addr)->List (Str×Addr)->List (Str×Addr)
 |[],_,acc=>acc
 |(n,k)::r,cells,acc=>nW r cells (if k==.free then (match cells.lookup n with|some c=>(n,c)::acc|none=>acc) else acc)
theorem jv(env:Env):∀(names:List (Str×NameKind))(acc:List (Str×Addr)),(∀y∈names,y.2=.free->∃c,env.cells.lookup y.1=some c) ->
  (forIn names acc (λ(x:Str×NameKind)(cs:List (Str×Addr))=>match x with
   | (name,kind)=>if (kind==NameKind.free)=true then do let c <-cellOf env name;pure (ForInStep.yield ((name,c)::cs)) else pure (ForInStep.yield cs)):Sem (List (Str×Addr)))=pure (nW names env.cells acc)
 |[],acc,_=>rfl
 |(n,k)::r,acc,h=>by
  rw[Oq];have b:∀y∈r,y.2=.free->∃c,env.cells.lookup y.1=some c:=λy g=>h y (M3 _ g)
  dsimp only[nW];by_cases hk:k=.free
  ·subst hk;obtain⟨c,hc⟩:=h (n,.free) M7 rfl;have a:env.cells.lookup n=some c:=hc;have e:cellOf env n=pure c:=by unfold cellOf;rw[a]
   rw[if_pos (show (NameKind.free==NameKind.free)=true by decide),if_pos (show (NameKind.free==NameKind.free)=true by decide),e,a];exact jv env r ((n,c)::acc) b
  ·have f:¬ (k==NameKind.free)=true:=by simpa using hk
   rw[if_neg f,if_neg f];exact jv env r acc b
theorem jR(h:∀y∈scope.names,y.2=.free->∃c,env.cells.lookup y.1=some c):closureFor scope env=pure (nW scope.names env.cells []):=by have e:=jv env scope.names [] h;unfold closureFor;rw[<-bind_pure (forIn scope.names [] _)]at e;exact e
theorem qH:∀(names:List (Str×NameKind))(cells acc:List (Str×Addr))(x:Str)(c:Addr),(∀x c,acc.lookup x=some c->cells.lookup x=some c)->(nW names cells acc).lookup x=some c->cells.lookup x=some c
 |[],_,_,x,c,h,e=>h x c e
 |(n,k)::r,cells,acc,x,c,h,e=>by
  refine qH r cells _ x c (λy d a=>?_) e;split at a
  ·split at a
   ·rename_i c' b;rw[N9]at a;by_cases hyn:(y==n)=true
    ·rw[hyn]at a;have f:y=n:=eq_of_beq hyn;subst f;cases a;exact b
    ·have:(y==n)=false:=by simpa using hyn
     rw[this]at a;exact h y d a
   ·exact h y d a
  ·exact h y d a
theorem sJ:∀(names:List (Str×NameKind))(cells acc:List (Str×Addr))(x:Str),(∃c,acc.lookup x=some c)->∃c,(nW names cells acc).lookup x=some c
 |[],_,_,_,h=>h
 |(n,k)::r,cells,acc,x,h=>by
  refine sJ r cells _ x ?_;split
  ·split
   ·rw[N9];cases (x==n)
    ·exact h
    ·exact⟨_,rfl⟩
   ·exact h
  ·exact h
theorem lW:∀(names:List (Str×NameKind))(cells acc:List (Str×Addr))(x:Str)(c:Addr),(x,NameKind.free)∈names->cells.lookup x=some c->∃c,(nW names cells acc).lookup x=some c
 |[],_,_,_,_,h,_=>by simp at h
 |(n,k)::r,cells,acc,x,c,h,e=>by
  rcases M8.mp h with h|h
  ·injection h with h1 h2
   subst h1;subst h2;refine sJ r cells _ x ?_;rw[if_pos #[2],e];exact⟨c,by simp[N9]⟩
  ·exact lW r cells _ x c h e
def blk(X:Cx)(M:List Str)(scope:Scope)(own:List Str)(C:Addr)(s2:Shared)(H2:Hp)(fp:List Addr):Cx where
 prog:=X.prog
 w:=X.w
 K:=X.K
 mg:=X.mg
 base:=X.base
 A:=X.A
 N:=M++own
 s₀:=s2
 H₀:=H2
 env:=compEnvC scope (nW scope.names X.env.cells []) C X.env
 outer:=X.stack
 stack:=X.stack
 ex:=fp
 fn:=λ_=>false
 calm:=X.calm
 pn:=[]
 xe:=λ_ _=>False
structure kg(X:Cx)(M:List Str)(scope:Scope)(own:List Str):Prop where
 kind:scope.kind=.function
 nocell:∀y∈scope.names,y.2≠.cell
 names:∀y∈scope.names,y.2=.local->scope.names.lookup y.1=some .local
 free:∀y∈scope.names,y.2=.free->Vis X.env.scope y.1/\X.env.scope.names.lookup y.1≠some .local
 own:∀x∈own,scope.names.lookup x=some .local
 outer:∀p∈X.N.zip M,(p.1=p.2/\scope.names.lookup p.2≠some .local)\/scope.names.lookup p.2=none
 len:M.length=X.N.length
def tP(N M:List Str)(a scope:Scope)(own:List Str):Bool :=
 (scope.kind==.function)&&scope.names.all (λy=>y.2 != .cell)&&scope.names.all (λy=>y.2 != .local||scope.names.lookup y.1==some .local) &&
 scope.names.all (λy=>y.2 != .free||(a.names.lookup y.1==some .cell||a.names.lookup y.1==some .free)) &&
 own.all (λx=>scope.names.lookup x==some .local)&&(N.zip M).all (λp=>(p.1==p.2&&scope.names.lookup p.2 != some .local)||scope.names.lookup p.2==none)&&(M.length==N.length)
theorem kg.of(h:tP X.N M X.env.scope scope own=true):kg X M scope own:=by
 unfold tP at h;simp only[M9,MX,OG,bne_iff_ne,beq_iff_eq,ne_eq]at h;obtain⟨⟨⟨⟨⟨⟨h1,h2⟩,h3⟩,b⟩,c⟩,f⟩,g⟩:=h;refine⟨h1,h2,λy a e=>(h3 y a).resolve_left λz=>z e,λy a e=>?_,c,f,g⟩;rcases (b y a).resolve_left λz=>z e with q|q
 ·exact⟨.inr (.inl q),by rw[q];intro z;cases z⟩
 ·exact⟨.inr (.inr q),by rw[q];intro z;cases z⟩
theorem eS{env:Env}:∀{names:List (Str×NameKind)}{x:Str}{k:NameKind},
  (names.map λ(n,k)=>if (k==NameKind.free&&env.scope.kind==.function&&env.kindOf n==some .cell) then (n,NameKind.cell) else (n,k)).lookup x=some k->(k=.cell\/k=.free)->(∀y∈names,y.2≠.cell)->(x,NameKind.free)∈names
 |[],_,_,h,_,_=>by simp at h
 |(n,k')::r,x,k,h,a,hn=>by
  have b:∀y∈r,y.2≠NameKind.cell:=λy c=>hn y (M3 _ c)
  rw[M5,N9]at h;by_cases hc:(k'==NameKind.free&&env.scope.kind==.function&&env.kindOf n==some .cell)=true
  ·have f:k'=.free:=by have:=hc;simp only[M9]at this;exact eq_of_beq this.1.1
   simp only[if_pos hc]at h;cases hx:x==n with
   |true =>have:x=n:=eq_of_beq hx;subst this;subst f;exact M7
   |false =>rw[hx]at h;exact M3 _ (eS h a b)
  ·simp only[if_neg hc]at h;cases hx:x==n with
   |true =>
    rw[hx]at h;have e:k'=k:=Option.some.inj h;have:x=n:=eq_of_beq hx;subst this;subst e;rcases a with a|a
    ·exact absurd a (hn _ M7)
    ·subst a;exact M7
   |false =>rw[hx]at h;exact M3 _ (eS h a b)
theorem eR{env:Env}:∀{names:List (Str×NameKind)}{x:Str}{k:NameKind},
  (names.map λ(n,k)=>if (k==NameKind.free&&env.scope.kind==.function&&env.kindOf n==some .cell) then (n,NameKind.cell) else (n,k)).lookup x=some k->(∃k0,names.lookup x=some k0/\(k=k0\/(k=.cell/\k0=.free)))
 |[],_,_,h=>by simp at h
 |(n,k')::r,x,k,h=>by
  rw[M5,N9]at h;rw[N9];by_cases hc:(k'==NameKind.free&&env.scope.kind==.function&&env.kindOf n==some .cell)=true
  ·have a:k'=.free:=by have:=hc;simp only[M9]at this;exact eq_of_beq this.1.1
   simp only[if_pos hc]at h;cases hx:x==n with
   |true =>rw[hx]at h;exact⟨k',rfl,.inr ⟨(Option.some.inj h).symm,a⟩⟩
   |false =>rw[hx]at h;exact eR h
  ·simp only[if_neg hc]at h;cases hx:x==n with
   |true =>rw[hx]at h;exact⟨k',rfl,.inl (Option.some.inj h).symm⟩
   |false =>rw[hx]at h;exact eR h
section
variable {H2:Hp}{s2:Shared}
theorem Inv.blk{h1:Heap}{t':Nat}(I:Inv X pins σ H2 s2)(B:kg X M scope own)(H:∀b∈fp,q9 X pins H2 b)(J:∀b∈fp,b<s2.heap.objs.size)
  (A:D=s2.heap.objs.size) (G:C=s2.heap.objs.size+1) (hl:h1.get? D=some { cls:=.type "list",data:=.seq ([]:List Value).toArray 0 })
  (hn:h1.Ns C (λ_=>none)) (g:∀b o,s2.heap.get? b=some o->h1.get? b=some o) :
  Inv (L2.blk X M scope own C s2 H2 fp) [] (σ++List.replicate own.length none) (upd H2 D (.lst [])) { s2 with heap:=h1,toks:=t' }:=by
 have a:∀x c,(nW scope.names X.env.cells []).lookup x=some c->X.env.cells.lookup x=some c:=λx c e=>qH _ _ _ _ _ (λ_ _ z=>by simp at z) e
 have K:∀x c,(nW scope.names X.env.cells []).lookup x=some c->c<s2.heap.objs.size:=λx c e=>by obtain⟨v,q⟩:=I.cell x c (a x c e);exact q.lt
 have n:H2 D=none:=I.hok.fresh (by rw[A];exact My _);have freeC:H2 C=none:=I.hok.fresh (by rw[G];exact Oc _);have L:C≠D:=by rw[G,A];exact Nat.succ_ne_self _
 have W:Un (frs X.stack) fp H2 (upd H2 D (.lst [])) s2.heap h1:=Un.laid g (by rw[A];exact My _) n;refine⟨⟨I.ok.mod,?_,I.ok.glob,I.ok.blt,?_,?_,?_,?_,I.ok.hd,I.ok.frames,.inl rfl,?_,I.bs,Nq I.ok.bsz I.sz,?_,?_,I.stack,I.stkFree⟩,rfl,I.bare,W,?_,?_,?_,?_,?_,?_,?_,λP q t=>W.tbls P q (I.tab P q t)⟩
 ·exact B.kind
 ·show s2.heap.objs.size<=C;rw[G];exact Oc _
 ·intro x y c e1 e2;exact I.ok.inj x y c (a x c e1) (a y c e2)
 ·intro x h;have hm:(x,NameKind.free)∈scope.names:=by
   rcases h with h|h
   ·exact eS h (.inl rfl) B.nocell
   ·exact eS h (.inr rfl) B.nocell
  obtain⟨hv,s⟩:=B.free _ hm rfl;have hh:X.env.kindOf x=some .cell\/X.env.kindOf x=some .free:=by
   rcases hv with z|z|z
   ·exact absurd z s
   ·exact .inl z
   ·exact .inr z
  obtain⟨c,e⟩:=I.ok.has x hh;exact lW _ _ _ x c hm e
 ·intro x c O _;exact absurd (show false=true from O) #[2]
 ·intro b w;refine⟨?_,λx c e z=>?_⟩
  ·show b≠C;rw[G];exact MV (Np (J b w))
  ·exact (H b w).2.2.2.2.1 x c (a x c e) z
 ·intro b o e w;obtain⟨_,_,_,f3,_⟩:=H b w;rcases f3 with z|z
  ·exact I.ok.noex b o e z
  ·exact absurd (MZ (MS (I.ok.bs b o e).1) z) (O2 _)
 ·intro b w hs;obtain⟨_,f1,f2,_⟩:=H b w;rcases M8.mp (I.stkSub b hs) with z|z
  ·exact f1 z
  ·exact f2 z
 ·refine⟨_,hn,λi x v e1 e2 Y=>?_⟩;have hi:i<σ.length:=by
   by_cases hi:i<σ.length
   ·exact hi
   ·rw[N6 (by omega),OA]at e2;split at e2 <;> cases e2
  rw[N5 hi]at e2;have E:i<X.N.length:=by rw[<-I.len];exact hi
  have Q:i<M.length:=by rw[B.len];exact E
  have R:M[i]?=some x:=by
   have:(M++own)[i]?=some x:=e1
   rwa[N5 Q]at this
  obtain⟨y,Z⟩:∃y,X.N[i]?=some y:=⟨_,M1 E⟩
  have hz:(y,x)∈X.N.zip M:=Nm (i:=i) (by rw[List.getElem?_zip_eq_some];exact⟨Z,R⟩);have S:∃k,scope.names.lookup x=some k:=by
   rcases Y with z|z|z
   ·obtain⟨k0,f,_⟩:=eR (show _=some NameKind.local from z);exact⟨k0,f⟩
   ·obtain⟨k0,f,_⟩:=eR (show _=some NameKind.cell from z);exact⟨k0,f⟩
   ·obtain⟨k0,f,_⟩:=eR (show _=some NameKind.free from z);exact⟨k0,f⟩
  have j:y=x/\scope.names.lookup x≠some .local:=by
   rcases B.outer _ hz with q|q
   ·exact q
   ·obtain⟨k,g⟩:=S;rw[q]at g;cases g
  have T:X.N[i]?=some x:=by rw[<-j.1];exact Z
  have h:(relabel scope X.env).names.lookup x=some .cell\/(relabel scope X.env).names.lookup x=some .free:=by
   rcases Y with z|z
   ·obtain⟨k0,f,g⟩:=eR (show _=some NameKind.local from z);rcases g with g|⟨g,_⟩
    ·subst g;exact absurd f j.2
    ·cases g
   ·exact z
  have hm:(x,NameKind.free)∈scope.names:=by
   rcases h with h|h
   ·exact eS h (.inl rfl) B.nocell
   ·exact eS h (.inr rfl) B.nocell
  obtain⟨hv,s⟩:=B.free _ hm rfl;obtain⟨m,_,U⟩:=I.loc;obtain⟨u,r,l⟩:=U i x v T e2 hv;refine⟨u,r,.inr ⟨h,?_⟩⟩;rcases l with⟨z,_⟩|⟨_,c,hc,z⟩
  ·exact absurd z s
  ·obtain⟨c',F⟩:=lW scope.names X.env.cells [] x c hm hc;have:=a x c' F;rw[hc]at this;cases this;exact⟨c,F,z.keeps g⟩
 ·intro x c e;obtain⟨v,q⟩:=I.cell x c (a x c e);exact⟨v,q.keeps g⟩
 ·show upd H2 D (.lst []) C=none;rw[aC L];exact freeC
 ·intro x c e;have h1:=K x c e;rw[aC (by rw[A];exact MV h1)];exact I.freeC x c (a x c e)
 ·intro p hp;exact absurd (show p∈([]:List (Addr×Obj))++[] from hp) (by simp)
 ·exact I.hok.laid g (by rw[A];exact My _) ⟨NC _,[],0,.nil,hl⟩
 ·show (σ++List.replicate own.length none).length=(M++own).length;rw[MN,MN,List.length_replicate,I.len,B.len]
theorem Inv.unblk{a:St}(I:Inv X pins σ H2 s2)(i:∀b∈fp,q9 X pins H2 b)(f:s2.heap.objs.size<=C)
  (J:Inv (L2.blk X M scope own C s2 H2 fp) [] a H' s') (j:Heap.SameBut C s'.heap h'):Inv X pins σ H' { s' with heap:=h' }:=by
 have h:H' C=none:=J.free;have k:∀b o,b≠C->s'.heap.get? b=some o->h'.get? b=some o:=λb o g e=>(j.2 b g).trans e
 have old:∀b o,s2.heap.get? b=some o->b≠C:=λb o e=>MV (MZ (MS e) f)
 have u:Un (frs X.stack) fp H2 H' s2.heap s'.heap:=J.base;refine I.call' (s':={ s' with heap:=h' }) (ch:=fp) J.os ?_ ?_ J.bare λb g=>?_
 ·refine⟨λb o e n h1 h2=>k b o (old b o e) (u.keep b o e n h1 h2),λb o e n h1 h2=>?_,u.free,λb o e h1=>?_,u.tups,u.frzs,u.tbls⟩
  ·obtain⟨l,q⟩:=u.slot b o e n h1 h2;exact⟨l,k b _ (old b o e) q⟩
  ·obtain⟨o',q⟩:=u.there b o e h1;exact⟨o',k b o' (old b o e) q⟩
 ·intro b o e;refine (J.hok b o e).stay (λc v hc q=>k c v ?_ q) (λ_ q=>q) λ_ _ q=>q
  rintro rfl
  rcases hc with z|z
  ·subst z;rw[h]at e;cases e
  ·rw[h]at z;cases z
 ·obtain⟨f0,f1,f2,m,p,r⟩:=i b g;exact⟨m,f1,p,r⟩
end
section
variable {A:Around}{R:Result->Shared->Prop}
theorem uL{target:Expr}{it acc:Value}(I:Nat->Shared->Prop)
  (turn:∀n s,I n s->wpAny #[26] A (pyNext it) (λr a=>match r with
   |none=>R (.ok .next) a
   |some v=>wpAny #[26] A (letOwnedTupleGo target it v) (λ_ j=>wpAny #[26] A (assign target env v) (λ_ e =>
    wpAny #[26] A (forIn ifs true λc r=>if r=true then do let ok <-isTrue c env (eval c env);pure (ForInStep.yield ok) else pure (ForInStep.yield r)) (λok b =>
     if ok=true then wpAny #[26] A (eval elt env) (λx f =>
      wpAny #[26] A (call (.builtin "list.append") [acc,x]) (λ_ g=>∃m,m<n/\I m g) (λ_ _=>False) f) (λ_ _=>False) b
     else ∃m,m<n/\I m b) (λ_ _=>False) e) (λ_ _=>False) j) (λ_ _=>False) a) (λ_ _=>False) s)
  (n:Nat) (h:I n s) :
  codeAny #[26] A (.compLoop (.ListComp elt [⟨target,iter,ifs,0⟩] scope pos) 0 it acc env) R s:=by
 refine codeAny_loop rfl I (λn s t=>?_) n h;show wpAny _ A ((compTurn (.ListComp elt [⟨target,iter,ifs,0⟩] scope pos) 0 it acc env).onRaise (λx=>do noteFrame x env;theTreesLotGoes x)) _ _ s;refine wpAny_noted ?_;rw[compTurn_list];refine wpAny_bind (wpAny_standAt (wpAny_bind (wpAny_mono (turn n s t) (λr a h₁=>?_) λ_ _ h'=>h'.elim)));cases r with
 |none=>exact wpAny_pure h₁
 |some v =>
  refine wpAny_bind (wpAny_mono h₁ (λ_ j q=>?_) λ_ _ h'=>h'.elim);refine wpAny_bind (wpAny_mono q (λ_ e l=>wpAny_bind (wpAny_mono l (λok b i=>?_) λ_ _ h'=>h'.elim)) λ_ _ h'=>h'.elim);cases ok with
  |false=>exact wpAny_pure ⟨rfl,i⟩
  |true =>exact wpAny_bind (wpAny_bind (wpAny_mono i (λx f o=>wpAny_bind (wpAny_mono o (λ_ g p=>wpAny_pure (wpAny_pure ⟨rfl,p⟩)) λ_ _ h'=>h'.elim)) λ_ _ h'=>h'.elim))
end
def vZ:TT:=λ_ H Q=>Q true H
inductive PTs (X:Cx):List Expr->TT->Prop
 |nil:PTs X [] vZ
 |one {c:Expr} {t:TT} (h:PT X c t):PTs X [c] t
theorem PTs.run{t:TT}(h:PTs X ifs t){Q:Bool->Hp->Prop}(I:Inv X pins σ H s)(q:t σ H Q) :
  wpAny #[4] X.A (forIn ifs true λc r=>if r=true then do let ok <-isTrue c X.env (eval c X.env);pure (ForInStep.yield ok) else pure (ForInStep.yield r)) (TP X pins σ Q) X.xe s:=by
 cases h with
 |nil=>exact wpAny_tests_nil ⟨H,I,q⟩
 |one h=>exact wpAny_tests_one (h pins s σ H Q I q)
def LCR(J:It)(n:Nat)(g:TG)(tt:TT)(te:TE)(σ:St)(H1:Hp)(Q:VK):Prop:=∀D,H1 D=none->∃W:Nat->Nat->List V->Hp->Prop,(∃m,W 0 m [] (upd H1 D (.lst []))) /\
 ∀i m ys H,W i m ys H->H D=some (.lst ys)/\((J.stop i H/\Q (.ref D) H)\/(J.go i H/\∀x H' e,e.length=n->J.yld i H x H'->g x (σ++e) H' λc H2=>tt c H2 λb h =>
  if b=true then te c h λv j=>j D=some (.lst ys)/\ys.length<sizeLine/\(∃a,c=σ++a/\a.length=n)/\∃f,f < m/\W (i+1) f (ys++[v]) (upd j D (.lst (ys++[v])))
  else (∃a,c=σ++a/\a.length=n)/\∃f,f < m/\W (i+1) f ys h))
def tLC(n:Nat)(a:TI)(g:TG)(tt:TT)(te:TE):TE:=λσ H Q=>a σ H λJ H1=>LCR J n g tt te σ H1 Q
theorem rm{wi:TI}{tt:TT}{te:TE}{use:Option (Value->Sem Unit)}{Qf:Value->Shared->Prop}(hc:X.calm=true)(hi:PI X tg iter wi)
  (hg:∀C s2 H2 fp,PG (blk X M scope own C s2 H2 fp) tg g) (ht:∀C s2 H2 fp,PTs (blk X M scope own C s2 H2 fp) ifs tt) (he:∀C s2 H2 fp,PE (blk X M scope own C s2 H2 fp) elt te)
  (hB:tP X.N M X.env.scope scope own=true) (hs:∀x,foldedSetIterable iter X.env x=pure x) {Q:VK} (I:Inv X pins σ H s) (h:tLC own.length wi g tt te σ H Q)
  (fin:∀(C D:Addr)(O:Shared)(L:Hp),(∀h',Heap.SameBut C O.heap h'->Inv X pins σ L { O with heap:=h' })->(∃m,O.heap.Ns C m)->L C=none->C≠X.env.locals->(∀x c,X.env.cells.lookup x=some c->c≠C)->(∀p∈X.pn++pins,p.1≠C)->X.s₀.heap.objs.size<=C->Q (.ref D) L ->
   compPost #[4] X.A X.xe use Qf (.ref D) C (.ok .next) O) :
  wpAny #[4] X.A (comprehension (.ListComp elt [⟨tg,iter,ifs,0⟩] scope pos) scope X.env cpos (newList []) false (eval iter X.env) use) Qf X.xe s:=by
 have B:kg X M scope own:=kg.of hB;have P:closureFor scope X.env=pure (nW scope.names X.env.cells []):=jR λy hy hf=>by
  obtain⟨hv,hnl⟩:=B.free y hy hf;have hh:X.env.kindOf y.1=some .cell\/X.env.kindOf y.1=some .free:=by
   rcases hv with z|z|z
   ·exact absurd z hnl
   ·exact .inl z
   ·exact .inr z
  exact I.ok.has y.1 hh
 refine wpAny_comprehension_free (use:=use) rfl hs P B.kind B.names (thn (hi pins s σ H _ I h) λv s1 h1=>thn h1 λitv s2 h2=>?_);obtain⟨it,fp,tn,J,H2,e,R,T,S,f2,hD⟩:=h2;subst e;have U:∀b∈fp,b<s2.heap.objs.size:=λb l=>by obtain⟨o,q,_⟩:=T.obj _ _ S b l;exact MS q
 obtain⟨W,⟨m0,w0⟩,turn⟩:=hD s2.heap.objs.size (R.hok.fresh (My _));refine wpAny_newObj_type (wpAny_newFunctionEnv B.nocell (by intro y hy;simp at hy) (λh₁ j f=>?_) B.kind);dsimp only at j f ⊢;generalize hG:s2.heap.push { cls:=.type "list",dict:=none,data:=.seq ([]:List Value).toArray }=G at j f ⊢;have hC:G.objs.size=s2.heap.objs.size+1:=by rw[<-hG,Heap.size_push]
 have hk:∀b o,s2.heap.get? b=some o->h₁.get? b=some o:=λb o e=>f.extBut b o (by rw[hC];exact MV (Np (MS e))) (M4 _ (hG▸M4 _ e))
 have hDC:s2.heap.objs.size≠G.objs.size:=by rw[hC];exact MV (NO _)
 have hl:h₁.get? s2.heap.objs.size=some { cls:=.type "list",data:=.seq ([]:List Value).toArray 0 }:=f.extBut _ _ hDC (M4 _ (hG▸MU _ rfl));have hns:h₁.Ns G.objs.size (λ_=>none):=by
  have e:(λx=>([]:List (Str×Value)).reverse.lookup x)=λ_=>none:=by funext x;rfl
  rw[<-e];exact j
 have I3:=λt'=>R.blk (t':=t') (C:=G.objs.size) (D:=s2.heap.objs.size) B f2 U rfl hC hl hns hk
 have t:∀{H':Hp},(∀b∈fp,H' b=none)->∀b∈fp,q9 (blk X M scope own G.objs.size s2 H2 fp) [] H' b:=λhn b l=>by
  refine⟨hn b l,?_,?_,.inl l,λx c e z=>?_,λp hp=>absurd (show p∈([]:List (Addr×Obj))++[] from hp) (by simp)⟩
  ·show b≠G.objs.size;rw[hC];exact MV (Np (U b l))
  ·exact (I3 0).ok.exfs b l
  ·exact ((I3 0).ok.exf b l).2 x c e z
 have loop:∀s3:Shared,(∃t',s3={ s2 with heap:=h₁,toks:=t' })->codeAny #[4] X.A (.compLoop (.ListComp elt [⟨tg,iter,ifs,0⟩] scope pos) 0 (.ref it) (.ref s2.heap.objs.size) (compEnvC scope (nW scope.names X.env.cells []) G.objs.size X.env))
   (compPost #[4] X.A X.xe use Qf (.ref s2.heap.objs.size) G.objs.size) s3:=by
  rintro s3 ⟨t',rfl⟩
  refine uL (λn s'=>∃i ys K H',K.length=own.length/\Inv (blk X M scope own G.objs.size s2 H2 fp) [] (σ++K) H' s'/\tn i s'.heap/\(∀b∈fp,H' b=none)/\W i n ys H') ?_ m0
   ⟨0,[],_,_,by simp,I3 t',T.keep _ _ _ S λb l o e=>hk b o e,λb l=>by rw[aC (MV (U b l))];exact (f2 b l).1,w0⟩
  rintro n s4 ⟨i,ys,K,L,hl',I4,st4,fr4,w4⟩
  obtain⟨hDl,alt⟩:=turn i n ys L w4;rcases alt with⟨stop,qn⟩|⟨go,step⟩
  ·refine thn (T.done (blk X M scope own G.objs.size s2 H2 fp) rfl rfl rfl hc i [] s4 _ L _ I4 (t fr4) st4 stop) λr O a=>?_
   obtain⟨hr,I5⟩:=a;subst hr;obtain⟨m,hn,_⟩:=I5.loc;have cS:s2.heap.objs.size<=G.objs.size:=by rw[hC];exact Oc _
   refine fin G.objs.size s2.heap.objs.size O L (λh' hs'=>R.unblk (C:=G.objs.size) f2 cS I5 hs') ⟨m,hn⟩ I5.free ?_ (λx c e=>?_) (λp hp=>?_) (Nq R.sz cS) qn
   ·obtain⟨_,hl0,_⟩:=R.loc;exact ND (MZ hl0.lt cS)
   ·obtain⟨_,q⟩:=R.cell x c e;exact MV (MZ q.lt cS)
   ·exact MV (MZ (MS (R.pin p hp).1) cS)
  ·refine thn (T.item (blk X M scope own G.objs.size s2 H2 fp) rfl rfl rfl hc i [] s4 _ L _ I4 (t fr4) st4 go) λr O a=>?_
   obtain⟨u,hr,h5⟩:=a;subst hr;refine thn h5 λ_ s6 a=>?_
   obtain⟨x,H6,I6,r6,y6,Y,fr6⟩:=a;have I6':=I6.pinned (t fr6) (T.obj _ _ Y);have kp:∀{E:St}{H7:Hp}{s7:Shared},Inv (blk X M scope own G.objs.size s2 H2 fp) ([]++qA fp s6.heap) E H7 s7->tn (i+1) s7.heap/\∀b∈fp,H7 b=none:=λ{E H7 s7} I7=>by refine⟨T.keep _ _ _ Y λb l o e=>(I7.pin (b,o) (ML _ (ML _ (jG l e)))).1,λb l=>?_⟩;obtain⟨o,e,d⟩:=T.obj _ _ Y b l;exact (I7.pin (b,o) (ML _ (ML _ (jG l e)))).2.1
   refine thn (hg _ _ _ _ _ s6 _ H6 x u _ I6' r6 (step x H6 K hl' y6)) λ_ s7 a=>?_
   obtain⟨E,H7,I7,q7⟩:=a;refine thn ((ht _ _ _ _).run I7 q7) λok s8 a=>?_
   obtain⟨H8,I8,q8⟩:=a;cases ok with
   |false =>
    obtain⟨⟨F,e,Z⟩,m',hm,w8⟩:=(show if false=true then _ else _ from q8)
    subst e;obtain⟨k1,k2⟩:=kp I8;exact⟨m',hm,i+1,ys,F,H8,Z,I8.unpinned,k1,k2,w8⟩
   |true =>
    have q8:te E H8 _:=q8;refine thn (he _ _ _ _ _ s8 E H8 _ I8 q8) λy s9 a=>?_
    obtain⟨v,H9,I9,r9,d9,z9,⟨F,e,Z⟩,m',hm,w9⟩:=a;subst e;refine thn (nC (X:=blk X M scope own G.objs.size s2 H2 fp) _ s9 _ H9 (.ref s2.heap.objs.size) [v] (.ref s2.heap.objs.size) [y] (λ_ H'=>H'=upd H9 s2.heap.objs.size (.lst (ys++[v]))) I9 rfl (.cons r9 .nil) ⟨_,ys,v,rfl,rfl,d9,z9,rfl⟩) λ_ s10 a=>?_
    obtain⟨_,H10,I10,_,e10⟩:=a;subst e10;obtain⟨k1,k2⟩:=kp I10;exact⟨m',hm,i+1,ys++[v],F,_,Z,I10.unpinned,k1,k2,w9⟩
 exact codeAny_compStart_list (loop _ ⟨_,rfl⟩) (T.self _ 0 _ _ _ (T.keep _ _ _ S λb l o e=>hk b o e) (loop _ ⟨_,rfl⟩))
theorem Es{c:TI}{tt:TT}{te:TE}(hc:X.calm=true)(hi:PI X tg iter c)
  (e:∀C s2 H2 fp,PG (blk X M scope own C s2 H2 fp) tg g) (f:∀C s2 H2 fp,PTs (blk X M scope own C s2 H2 fp) ifs tt) (i:∀C s2 H2 fp,PE (blk X M scope own C s2 H2 fp) elt te)
  (hB:tP X.N M X.env.scope scope own=true:=by rfl) (j:∀x,foldedSetIterable iter X.env x=pure x:=by intro _;rfl):PE X (.ListComp elt [⟨tg,iter,ifs,0⟩] scope pos) (tLC own.length c g tt te):=by
 intro pins s σ H Q I h;rw[eval_ListComp];refine rm hc hi e f i hB j I h λC D s5 l k a _ _ _ _ _ q=>?_
 obtain⟨m,hn⟩:=a;exact⟨m,hn,λh' b=>⟨.ref D,l,k h' b,rfl,q⟩⟩
theorem qt{A:TI}{tt:TT}{te:TE}(hc:X.calm=true)(L:X.N.Nodup)(j:X.N[i]?=some x)(O:Loc X.env.scope x)
  (l:swapsWith (.ListComp elt [⟨tg,iter,ifs,0⟩] scope pos) (some (.Name x pos')) spos.line X.env=pure true) (hi:PI X tg iter A)
  (P:∀C s2 H2 fp,PG (blk X M scope own C s2 H2 fp) tg g) (Q:∀C s2 H2 fp,PTs (blk X M scope own C s2 H2 fp) ifs tt) (R:∀C s2 H2 fp,PE (blk X M scope own C s2 H2 fp) elt te)
  (hB:tP X.N M X.env.scope scope own=true:=by rfl) (S:∀x,foldedSetIterable iter X.env x=pure x:=by intro _;rfl) (T:X.fn x=true\/X.env.scope.names.lookup x=some .local:=by first|exact .inl rfl|exact .inr rfl|assumption) :
  PS X (.Assign [.Name x pos'] (.ListComp elt [⟨tg,iter,ifs,0⟩] scope pos) spos) (B5 (tLC own.length A g tt te) (ku i)):=by
 intro pins s σ H D I h;show wpAny _ _ (exec _ X.env) _ _ s;rw[exec_Assign_Name_used _ _ _ _ l];refine wpAny_bind (wpAny_standAt (wpAny_bind ?_));rw[arm_evalThenUse_ListComp];refine wpAny_bind (thn (rm (use:=some (assign (.Name x pos') X.env)) (Qf:=λ_ s'=>SP X pins D .next s') hc hi P Q R hB S I h λC B E U k p F G J W ns q=>?_) λ_ s' Y=>wpAny_pure (wpAny_pure Y));obtain⟨m,hn⟩:=p;have Z:=k E.heap (Heap.SameBut.refl _ _);show wpAny _ _ (assign (.Name x pos') X.env (.ref B)) _ _ E;refine wpAny_assign_Name (sX (v:=.ref B) Z L j O rfl (λK r t=>?_) T);obtain⟨a,sb,ha⟩:=t;have u:C≠a:=by
  rcases ha with rfl|ha
  ·exact G
  ·exact λz=>J x a ha z.symm
 refine⟨m,hn.sameBut sb u,λh' w=>⟨_,U,?_,q⟩⟩;have f:∀b o,b≠C->K.heap.get? b=some o->h'.get? b=some o:=λb o y e=>(w.2 b y).trans e
 refine r.call' (s':={ K with heap:=h' }) (ch:=[C]) rfl ?_ ?_ r.bare λb y=>?_
 ·refine⟨λb o e _ _ z=>f b o (λq=>z (by rw[q];exact MR.mpr rfl)) e,λb o e _ _ z=>⟨o.slots,f b o (λq=>z (by rw[q];exact MR.mpr rfl)) e⟩,λ_ _ _ n _=>n,λb o e z=>⟨o,f b o (λq=>z (by rw[q];exact MR.mpr rfl)) e⟩,λ_ _ q=>q,λ_ _ _ q=>q,λ_ _ q=>q⟩
 ·intro b o e;refine (r.hok b o e).stay (λc v hc q=>f c v ?_ q) (λ_ q=>q) λ_ _ q=>q
  rintro rfl
  rcases hc with z|z
  ·subst z;rw[F]at e;cases e
  ·rw[F]at z;cases z
 ·rw[MR.mp y];exact⟨.inr ns,λz=>G z,J,W⟩
mutual
def IsD(K:W.Frag)(H:Hp):PyData->V->Prop
 |.none,v=>v=.non
 |.bool b,v=>v=.bl b
 |.int i,v=>v=.int i
 |.str x,v=>v=.str x
 |.list ds,v=>∃a xs,v=.ref a/\SqL K H a xs/\fz K H ds xs
 |.tuple ds,v=>∃a xs,v=.ref a/\SqT K H a xs/\fz K H ds xs
 |.dict _,_=>False
def fz(K:W.Frag)(H:Hp):List PyData->List V->Prop
 |[],vs=>vs=[]
 |d::ds,vs=>∃v r,vs=v::r/\IsD K H d v/\fz K H ds r
end
theorem ax.tupS(e:ax H H')(h:SqT K H a xs):SqT K H' a xs:=by
 rcases h with (h|⟨o,h⟩)|h
 ·exact .inl (.inl (e _ _ h))
 ·exact .inl (.inr ⟨o,e _ _ h⟩)
 ·exact .inr h
mutual
theorem IsD.same{K:W.Frag}{H H':Hp}(e:ax H H'):∀{d:PyData}{v:V},IsD K H d v->IsD K H' d v
 |.none,_,h=>by unfold IsD at h ⊢;exact h
 |.bool _,_,h=>by unfold IsD at h ⊢;exact h
 |.int _,_,h=>by unfold IsD at h ⊢;exact h
 |.str _,_,h=>by unfold IsD at h ⊢;exact h
 |.list ds,_,h=>by unfold IsD at h ⊢;obtain⟨a,xs,e1,h1,h2⟩:=h;exact⟨a,xs,e1,e.seq h1,fz.same e h2⟩
 |.tuple ds,_,h=>by unfold IsD at h ⊢;obtain⟨a,xs,e1,h1,h2⟩:=h;exact⟨a,xs,e1,e.tupS h1,fz.same e h2⟩
 |.dict _,_,h=>by unfold IsD at h;exact h.elim
theorem fz.same{K:W.Frag}{H H':Hp}(e:ax H H'):∀{ds:List PyData}{vs:List V},fz K H ds vs->fz K H' ds vs
 |[],_,h=>by unfold fz at h ⊢;exact h
 |d::ds,_,h=>by unfold fz at h ⊢;obtain⟨v,r,e1,h1,h2⟩:=h;exact⟨v,r,e1,IsD.same e h1,fz.same e h2⟩
end
section
theorem ur{i:Int}:IsD K H (.int i) (.int i):=by unfold IsD;rfl
theorem Ek{b:Bool}:IsD K H (.bool b) (.bl b):=by unfold IsD;rfl
theorem EO:IsD K H .none .non:=by unfold IsD;rfl
theorem Hj:IsD K H (.str x) (.str x):=by unfold IsD;rfl
theorem G4(h:SqT K H a xs)(h2:fz K H ds xs):IsD K H (.tuple ds) (.ref a):=by unfold IsD;exact⟨a,xs,rfl,h,h2⟩
theorem uO(h:SqL K H a xs)(h2:fz K H ds xs):IsD K H (.list ds) (.ref a):=by unfold IsD;exact⟨a,xs,rfl,h,h2⟩
theorem qh:fz K H [] []:=by unfold fz;rfl
theorem sO{d:PyData}(h:IsD K H d v)(h2:fz K H ds vs):fz K H (d::ds) (v::vs):=by unfold fz;exact⟨v,vs,rfl,h,h2⟩
theorem IsD.ofInt{i:Int}(h:IsD K H (.int i) v):v=.int i:=by unfold IsD at h;exact h
theorem IsD.ofBool{i:Bool}(h:IsD K H (.bool i) v):v=.bl i:=by unfold IsD at h;exact h
theorem IsD.ofNone(h:IsD K H .none v):v=.non:=by unfold IsD at h;exact h
theorem IsD.ofStr(h:IsD K H (.str x) v):v=.str x:=by unfold IsD at h;exact h
theorem IsD.ofTup(h:IsD K H (.tuple ds) v):∃a xs,v=.ref a/\SqT K H a xs/\fz K H ds xs:=by unfold IsD at h;exact h
theorem IsD.ofLst(h:IsD K H (.list ds) v):∃a xs,v=.ref a/\SqL K H a xs/\fz K H ds xs:=by unfold IsD at h;exact h
theorem fz.nil_of(h:fz K H [] vs):vs=[]:=by unfold fz at h;exact h
theorem fz.cons_of{d:PyData}(h:fz K H (d::ds) vs):∃v r,vs=v::r/\IsD K H d v/\fz K H ds r:=by unfold fz at h;exact h
theorem sZ:∀(ns:List Int),fz K H #[20] (ns.map V.int)
 |[]=>qh
 |_::r=>sO ur (sZ r)
end
section
mutual
theorem Inv.reads(I:Inv X pins σ H s):∀{d:PyData}{v:V}{u:Value},IsD X.K H d v->RelV v u->∃as,Reads s.heap u d as
 |.none,_,_,h,r=>by rw[h.ofNone]at r;cases r;exact⟨_,.none⟩
 |.bool _,_,_,h,r=>by rw[h.ofBool]at r;cases r;exact⟨_,.bool _⟩
 |.int _,_,_,h,r=>by rw[h.ofInt]at r;obtain⟨t,rfl⟩:=r;exact⟨_,.int _ _⟩
 |.str _,_,_,h,r=>by rw[h.ofStr]at r;obtain⟨t,rfl⟩:=r;exact⟨_,.str _ _⟩
 |.list ds,_,_,h,r=>by obtain⟨a,xs,e,h1,h2⟩:=h.ofLst;subst e;cases r;obtain⟨b,f,⟨o,n,g,c,_,d⟩,_⟩:=I.list h1;obtain⟨as,i⟩:=Inv.readsAll I h2 f;exact⟨_,.list g c d (by simpa using i)⟩
 |.tuple ds,_,_,h,r=>by obtain⟨a,xs,e,h1,h2⟩:=h.ofTup;subst e;cases r;obtain⟨b,f,⟨o,g,c,n,d⟩,_⟩:=I.tuple h1;obtain⟨as,i⟩:=Inv.readsAll I h2 f;exact⟨_,.tuple g c d (by simpa using i)⟩
 |.dict _,_,_,h,_=>by unfold IsD at h;exact h.elim
theorem Inv.readsAll(I:Inv X pins σ H s):∀{ds:List PyData}{vs:List V}{us:List Value},fz X.K H ds vs->Vals vs us->∃as,ReadsAll s.heap us ds as
 |[],_,_,h,r=>by rw[h.nil_of]at r;cases r;exact⟨_,.nil⟩
 |d::ds,_,_,h,r=>by
  obtain⟨v,t,e,h1,h2⟩:=h.cons_of;subst e;cases r with
  |cons r1 r2 =>obtain⟨as,a⟩:=Inv.reads I h1 r1;obtain⟨bs,b⟩:=Inv.readsAll I h2 r2;exact⟨_,.cons a b⟩
end
open PySem.SeqAt in
theorem xX(a:X.A.units+64<cLine):OpR X (compareOp .Eq) (λx y H Q=>∃d e,IsD X.K H d x/\IsD X.K H e y/\shaped d=true/\shaped e=true/\Q (.bl (PyData.eqv d e)) H):=by intro pins s σ H x y v u Q I b c h;obtain⟨d,e,hd,f,g,i,q⟩:=h;obtain⟨as,j⟩:=I.reads hd b;obtain⟨bs,l⟩:=I.reads f c;exact eq_dataH j l g i a ⟨.bl _,H,I,rfl,q⟩
open PySem.SeqAt in
theorem Ji(a:X.A.units+64<cLine):OpR X (compareOp .NotEq) (λx y H Q=>∃d e,IsD X.K H d x/\IsD X.K H e y/\shaped d=true/\shaped e=true/\Q (.bl (!PyData.eqv d e)) H):=by intro pins s σ H x y v u Q I b c h;obtain⟨d,e,hd,f,g,i,q⟩:=h;obtain⟨as,j⟩:=I.reads hd b;obtain⟨bs,l⟩:=I.reads f c;exact ne_dataH j l g i a ⟨.bl _,H,I,rfl,q⟩
noncomputable def tyD:PyData->String
 |.none=>"NoneType"
 |.bool _=>"bool"
 |.int _=>"int"
 |.str _=>"str"
 |.list _=>"list"
 |.tuple _=>"tuple"
 |.dict _=>"dict"
def uu(d:PyData)(T:String):Bool:=tyD d==T||(T=="int"&&tyD d=="bool")
theorem Fd(K:W.Frag){a T:String}(ha:a∈["NoneType", "bool", "int", "str", "list", "tuple"])(b:T∈["bool", "int", "list", "tuple"]) :
  W.kitOne K (.type a) (.type T)=some (a==T||(T=="int"&&a=="bool")):=by
 simp only[M8,N1,or_false]at ha b;rcases ha with rfl|rfl|rfl|rfl|rfl|rfl <;> rcases b with rfl|rfl|rfl|rfl <;> rfl
theorem Fz{d:PyData}(h:IsD K H d v):tyD d∈["NoneType", "bool", "int", "str", "list", "tuple"]:=by
 cases d with
 |dict _=>unfold IsD at h;exact h.elim
 |_=>simp[tyD]
theorem xy:kf X (.builtin "isinstance") (λxs H Q=>∃d v T,xs=[v,.ty T]/\IsD X.K H d v/\T∈["bool", "int", "list", "tuple"]/\Q (.bl (uu d T)) H):=by
 intro pins s σ H xs us Q I r h;obtain⟨d,v,T,rfl,hd,l,q⟩:=h;obtain⟨u,c,rfl,f,m⟩:=vals2 r;cases m;have e:W.kitOne X.K (.type (tyD d)) (.type T)=some (uu d T):=Fd X.K (Fz hd) l;have fin:∀tk,EP X pins σ Q (.bool (uu d T)) { s with toks:=tk }:=λtk=>⟨.bl _,H,I.tok tk,rfl,q⟩
 cases d with
 |none=>rw[hd.ofNone]at f;cases f;exact W.kia_one W.kitx_none I.kIn True.intro e (λz=>nomatch z) fin
 |bool b=>rw[hd.ofBool]at f;cases f;exact W.kia_one W.kitx_bool I.kIn True.intro e (λz=>nomatch z) fin
 |int i=>rw[hd.ofInt]at f;obtain⟨t,rfl⟩:=f;exact W.kia_one W.kitx_int I.kIn True.intro e (λz=>nomatch z) fin
 |str x=>rw[hd.ofStr]at f;obtain⟨t,rfl⟩:=f;exact W.kia_one W.kitx_str I.kIn True.intro e (λz=>nomatch z) fin
 |list ds =>obtain⟨a,xs,e1,h1,h2⟩:=hd.ofLst;subst e1;cases f;obtain⟨j,p,⟨o,n,g,c,_,_⟩,_⟩:=I.list h1;exact W.kia_one W.kitx_list I.kIn ⟨o,g,c⟩ e (λz=>nomatch z) fin
 |tuple ds =>obtain⟨a,xs,e1,h1,h2⟩:=hd.ofTup;subst e1;cases f;obtain⟨j,p,⟨o,g,c,n,_⟩,_⟩:=I.tuple h1;exact W.kia_one W.kitx_tuple I.kIn ⟨o,g,c⟩ e (λz=>nomatch z) fin
 |dict _=>unfold IsD at hd;exact hd.elim
theorem pZ:∀{bs:List Bool}{us:List Value},Vals (bs.map V.bl) us->LSm.BoolsAre us bs
 |[],_,.nil=>.nil
 |b::r,_,.cons h t=>by cases (show _=Value.bool b from h);exact .cons b (pZ t)
theorem CL(hc:X.calm=true):kf X (.builtin "all") (λxs H Q=>∃(a:Addr)(bs:List Bool),xs=[.ref a]/\SqL X.K H a (bs.map V.bl)/\Q (.bl (bs.all id)) H):=by
 intro pins s σ H xs us Q I r h;obtain⟨a,bs,rfl,l,q⟩:=h;obtain⟨u,rfl,m⟩:=vals1 r;cases m;obtain⟨c,n,p,_⟩:=I.list l;have hl:=p.isList;have g:=pZ n;have f:a<s.heap.objs.size:=by obtain⟨_,e,_⟩:=hl;exact MS e
 refine call_all_walk (wpAny_pyIter_list hl ?_);refine⟨s.heap.objs.size,[s.heap.objs.size,a],[s.heap.objs.size],c.toArray.size,_,_,λi=>(bs[i]?).getD true,rfl,Walks.list (A:=X.A.in1) (I.ok.hd hc) _ a (MV f) c.toArray,
  ⟨⟨_,MU _ rfl,rfl,rfl⟩,hl.push _⟩,λi v s' Q' E' o j=>?_,λh' tk t=>?_⟩
 ·obtain⟨b,e,rfl⟩:=g.get i v (by simpa using o);simp only[e,OQ]at j;exact wpAny_truthy_bool j
 ·have e:((List.range c.toArray.size).all λi=>(bs[i]?).getD true)=bs.all id:=by rw[MO,g.length];exact LSm.range_all bs
  rw[e];exact⟨.bl _,H,I.kept (LSm.kept_iter t),rfl,q⟩
end
structure MB(P:Program)(w:World)(outer:List Env)(H:Hp)(s:Shared)(H':Hp)(B:Heap)(ea:Addr)(cls a0:Value)(s':Shared):Prop where
 os:s'.os=s.os
 bare:AllBare s'.gens
 hok:HOk P w H' B
 keep:∀b o,s.heap.get? b=some o->H b=none->b∉frs outer->B.get? b=some o
 there:∀b o,s.heap.get? b=some o->b∉frs outer->∃o',B.get? b=some o'
 slot:∀b o,s.heap.get? b=some o->b∈frs outer->∃sl,s'.heap.get? b=some { o with slots:=sl }
 free:∀b o,s.heap.get? b=some o->H b=none->H' b=none
 tups:∀b xs,H b=some (.tup xs)->H' b=some (.tup xs)
 frzs:∀b o u,H b=some (.frz o u)->H' b=some (.frz o u)
 tbls:∀b q,H b=some (.tbl q)->H' b=some (.tbl q)
 fly:Heap.FlyingW B outer ea cls a0 s'.heap
def CXW(P:Program)(w:World):CXT:=λouter H s E e s'=>∃ea cls a0 H' B,e=.ref ea/\E cls none H'/\MB P w outer H s H' B ea cls a0 s'
section
variable {f:Addr}{A:Around}
theorem xw{L:Addr}(a:env.frame=some L):frs (env::outer)=L::frs outer:=by unfold frs;rw[Ol,a]
theorem xA{CX:CXT}{g:Shared}{ea:Addr}{cls:Value}{vs:List Value}
  (I:Inv #[10] pins σ H1 g) (p:Heap.MadeExcOf g.heap h' ea cls vs) (r:E cls none H1) :
  #[10].xe (.ref ea) { g with heap:=h' }:=by
 have i:=I.stack;have j:frs #[10].stack=s.heap.objs.size::frs outer:=xw rfl;have l:∀env∈(dF (CXW P w) P w K mg base N qual scope f cd A outer s H E).stack,∀b,env.frame=some b->b∈frs #[10].stack:=λenv v b c=>OJ.mpr ⟨env,v,c⟩
 have out:∀b o,s.heap.get? b=some o->b∉frs outer->b∉frs #[10].stack:=λb o e n z=>by
  rw[j]at z;rcases M8.mp z with z|z
  ·rw[z]at e;exact absurd (MS e) (O2 _)
  ·exact n z
 refine wpAny_leaves_madeW (base:=W.hideAll g.heap (frs #[10].stack)) I.ok.frames rfl (λb o q=>W.of_hideAll _ q) (W.funFrames_hide i l) p λh2 t x1 x2 x3 x4=>?_
 refine⟨ea,cls,.ref t,H1,_,rfl,r,⟨I.os,I.bare,?_,?_,?_,?_,?_,I.base.tups,I.base.frzs,I.base.tbls,x1⟩⟩
 ·intro a o e;refine (I.hok a o e).stay (λb u c q=>W.hideAll_get _ q λz=>?_) (λ_ q=>q) λ_ _ q=>q
  have:=I.stkFree b z;rcases c with c|c
  ·rw[c,e]at this;cases this
  ·rw[c]at this;cases this
 ·intro b o e n c;exact W.hideAll_get _ (I.base.keep b o e n c (N1)) (out b o e c)
 ·intro b o e c;obtain⟨o',q⟩:=I.base.there b o e (N1);exact⟨o',W.hideAll_get _ q (out b o e c)⟩
 ·intro b o e c;obtain⟨sl,q⟩:=I.base.slot b o e (I.ok.frf b c) c (N1);obtain⟨_,x,h,d2⟩:=I.ok.funs.mem c;have h:s.heap.get? b=some x:=h;rw[e]at h;cases h;obtain⟨m,y⟩:=x4 b _ (p.keeps b _ q) d2;exact⟨m,y⟩
 ·intro b o e n;exact I.base.free b o e n (N1)
theorem E3:Passes (CXW P w) #[10] E:=by
 intro pins σ H1 s1 e s2 I hc;obtain⟨ea,cls,a0,H2,B,rfl,i,F⟩:=hc;have c:frs #[10].stack=s.heap.objs.size::frs outer:=xw rfl;have out:∀b o,s.heap.get? b=some o->b∉frs outer->b∉frs #[10].stack:=λb o e n z=>by
  rw[c]at z;rcases M8.mp z with z|z
  ·rw[z]at e;exact absurd (MS e) (O2 _)
  ·exact n z
 refine wpAny_leaves_onW I.ok.frames rfl F.fly λh2 x1 x2=>⟨ea,cls,a0,H2,B,rfl,i,⟨F.os.trans I.os,F.bare,F.hok,?_,?_,?_,?_,?_,?_,?_,x1⟩⟩
 ·intro b o e n a;exact F.keep b o (I.base.keep b o e n a (N1)) (I.base.free b o e n (N1)) (out b o e a)
 ·intro b o e a;obtain⟨o',q⟩:=I.base.there b o e (N1);exact F.there b o' q (out b o e a)
 ·intro b o e a;obtain⟨sl,q⟩:=I.base.slot b o e (I.ok.frf b a) a (N1);obtain⟨_,j,g,d2⟩:=I.ok.funs.mem a;have g:s.heap.get? b=some j:=g;rw[e]at g;cases g;obtain⟨sl1,l⟩:=F.slot b _ q (by rw[c];exact M3 _ a);obtain⟨h,m⟩:=x2 b _ l d2;exact⟨h,m⟩
 ·intro b o e n;obtain⟨o',q⟩:=I.base.there b o e (N1);exact F.free b o' q (I.base.free b o e n (N1))
 ·intro b xs e;exact F.tups b xs (I.base.tups b xs e)
 ·intro b o u e;exact F.frzs b o u (I.base.frzs b o u e)
 ·intro b ps e;exact F.tbls b ps (I.base.tbls b ps e)
end
theorem Hx{a:List Value}(X:K.In h)(q:W.excIn K C a newId=true) :
  ∃bm N nm r bs hdct sn sub ab col dd k0 k1 k2 k3 k5 mN,h.get? C=some (excClassObj nm r C N bs bm hdct sn sub ab col dd k0 k1 k2 k3 k5 newId)/\h.Ns N mN/\mN "__init__"=none/\OwnTail h a bm:=by
 unfold W.excIn at q;split at q
 ·rename_i d1 c1 l1 g1;split at q
  ·rename_i C2 b g i j m n2 n hm s;simp only[M9,beq_iff_eq,OM]at q;obtain⟨⟨⟨⟨⟨t,u⟩,o⟩,v⟩,c⟩,p⟩:=q;subst t;subst u;obtain⟨z1,z2,z3,w,x,y,z,A,B,e,z11⟩:=c1;dsimp only at hm o c p;subst hm;subst o;have hl:l1=#[g,i,j,m,some (.builtin n2),n]:=by obtain⟨l⟩:=l1;have f:l=_:=s;rw[f]
   subst hl;exact⟨b,w,z1,x,z2,y,z,A,B,e,d1,g,i,j,m,n,_,X _ _ g1,.of_isNs (W.isNs_of_in X c),W.nsMap_none_of_in X c p,W.tail_of_in X v⟩
  ·cases q
 ·cases q
def yr(X:Cx)(E:XK):Prop:=∀(pins:List (Addr×Obj))(σ:St)(H:Hp)(s:Shared)(h':Heap)(ea:Addr)(cls:Value)(vs:List Value),Inv X pins σ H s->Heap.MadeExcOf s.heap h' ea cls vs->E cls none H->X.xe (.ref ea) { s with heap:=h' }
def JK(C:Addr)(E:XK)(t:TA):TS:=λ_ σ H=>t σ H λvs H1=>vs.length<=sizeLine/\E (.ref C) none H1
theorem Eb{B a:String}{bm:List Value}{m:Pos}{t:TA}(hc:X.calm=true)(M:yr X E)(FB:ExcBaseFacts B newId a bm)(n:Gl X x)(hm:X.mg x=some (.ref C))(o:W.excIn X.K C bm newId=true)
  (ha:PA X (e::es) t) (c:(x==("__debug__":Str))=false:=by decide) (j:starEach (e::es) X.env=(false,eval e X.env)::starEach es X.env:=by rfl) (f:(backTo cpos #[23]).any (·.1)=false:=by rfl) :
  PS X (.Raise (some (.Call (.Name x m) (e::es) [] cpos)) none pos) (JK C E t):=by
 intro pins s σ H D I h;obtain⟨tl,N,nm,q,bs,hdct,sn,sub,ab,col,dd,k0,k1,k2,k3,k5,mN,g,p,i,T⟩:=Hx I.mod.kin o;refine wpAny_Raise_call_subT (C:=C) (nm:=nm) (q:=q) (N:=N) (bs:=bs) (bm:=tl) (hdct:=hdct) (sn:=sn) (sub:=sub) (ab:=ab) (col:=col) (dd:=dd) (k0:=k0) (k1:=k1) (k2:=k2) (k3:=k3) (k5:=k5)
  FB (mN:=mN) (T.hasType FB.hasBase) (I.ok.hd hc) (by rw[j];show (false||(backTo cpos #[23]).any (·.1))=false;rw[f];rfl) i (pJ I n hm ⟨rfl,?_⟩ c)
 have l:=ha cpos pins s σ H _ I h;rw[j]at l ⊢;refine Calls.evalArgs_plain (wpAny_mono l (λus s2 h2=>?_) λ_ _ y=>y);obtain⟨vs,H2,b,r,z,u⟩:=h2;exact⟨rfl,by rw[<-r.length];exact z,b.bk _ _ g,p.keeps b.bk,T.keeps b.bk,λh' ea v=>M pins σ H2 s2 h' ea _ _ b v u⟩
theorem iq(h:H D=none):ax H (upd H D o):=λb u e=>by rw[aC (aK e h)];exact e
theorem ax.put(s:ax H H')(h:H D=none):ax H (upd H' D o):=λb u e=>by rw[aC (aK e h)];exact s b u e
mutual
def eK:PyData->Bool
 |.list _=>false
 |.tuple ds=>j9 ds
 |.dict _=>false
 |_=>true
def j9:List PyData->Bool
 |[]=>true
 |d::ds=>eK d&&j9 ds
end
theorem set_own(σ:St)(x:Option V)(v:V)(a:St)(h:a.length=1):(σ++a).set σ.length (some v)=σ++[some v]:=by obtain⟨y,rfl⟩:=List.length_eq_one_iff.mp h;simp
structure Rows(H H':Hp)(D:Addr)(qs:List Addr)(rs:List (List Int)):Prop where
 d:H' D=some (.lst (qs.map V.ref))
 len:qs.length=rs.length
 at':∀(i:Nat) q r,qs[i]?=some q->rs[i]?=some r->H' q=some (.lst (r.map V.int))
 new:∀q∈qs,H q=none
 nd:qs.Nodup
 nD:D∉qs
section
variable {A:Around}{E:Value->Shared->Prop}
theorem yQ{a:Array Value}{x:Value}(hi:s.heap.IsTupleIter it t i)(e:s.heap.IsTuple t a)(f:a[i]?=some x)
  (g:∀h',h'.IsTupleIter it t (i+1)->Heap.SameBut it s.heap h'->Q x { s with heap:=h' }):wpAny #[26] A (Builtin.SmallTypes.nextOf (.ref it)) Q E s:=by
 obtain⟨oi,c,h,b⟩:=id hi;obtain⟨ot,j,_,nt,l⟩:=e;unfold Builtin.SmallTypes.nextOf;refine wpAny_bind (wpAny_callSpecial?_slot (name:=Str.ofString "__next__") hi.typeIs F.slot_tuple_iterator_next (wpAny_call_entry F.slot_tuple_iterator_next hi.typeIs F.entry_tuple_iterator_next ?_ (F.args_tuple_iterator_next_1 _)));refine wpAny_bind (m:=field (.ref it) 0) (wpAny_field c b (x:=.ref t) rfl ?_);show wpAny #[26] _ (if (Value.ref t==Value.none)=true then _ else _) _ _ s;have n:¬ (Value.ref t==Value.none)=true:=λq=>MQ q
 rw[if_neg n];refine wpAny_bind (m:=field (.ref it) 1) (wpAny_field c b (x:=.int i 0) rfl ?_);refine wpAny_bind (m:=seqItems? (.ref t)) (wpAny_seqItems j l ?_);simp only[N7,f];refine wpAny_bind (wpAny_setField c b (by simp) (wpAny_pure ⟨x,rfl,wpAny_pure (g _ ⟨_,Heap.get?_update_self _ c (Obj.isFreed_of_fields (Obj.data_mapFields b _)),(Obj.cls_mapFields ..).trans h,?_⟩ (Heap.SameBut.update ..))⟩));rw[Obj.data_mapFields b];simp[rawInt]
theorem qB{c:Array Value}(h:A.handled=none)(hi:s.heap.IsTupleIter it t i)(j:s.heap.IsTuple t c)(l:c[i]?=none)
  (n:∀h' e,Heap.ExtBut it s.heap h'->(∃o,h'.get? e=some o/\o.cls=.type "StopIteration")->E (.ref e) { s with heap:=h' }):wpAny #[26] A (Builtin.SmallTypes.nextOf (.ref it)) Q E s:=by
 obtain⟨oi,f,ci,g⟩:=id hi;obtain⟨ot,p,_,nt,r⟩:=j;unfold Builtin.SmallTypes.nextOf;refine wpAny_bind (wpAny_callSpecial?_slot (name:=Str.ofString "__next__") hi.typeIs F.slot_tuple_iterator_next (wpAny_call_entry F.slot_tuple_iterator_next hi.typeIs F.entry_tuple_iterator_next ?_ (F.args_tuple_iterator_next_1 _)));refine wpAny_bind (m:=field (.ref it) 0) (wpAny_field f g (x:=.ref t) rfl ?_);show wpAny #[26] _ (if (Value.ref t==Value.none)=true then _ else _) _ _ s;have u:¬ (Value.ref t==Value.none)=true:=λq=>MQ q
 rw[if_neg u];refine wpAny_bind (m:=field (.ref it) 1) (wpAny_field f g (x:=.int i 0) rfl ?_);refine wpAny_bind (m:=seqItems? (.ref t)) (wpAny_seqItems p r ?_);simp only[N7,l];refine wpAny_bind (wpAny_rule (wpAny_bind (wpAny_setField f g (by simp) ?_)));refine wpAny_bind (m:=newExc (.type "StopIteration") []) ?_;unfold newExc newTuple;refine wpAny_bind (wpAny_newObj_type ?_ (by size_fits ));refine wpAny_bind (m:=firstArgMember _ _) (wpAny_of_eq (a:=Value.none) (by first|rfl|(unfold firstArgMember;rfl)) ?_);refine wpAny_newObj_type ?_ (by size_fits );unfold raiseNew;refine wpAny_bind (wpAny_handled ?_)
 first|rw[show A.in1.handled=none from h]|rw[h]
 refine wpAny_bind (wpAny_pure (wpAny_throw ?_));refine n _ _ (λb o v e=>?_) ⟨_,MU _ rfl,rfl⟩;exact M4 _ (M4 _ ((OC _ _ (Ne.symm v)).trans e))
theorem oj(j:A.handled=none)(it t:Addr)(c:t≠it)(a:Array Value):Draws prog w A it [it,t] a.size (λi v=>a[i]?=some v) (λi h=>h.IsTupleIter it t i/\h.IsTuple t a) where
 live:=λ_ _ st=>by obtain⟨⟨o,g,_⟩,_⟩:=st;exact⟨o,g⟩
 frame:=λ_ _ _ st k=>by obtain⟨⟨o,g,r⟩,⟨b,g2,e⟩⟩:=st;exact⟨⟨o,k it (by simp) o g,r⟩,⟨b,k t (by simp) b g2,e⟩⟩
 item:=λi s Q E hi st l=>yQ st.1 st.2 (x:=a[i]) (by simp[hi]) λh' i' f=>by refine l _ h' s.toks (by simp[hi]) ⟨i',?_⟩ f;obtain⟨b,g2,e⟩:=st.2;exact⟨b,(f.2 t c).trans g2,e⟩
 done:=λs Q E st m=>qB j st.1 st.2 (by simp) m
end
structure nL(z TI TO i1 i2:Addr)(f1 f2:List Addr):Prop where
 TIz:TI≠z
 TOz:TO≠z
 z1:i1≠z
 z2:i2≠z
 TIO:TI≠TO
 TI1:TI≠i1
 TI2:TI≠i2
 TO1:TO≠i1
 TO2:TO≠i2
 i12:i1≠i2
 a1:∀b∈f1,b≠z/\b≠TO/\b≠i2
 a2:∀b∈f2,b≠z/\b≠TO/\b≠i1
section
variable {A:Around}{E:Value->Shared->Prop}{z TI TO i1 i2:Addr}{f1 f2:List Addr}{n1 n2 k:Nat}{P1 P2:Nat->Value->Prop}{S1 S2:Nat->Heap->Prop}{a b:Value}
theorem EU(n:Draws prog w A i1 f1 n1 P1 S1)(p:Draws prog w A i2 f2 n2 P2 S2)(Z:nL z TI TO i1 i2 f1 f2)(h:IsZip s.heap z TI TO .none)(X:IsPair s.heap TI (.ref i1) (.ref i2))(Y:IsPair s.heap TO a b)
  (C:S1 k s.heap) (D:S2 k s.heap) (k1:k<n1) (k2:k<n2)
  (hQ:∀h' x y tk,P1 k x->P2 k y->IsZip h' z TI TO (rawInt s.heap.objs.size)->IsPair h' TO x y->S1 (k+1) h'->S2 (k+1) h'->IsPair h' s.heap.objs.size x y ->
   (∀c o,c≠z->c≠TO->c≠i1->c≠i2->s.heap.get? c=some o->h'.get? c=some o)->Q (.ref s.heap.objs.size) { s with heap:=h',toks:=tk }) :
  wpAny #[26] A (Builtin.«zip.__next__» ⟨[.ref z],[]⟩) (λfin s'=>∃v,fin=.done (.ret v)/\Q v s') E s:=by
 refine wpAny_bind (m:=field (.ref z) 2) (wpAny_field h rfl (x:=.bool false) rfl ?_);refine wpAny_bind (m:=field (.ref z) 3) (wpAny_field h rfl (x:=.ref TI) rfl ?_);refine wpAny_bind (wpAny_seqItems X rfl ?_);refine wpAny_bind (m:=Builtin.SmallTypes.ownedTupleIsFree (.ref z)) ?_;unfold Builtin.SmallTypes.ownedTupleIsFree;refine wpAny_bind (wpAny_field h rfl (x:=.none) rfl (wpAny_pure ?_));rw[if_pos (by rfl)];refine wpAny_bind (wpAny_rule (wpAny_bind (wpAny_field h rfl (x:=.ref TO) rfl (wpAny_bind (wpAny_setField_rec h (by simp) λg1 F e1=>?_)))));have F:IsZip g1 z TI TO .ellipsis:=F;refine wpAny_bind ?_;simp only[List.zipIdx_cons,List.zipIdx_nil,Oq,List.forIn_nil];refine wpAny_bind (wpAny_bind (wpAny_onRaise (wpAny_bind (m:=Builtin.SmallTypes.nextOf (.ref i1)) ?_)));have u1:S1 k g1:=n.frame _ _ _ C λb f o e=>(e1.2 b (Z.a1 b f).1).trans e
 refine n.item k { s with heap:=g1 } _ _ k1 u1 λx g2 N px v1 e2=>wpAny_pure ?_
 have O:IsPair g2 TO a b:=(e2.2 TO Z.TO1).trans ((e1.2 TO Z.TOz).trans Y);refine wpAny_bind (wpAny_seqItems (s:={ s with heap:=g2,toks:=N }) O rfl (wpAny_bind (wpAny_updateSeq_pair O λG H i=>?_)));have H:IsPair G TO x b:=H;refine wpAny_bind (wpAny_letGo (wpAny_pure (wpAny_bind (wpAny_bind (wpAny_onRaise (wpAny_bind (m:=Builtin.SmallTypes.nextOf (.ref i2)) ?_))))));have u2:S2 k G:=p.frame _ _ _ D λb f o e=>(i.2 b (Z.a2 b f).2.1).trans ((e2.2 b (Z.a2 b f).2.2).trans ((e1.2 b (Z.a2 b f).1).trans e))
 refine p.item k { s with heap:=G,toks:=N } _ _ k2 u2 λy P I py v2 j=>wpAny_pure ?_
 have R:IsPair P TO x b:=(j.2 TO Z.TO2).trans H;refine wpAny_bind (wpAny_seqItems (s:={ s with heap:=P,toks:=I }) R rfl (wpAny_bind (wpAny_updateSeq_pair R λg q l=>?_)));have q:IsPair g TO x y:=q;refine wpAny_bind (wpAny_letGo (wpAny_pure (wpAny_pure (wpAny_bind (wpAny_seqItems (s:={ s with heap:=g,toks:=I }) q rfl (wpAny_bind (wpAny_newTuple ?_)))))));have sz:g.objs.size=s.heap.objs.size:=by rw[l.1,j.1,i.1,e2.1,e1.1]
 have S:IsZip g z TI TO .ellipsis:=(l.2 z Z.TOz.symm).trans ((j.2 z Z.z2.symm).trans ((i.2 z Z.TOz.symm).trans ((e2.2 z Z.z1.symm).trans F)));have J:∀c o,c≠z->c≠TO->c≠i1->c≠i2->s.heap.get? c=some o->g.get? c=some o:=λc o c1 r K L e =>
  (l.2 c r).trans ((j.2 c L).trans ((i.2 c r).trans ((e2.2 c K).trans ((e1.2 c c1).trans e))))
 have w1:S1 (k+1) g:=n.frame _ _ _ v1 λb f o e=>(l.2 b (Z.a1 b f).2.1).trans ((j.2 b (Z.a1 b f).2.2).trans ((i.2 b (Z.a1 b f).2.1).trans e))
 have w2:S2 (k+1) g:=p.frame _ _ _ v2 λb f o e=>(l.2 b (Z.a2 b f).2.1).trans e
 have zl:z<g.objs.size:=MS S;refine wpAny_bind (m:=Builtin.SmallTypes.ownedTupleHandOut (.ref z) (.ref g.objs.size)) ?_;unfold Builtin.SmallTypes.ownedTupleHandOut;have y6:IsZip (g.push { cls:=.type "tuple",data:=.seq #[x,y] }) z TI TO .ellipsis:=M4 _ S;refine wpAny_bind (wpAny_setField_rec y6 (by simp) λg7 M T=>?_);have M:IsZip g7 z TI TO (rawInt g.objs.size):=M;refine wpAny_setField_rec M (by simp) λt u U=>?_
 have u:IsZip t z TI TO (rawInt g.objs.size):=u;have B:∀c o,c≠z->g.get? c=some o->t.get? c=some o:=λc o c1 e=>(U.2 c c1).trans ((T.2 c c1).trans (M4 _ e))
 have W:IsPair t g.objs.size x y:=(U.2 _ (ND zl)).trans ((T.2 _ (ND zl)).trans (MU _ rfl));refine wpAny_pure ⟨_,rfl,?_⟩;rw[sz]at u W;show Q (.ref g.objs.size) _;rw[sz];exact hQ t x y I px py u (B _ _ Z.TOz q) (n.frame _ _ _ w1 λb f o e=>B b o (Z.a1 b f).1 e) (p.frame _ _ _ w2 λb f o e=>B b o (Z.a2 b f).1 e) W λc o c1 r K L e=>B c o c1 (J c o c1 r K L e)
theorem DH(j:Draws prog w A i1 f1 n1 P1 S1)(Z:nL z TI TO i1 i2 f1 f2){Q:Fin->Shared->Prop}(f:IsZip s.heap z TI TO .none)(r:IsPair s.heap TI (.ref i1) (.ref i2))(hO:IsPair s.heap TO a b)(g:S1 n1 s.heap)
  (t:∀h' e,(∀c o,c≠z->c≠TO->c≠i1->c≠i2->s.heap.get? c=some o->h'.get? c=some o)->(∃o,h'.get? e=some o/\o.cls=.type "StopIteration")->E (.ref e) { s with heap:=h' }) :
  wpAny #[26] A (Builtin.«zip.__next__» ⟨[.ref z],[]⟩) Q E s:=by
 refine wpAny_bind (m:=field (.ref z) 2) (wpAny_field f rfl (x:=.bool false) rfl ?_);refine wpAny_bind (m:=field (.ref z) 3) (wpAny_field f rfl (x:=.ref TI) rfl ?_);refine wpAny_bind (wpAny_seqItems r rfl ?_);refine wpAny_bind (m:=Builtin.SmallTypes.ownedTupleIsFree (.ref z)) ?_;unfold Builtin.SmallTypes.ownedTupleIsFree;refine wpAny_bind (wpAny_field f rfl (x:=.none) rfl (wpAny_pure ?_));rw[if_pos (by rfl)];refine wpAny_bind (wpAny_rule (wpAny_bind (wpAny_field f rfl (x:=.ref TO) rfl (wpAny_bind (wpAny_setField_rec f (by simp) λg1 h e1=>?_)))));have h:IsZip g1 z TI TO .ellipsis:=h;refine wpAny_bind ?_;simp only[List.zipIdx_cons,List.zipIdx_nil,Oq,List.forIn_nil];refine wpAny_bind (wpAny_bind (wpAny_onRaise (wpAny_bind (m:=Builtin.SmallTypes.nextOf (.ref i1)) ?_)));have u1:S1 n1 g1:=j.frame _ _ _ g λb u o e=>(e1.2 b (Z.a1 b u).1).trans e
 refine j.done { s with heap:=g1 } _ _ u1 λg2 e x2 v=>?_
 obtain⟨oe,ge,l⟩:=v;have n:IsZip g2 z TI TO .ellipsis:=x2 _ _ Z.z1.symm h;have i:e≠z:=λq=>by subst q;rw[n]at ge;cases ge;simp at l
 refine wpAny_setField_rec n (by simp) λy _ p=>t y e (λc o c1 _ B _ q=>(p.2 c c1).trans (x2 _ _ B ((e1.2 c c1).trans q))) ⟨oe,(p.2 e i).trans ge,l⟩
theorem yH(i:Draws prog w A.in1 i1 f1 n1 P1 S1)(j:Draws prog w A.in1 i2 f2 n2 P2 S2)(Z:nL z TI TO i1 i2 f1 f2){Q:Option Value->Shared->Prop}(g:IsZip s.heap z TI TO .none)(l:IsPair s.heap TI (.ref i1) (.ref i2))(m:IsPair s.heap TO a b)
  (e:S1 k s.heap) (f:S2 k s.heap) (k1:k<n1) (k2:k<n2)
  (n:∀h' x y tk,P1 k x->P2 k y->IsZip h' z TI TO (rawInt s.heap.objs.size)->IsPair h' TO x y->S1 (k+1) h'->S2 (k+1) h'->IsPair h' s.heap.objs.size x y ->
   (∀c o,c≠z->c≠TO->c≠i1->c≠i2->s.heap.get? c=some o->h'.get? c=some o)->Q (some (.ref s.heap.objs.size)) { s with heap:=h',toks:=tk }):wpAny #[26] A (pyNext (.ref z)) Q E s:=by
 have h:s.TypeIs (.ref z) "zip":=⟨_,g,rfl⟩
 unfold pyNext;refine wpAny_bind (wpAny_attempt (wpAny_callSpecial?_slot (name:=Str.ofString "__next__") h F.slot_zip_next (wpAny_call_entry F.slot_zip_next h F.entry_zip_next (EU i j Z g l m e f k1 k2 λh' x y tk p1 p2 c1 p q r t u=>?_) (F.args_zip_next_1 _))));exact wpAny_pure (n h' x y tk p1 p2 c1 p q r t u)
theorem pR(i:Draws prog w A.in1 i1 f1 n1 P1 S1)(Z:nL z TI TO i1 i2 f1 f2){Q:Option Value->Shared->Prop}(g:IsZip s.heap z TI TO .none)(j:IsPair s.heap TI (.ref i1) (.ref i2))(l:IsPair s.heap TO a b)(f:S1 n1 s.heap)
  (m:∀h',(∀c o,c≠z->c≠TO->c≠i1->c≠i2->s.heap.get? c=some o->h'.get? c=some o)->Q none { s with heap:=h' }):wpAny #[26] A (pyNext (.ref z)) Q E s:=by
 have h:s.TypeIs (.ref z) "zip":=⟨_,g,rfl⟩
 unfold pyNext;refine wpAny_bind (wpAny_attempt (wpAny_callSpecial?_slot (name:=Str.ofString "__next__") h F.slot_zip_next (wpAny_call_entry F.slot_zip_next h F.entry_zip_next (DH i Z g j l f λh' e k0 n=>?_) (F.args_zip_next_1 _))));obtain⟨o,p,hc⟩:=n;exact wpAny_bind (wpAny_isInstance (T:="StopIteration") (b:=true) ⟨o,p,hc⟩ isSubtype_stop (wpAny_pure (m _ k0)))
abbrev zH1(h:Heap)(t:Addr):Heap:=h.push { cls:=.type "tuple_iterator",data:=.fields #[.ref t,.int 0 0] }
abbrev zH2(h:Heap)(t l:Addr):Heap:=(zH1 h t).push { cls:=.type "list_iterator",data:=.fields #[.ref l,.int 0 0] }
abbrev zH3(h:Heap)(t l:Addr):Heap:=(zH2 h t l).push { cls:=.type "tuple",data:=.seq #[.ref h.objs.size,.ref (zH1 h t).objs.size] }
abbrev zH4(h:Heap)(t l:Addr):Heap:=(zH3 h t l).push { cls:=.type "tuple",data:=.seq #[.none,.none] }
abbrev zH5(h:Heap)(t l:Addr):Heap:=(zH4 h t l).push { cls:=.type "zip",data:=.fields #[.none,.bool false,.bool false,.ref (zH2 h t l).objs.size,.ref (zH3 h t l).objs.size] }
theorem xv(t l:Addr)(xs ys:Array Value):Meets (Builtin.«zip.__new__» ⟨[.type "zip",.ref t,.ref l],[]⟩) (λ_ R s=>s.heap.IsTuple t xs/\s.heap.IsList l ys/\R (.ok (.ret (.ref (zH4 s.heap t l).objs.size))) { s with heap:=zH5 s.heap t l }) :=
 .of_wp λprog w A R s h=>by
  obtain⟨c,g,d,tk,os⟩:=s;obtain⟨e,hl,h⟩:=h;have sb:isSubtype (.type "zip") (.type "zip")=pure true:=by rw[isSubtype_type];kernel_rfl
  have a:Heap.IsTuple (Shared.heap ⟨c,g,d,tk,os⟩) t xs:=e;have b:Heap.IsList (Shared.heap ⟨c.push { cls:=.type "tuple_iterator",data:=.fields #[.ref t,.int 0 0] },g,d,tk,os⟩) l ys:=Heap.IsList.push hl _
  wp_walk using wpAny_pyIter_tuple a,wpAny_pyIter_list b
  exact⟨_,rfl,h⟩
theorem yW{l:Addr}{xs ys:Array Value}(a:s.heap.IsTuple t xs)(hl:s.heap.IsList l ys)(h:Q (.ref (zH4 s.heap t l).objs.size) { s with heap:=zH5 s.heap t l }) :
  wpAny #[26] A (call (.type "zip") [.ref t,.ref l]) Q E s:=by
 refine callType_new F.called_zip #[2] (F.typeCall_zip_2 _ _) (F.newCall_zip_2 _ _) (λobj=>F.args_object_init_3 obj _ _) F.entry_zip_new (xv t l xs ys) ⟨a,hl,?_⟩;exact⟨⟨_,MU _ rfl,rfl⟩,h⟩
end
section
variable {σ:L2.St}
theorem Inv.turnLay{t':Nat}{T:Addr}(I:Inv X pins σ H s)(g:∀b∈ch,q9 X pins H b)(h:s.heap.objs.size<=T)(k:∀b u,b∉ch->s.heap.get? b=some u->h'.get? b=some u)
  (new:dO X.prog X.w (upd H T o) h' T o):Inv X pins σ (upd H T o) { s with heap:=h',toks:=t' }:=by
 have hn:H T=none:=I.hok.fresh h;have a:∀b u,H b=some u->b∉ch:=λb u e z=>by rw[(g b z).1]at e;cases e
 have neT:∀b u,s.heap.get? b=some u->b≠T:=λb u e=>MV (MZ (MS e) h)
 refine I.step (g':=s.gens) (d':=s.drawn) (ch:=ch) (λb f=>?_) (λb u _ _ hc e _=>k b u hc e) (λb u _ _ hc e _=>⟨u.slots,k b u hc e⟩) (λb u _ e n=>by rw[aC (neT b u e)];exact n)
  (λb u hc e=>⟨u,k b u hc e⟩) (λb xs e=>by rw[aC (aK e hn)];exact e) (λb u v e=>by rw[aC (aK e hn)];exact e) (λb ps e=>by rw[aC (aK e hn)];exact e) (λm hm=>?_) (λb u e=>?_) I.bare
 ·obtain⟨f0,f1,f2,j,l,p⟩:=g b f;exact⟨j,f1,l,p⟩
 ·obtain⟨i,es,t,x,r⟩:=hm;exact⟨i,es,t,k _ i (λz=>(g _ z).2.1 rfl) x,r⟩
 ·by_cases f:b=T
  ·subst f;rw[aH]at e;cases e;exact new
  ·rw[aC f]at e;refine (I.hok b u e).stay (λc v hc q=>k c v ?_ q) (λc q=>by rw[aC (aK q hn)];exact q) (λc xs q=>by rw[aC (aK q hn)];exact q) λc o' w' q=>by rw[aC (aK q hn)];exact q
   rcases hc with z|z
   ·rw[z];exact a b u e
   ·exact a c _ z
theorem Inv.turneds{t':Nat}(I:Inv X pins σ H s)(f:∀b∈ch,q9 X pins H b)(k:∀b u,b∉ch->s.heap.get? b=some u->h'.get? b=some u):Inv X pins σ H { s with heap:=h',toks:=t' }:=by
 have a:∀b u,H b=some u->b∉ch:=λb u e z=>by rw[(f b z).1]at e;cases e
 refine I.step (g':=s.gens) (d':=s.drawn) (ch:=ch) (λb h=>?_) (λb u _ _ hc e _=>k b u hc e) (λb u _ _ hc e _=>⟨u.slots,k b u hc e⟩) (λb u _ e n=>n)
  (λb u hc e=>⟨u,k b u hc e⟩) (λb xs e=>e) (λb u v e=>e) (λb ps e=>e) (λm hm=>?_) (λb u e=>?_) I.bare
 ·obtain⟨f0,f1,f2,i,j,l⟩:=f b h;exact⟨i,f1,j,l⟩
 ·obtain⟨g,es,o,p,r⟩:=hm;exact⟨g,es,o,k _ g (λz=>(f _ z).2.1 rfl) p,r⟩
 ·refine (I.hok b u e).stay (λc v hc q=>k c v ?_ q) (λ_ q=>q) λ_ _ q=>q
  rcases hc with z|z
  ·rw[z];exact a b u e
  ·exact a c _ z
end
def Itz(K:W.Frag)(a b:Addr)(n:Nat):It :=
 ⟨λi H=>i<n/\∃xs ys,SqT K H a xs/\SqL K H b ys/\xs.length=n/\ys.length=n,
  λi H v H'=>∃t x y,v=.ref t/\H t=none/\H'=upd H t (.tup [x,y])/\(∀xs,SqT K H a xs->xs[i]?=some x)/\∀ys,SqL K H b ys->ys[i]?=some y,
  λi H=>i=n/\∃xs ys,SqT K H a xs/\SqL K H b ys/\xs.length=n/\ys.length=n⟩
theorem DK{z TI TO i1 i2:Addr}(Z:nL z TI TO i1 i2 [i1,a] [i2,b]) :
  Turn P w K (.Tuple elts x1 tp) (Itz K a b n) [z,TI,TO,i1,i2] z (λi h=>IsZip h z TI TO .none/\IsPair h TI (.ref i1) (.ref i2)/\(∃u v,IsPair h TO u v)/\h.IsTupleIter i1 a i/\h.IsListIter i2 b i) where
 mem:=by simp
 obj:=λi h st c hc=>by
  obtain⟨h1,h2,⟨u,v,h3⟩,⟨r,j,_,d4⟩,⟨B,m,_,d5⟩⟩:=st;simp only[M8,N1,or_false]at hc;rcases hc with rfl|rfl|rfl|rfl|rfl
  ·exact⟨_,h1,λv q=>by cases q⟩
  ·exact⟨_,h2,λv q=>by cases q⟩
  ·exact⟨_,h3,λv q=>by cases q⟩
  ·exact⟨_,j,λv q=>by rw[d4]at q;cases q⟩
  ·exact⟨_,m,λv q=>by rw[d5]at q;cases q⟩
 keep:=λi h h' st k=>by obtain⟨h1,h2,⟨u,v,h3⟩,⟨r,j,Y⟩,⟨B,m,r5⟩⟩:=st;exact⟨k z (by simp) _ h1,k TI (by simp) _ h2,⟨u,v,k TO (by simp) _ h3⟩,⟨r,k i1 (by simp) _ j,Y⟩,⟨B,k i2 (by simp) _ m,r5⟩⟩
 item:=by
  intro X hP hw hK hc i pins s σ H E I Q st hg;subst hP hw hK;obtain⟨hi,xs,ys,R,hy,lx,ly⟩:=hg;obtain⟨h1,h2,⟨u,v,h3⟩,C,S⟩:=st;obtain⟨f,T,p,_⟩:=I.tuple R;obtain⟨F,G,p',_⟩:=I.list hy;have la:=T.length;have lb:=G.length;have U:X.A.in1.handled=none:=I.ok.hd hc;have na:a≠i1:=λq=>by obtain⟨o,g,c,_⟩:=p;obtain⟨r,j,J,_⟩:=C;rw[q,j]at g;cases g;rw[J]at c;exact absurd (Value.type.inj c) #[2]
  have nb:b≠i2:=λq=>by obtain⟨o,n,g,c,_⟩:=p';obtain⟨B,m,c5,_⟩:=S;rw[q,m]at g;cases g;rw[c5]at c;exact absurd (Value.type.inj c) #[2]
  have pt:s.heap.IsTuple a f.toArray:=p;refine yH (oj U i1 a na f.toArray) (Draws.list U i2 b nb F.toArray) Z h1 h2 h3 ⟨C,pt⟩ ⟨S,p'.isList⟩ (by simp;omega) (by simp;omega) λh' x y tk px py c1 c2 c3 J c5 c6=>⟨_,rfl,?_⟩
  refine wpAny_letOwnedTupleGo_zip (s:={ s with heap:=h',toks:=tk }) c1 λh2' d1 d2=>?_
  have zl:z<s.heap.objs.size:=MS h1;have D:∀c o,c≠z->h'.get? c=some o->h2'.get? c=some o:=λc o hc e=>(d2.2 c hc).trans e
  have nT:s.heap.objs.size≠z:=ND zl;obtain⟨L,ex,rx⟩:∃L,xs[i]?=some L/\RelV L x:=by
   have l:i<xs.length:=by omega
   obtain⟨u',e1,e2⟩:=T.get (M1 l);refine⟨xs[i],M1 l,?_⟩;have M:f[i]?=some x:=by simpa using px
   rw[e1]at M;cases M;exact e2
  obtain⟨N,ey,ry⟩:∃N,ys[i]?=some N/\RelV N y:=by
   have l:i<ys.length:=by omega
   obtain⟨u',e1,e2⟩:=G.get (M1 l);refine⟨ys[i],M1 l,?_⟩;have O:F[i]?=some y:=by simpa using py
   rw[e1]at O;cases O;exact e2
  have fr:H s.heap.objs.size=none:=I.hok.fresh (My _);refine⟨.ref s.heap.objs.size,upd H s.heap.objs.size (.tup [L,N]),?_,rfl,⟨_,L,N,rfl,fr,rfl,λxs' h=>by rw[I.tuple_inj h R];exact ex,λys' h=>by rw[I.list_inj h hy];exact ey⟩,?_,λc t=>?_⟩
  ·refine I.turnLay (t':=tk) (ch:=[z,TI,TO,i1,i2]) Q (My _) (λc o hn e=>?_) ⟨by show 2<=sizeLine;decide,[x,y],.cons rx (.cons ry .nil),⟨_,D _ _ nT c5,rfl,rfl,_,rfl⟩⟩;simp only[M8,N1,or_false,not_or]at hn;exact D c o hn.1 (c6 c o hn.1 hn.2.2.1 hn.2.2.2.1 hn.2.2.2.2 e)
  ·obtain⟨⟨r,j,Y⟩,_⟩:=c3;obtain⟨⟨B,m,r5⟩,_⟩:=J;exact⟨d1,D _ _ Z.TIz (c6 _ _ Z.TIz Z.TIO Z.TI1 Z.TI2 h2),⟨x,y,D _ _ Z.TOz c2⟩,⟨r,D _ _ Z.z1 j,Y⟩,⟨B,D _ _ Z.z2 m,r5⟩⟩
  ·have h0:=(Q c t).1;obtain⟨oc,gc⟩:∃oc,s.heap.get? c=some oc:=by
    simp only[M8,N1,or_false]at t;rcases t with rfl|rfl|rfl|rfl|rfl
    ·exact⟨_,h1⟩
    ·exact⟨_,h2⟩
    ·exact⟨_,h3⟩
    ·obtain⟨r,j,_⟩:=C;exact⟨_,j⟩
    ·obtain⟨B,m,_⟩:=S;exact⟨_,m⟩
   rw[aC (MV (MS gc))];exact h0
 done:=by
  intro X hP hw hK hc i pins s σ H E I Q st hg;subst hP hw hK;obtain⟨hi,xs,ys,R,hy,lx,ly⟩:=hg;obtain⟨h1,h2,⟨u,v,h3⟩,C,S⟩:=st;obtain⟨f,T,p,_⟩:=I.tuple R;have la:=T.length;have U:X.A.in1.handled=none:=I.ok.hd hc;have na:a≠i1:=λq=>by obtain⟨o,g,c,_⟩:=p;obtain⟨r,j,J,_⟩:=C;rw[q,j]at g;cases g;rw[J]at c;exact absurd (Value.type.inj c) #[2]
  have pt:s.heap.IsTuple a f.toArray:=p;have e:f.toArray.size=i:=by simp;omega
  refine pR (oj U i1 a na f.toArray) Z h1 h2 h3 ⟨by rw[e];exact C,pt⟩ λh' k=>⟨rfl,?_⟩
  refine I.turneds (t':=s.toks) (ch:=[z,TI,TO,i1,i2]) Q λc o hn q=>?_
  simp only[M8,N1,or_false,not_or]at hn;exact k c o hn.1 hn.2.2.1 hn.2.2.2.1 hn.2.2.2.2 q
 self:=λ_ _ _ _ _ st h=>wpAny_pyIter_zip st.1 h
theorem boot_zip:bootBuiltins "zip"=some (.type "zip"):=by decide +kernel
def L6(K:W.Frag)(ta:TA):TI:=λσ H R=>ta σ H λvs H1=>∃a b xs ys,vs=[.ref a,.ref b]/\SqT K H1 a xs/\SqL K H1 b ys/\ys.length=xs.length/\R (Itz K a b xs.length) H1
theorem Ij{a b:Expr}(A:Gl X "zip")(hm:X.mg "zip"=none)(ha:PA X [a,b] ta)(B:starEach [a,b] X.env=[(false,eval a X.env),(false,eval b X.env)]:=by rfl)(r:starEach [b] X.env=[(false,eval b X.env)]:=by rfl) :
  PI X (.Tuple elts x1 tp) (.Call (.Name "zip" p) [a,b] [] pos) (L6 X.K ta):=by
 intro pins s σ H R I h;refine Call_ (fS I A hm boot_zip (PyProof.Rows.callWith_type1 (thn (ha pos pins s σ H _ I h) λus f v=>?_) (by rw[B,r]) (by rw[r];rfl)));obtain⟨vs,H1,t,C,D⟩:=v;obtain⟨l,m,xs,ys,e,E,F,hl,q⟩:=D;subst e;obtain⟨u1,u2,e1,G,J⟩:=vals2 C;subst e1;cases G;cases J;obtain⟨w,rv,pt,_⟩:=t.tuple E;obtain⟨jts,rw',pl,_⟩:=t.list F;have u:f.heap.IsTuple l w.toArray:=pt;have x:l<f.heap.objs.size:=by obtain⟨_,g,_⟩:=u;exact MS g
 have bl:m<f.heap.objs.size:=by obtain⟨_,_,g,_⟩:=pl;exact MS g
 refine yW u pl.isList ?_;have z1:(zH1 f.heap l).objs.size=f.heap.objs.size+1:=Heap.size_push ..;have z2:(zH2 f.heap l m).objs.size=f.heap.objs.size+2:=by rw[Heap.size_push,z1]
 have z3:(zH3 f.heap l m).objs.size=f.heap.objs.size+3:=by rw[Heap.size_push,z2]
 have y:(zH4 f.heap l m).objs.size=f.heap.objs.size+4:=by rw[Heap.size_push,z3]
 have z:IsZip (zH5 f.heap l m) (zH4 f.heap l m).objs.size (zH2 f.heap l m).objs.size (zH3 f.heap l m).objs.size .none:=MU _ rfl;have L:IsPair (zH5 f.heap l m) (zH3 f.heap l m).objs.size .none .none:=M4 _ (MU _ rfl);have M:IsPair (zH5 f.heap l m) (zH2 f.heap l m).objs.size (.ref f.heap.objs.size) (.ref (zH1 f.heap l).objs.size):=M4 _ (M4 _ (MU _ rfl));have g2:(zH5 f.heap l m).IsListIter (zH1 f.heap l).objs.size m 0:=⟨_,M4 _ (M4 _ (M4 _ (MU _ rfl))),rfl,rfl⟩
 have g1:(zH5 f.heap l m).IsTupleIter f.heap.objs.size l 0:=⟨_,M4 _ (M4 _ (M4 _ (M4 _ (MU _ rfl)))),rfl,rfl⟩
 have N:∀c o,f.heap.get? c=some o->(zH5 f.heap l m).get? c=some o:=λc o e=>M4 _ (M4 _ (M4 _ (M4 _ (M4 _ e))))
 have O:Inv X pins σ H1 { f with heap:=zH5 f.heap l m }:=t.kept (t':=f.toks) N;have Z:nL (zH4 f.heap l m).objs.size (zH2 f.heap l m).objs.size (zH3 f.heap l m).objs.size f.heap.objs.size (zH1 f.heap l).objs.size [f.heap.objs.size,l] [(zH1 f.heap l).objs.size,m]:=by
  rw[z1,z2,z3,y];have n:∀i j:Nat,i≠j->f.heap.objs.size+i≠f.heap.objs.size+j:=λi j h q=>h (Nat.add_left_cancel q)
  refine⟨n 2 4 #[2],n 3 4 #[2],n 0 4 #[2],n 1 4 #[2],n 2 3 #[2],n 2 0 #[2],n 2 1 #[2],n 3 0 #[2],n 3 1 #[2],n 0 1 #[2],λc hc=>?_,λc hc=>?_⟩
  ·simp only[M8,N1,or_false]at hc;rcases hc with rfl|rfl
   ·exact⟨n 0 4 #[2],n 0 3 #[2],n 0 1 #[2]⟩
   ·exact⟨MV (MZ x (NF _ _)),MV (MZ x (NF _ _)),MV (MZ x (NF _ _))⟩
  ·simp only[M8,N1,or_false]at hc;rcases hc with rfl|rfl
   ·exact⟨n 1 4 #[2],n 1 3 #[2],n 1 0 #[2]⟩
   ·exact⟨MV (MZ bl (NF _ _)),MV (MZ bl (NF _ _)),MV bl⟩
 have big:∀c∈[(zH4 f.heap l m).objs.size,(zH2 f.heap l m).objs.size,(zH3 f.heap l m).objs.size,f.heap.objs.size,(zH1 f.heap l).objs.size],f.heap.objs.size<=c:=λc hc=>by
  simp only[M8,N1,or_false]at hc;rcases hc with rfl|rfl|rfl|rfl|rfl
  ·rw[y];exact NF _ _
  ·rw[z2];exact NF _ _
  ·rw[z3];exact NF _ _
  ·exact My _
  ·rw[z1];exact NF _ _
 refine wpAny_pyIter_zip z ⟨_,_,_,_,H1,rfl,O,DK Z,⟨z,M,⟨_,_,L⟩,g1,g2⟩,λc hc=>?_,q⟩;exact t.fpOk (big c hc) (t.hok.fresh (big c hc))
inductive Rs (α:Type) where
 |ok (a:α)
 |rz (C:Addr)
 |no
namespace Rs
noncomputable def bind{α β:Type}:Rs α->(α->Rs β)->Rs β
 |ok a,f=>f a
 |rz C,_=>rz C
 |no,_=>no
def eF{α:Type}:Option α->Rs α
 |some a=>ok a
 |none=>no
noncomputable def calm{α:Type}:Rs α->Rs α
 |ok a=>ok a
 |_=>no
@[simp]theorem ag(a:α)(f:α->Rs β):(ok a).bind f=f a:=rfl
@[simp]theorem fi(C:Addr)(f:α->Rs β):(rz C).bind f=rz C:=rfl
@[simp]theorem bD(f:α->Rs β):(no:Rs α).bind f=no:=rfl
@[simp]theorem ai(a:α):eF (some a)=ok a:=rfl
@[simp]theorem Kk:eF (none:Option α)=no:=rfl
@[simp]theorem cQ(a:α):(ok a).calm=ok a:=rfl
end Rs
variable {gf:List PyData->Rs PyData}
noncomputable def del(H:Hp)(A:List Addr):Hp:=λb=>if b∈A then none else H b
theorem AA:del H []=H:=by funext b;simp[del]
theorem hZ(h:b∈A):del H A b=none:=by simp[del,h]
theorem aP(h:b∉A):del H A b=H b:=by simp[del,h]
theorem bj(h:del H A b=some o):b∉A/\H b=some o:=by
 by_cases z:b∈A
 ·rw[hZ z]at h;cases h
 ·rw[aP z]at h;exact⟨z,h⟩
theorem az:ax (del H A) H:=λ_ _ e=>(bj e).2
theorem ax.del(s:ax H H'):ax (del H A) (L2.del H' A):=λb o e=>by obtain⟨z,e⟩:=bj e;rw[aP z];exact s b o e
def Ie:HO->Bool
 |.lst _=>true
 |.dK _=>true
 |.dT _=>true
 |_=>false
def Ls(H:Hp)(A:List Addr):Prop:=∀a∈A,∃o,H a=some o/\Ie o=true
theorem Ls.same(h:Ls H A)(s:ax H H'):Ls H' A:=λa ha=>by obtain⟨o,e,q⟩:=h a ha;exact⟨o,s _ _ e,q⟩
theorem Ls.nil:Ls H []:=λ_ h=>by cases h
theorem Ls.new{p:Addr}(h:Ls H A)(a:H p=none):p∉A:=λz=>by obtain⟨xs,e,_⟩:=h p z;rw[a]at e;cases e
def aj(ns:List Int):PyData:=.dict [(.none,.list (ns.map .int))]
abbrev dtK(l:List ((Int×Int)×Int)):List (PyData×PyData):=(.bool true,.none)::l.map λp=>(.tuple [.int p.1.1,.int p.1.2],.int p.2)
abbrev dtO(l:List ((Int×Int)×Int)):HO:=.dT (l.map λp=>([.inl p.1.1,.inl p.1.2],V.int p.2))
def IB(kvs:List (PyData×PyData))(o:HO):Prop:=(∃l:List (Int×Int),kvs=l.map (λp=>(PyData.int p.1,PyData.int p.2))/\o=.dK (l.map λp=>(.inl p.1,V.int p.2)))\/∃l,kvs=dtK l/\o=dtO l
mutual
def Is(K:W.Frag)(H:Hp):PyData->V->Prop
 |.none,v=>v=.non
 |.bool b,v=>v=.bl b
 |.int i,v=>v=.int i
 |.str x,v=>v=.str x
 |.list ds,v=>∃a xs,v=.ref a/\H a=some (.lst xs)/\Iss K H ds xs
 |.tuple ds,v=>∃a xs,v=.ref a/\H a=some (.tup xs)/\Iss K H ds xs
 |.dict kvs,v=>((∃a ns,v=.ref a/\kvs=[(PyData.none,PyData.list (List.map PyData.int ns))]/\SqL K H a (List.map V.int ns)) \/
  ∃(a:Addr)(o:HO),v=.ref a/\IB kvs o/\H a=some o) \/
  ∃(a C dx:Addr)(fs:List (Str×V)),v=.ref a/\H a=some (.ins C dx fs)/\fs.lookup ("@":Str)=none/\(Isk K H kvs (("",.int (C:Int))::fs)\/Isk K H kvs (("",.int (C:Int))::("@",.int (a:Int))::fs))
def Iss(K:W.Frag)(H:Hp):List PyData->List V->Prop
 |[],vs=>vs=[]
 |d::ds,vs=>∃v r,vs=v::r/\Is K H d v/\Iss K H ds r
def Isk(K:W.Frag)(H:Hp):List (PyData×PyData)->List (Str×V)->Prop
 |[],fs=>fs=[]
 |(k,d)::r,fs=>∃f v fs',fs=(f,v)::fs'/\k=.str f/\Is K H d v/\Isk K H r fs'
end
noncomputable def cB(C a:Addr)(fds:List (Str×PyData)):PyData:=.dict ((.str "",.int (C:Int))::(.str "@",.int (a:Int))::fds.map λp=>(.str p.1,p.2))
noncomputable def xG(C:Addr)(fds:List (Str×PyData)):PyData:=.dict ((.str "",.int (C:Int))::fds.map λp=>(.str p.1,p.2))
section
theorem bN{i:Int}:Is K H (.int i) (.int i):=by unfold Is;rfl
theorem is_bool{b:Bool}:Is K H (.bool b) (.bl b):=by unfold Is;rfl
theorem is_none:Is K H .none .non:=by unfold Is;rfl
theorem EH:Is K H (.str x) (.str x):=by unfold Is;rfl
theorem iS(h:H a=some (.tup xs))(h2:Iss K H ds xs):Is K H (.tuple ds) (.ref a):=by unfold Is;exact⟨a,xs,rfl,h,h2⟩
theorem ky(h:H a=some (.lst xs))(h2:Iss K H ds xs):Is K H (.list ds) (.ref a):=by unfold Is;exact⟨a,xs,rfl,h,h2⟩
theorem Bu(h:SqL K H a (ns.map V.int)):Is K H (aj ns) (.ref a):=by unfold aj Is;exact .inl (.inl ⟨a,ns,rfl,rfl,h⟩)
theorem c8:Iss K H [] []:=by unfold Iss;rfl
theorem cM{d:PyData}(h:Is K H d v)(h2:Iss K H ds vs):Iss K H (d::ds) (v::vs):=by unfold Iss;exact⟨v,vs,rfl,h,h2⟩
theorem jt{d:PyData}(h:Is K H d v):Iss K H [d] [v]:=cM h c8
theorem Is.ofInt{i:Int}(h:Is K H (.int i) v):v=.int i:=by unfold Is at h;exact h
theorem Is.ofBool{i:Bool}(h:Is K H (.bool i) v):v=.bl i:=by unfold Is at h;exact h
theorem Is.ofNone(h:Is K H .none v):v=.non:=by unfold Is at h;exact h
theorem Is.ofStr(h:Is K H (.str x) v):v=.str x:=by unfold Is at h;exact h
theorem Is.ofTup(h:Is K H (.tuple ds) v):∃a xs,v=.ref a/\H a=some (.tup xs)/\Iss K H ds xs:=by unfold Is at h;exact h
theorem Is.ofLst(h:Is K H (.list ds) v):∃a xs,v=.ref a/\H a=some (.lst xs)/\Iss K H ds xs:=by unfold Is at h;exact h
theorem Is.ofScript(h:Is K H (aj ns) v):∃a,v=.ref a/\SqL K H a (ns.map V.int):=by
 unfold aj Is at h;rcases h with (h|⟨a,l,_,e,_⟩)|⟨a,C,dx,fs,_,_,_,h|h⟩
 case inl.inr=>rcases e with⟨m,e,_⟩|⟨m,e,_⟩ <;> first|(cases e;done)|(cases m <;> cases e)
 case inr.inl=>unfold Isk at h;obtain⟨f,_,_,_,h,_⟩:=h;cases h
 case inr.inr=>unfold Isk at h;obtain⟨f,_,_,_,h,_⟩:=h;cases h
 obtain⟨a,ms,e,e2,h⟩:=h;have g:ns.map PyData.int=ms.map PyData.int:=by injection e2 with e2 _;injection e2 with _ e2;injection e2
 have i:ns=ms:=by
  have inj:∀(a b:List Int),a.map PyData.int=b.map PyData.int->a=b:=by
   intro a
   induction a with
   |nil=>intro b c;cases b with|nil=>rfl|cons _ _=>simp at c
   |cons x r ih =>
    intro b c;cases b with
    |nil=>simp at c
    |cons y s =>simp only[M5,List.cons.injEq,PyData.int.injEq]at c;rw[c.1,ih s c.2]
  exact inj _ _ g
 subst i;exact⟨a,e,h⟩
theorem Iss.nil_of(h:Iss K H [] vs):vs=[]:=by unfold Iss at h;exact h
theorem Iss.cons_of{d:PyData}(h:Iss K H (d::ds) vs):∃v r,vs=v::r/\Is K H d v/\Iss K H ds r:=by unfold Iss at h;exact h
theorem Iss.length:∀{ds:List PyData}{vs:List V},Iss K H ds vs->vs.length=ds.length
 |[],_,h=>by rw[h.nil_of];rfl
 |_::_,_,h=>by obtain⟨v,r,e,_,h2⟩:=h.cons_of;rw[e,MW,MW,Iss.length h2]
mutual
theorem Is.same(e:ax H H'):∀{d:PyData}{v:V},Is K H d v->Is K H' d v
 |.none,_,h=>by unfold Is at h ⊢;exact h
 |.bool _,_,h=>by unfold Is at h ⊢;exact h
 |.int _,_,h=>by unfold Is at h ⊢;exact h
 |.str _,_,h=>by unfold Is at h ⊢;exact h
 |.list ds,_,h=>by unfold Is at h ⊢;obtain⟨a,xs,e1,h1,h2⟩:=h;exact⟨a,xs,e1,e _ _ h1,Iss.same e h2⟩
 |.tuple ds,_,h=>by unfold Is at h ⊢;obtain⟨a,xs,e1,h1,h2⟩:=h;exact⟨a,xs,e1,e _ _ h1,Iss.same e h2⟩
 |.dict _,_,h=>by
  unfold Is at h ⊢;rcases h with (⟨a,ns,e1,e2,h2⟩|⟨a,l,e1,e2,h2⟩)|⟨a,C,dx,fs,e1,h1,hn,h2|h2⟩
  ·exact .inl (.inl ⟨a,ns,e1,e2,e.seq h2⟩)
  ·exact .inl (.inr ⟨a,l,e1,e2,e _ _ h2⟩)
  ·exact .inr ⟨a,C,dx,fs,e1,e _ _ h1,hn,.inl (Isk.same e h2)⟩
  ·exact .inr ⟨a,C,dx,fs,e1,e _ _ h1,hn,.inr (Isk.same e h2)⟩
theorem Iss.same(e:ax H H'):∀{ds:List PyData}{vs:List V},Iss K H ds vs->Iss K H' ds vs
 |[],_,h=>by unfold Iss at h ⊢;exact h
 |d::ds,_,h=>by unfold Iss at h ⊢;obtain⟨v,r,e1,h1,h2⟩:=h;exact⟨v,r,e1,Is.same e h1,Iss.same e h2⟩
theorem Isk.same(e:ax H H'):∀{ds:List (PyData×PyData)}{fs:List (Str×V)},Isk K H ds fs->Isk K H' ds fs
 |[],_,h=>by unfold Isk at h ⊢;exact h
 |(k,d)::ds,_,h=>by unfold Isk at h ⊢;obtain⟨f,v,r,e1,e2,h1,h2⟩:=h;exact⟨f,v,r,e1,e2,Is.same e h1,Isk.same e h2⟩
end
theorem pL:Isk K H [] []:=by unfold Isk;rfl
theorem eP{f:Str}{d:PyData}{r:List (PyData×PyData)}{fs:List (Str×V)}(h:Is K H d v)(h2:Isk K H r fs):Isk K H ((.str f,d)::r) ((f,v)::fs):=by unfold Isk;exact⟨f,v,fs,rfl,rfl,h,h2⟩
theorem Kh{fds:List (Str×PyData)}{fs:List (Str×V)}(h:H a=some (.ins C dx fs))(hn:fs.lookup ("@":Str)=none)(h2:Isk K H (fds.map λp=>(.str p.1,p.2)) fs):Is K H (xG C fds) (.ref a):=by unfold xG Is;exact .inr ⟨a,C,dx,fs,rfl,h,hn,.inl (eP bN h2)⟩
theorem C0{fds:List (Str×PyData)}{fs:List (Str×V)}(h:H a=some (.ins C dx fs))(hn:fs.lookup ("@":Str)=none)(h2:Isk K H (fds.map λp=>(.str p.1,p.2)) fs):Is K H (cB C a fds) (.ref a):=by unfold cB Is;exact .inr ⟨a,C,dx,fs,rfl,h,hn,.inr (eP bN (eP bN h2))⟩
theorem IX(b:Ls H A)(h:H a=some (.tup xs)):del H A a=some (.tup xs):=by rw[aP (λq=>by obtain⟨ys,e2,c⟩:=b a q;rw[h]at e2;cases e2;cases c)];exact h
mutual
theorem Is.dl{A:List Addr}(b:Ls H A):∀{d:PyData}{v:V},eK d=true->Is K H d v->Is K (del H A) d v
 |.none,_,_,h=>by unfold Is at h ⊢;exact h
 |.bool _,_,_,h=>by unfold Is at h ⊢;exact h
 |.int _,_,_,h=>by unfold Is at h ⊢;exact h
 |.str _,_,_,h=>by unfold Is at h ⊢;exact h
 |.list _,_,n,_=>by unfold eK at n;cases n
 |.dict _,_,n,_=>by unfold eK at n;cases n
 |.tuple ds,_,n,h=>by unfold eK at n;obtain⟨a,xs,e,h1,h2⟩:=h.ofTup;subst e;exact iS (IX b h1) (Iss.dl b n h2)
theorem Iss.dl{A:List Addr}(a:Ls H A):∀{ds:List PyData}{vs:List V},j9 ds=true->Iss K H ds vs->Iss K (del H A) ds vs
 |[],_,_,h=>by rw[h.nil_of];exact c8
 |d::ds,_,n,h=>by unfold j9 at n;obtain⟨n1,n2⟩:=NB.mp n;obtain⟨v,r,e,h1,h2⟩:=h.cons_of;subst e;exact cM (Is.dl a n1 h1) (Iss.dl a n2 h2)
end
mutual
def aF:PyData->Bool
 |.list ds=>df ds
 |.tuple ds=>df ds
 |.dict _=>false
 |_=>true
def df:List PyData->Bool
 |[]=>true
 |d::ds=>aF d&&df ds
end
mutual
theorem Is.isd:∀{d:PyData}{v:V},aF d=true->Is K H d v->IsD K H d v
 |.none,_,_,h=>by rw[h.ofNone];exact EO
 |.bool _,_,_,h=>by rw[h.ofBool];exact Ek
 |.int _,_,_,h=>by rw[h.ofInt];exact ur
 |.str _,_,_,h=>by rw[h.ofStr];exact Hj
 |.list ds,_,n,h=>by unfold aF at n;obtain⟨a,xs,e,h1,h2⟩:=h.ofLst;subst e;exact uO (SqL.of h1) (Iss.isd n h2)
 |.tuple ds,_,n,h=>by unfold aF at n;obtain⟨a,xs,e,h1,h2⟩:=h.ofTup;subst e;exact G4 (SqT.of h1) (Iss.isd n h2)
 |.dict _,_,n,_=>by unfold aF at n;cases n
theorem Iss.isd:∀{ds:List PyData}{vs:List V},df ds=true->Iss K H ds vs->fz K H ds vs
 |[],_,_,h=>by rw[h.nil_of];exact qh
 |d::ds,_,n,h=>by unfold df at n;obtain⟨n1,n2⟩:=NB.mp n;obtain⟨v,r,e,h1,h2⟩:=h.cons_of;subst e;exact sO (Is.isd n1 h1) (Iss.isd n2 h2)
end
def gm:PyData->Bool
 |.none=>true
 |.bool _=>true
 |.int _=>true
 |.str _=>true
 |_=>false
theorem IsD.is{d:PyData}(n:gm d=true)(h:IsD K H d v):Is K H d v:=by
 cases d with
 |none=>rw[h.ofNone];exact is_none
 |bool _=>rw[h.ofBool];exact is_bool
 |int _=>rw[h.ofInt];exact bN
 |str _=>rw[h.ofStr];exact EH
 |_=>cases n
theorem yP{d:PyData}(n:gm d=true):eK d=true:=by
 cases d with
 |list _=>cases n
 |tuple _=>cases n
 |dict _=>cases n
 |_=>unfold eK;rfl
theorem Iss.get:∀{ds:List PyData}{vs:List V}{i:Nat}{v:V},Iss K H ds vs->vs[i]?=some v->∃d,ds[i]?=some d/\Is K H d v
 |[],_,i,v,h,e=>by rw[h.nil_of]at e;simp at e
 |d::ds,_,i,v,h,e=>by
  obtain⟨w,r,e1,h1,h2⟩:=h.cons_of;subst e1;cases i with
  |zero=>simp at e;subst e;exact⟨d,rfl,h1⟩
  |succ i=>simpa using Iss.get (i:=i) h2 (by simpa using e)
theorem Iss.getD:∀{ds:List PyData}{vs:List V}{i:Nat}{d:PyData},Iss K H ds vs->ds[i]?=some d->∃v,vs[i]?=some v/\Is K H d v
 |[],_,i,v,h,e=>by simp at e
 |d::ds,_,i,v,h,e=>by
  obtain⟨w,r,e1,h1,h2⟩:=h.cons_of;subst e1;cases i with
  |zero=>simp at e;subst e;exact⟨w,rfl,h1⟩
  |succ i=>simpa using Iss.getD (i:=i) h2 (by simpa using e)
theorem Iss.append:∀{ds es:List PyData}{vs us:List V},Iss K H ds vs->Iss K H es us->Iss K H (ds++es) (vs++us)
 |[],_,_,_,h,h'=>by rw[h.nil_of];exact h'
 |d::ds,es,_,us,h,h'=>by obtain⟨v,r,e,h1,h2⟩:=h.cons_of;subst e;exact cM h1 (Iss.append h2 h')
theorem Iss.take:∀{ds:List PyData}{vs:List V}(n:Nat),Iss K H ds vs->Iss K H (ds.take n) (vs.take n)
 |[],_,n,h=>by rw[h.nil_of];simpa using c8
 |d::ds,_,0,h=>by simpa using c8
 |d::ds,_,n+1,h=>by obtain⟨v,r,e,h1,h2⟩:=h.cons_of;subst e;exact cM h1 (Iss.take n h2)
theorem Iss.drop:∀{ds:List PyData}{vs:List V}(n:Nat),Iss K H ds vs->Iss K H (ds.drop n) (vs.drop n)
 |[],_,n,h=>by rw[h.nil_of];simpa using c8
 |d::ds,_,0,h=>h
 |d::ds,_,n+1,h=>by obtain⟨v,r,e,h1,h2⟩:=h.cons_of;subst e;exact Iss.drop n h2
theorem Iss.set{d:PyData}{v:V}(hv:Is K H d v):∀{ds:List PyData}{vs:List V}(i:Nat),Iss K H ds vs->Iss K H (ds.set i d) (vs.set i v)
 |[],_,n,h=>by rw[h.nil_of];simpa using c8
 |e::ds,_,0,h=>by obtain⟨u,r,z,h1,h2⟩:=h.cons_of;subst z;exact cM hv h2
 |e::ds,_,n+1,h=>by obtain⟨u,r,z,h1,h2⟩:=h.cons_of;subst z;exact cM h1 (Iss.set hv n h2)
theorem Iss.eraseIdx:∀{ds:List PyData}{vs:List V}(i:Nat),Iss K H ds vs->Iss K H (ds.eraseIdx i) (vs.eraseIdx i)
 |[],_,n,h=>by rw[h.nil_of];simpa using c8
 |e::ds,_,0,h=>by obtain⟨u,r,z,h1,h2⟩:=h.cons_of;subst z;exact h2
 |e::ds,_,n+1,h=>by obtain⟨u,r,z,h1,h2⟩:=h.cons_of;subst z;exact cM h1 (Iss.eraseIdx n h2)
theorem Iss.rep{ds:List PyData}{vs:List V}(h:Iss K H ds vs):∀k:Nat,Iss K H (List.replicate k ds).flatten (List.replicate k vs).flatten
 |0=>c8
 |k+1=>by rw[NK,NK,O3,O3];exact h.append (Iss.rep h k)
theorem vJ:∀(ns:List Int),Iss K H #[20] (ns.map V.int)
 |[]=>c8
 |_::r=>cM bN (vJ r)
theorem Iss.ofInts:∀{ns:List Int}{vs:List V},Iss K H #[20] vs->vs=ns.map V.int
 |[],_,h=>h.nil_of
 |n::r,_,h=>by obtain⟨v,t,e,h1,h2⟩:=h.cons_of;rw[e,h1.ofInt,Iss.ofInts h2];rfl
theorem Iss.ofBools:∀{ns:List Bool}{vs:List V},Iss K H (ns.map PyData.bool) vs->vs=ns.map V.bl
 |[],_,h=>h.nil_of
 |n::r,_,h=>by obtain⟨v,t,e,h1,h2⟩:=h.cons_of;rw[e,h1.ofBool,Iss.ofBools h2];rfl
theorem Is.isNone{d:PyData}(h:Is K H d v):(v=.non)↔d=.none:=by
 cases d with
 |none=>simp[h.ofNone]
 |bool b=>simp[h.ofBool]
 |int i=>simp[h.ofInt]
 |str x=>simp[h.ofStr]
 |list ds=>obtain⟨a,xs,e,_⟩:=h.ofLst;simp[e]
 |tuple ds=>obtain⟨a,xs,e,_⟩:=h.ofTup;simp[e]
 |dict _=>unfold Is at h;rcases h with (⟨a,ns,e,_⟩|⟨a,l,e,_⟩)|⟨a,C,dx,fs,e,_⟩ <;> simp[e]
theorem bH{p:Addr}(h:H p=none):ax H (upd H p o):=iq h
theorem kR{p:Addr}(h:p∈A):del (upd H p o) A=del H A:=by
 funext b;by_cases z:b∈A
 ·rw[hZ z,hZ z]
 ·rw[aP z,aP z,aC (by rintro rfl;exact z h)]
theorem mO{p:Addr}(b:Ls H A)(a:H p=none)(h:Iss K (del H A) ds xs):Is K (del (upd H p (.tup xs)) A) (.tuple ds) (.ref p) :=
 iS (by rw[aP (b.new a)];exact aH) (h.same (ax.del (bH a)))
theorem kY{p:Addr}(b:Ls H A)(a:H p=none)(h:Iss K (del H A) ds xs):Is K (del (upd H p (.lst xs)) A) (.list ds) (.ref p) :=
 ky (by rw[aP (b.new a)];exact aH) (h.same (ax.del (bH a)))
end
abbrev Ds:=List (Option PyData)
variable {tgt:PyData->Option Ds}{cond:Ds->Rs Bool}{gs:Ds->Rs #[5]}{δ:Ds}{ge:Ds->Rs PyData}
structure dR(K:W.Frag)(H:Hp)(A:List Addr)(δ:Ds)(σ:St):Prop where
 ls:Ls H A
 len:δ.length=σ.length
 get:∀(i:Nat)(d:PyData),δ[i]?=some (some d)->∃v,σ[i]?=some (some v)/\Is K (del H A) d v
theorem dR.same(R:dR K H A δ σ)(s:ax H H'):dR K H' A δ σ :=
 ⟨R.ls.same s,R.len,λi d e=>by obtain⟨v,e1,h⟩:=R.get i d e;exact⟨v,e1,h.same s.del⟩⟩
def iu(K:W.Frag)(E:XK)(A:List Addr)(H:Hp)(r:Rs PyData)(Q:VK):Prop:=match r with
 |.ok d=>∀v H',ax H H'->Is K (del H' A) d v->Q v H'
 |.rz C=>∀H',ax H H'->E (.ref C) none H'
 |.no=>False
def Mc(K:W.Frag)(E:XK)(A:List Addr)(H:Hp)(r:Rs #[5])(Q:List V->Hp->Prop):Prop:=match r with
 |.ok d=>∀v H',ax H H'->Iss K (del H' A) d v->Q v H'
 |.rz C=>∀H',ax H H'->E (.ref C) none H'
 |.no=>False
def vI(E:XK)(H:Hp)(r:Rs Bool)(Q:Bool->Hp->Prop):Prop:=match r with
 |.ok d=>∀H',ax H H'->Q d H'
 |.rz C=>∀H',ax H H'->E (.ref C) none H'
 |.no=>False
def eD(K:W.Frag)(E:XK)(g:Ds->Rs PyData):TE:=λσ H Q=>∃A δ,dR K H A δ σ/\iu K E A H (g δ) Q
def aD(K:W.Frag)(E:XK)(g:Ds->Rs #[5]):TA:=λσ H Q=>∃A δ,dR K H A δ σ/\Mc K E A H (g δ) Q
noncomputable def cD(K:W.Frag)(E:XK)(g:Ds->Rs Bool):TT:=λσ H Q=>∃A δ,dR K H A δ σ/\vI E H (g δ) Q
def PD(X:Cx)(E:XK)(e:Expr)(g:Ds->Rs PyData):Prop:=PE X e (eD X.K E g)
def PAD(X:Cx)(E:XK)(es:List Expr)(g:Ds->Rs #[5]):Prop:=PA X es (aD X.K E g)/\∀δ ds,g δ=.ok ds->ds.length=es.length
def PCD(X:Cx)(E:XK)(e:Expr)(g:Ds->Rs Bool):Prop:=PT X e (cD X.K E g)
def PWD(X:Cx)(E:XK)(e:Expr)(g:Ds->Rs Bool):Prop:=PW X e (cD X.K E g)
theorem PE.imp{t t':TE}(h:PE X e t)(k:∀σ H Q,t' σ H Q->t σ H Q):PE X e t':=λpins s σ H Q I q=>h pins s σ H Q I (k σ H Q q)
theorem PT.imp{t t':TT}(h:PT X e t)(k:∀σ H Q,t' σ H Q->t σ H Q):PT X e t':=λpins s σ H Q I q=>h pins s σ H Q I (k σ H Q q)
theorem PW.imp{t t':TT}(h:PW X e t)(k:∀σ H Q,t' σ H Q->t σ H Q):PW X e t':=λw pins s σ H Q I q=>h w pins s σ H Q I (k σ H Q q)
theorem PA.imp{e:List Expr}{t t':TA}(h:PA X e t)(k:∀σ H Q,t' σ H Q->t σ H Q):PA X e t':=λp pins s σ H Q I q=>h p pins s σ H Q I (k σ H Q q)
theorem PS.imp{e:Stmt}{t t':TS}(h:PS X e t)(k:∀D σ H,t' D σ H->t D σ H):PS X e t':=λpins s σ H D I q=>h pins s σ H D I (k D σ H q)
theorem PSs.imp{e:List Stmt}{t t':TS}(h:PSs X e t)(k:∀D σ H,t' D σ H->t D σ H):PSs X e t':=λpins s σ H D I q=>h pins s σ H D I (k D σ H q)
theorem iu.mono{r:Rs PyData}{Q:VK}(h:iu K E A H r Q)(s:ax H H1):iu K E A H1 r Q:=by
 cases r with
 |ok d=>exact λv H' s' q=>h v H' (s.trans s') q
 |rz C=>exact λH' s'=>h H' (s.trans s')
 |no=>exact h
theorem vI.mono{r:Rs Bool}{Q:Bool->Hp->Prop}(h:vI E H r Q)(s:ax H H1):vI E H1 r Q:=by
 cases r with
 |ok d=>exact λH' s'=>h H' (s.trans s')
 |rz C=>exact λH' s'=>h H' (s.trans s')
 |no=>exact h
theorem eD.run{g:Ds->Rs PyData}{Q:VK}(R:dR K H A δ σ)
  (ok:∀d,g δ=.ok d->∀v H',ax H H'->dR K H' A δ σ->Is K (del H' A) d v->Q v H') (rz:∀C,g δ=.rz C->∀H',ax H H'->E (.ref C) none H') (no:g δ=.no->False):eD K E g σ H Q:=by
 refine⟨A,δ,R,?_⟩;cases e:g δ with
 |ok d=>exact λv H' s q=>ok d e v H' s (R.same s) q
 |rz C=>exact λH' s=>rz C e H' s
 |no=>exact no e
theorem aD.run{g:Ds->Rs #[5]}{Q:List V->Hp->Prop}(R:dR K H A δ σ)
  (ok:∀d,g δ=.ok d->∀v H',ax H H'->dR K H' A δ σ->Iss K (del H' A) d v->Q v H') (rz:∀C,g δ=.rz C->∀H',ax H H'->E (.ref C) none H') (no:g δ=.no->False):aD K E g σ H Q:=by
 refine⟨A,δ,R,?_⟩;cases e:g δ with
 |ok d=>exact λv H' s q=>ok d e v H' s (R.same s) q
 |rz C=>exact λH' s=>rz C e H' s
 |no=>exact no e
theorem cD.run{g:Ds->Rs Bool}{Q:Bool->Hp->Prop}(R:dR K H A δ σ)
  (ok:∀d,g δ=.ok d->∀H',ax H H'->dR K H' A δ σ->Q d H') (rz:∀C,g δ=.rz C->∀H',ax H H'->E (.ref C) none H') (no:g δ=.no->False):cD K E g σ H Q:=by
 refine⟨A,δ,R,?_⟩;cases e:g δ with
 |ok d=>exact λH' s=>ok d e H' s (R.same s)
 |rz C=>exact λH' s=>rz C e H' s
 |no=>exact no e
structure CF(X:Cx)(c P:Addr):Prop where
 tab:TabOf X.K P (X.env.qual++"<lambda>")
 code:X.env.code=.ref c
 hd:W.CodeHd X.base c P
 bl:∃bm o,X.mg "__builtins__"=some (.ref bm)/\bm≠builtinsNs/\bm≠mainGlobals/\X.base.get? bm=some o/\o.cls=.type "module"/\o.dict=some builtinsNs/\o.data=.plain
theorem lX{a b:Int}{t u:Nat}{c:Value}:∀{l:List Value},TriplesOk l->TriplesOk (l++[.int a t,.int b u,c])
 |[],_=>by simp[TriplesOk]
 |[_],h=>by simp[TriplesOk]at h
 |[x,y],h=>by cases x <;> cases y <;> (unfold TriplesOk at h;exact h.elim)
 |x::y::z::r,h=>by
  cases x <;> first|(unfold TriplesOk at h;exact h.elim)|skip
  cases y <;> first|(unfold TriplesOk at h;exact h.elim)|skip
  unfold TriplesOk at h;show TriplesOk (_::_::_::(r++_));unfold TriplesOk;exact lX h
theorem qp{pos:Pos}{a b:Int}{t u:Nat}{c f:Value}:∀{l:List Value},TriplesOk l->codeAmong pos (l++[.int a t,.int b u,c])=some f->codeAmong pos l=some f\/f=c
 |[],_,e=>by
  simp only[Nn,codeAmong]at e;split at e
  ·cases e;exact .inr rfl
  ·cases e
 |[_],h,_=>by simp[TriplesOk]at h
 |[x,y],h,_=>by cases x <;> cases y <;> (unfold TriplesOk at h;exact h.elim)
 |x::y::z::r,h,e=>by
  cases x <;> first|(unfold TriplesOk at h;exact h.elim)|skip
  cases y <;> first|(unfold TriplesOk at h;exact h.elim)|skip
  unfold TriplesOk at h;simp only[Nv,codeAmong]at e ⊢;split at e
  ·rename_i q;rw[if_pos q];exact .inl e
  ·rename_i q;rw[if_neg q];exact qp h e
def Mn(qual:Str)(mk:Addr->Value->Obj):TE:=λ_ H Q=>∀f c' a H',H f=none->H' f=some (.frz (mk c' a) (.own f))->ax H H' ->
 (∃o vs t,H' c'=some (.frz o (.own c'))/\o.data=.fields vs/\vs[1]?=some (.str qual t))->Q (.ref f) H'
theorem IF{P:Addr}{g:List (Str×Addr)}(T:CF X c P)(x:closureFor scope X.env=pure g)(A:defaultsOf params X.env=([],[]):=by rfl) :
  PE X (.Lambda params body scope pos) (Mn (X.env.qual++"<lambda>") λc' f=>W.kla_obj "<lambda>" (X.env.qual++"<lambda>") params body scope g ((X.mg "__name__").getD .none) c' f):=by
 intro pins s σ H Q I h;have i:=I.tab P _ T.tab;obtain⟨ps,B,L,hc⟩:=I.hok P _ i;obtain⟨bm,ob,b1,b2,b3,R,b5,b6,b7⟩:=T.bl;have S:∀b o,X.base.get? b=some o->b≠P:=λb o e z=>by have:=(I.bs b o e).2;rw[z,i]at this;cases this
 have C:s.heap.BuiltinsAt X.mg P:=⟨bm,ob,b1,b2,b3,S _ _ R,I.bk _ _ R,b5,b6,b7⟩
 have U:s.heap.Ns mainGlobals X.mg:=I.mod.glob.keeps I.bk;have M:mainGlobals≠P:=by obtain⟨o,es,Y,e,_⟩:=I.mod.glob;exact S _ _ e
 have Z:=T.hd.keeps I.bk;have fin:∀{H1:Hp}{h1:Heap}{tk:Nat}{o:Obj},Inv X pins σ H1 { s with heap:=h1,toks:=tk }->o.isFreed=false->Inv X pins σ (upd H1 h1.objs.size (.frz o (.own h1.objs.size))) { s with heap:=h1.push o,toks:=tk }:=λ{H1 h1 tk o} J j =>
  J.laid (h':=h1.push o) (t':=tk) (λb u q=>M4 _ q) (My _) ⟨MU _ j,o,MU _ j⟩
 refine W.kla_eval A ?_;cases hf:codeAmong pos ps.toList with
 |some N =>
  obtain⟨c',o,vs,t,rfl,D,d1,d2⟩:=hc pos N hf;refine W.kla_makeFunctionHit (mg:=X.mg) x I.ok.glob U T.code Z B L hf C λf h' tk hk hsz=>?_
  have n:H h'.objs.size=none:=I.hok.fresh hsz;exact⟨.ref _,_,fin (I.kept (h':=h') (t':=tk) hk) rfl,rfl,h _ c' f _ n aH (iq n) ⟨o,vs,t,by rw[aC (aK D n)];exact D,d1,d2⟩⟩
 |none =>
  refine W.kla_makeFunction (mg:=X.mg) x I.ok.glob U T.code Z B L hf M C λc' f h' tk E l O F G=>?_
  obtain⟨c₂,oc,vs,t,e2,K,hd,hv⟩:=F;cases e2;have hn:H c'=none:=I.hok.fresh l;have cP:c'≠P:=λz=>by rw[z,i]at hn;cases hn
  have a:∀b u,H b=some u->b≠c':=λb u e z=>by rw[z,hn]at e;cases e
  have J:Inv X pins σ (upd H c' (.frz oc (.own c'))) { s with heap:=h',toks:=tk }:=by
   refine I.step (g':=s.gens) (d':=s.drawn) (ch:=[]) (λ_ z=>nomatch z) (λb o _ _ _ e n=>?_) (λb o _ _ _ e n=>⟨o.slots,?_⟩) (λb o _ e n=>?_) (λb o _ e=>?_) (λb xs e=>?_) (λb o u e=>?_) (λb qs e=>?_) (λm hm=>?_) (λb u e=>?_) I.bare
   ·exact E b o (λz=>by rw[z,i]at n;cases n) e
   ·exact E b o (λz=>by rw[z,i]at n;cases n) e
   ·rw[aC (MV (MZ (MS e) l))];exact n
   ·by_cases z:b=P
    ·subst z;exact⟨_,G⟩
    ·exact⟨o,E b o z e⟩
   ·rw[aC (a b _ e)];exact e
   ·rw[aC (a b _ e)];exact e
   ·rw[aC (a b _ e)];exact e
   ·obtain⟨o,es,Y,ho,r⟩:=hm;refine⟨o,es,Y,E _ o (λz=>?_) ho,r⟩;have:=I.free;rw[z,i]at this;cases this
   ·by_cases z:b=c'
    ·subst z;rw[aH]at e;cases e;exact⟨K,oc,K⟩
    ·rw[aC z]at e;by_cases y:b=P
     ·subst y;rw[i]at e;cases e;refine⟨ps++#[rawInt pos.line,rawInt pos.col,.ref c'],G,?_,λpos' N e=>?_⟩
      ·rw[Array.toList_append];exact lX L
      ·rw[Array.toList_append]at e;rcases qp L e with e|rfl
       ·obtain⟨c2,o,vs,t,rfl,q,d⟩:=hc pos' N e;exact⟨c2,o,vs,t,rfl,by rw[aC (a _ _ q)];exact q,d⟩
       ·exact⟨c',oc,vs,t,rfl,aH,hd,hv⟩
     ·refine (I.hok b u e).stay (λp v w q=>E p v (λy'=>?_) q) (λp q=>?_) (λp xs q=>?_) λp o' u' q=>?_
      ·subst y';rcases w with w|w
       ·exact y w.symm
       ·rw[i]at w;cases w
      ·rw[aC (a p _ q)];exact q
      ·rw[aC (a p _ q)];exact q
      ·rw[aC (a p _ q)];exact q
  have n:upd H c' (.frz oc (.own c')) h'.objs.size=none:=J.hok.fresh (My _);have n0:H h'.objs.size=none:=I.hok.fresh (Nq l (OO O));exact⟨.ref _,_,fin J rfl,rfl,h _ c' f _ n0 aH ((iq hn).trans (iq n)) ⟨oc,vs,t,by rw[aC (aK aH n)];exact aH,hd,hv⟩⟩
abbrev Cx.in1(X:Cx):Cx:={ X with A:=X.A.in1 }
section
theorem Inv.in1(I:Inv X pins σ H s):Inv X.in1 pins σ H s :=
 ⟨⟨I.ok.mod,I.ok.kind,I.ok.glob,I.ok.blt,I.ok.above,I.ok.inj,I.ok.has,I.ok.cab,I.ok.hd,I.ok.frames,I.ok.stk,I.ok.exf,I.ok.bs,I.ok.bsz,I.ok.noex,I.ok.exfs,I.ok.funs,I.ok.frf⟩,I.os,I.bare,I.base,I.loc,I.cell,I.free,I.freeC,I.pin,I.hok,I.len,I.tab⟩
theorem Inv.of1(I:Inv X.in1 pins σ H s):Inv X pins σ H s :=
 ⟨⟨I.ok.mod,I.ok.kind,I.ok.glob,I.ok.blt,I.ok.above,I.ok.inj,I.ok.has,I.ok.cab,I.ok.hd,I.ok.frames,I.ok.stk,I.ok.exf,I.ok.bs,I.ok.bsz,I.ok.noex,I.ok.exfs,I.ok.funs,I.ok.frf⟩,I.os,I.bare,I.base,I.loc,I.cell,I.free,I.freeC,I.pin,I.hok,I.len,I.tab⟩
end
noncomputable def bst(lt:Nat->Nat->Bool):Nat->Nat
 |0=>0
 |j+1=>if lt (j+1) (bst lt j) then j+1 else bst lt j
theorem vE(lt:Nat->Nat->Bool):∀j,bst lt j<=j
 |0=>My _
 |j+1=>by
  unfold bst;split
  ·exact My _
  ·exact Nat.le_succ_of_le (vE lt j)
structure mf(X:Cx)(σ:St)(pins:List (Addr×Obj))(q l:Addr)(xs:List V)(Φ:Hp->Prop)(κ:Nat->V->Hp->Prop)(lt:Nat->Nat->Bool):Prop where
 lst:∀H,Φ H->H l=some (.lst xs)
 turn:∀(i:Nat)(x:V),xs[i]?=some x->∀(pins':List (Addr×Obj))(H:Hp)(s:Shared)(u:Value),(∀p∈pins,p∈pins')->Inv X.in1 pins' σ H s->Φ H->RelV x u ->
  wpAny #[4] X.A.in1 (call (.ref q) [u]) (EP X.in1 pins' σ λv H'=>Φ H'/\κ i v H'/\∀j v',κ j v' H->κ j v' H') (λ_ _=>False) s
 cmp:∀(i j:Nat)(x y:V)(pins':List (Addr×Obj))(H:Hp)(s:Shared)(u v:Value),Inv X.in1 pins' σ H s->Φ H->κ i x H->κ j y H->RelV x u->RelV y v ->
  wpAny #[4] X.A.in1 (richCompare .Lt u v) (λr s'=>r=.bool (lt i j)/\Inv X.in1 pins' σ H s') (λ_ _=>False) s
section
variable {q l:Addr}{Φ:Hp->Prop}{lt:Nat->Nat->Bool}{R:Result->Shared->Prop}
theorem Inv.turnPin{ps:List (Addr×Obj)}{o o':Obj}{t':Nat}(I:Inv X ((it,o)::ps) σ H s)(k:∀b u,b≠it->s.heap.get? b=some u->h'.get? b=some u)(f:h'.get? it=some o')
  (h1:X.s₀.heap.objs.size<=it) (h3:∀p∈X.pn++ps,p.1≠it) (hc:∀v,o'.data≠.cell v):Inv X ((it,o')::ps) σ H { s with heap:=h',toks:=t' }:=by
 obtain⟨e,n,ne,g,d⟩:=I.pin (it,o) (ML _ (.head _));have h:Inv X ps σ H s:=I.pins_of λp a=>I.pin p (ML _ (.tail _ a))
 have J:Inv X ps σ H { s with heap:=h',toks:=t' }:=h.turned k n ne (.inr h1) (λx c hl z=>by obtain⟨v,o2,e2,d2⟩:=I.cell x c hl;subst z;rw[e]at e2;cases e2;exact d v d2) h3
 refine J.pins_of λp a=>?_
 rcases M8.mp a with rfl|a
 ·exact⟨f,n,ne,g,hc⟩
 ·exact J.pin p (ML _ a)
theorem Inv.swap{ps:List (Addr×Obj)}{a b:Addr×Obj}(I:Inv X (a::b::ps) σ H s):Inv X (b::a::ps) σ H s:=I.pins_of λp c=>I.pin p (ML _ (by
 rcases M8.mp c with rfl|c
 ·exact .tail _ (.head _)
 ·rcases M8.mp c with rfl|c
  ·exact .head _
  ·exact .tail _ (.tail _ c)))
theorem G3(KK:mf X σ pins q l xs Φ κ lt)(hh:X.A.handled=none)
  (hR:∀H' s' x u,xs[bst lt (xs.length-1)]?=some x->RelV x u->Inv X pins σ H' s'->Φ H'->R (.ok (.ret u)) s') :
  ∀(r j:Nat)(H:Hp)(s:Shared)(h g:Value)(xb kb:V)(c:Nat)(It S:Addr)(E:Obj),xs.length-(j+1)=r->j+1<=xs.length->X.s₀.heap.objs.size<=It->X.s₀.heap.objs.size<=S->S≠It ->
   (∀p∈X.pn++pins,p.1≠It)->(∀p∈X.pn++pins,p.1≠S) ->
   Inv X.in1 ((S,seqObj "list" #[h,g] c)::(It,E)::pins) σ H s->E.cls=.type "list_iterator"->E.data=.fields #[.ref l,.int ((j+1:Nat):Int) 0]->Φ H->xs[bst lt j]?=some xb->RelV xb h->κ (bst lt j) kb H->RelV kb g ->
   codeAny #[4] X.A (.builtin "min.loop" ⟨[.ref It,.ref q,.ref S],[]⟩) R s:=by
 have y:(toString "min"++toString ".loop":String)="min.loop":=by decide
 intro r
 induction r with
 |zero =>
  intro j H s h g xb kb c It S E hr hj zI zS i N nS I O P B hb rb Q rk;have hin:j+1=xs.length:=by omega
  have pS:=I.pin (S,seqObj "list" #[h,g] c) (ML _ (.head _));have G:=I.pin (It,E) (ML _ (.tail _ (.head _)));have hl:=KK.lst H B;obtain⟨m,n,rv,eL,_⟩:=I.lst hl;have T:l≠It:=aK hl G.2.1;have hsz:m.toArray.size=xs.length:=by rw[MO,<-rv.length]
  have W:=Walks.list (prog:=X.prog) (w:=X.w) (A:=X.A.in1) hh It l T m.toArray;refine codeAny_builtin F.entry_min_loop ?_;rw[Around.under_plainId F.plain_min_loop _];show wpAny _ X.A.in1 (seqItems? (.ref S) >>= _) _ _ _;refine wpAny_bind (wpAny_seqItems pS.1 rfl ?_);show wpAny _ X.A.in1 (tryCatch (pyNext (.ref It)) _ >>= _) _ _ _;refine wpAny_bind (wpAny_tryCatch (W.done _ _ _ ⟨by rw[hsz,<-hin];exact⟨E,G.1,O,P⟩,⟨_,eL,rfl,n,rfl⟩⟩ λh' t U=>?_));have I1:Inv X.in1 ((S,seqObj "list" #[h,g] c)::pins) σ H { s with heap:=h',toks:=t }:=by
   have I0:Inv X.in1 ((S,seqObj "list" #[h,g] c)::pins) σ H s:=I.pins_of λp a=>I.pin p (ML _ (by
    rcases M8.mp a with rfl|a
    ·exact .head _
    ·exact .tail _ (.tail _ a)))
   refine I0.turned (λb o Y e=>U b o (by simpa using Y) e) G.2.1 G.2.2.1 (.inr zI) (λx cc Z z=>?_) λp a=>?_
   ·obtain⟨v,o2,e2,d2⟩:=I.cell x cc Z;subst z;rw[G.1]at e2;cases e2;exact G.2.2.2.2 v d2
   ·rcases Nb.mp a with a|a
    ·exact N p (Nh _ a)
    ·rcases M8.mp a with rfl|a
     ·exact i
     ·exact N p (ML _ a)
  have C:=I1.pin (S,seqObj "list" #[h,g] c) (ML _ (.head _));have s1:=Heap.SameBut.update h' S (Obj.mapSeq λ_=>(#[]:Array Value));show wpAny _ X.A.in1 (updateSeq S (λ_=>#[]) >>= _) _ _ _;refine wpAny_bind ?_;refine wpAny_updateSeq C.1 rfl (wpAny_bind (wpAny_letGo (wpAny_pure ?_)));have I2:Inv X.in1 pins σ H { s with heap:=h'.update S (Obj.mapSeq λ_=>(#[]:Array Value)),toks:=t }:=by
   have I0:Inv X.in1 pins σ H { s with heap:=h',toks:=t }:=I1.pins_of λp a=>I1.pin p (ML _ (.tail _ a))
   refine I0.turned (h':=h'.update S (Obj.mapSeq λ_=>(#[]:Array Value))) (t':=t) (λb o Y e=>(s1.2 b Y).trans e) C.2.1 C.2.2.1 (.inr zS) (λx cc Z z=>?_) nS;obtain⟨v,o2,e2,d2⟩:=I1.cell x cc Z;subst z;rw[C.1]at e2;cases e2;exact C.2.2.2.2 v d2
  exact hR H _ xb h (by rw[<-hin];exact hb) rb I2.of1 B
 |succ r ih =>
  intro j H s h g xb kb c It S E hr hj zI zS i N nS I O P B hb rb Q rk;have K:j+1<xs.length:=by omega
  have pS:=I.pin (S,seqObj "list" #[h,g] c) (ML _ (.head _));have G:=I.pin (It,E) (ML _ (.tail _ (.head _)));have hl:=KK.lst H B;obtain⟨m,n,rv,eL,_⟩:=I.lst hl;have T:l≠It:=aK hl G.2.1;have hsz:m.toArray.size=xs.length:=by rw[MO,<-rv.length]
  have W:=Walks.list (prog:=X.prog) (w:=X.w) (A:=X.A.in1) hh It l T m.toArray;refine codeAny_builtin F.entry_min_loop ?_;rw[Around.under_plainId F.plain_min_loop _];show wpAny _ X.A.in1 (seqItems? (.ref S) >>= _) _ _ _;refine wpAny_bind (wpAny_seqItems pS.1 rfl ?_);show wpAny _ X.A.in1 (tryCatch (pyNext (.ref It)) _ >>= _) _ _ _;refine wpAny_bind (wpAny_tryCatch (W.item (j+1) _ _ _ (by rw[hsz];exact K) ⟨⟨E,G.1,O,P⟩,⟨_,eL,rfl,n,rfl⟩⟩ λv h' t hP hst' U=>?_));have hv:m[j+1]?=some v:=by simpa using hP
  obtain⟨x,hx⟩:∃x,xs[j+1]?=some x:=⟨_,M1 K⟩
  obtain⟨v',hv',rx⟩:=rv.get hx;rw[hv]at hv';cases hv';obtain⟨L,hoI',hoc,hod⟩:=id hst'.1;have J:Inv X.in1 ((It,L)::(S,seqObj "list" #[h,g] c)::pins) σ H { s with heap:=h',toks:=t } :=
   I.swap.turnPin (λb o Y e=>U b o (by simpa using Y) e) hoI' zI (λp a=>by
    rcases Nb.mp a with a|a
    ·exact N p (Nh _ a)
    ·rcases M8.mp a with rfl|a
     ·exact i
     ·exact N p (ML _ a)) λvv z=>by rw[hod]at z;cases z
  show wpAny _ X.A.in1 (tryCatch (holding [v] (call (.ref q) [v])) _ >>= _) _ _ _;refine wpAny_bind (wpAny_tryCatch (wpAny_holding (wpAny_mono (KK.turn (j+1) x hx _ H _ v (λp a=>.tail _ (.tail _ a)) J B rx) (λf s2 he=>?_) λ_ _ hF=>hF.elim)));obtain⟨kv,H2,J2,rk2,D,M,hst⟩:=he;show wpAny _ X.A.in1 (tryCatch (holding [v,f] (richCompare .Lt f g >>= _)) _ >>= _) _ _ _;refine wpAny_bind (wpAny_tryCatch (wpAny_holding (wpAny_bind (wpAny_mono (KK.cmp (j+1) (bst lt j) kv kb _ H2 s2 f g J2 D M (hst _ _ Q) rk2 rk) (λrr s3 hc3=>?_) λ_ _ hF=>hF.elim))));obtain⟨rfl,J3⟩:=hc3;refine wpAny_bind (wpAny_holding (wpAny_truthy_bool ?_));refine wpAny_bind (wpAny_letGo (wpAny_pure ?_));have pS3:=J3.pin (S,seqObj "list" #[h,g] c) (ML _ (.tail _ (.head _)));cases hb':lt (j+1) (bst lt j) with
  |true =>
   have s1:=Heap.SameBut.update s3.heap S (Obj.mapSeq λ_=>#[v,f]);obtain⟨c2,hc2⟩:∃c2,(s3.heap.update S (Obj.mapSeq λ_=>#[v,f])).get? S=some (seqObj "list" #[v,f] c2):=⟨_,get?_update_seq pS3.1 λ_=>#[v,f]⟩
   simp only[if_true];refine wpAny_bind ?_;refine wpAny_updateSeq pS3.1 rfl (wpAny_bind (wpAny_letGo ?_));rw[y];have J4:Inv X.in1 ((S,seqObj "list" #[v,f] c2)::(It,L)::pins) σ H2 { s3 with heap:=s3.heap.update S (Obj.mapSeq λ_=>#[v,f]),toks:=s3.toks } :=
    J3.swap.turnPin (λb o Y e=>(s1.2 b Y).trans e) hc2 zS (λp a=>by
     rcases Nb.mp a with a|a
     ·exact nS p (Nh _ a)
     ·rcases M8.mp a with rfl|a
      ·exact i.symm
      ·exact nS p (ML _ a)) λvv z=>by cases z
   have eb:bst lt (j+1)=j+1:=by unfold bst;rw[if_pos hb']
   exact wpAny_pure ⟨plainId_quiet F.plain_min_loop _,ih (j+1) H2 _ v f x kv c2 It S L (by omega) K zI zS i N nS J4 hoc hod D (by rw[eb];exact hx) rx (by rw[eb];exact M) rk2⟩
  |false =>
   simp only[N2,if_false];refine wpAny_bind (wpAny_letGo ?_);rw[y];have eb:bst lt (j+1)=bst lt j:=by rw[bst,if_neg (by rw[hb'];decide)]
   exact wpAny_pure ⟨plainId_quiet F.plain_min_loop _,ih (j+1) H2 _ h g xb kb c It S L (by omega) K zI zS i N nS J3.swap hoc hod D (by rw[eb];exact hb) rb (by rw[eb];exact hst _ _ Q) rk⟩
theorem IA{E:Value->Shared->Prop}(KK:mf X σ pins q l xs Φ κ lt)(hh:X.A.handled=none)(I:Inv X pins σ H s)(t:Φ H)(h:0<xs.length)
  (hQ:∀H' s' x u,xs[bst lt (xs.length-1)]?=some x->RelV x u->Inv X pins σ H' s'->Φ H'->Q u s') :
  wpAny #[4] X.A (call (.builtin "min") [.ref l] [(Str.ofString "key",.ref q)]) Q E s:=by
 have f:(toString "min"++toString ".loop":String)="min.loop":=by decide
 have hl:=KK.lst H t;obtain⟨g,n,rv,O,_⟩:=I.lst hl;have P:s.heap.IsList l g.toArray:=⟨_,O,rfl,n,rfl⟩
 refine kmk_tree F.kind_min F.plain_min F.entry_min (kmk_min_key _ _) ?_;show wpAny _ X.A.in1 (Builtin.Builtins.bindParams "min" ["key", "default"] 0 ⟨[],[(Str.ofString "key",.ref q)]⟩ >>= _) _ _ s;refine wpAny_bind (wpAny_of_eq (show Builtin.Builtins.bindParams "min" ["key", "default"] 0 ⟨[],[(Str.ofString "key",.ref q)]⟩=pure [some (.ref q),none] from rfl) ?_);refine wpAny_bind (wpAny_pure ?_);refine wpAny_bind (wpAny_pyIter_list P ?_);refine wpAny_bind (wpAny_newList ?_ (NC _));rw[f];have R:(s.heap.push { cls:=.type "list_iterator",data:=.fields #[.ref l,.int 0 0] }).objs.size=s.heap.objs.size+1:=size_push' ..;have T:l<s.heap.objs.size:=MS O;have U:l≠s.heap.objs.size:=MV T;have i:(s.heap.push { cls:=.type "list_iterator",data:=.fields #[.ref l,.int 0 0] }).objs.size≠s.heap.objs.size:=by rw[R];exact ND (NO _)
 have Y:∀p∈X.pn++pins,p.1≠s.heap.objs.size:=λp a=>MV (MS (I.pin p a).1)
 have Z:∀p∈X.pn++pins,p.1≠(s.heap.push { cls:=.type "list_iterator",data:=.fields #[.ref l,.int 0 0] }).objs.size:=λp a=>by rw[R];exact MV (Np (MS (I.pin p a).1))
 refine wpAny_pure ⟨plainId_quiet F.plain_min_loop _,?_⟩;have gI:((s.heap.push { cls:=.type "list_iterator",data:=.fields #[.ref l,.int 0 0] }).push (seqObj "list" #[] 0)).get? s.heap.objs.size=some { cls:=.type "list_iterator",data:=.fields #[.ref l,.int 0 0] } :=
  M4 _ (MU _ rfl)
 have gS:((s.heap.push { cls:=.type "list_iterator",data:=.fields #[.ref l,.int 0 0] }).push (seqObj "list" #[] 0)).get? (s.heap.push { cls:=.type "list_iterator",data:=.fields #[.ref l,.int 0 0] }).objs.size=some (seqObj "list" #[] 0):=MU _ rfl;have zI:X.s₀.heap.objs.size<=s.heap.objs.size:=I.sz;have zS:X.s₀.heap.objs.size<=(s.heap.push { cls:=.type "list_iterator",data:=.fields #[.ref l,.int 0 0] }).objs.size:=by rw[R];exact Nat.le_succ_of_le zI
 generalize eSa:(s.heap.push { cls:=.type "list_iterator",data:=.fields #[.ref l,.int 0 0] }).objs.size=S at *;generalize eIa:s.heap.objs.size=It at *;have I0:Inv X.in1 pins σ H { s with heap:=(s.heap.push { cls:=.type "list_iterator",data:=.fields #[.ref l,.int 0 0] }).push (seqObj "list" #[] 0),toks:=s.toks }:=I.in1.kept λb u e=>M4 _ (M4 _ e)
 have j:s.heap.objs.size<=It:=Nat.le_of_eq eIa;have m:s.heap.objs.size<=S:=by omega
 have I1:Inv X.in1 ((S,seqObj "list" #[] 0)::(It,{ cls:=.type "list_iterator",data:=.fields #[.ref l,.int 0 0] })::pins) σ H { s with heap:=(s.heap.push { cls:=.type "list_iterator",data:=.fields #[.ref l,.int 0 0] }).push (seqObj "list" #[] 0),toks:=s.toks }:=by
  refine I0.pins_of λp a=>?_
  rcases M8.mp a with rfl|a
  ·exact⟨gS,I.hok.fresh m,ND (MZ I.lt m),I.nofs m,λv z=>by cases z⟩
  ·rcases M8.mp a with rfl|a
   ·exact⟨gI,I.hok.fresh j,ND (MZ I.lt j),I.nofs j,λv z=>by cases z⟩
   ·exact I0.pin p (ML _ a)
 have hsz:g.toArray.size=xs.length:=by rw[MO,<-rv.length]
 have W:=Walks.list (prog:=X.prog) (w:=X.w) (A:=X.A.in1) hh It l U g.toArray;refine codeAny_builtin F.entry_min_loop ?_;rw[Around.under_plainId F.plain_min_loop _];show wpAny _ X.A.in1 (seqItems? (.ref _) >>= _) _ _ _;refine wpAny_bind (wpAny_seqItems gS rfl ?_);show wpAny _ X.A.in1 (tryCatch (pyNext (.ref It)) _ >>= _) _ _ _;refine wpAny_bind (wpAny_tryCatch (W.item 0 _ _ _ (by rw[hsz];exact h) ⟨⟨_,gI,rfl,rfl⟩,⟨_,M4 _ (M4 _ O),rfl,n,rfl⟩⟩ λv h' tk' hP y hk'=>?_));have hv:g[0]?=some v:=by simpa using hP
 obtain⟨x,B⟩:∃x,xs[0]?=some x:=⟨_,M1 h⟩
 obtain⟨v',C,rx⟩:=rv.get B;rw[hv]at C;cases C;obtain⟨r,D,hoc,G⟩:=id y.1;have J:Inv X.in1 ((It,r)::(S,seqObj "list" #[] 0)::pins) σ H { s with heap:=h',toks:=tk' } :=
  I1.swap.turnPin (λb o nb e=>hk' b o (by simpa using nb) e) D zI (λp a=>by
   rcases Nb.mp a with a|a
   ·exact Y p (Nh _ a)
   ·rcases M8.mp a with rfl|a
    ·exact i
    ·exact Y p (ML _ a)) λvv z=>by rw[G]at z;cases z
 show wpAny _ X.A.in1 (tryCatch (holding [v] (call (.ref q) [v])) _ >>= _) _ _ _;refine wpAny_bind (wpAny_tryCatch (wpAny_holding (wpAny_mono (KK.turn 0 x B _ H _ v (λp a=>.tail _ (.tail _ a)) J t rx) (λc s2 he=>?_) λ_ _ hF=>hF.elim)));obtain⟨kv,H2,J2,rk2,K,L,_⟩:=he;have M:=J2.pin (S,seqObj "list" #[] 0) (ML _ (.tail _ (.head _)));have s1:=Heap.SameBut.update s2.heap S (Obj.mapSeq λ_=>#[v,c]);obtain⟨N,hc2⟩:∃N,(s2.heap.update S (Obj.mapSeq λ_=>#[v,c])).get? S=some (seqObj "list" #[v,c] N):=⟨_,get?_update_seq M.1 λ_=>#[v,c]⟩
 show wpAny _ X.A.in1 (updateSeq S (λ_=>#[v,c]) >>= _) _ _ _;refine wpAny_bind ?_;refine wpAny_updateSeq M.1 rfl ?_;rw[f];have J4:Inv X.in1 ((S,seqObj "list" #[v,c] N)::(It,r)::pins) σ H2 { s2 with heap:=s2.heap.update S (Obj.mapSeq λ_=>#[v,c]),toks:=s2.toks } :=
  J2.swap.turnPin (λb o nb e=>(s1.2 b nb).trans e) hc2 zS (λp a=>by
   rcases Nb.mp a with a|a
   ·exact Z p (Nh _ a)
   ·rcases M8.mp a with rfl|a
    ·exact i.symm
    ·exact Z p (ML _ a)) λvv z=>by cases z
 exact wpAny_pure ⟨plainId_quiet F.plain_min_loop _,G3 KK hh (λH' s' x u B ru J a=>hQ H' s' x u B ru J a) _ 0 H2 _ v c x kv N It S r rfl h zI zS i Y Z J4 hoc G K B rx L rk2⟩
end
def ae(i:Nat):Ds->Rs PyData:=λδ=>match δ[i]? with
 |some (some d)=>.ok d
 |_=>.no
def gC(d:PyData):Ds->Rs PyData:=λ_=>.ok d
def g1(f:PyData->Option PyData)(a:Ds->Rs PyData):Ds->Rs PyData:=λδ=>(a δ).bind λx=>Rs.eF (f x)
def g2(f:PyData->PyData->Option PyData)(a b:Ds->Rs PyData):Ds->Rs PyData:=λδ=>(a δ).bind λx=>(b δ).bind λy=>Rs.eF (f x y)
def gF(f:List PyData->Option PyData)(as:Ds->Rs #[5]):Ds->Rs PyData:=λδ=>(as δ).bind λds=>Rs.eF (f ds)
def ah:Ds->Rs #[5]:=λ_=>.ok []
def af(a:Ds->Rs PyData)(r:Ds->Rs #[5]):Ds->Rs #[5]:=λδ=>(a δ).bind λx=>(r δ).bind λxs=>.ok (x::xs)
def dS(as:Ds->Rs #[5]):Ds->Rs PyData:=λδ=>(as δ).bind λds=>.ok (.tuple ds)
def mL(as:Ds->Rs #[5]):Ds->Rs PyData:=λδ=>(as δ).bind λds=>.ok (.list ds)
def au(gf:List PyData->Rs PyData)(as:Ds->Rs #[5]):Ds->Rs PyData:=λδ=>(as δ).bind gf
def truth:PyData->Rs Bool
 |.bool b=>.ok b
 |_=>.no
def gT(a:Ds->Rs PyData):Ds->Rs Bool:=λδ=>(a δ).bind truth
def gA(a:Ds->Rs Bool):Ds->Rs Bool:=λδ=>(a δ).bind λb=>.ok (!b)
def iN(a b:Ds->Rs Bool):Ds->Rs Bool:=λδ=>(a δ).bind λx=>if x=true then b δ else .ok false
def cOr(a b:Ds->Rs Bool):Ds->Rs Bool:=λδ=>(a δ).bind λx=>if x=true then .ok true else b δ
def A3(a b:Ds->Rs PyData):Ds->Rs PyData:=λδ=>(a δ).bind λx=>(truth x).bind λt=>if t=true then b δ else .ok (.bool false)
def gOr(a b:Ds->Rs PyData):Ds->Rs PyData:=λδ=>(a δ).bind λx=>(truth x).bind λt=>if t=true then .ok (.bool true) else b δ
def Me(a:Ds->Rs PyData):Ds->Rs PyData:=λδ=>(a δ).bind λx=>(truth x).bind λt=>.ok (.bool (!t))
def gIf(c:Ds->Rs Bool)(a b:Ds->Rs PyData):Ds->Rs PyData:=λδ=>(c δ).bind λx=>if x=true then a δ else b δ
section
variable {a b c:Expr}{ga gb gc:Ds->Rs PyData}
theorem JF(i:Nat)(c:X.N[i]?=some x)(hv:Vis X.env.scope x)(hd:(x==("__debug__":Str))=false)
  (a:(x==("__classdict__":Str))=false):PD X E (.Name x pos) (ae i) :=
 (kE c hv hd a).imp λσ H Q b=>by
  obtain⟨A,δ,R,o⟩:=b;unfold ae at o;split at o
  ·rename_i d e;obtain⟨v,e1,h⟩:=R.get i d e;exact⟨v,e1,o v H (ax.refl H) h⟩
  ·exact o.elim
theorem Eo{d:PyData}(h:PE X e (tC v))(hi:∀K H,Is K H d v):PD X E e (gC d):=h.imp λσ H Q a=>(by obtain⟨A,δ,R,o⟩:=a;exact o v H (ax.refl H) (hi _ _))
theorem Je{i j pos}:PD X E (.Constant (.int i) j pos) (gC (.int i)):=Eo gE λ_ _=>bN
theorem KZ{i j pos}:PD X E (.Constant (.bool i) j pos) (gC (.bool i)):=Eo LC λ_ _=>is_bool
theorem Jf{j pos}:PD X E (.Constant .none j pos) (gC .none):=Eo KA λ_ _=>is_none
theorem IW{i j pos}:PD X E (.Constant (.str i) j pos) (gC (.str i)):=Eo Kl λ_ _=>EH
theorem GU{i:Int}(hm:∃t,X.mg x=some (.int i t))(a:Gl X x)(hd:(x==("__debug__":Str))=false):PD X E (.Name x pos) (gC (.int i)):=by obtain⟨t,hm⟩:=hm;exact Eo (Gg (v:=.int i) a hm ⟨_,rfl⟩ hd) λ_ _=>bN
def OpD(K:W.Frag)(f:PyData->PyData->Option PyData)(r:R2):Prop :=
 ∀(d1 d2 d:PyData)(x y:V)(H:Hp)(A:List Addr)(Q:VK),f d1 d2=some d->Ls H A->Is K (del H A) d1 x->Is K (del H A) d2 y->(∀v H',ax H H'->Is K (del H' A) d v->Q v H')->r x y H Q
theorem g2.read{r:R2}{Q:VK}(b:OpD K f r)(R:dR K H A δ σ)(o:iu K E A H (g2 f ga gb δ) Q) :
  tOp r (eD K E ga) (eD K E gb) σ H Q:=by
 unfold g2 at o;refine eD.run R (λd1 e1 v H1 a c h1=>?_) (λC e1 H' s'=>?_) (λe1=>?_)
 ·rw[e1]at o;refine eD.run c (λd2 e2 u H2 s2 R2 h2=>?_) (λC e2 H' s'=>?_) (λe2=>?_)
  ·simp only[Rs.ag,e2]at o;cases e3:f d1 d2 with
   |none=>rw[e3]at o;exact o.elim
   |some d =>rw[e3]at o;exact b d1 d2 d v u H2 A Q e3 R2.ls (h1.same s2.del) h2 λw H' s q=>o w H' (a.trans (s2.trans s)) q
  ·simp only[Rs.ag,e2,Rs.fi]at o;exact o H' (a.trans s')
  ·simp only[Rs.ag,e2,Rs.bD]at o;exact o
 ·rw[e1]at o;exact o H' s'
 ·rw[e1]at o;exact o
theorem ic{r:R2}(g:OpD X.K f r)(ha:PD X E a ga)(h:PD X E b gb)(mk:∀{ta tb:TE},PE X a ta->PE X b tb->PE X e (tOp r ta tb)):PD X E e (g2 f ga gb) :=
 (mk ha h).imp λσ H Q c=>(by obtain⟨A,δ,R,o⟩:=c;exact g2.read g R o)
theorem jI{r:R2}(g:OpD X.K f r)(ha:PD X E a ga)(i:PD X E b gb)(mk:∀{ta tb:TE},PE X a ta->PE X b tb->PT X e (HG (tOp r ta tb))):PCD X E e (gT (g2 f ga gb)) :=
 (mk ha i).imp λσ H Q c=>by
  obtain⟨A,δ,R,o⟩:=c;refine g2.read (Q:=λx H'=>∃k,x=.bl k/\Q k H') g R ?_;unfold gT at o;cases q:g2 f ga gb δ with
  |no=>rw[q]at o;exact o
  |rz C=>rw[q]at o;exact o
  |ok d =>
   rw[q]at o;cases d with
   |bool k=>exact λv H' s h=>⟨k,h.ofBool,o H' s⟩
   |_=>exact o.elim
noncomputable def dI(f:Int->Int->Option PyData):PyData->PyData->Option PyData
 |.int i,.int j=>f i j
 |_,_=>none
theorem zN{f:Int->Int->Option PyData}{d1 d2 d:PyData}(h:dI f d1 d2=some d):∃i j,d1=.int i/\d2=.int j/\f i j=some d:=by
 unfold dI at h;split at h
 ·exact⟨_,_,rfl,rfl,h⟩
 ·cases h
def eM:=dI λi j=>some (.int (i-j))
def ff:=dI λi j=>if 0<j then some (.int (i % j)) else none
def jN:=dI λi j=>if 0<j/\j<1073741824 then some (.int (i / j)) else none
def Ct:=dI λi j=>if 0<=j/\j<=1000000/\i.natAbs<2 ^ 64 then some (.int (i ^ j.toNat)) else none
def dLt:=dI λi j=>some (.bool (decide (i<j)))
def dLe:=dI λi j=>some (.bool (decide (i<=j)))
def dGt:=dI λi j=>some (.bool (decide (j<i)))
def dGe:=dI λi j=>some (.bool (decide (j<=i)))
theorem kD{f:Int->Int->PyData}{v:Int->Int->V}(hv:∀i j K H,Is K H (f i j) (v i j)):OpD K (dI λi j=>some (f i j)) (rI0 v):=λd1 d2 d x y H A Q e hA h1 h2 k=>by obtain⟨i,j,rfl,rfl,e⟩:=zN e;cases e;exact⟨i,j,h1.ofInt,h2.ofInt,k _ H (ax.refl H) (hv _ _ _ _)⟩
theorem B3{C a:Int->Int->Prop}[∀i j,Decidable (a i j)]{f:Int->Int->PyData}{v:Int->Int->V}(hc:∀i j,a i j->C i j)(hv:∀i j K H,Is K H (f i j) (v i j)):OpD K (dI λi j=>if a i j then some (f i j) else none) (rI C v):=λd1 d2 d x y H A Q e hA h1 h2 k=>by
 obtain⟨i,j,rfl,rfl,e2⟩:=zN e;by_cases z:a i j
 ·simp only[if_pos z]at e2;cases e2;exact⟨i,j,h1.ofInt,h2.ofInt,hc i j z,k _ H (ax.refl H) (hv _ _ _ _)⟩
 ·simp only[if_neg z]at e2;cases e2
theorem J5(ha:PD X E a ga)(c:PD X E b gb):PD X E (.BinOp a .Sub b pos) (g2 eM ga gb):=ic (kD λ_ _ _ _=>bN) ha c (fu IM)
theorem Kx(ha:PD X E a ga)(c:PD X E b gb):PD X E (.BinOp a .Mod b pos) (g2 ff ga gb):=ic (B3 (λ_ _ h=>h) λ_ _ _ _=>bN) ha c (fu rE)
theorem J9(ha:PD X E a ga)(c:PD X E b gb):PD X E (.BinOp a .FloorDiv b pos) (g2 jN ga gb):=ic (B3 (C:=LR) (λ_ _ h=>h) λ_ _ _ _=>bN) ha c (fu FZ)
theorem IQ(ha:PD X E a ga)(c:PD X E b gb):PD X E (.BinOp a .Pow b pos) (g2 Ct ga gb):=ic (B3 (C:=LO) (λ_ _ h=>h) λ_ _ _ _=>bN) ha c (fu JP)
theorem LL(ha:PD X E a ga)(c:PD X E b gb):PD X E (.Compare a [.Lt] [b] pos) (g2 dLt ga gb):=ic (kD λ_ _ _ _=>is_bool) ha c λh1 h2=>pD DU h1 h2 (jf _)
theorem K1(ha:PD X E a ga)(c:PD X E b gb):PD X E (.Compare a [.LtE] [b] pos) (g2 dLe ga gb):=ic (kD λ_ _ _ _=>is_bool) ha c λh1 h2=>pD zQ h1 h2 (jf _)
theorem JM(ha:PD X E a ga)(c:PD X E b gb):PCD X E (.Compare a [.Lt] [b] pos) (gT (g2 dLt ga gb)):=jI (kD λ_ _ _ _=>is_bool) ha c λh1 h2=>iF DU h1 h2 (jf _)
theorem IC(ha:PD X E a ga)(c:PD X E b gb):PCD X E (.Compare a [.LtE] [b] pos) (gT (g2 dLe ga gb)):=jI (kD λ_ _ _ _=>is_bool) ha c λh1 h2=>iF zQ h1 h2 (jf _)
theorem Jl(ha:PD X E a ga)(c:PD X E b gb):PCD X E (.Compare a [.Gt] [b] pos) (gT (g2 dGt ga gb)):=jI (kD λ_ _ _ _=>is_bool) ha c λh1 h2=>iF Lr h1 h2 (jf _)
open PySem.SeqAt in
def dEq(x y:PyData):Option PyData:=if aF x&&aF y&&shaped x&&shaped y then some (.bool (PyData.eqv x y)) else none
open PySem.SeqAt in
def dNe(x y:PyData):Option PyData:=if aF x&&aF y&&shaped x&&shaped y then some (.bool (!PyData.eqv x y)) else none
open PySem.SeqAt in
theorem Ea:OpD K dEq (λx y H Q=>∃d e,IsD K H d x/\IsD K H e y/\shaped d=true/\shaped e=true/\Q (.bl (PyData.eqv d e)) H):=λd1 d2 d x y H A Q e hA h1 h2 k=>by
 unfold dEq at e;split at e
 ·rename_i z;simp only[M9]at z;cases e;exact⟨d1,d2,(h1.same az).isd z.1.1.1,(h2.same az).isd z.1.1.2,z.1.2,z.2,k _ H (ax.refl H) is_bool⟩
 ·cases e
open PySem.SeqAt in
theorem IH:OpD K dNe (λx y H Q=>∃d e,IsD K H d x/\IsD K H e y/\shaped d=true/\shaped e=true/\Q (.bl (!PyData.eqv d e)) H):=λd1 d2 d x y H A Q e hA h1 h2 k=>by
 unfold dNe at e;split at e
 ·rename_i z;simp only[M9]at z;cases e;exact⟨d1,d2,(h1.same az).isd z.1.1.1,(h2.same az).isd z.1.1.2,z.1.2,z.2,k _ H (ax.refl H) is_bool⟩
 ·cases e
theorem Ld(c:X.A.units+64<cLine)(ha:PD X E a ga)(e:PD X E b gb):PD X E (.Compare a [.Eq] [b] pos) (g2 dEq ga gb):=ic Ea ha e λh1 h2=>pD (xX c) h1 h2 (jf _)
theorem J1(c:X.A.units+64<cLine)(ha:PD X E a ga)(e:PD X E b gb):PCD X E (.Compare a [.Eq] [b] pos) (gT (g2 dEq ga gb)):=jI Ea ha e λh1 h2=>iF (xX c) h1 h2 (jf _)
theorem Kb(c:X.A.units+64<cLine)(ha:PD X E a ga)(e:PD X E b gb):PCD X E (.Compare a [.NotEq] [b] pos) (gT (g2 dNe ga gb)):=jI IH ha e λh1 h2=>iF (Ji c) h1 h2 (jf _)
noncomputable def fA:PyData->Bool
 |.none=>true
 |_=>false
def ju(x:PyData):Option PyData:=some (.bool (fA x))
def eE(x:PyData):Option PyData:=some (.bool (!fA x))
theorem g1.read{tt:(VK)->VK}{f:PyData->Option PyData}{Q:VK}(R:dR K H A δ σ)(o:iu K E A H (g1 f ga δ) Q)
  (b:∀d1 d x H',f d1=some d->Ls H' A->ax H H'->Is K (del H' A) d1 x->(∀v H2,ax H' H2->Is K (del H2 A) d v->Q v H2)->tt Q x H'):eD K E ga σ H (tt Q):=by
 unfold g1 at o;refine eD.run R (λd1 e1 v H1 a c h1=>?_) (λC e1 H' s'=>?_) (λe1=>?_)
 ·simp only[e1,Rs.ag]at o;cases e3:f d1 with
  |none=>rw[e3]at o;exact o.elim
  |some d=>rw[e3]at o;exact b d1 d v H1 e3 c.ls a h1 λw H' s q=>o w H' (a.trans s) q
 ·rw[e1]at o;exact o H' s'
 ·rw[e1]at o;exact o
theorem ya{d:PyData}(h:Is K H d v):decide (v=.non)=fA d:=by
 by_cases z:v=.non
 ·rw[decide_eq_true z,h.isNone.mp z];rfl
 ·rw[decide_eq_false z];have:d≠.none:=λq=>z (h.isNone.mpr q)
  cases d <;> first|(exact absurd rfl this)|rfl
theorem Kr{j pos'}(ha:PD X E a ga):PD X E (.Compare a [.Is] [.Constant .none j pos'] pos) (g1 ju ga) :=
 (IE (Dl ha)).imp λσ H Q ⟨A,δ,R,o⟩=>g1.read (tt:=λQ x H1=>Q (.bl (decide (x=.non))) H1) R o λd1 d x H' e _ _ h k=>by cases e;rw[ya h];exact k _ H' (ax.refl _) is_bool
theorem yD{t:TE}(h:PT X e (tB t))(k:∀σ H Q,eD X.K E ga σ H Q->t σ H Q):PCD X E e (gT ga):=h.imp λσ H Q ⟨A,δ,R,o⟩=>k σ H _ ⟨A,δ,R,by
 unfold gT at o;cases q:ga δ with
 |no=>rw[q]at o;exact o
 |rz C=>rw[q]at o;exact o
 |ok d =>
  rw[q]at o;cases d with
  |bool c=>exact λv H' s h=>⟨c,h.ofBool,o H' s⟩
  |_=>exact o.elim⟩
theorem FE(h:PD X E e ga)(a:∀whole,isTrue e X.env whole=(do let v <-whole;standAt e.pos;holding [v] (truthy v))):PCD X E e (gT ga):=yD (IZ h a) λ_ _ _ h=>h
theorem Fn{j pos'}(ha:PD X E a ga):PCD X E (.Compare a [.Is] [.Constant .none j pos'] pos) (gT (g1 ju ga)) :=
 yD (yk (Dl ha)) λσ H Q ⟨A,δ,R,o⟩=>g1.read (tt:=λQ x H1=>Q (.bl (decide (x=.non))) H1) R o λd1 d x H' e _ _ h k=>by cases e;rw[ya h];exact k _ H' (ax.refl _) is_bool
theorem DG{j pos'}(ha:PD X E a ga):PCD X E (.Compare a [.IsNot] [.Constant .none j pos'] pos) (gT (g1 eE ga)) :=
 yD (yk (Fv ha)) λσ H Q ⟨A,δ,R,o⟩=>g1.read (tt:=λQ x H1=>Q (.bl (!decide (x=.non))) H1) R o λd1 d x H' e _ _ h k=>by cases e;rw[ya h];exact k _ H' (ax.refl _) is_bool
theorem D9{ca:Ds->Rs Bool}{f:Bool->Rs Bool}{Q:Bool->Hp->Prop}{t:Bool->Hp->Prop}(R:dR K H A δ σ)(o:vI E H ((ca δ).bind f) Q)
  (k:∀b H1,ax H H1->dR K H1 A δ σ->vI E H1 (f b) Q->t b H1):cD K E ca σ H t:=by
 refine cD.run R (λb e H1 a c=>?_) (λC e H' s'=>?_) (λe=>?_)
 ·rw[e]at o;exact k b H1 a c (vI.mono (show vI E H (f b) Q from o) a)
 ·rw[e]at o;exact o H' s'
 ·rw[e]at o;exact o
variable {ca cb:Ds->Rs Bool}{rest:List Expr}
theorem E7(ha:PCD X E a ca):PCD X E (.UnaryOp .Not a pos) (gA ca):=(Iz ha).imp λσ H Q c=>(by obtain⟨A,δ,R,o⟩:=c;exact D9 R o λb H1 s1 R1 o=>o H1 (ax.refl _))
theorem CT(ha:PCD X E a ca):PWD X E (.BoolOp .And [a] pos) ca:=Gu ha
theorem Gj(ha:PCD X E a ca):PWD X E (.BoolOp .Or [a] pos) ca:=Kp ha
theorem zO(ha:PCD X E a ca)(c:PWD X E (.BoolOp .And (b::rest) pos) cb):PWD X E (.BoolOp .And (a::b::rest) pos) (iN ca cb):=PW.imp (Il ha c) λσ H Q ⟨A,δ,R,o⟩=>D9 R o λb H1 s1 e o=>by
 cases b with
 |true=>exact⟨A,δ,e,o⟩
 |false=>exact o H1 (ax.refl _)
theorem DI(ha:PCD X E a ca)(c:PWD X E (.BoolOp .Or (b::rest) pos) cb):PWD X E (.BoolOp .Or (a::b::rest) pos) (cOr ca cb):=PW.imp (KN ha c) λσ H Q ⟨A,δ,R,o⟩=>D9 R o λb H1 s1 e o=>by
 cases b with
 |false=>exact⟨A,δ,e,o⟩
 |true=>exact o H1 (ax.refl _)
theorem HP(h:PWD X E e ca):PCD X E e ca:=PW.pt h
theorem HU{f:PyData->Rs PyData}{Q:VK}{t:VK}(R:dR K H A δ σ)(o:iu K E A H ((ga δ).bind f) Q)
  (k:∀d v H1,ax H H1->dR K H1 A δ σ->Is K (del H1 A) d v->iu K E A H1 (f d) Q->t v H1):eD K E ga σ H t:=by
 refine eD.run R (λd e v H1 a b h1=>?_) (λC e H' s'=>?_) (λe=>?_)
 ·rw[e]at o;exact k d v H1 a b h1 (iu.mono (show iu K E A H (f d) Q from o) a)
 ·rw[e]at o;exact o H' s'
 ·rw[e]at o;exact o
theorem qR{d:PyData}{f:Bool->Rs PyData}{Q:VK}(o:iu K E A H ((truth d).bind f) Q):∃t,d=.bool t/\iu K E A H (f t) Q:=by
 cases d with
 |bool t=>exact⟨t,rfl,o⟩
 |_=>exact o.elim
theorem Ib{op}(ha:PD X E a ga):PD X E (.BoolOp op [a] pos) ga:=J8 ha
theorem JO(ha:PD X E a ga)(c:PD X E (.BoolOp .And (b::rest) pos) gb):PD X E (.BoolOp .And (a::b::rest) pos) (A3 ga gb):=(Jz ha c).imp λσ H Q ⟨A,δ,R,o⟩=>HU R o λd v H1 s1 e h1 o=>by
 obtain⟨t,rfl,o⟩:=qR o;refine⟨t,h1.ofBool,?_⟩;cases t with
 |true=>exact⟨A,δ,e,o⟩
 |false=>exact o _ H1 (ax.refl _) is_bool
theorem LZ(ha:PD X E a ga)(c:PD X E (.BoolOp .Or (b::rest) pos) gb):PD X E (.BoolOp .Or (a::b::rest) pos) (gOr ga gb):=(Lo ha c).imp λσ H Q ⟨A,δ,R,o⟩=>HU R o λd v H1 s1 e h1 o=>by
 obtain⟨t,rfl,o⟩:=qR o;refine⟨t,h1.ofBool,?_⟩;cases t with
 |false=>exact⟨A,δ,e,o⟩
 |true=>exact o _ H1 (ax.refl _) is_bool
theorem LU(hc:PCD X E c ca)(ha:PD X E a ga)(h:PD X E b gb):PD X E (.IfExp c a b pos) (gIf ca ga gb):=(CJ hc ha h).imp λσ H Q f=>by
 obtain⟨A,δ,R,o⟩:=f;unfold gIf at o;refine cD.run R (λt e H1 i g=>?_) (λC e H' s'=>?_) (λe=>?_)
 ·rw[e]at o;have o:=iu.mono (show iu X.K E A H (if t=true then ga δ else gb δ) Q from o) i;cases t with
  |true=>exact⟨A,δ,g,o⟩
  |false=>exact⟨A,δ,g,o⟩
 ·rw[e]at o;exact o H' s'
 ·rw[e]at o;exact o
def jV:PyData->Option PyData
 |.int i=>some (.int (-i))
 |_=>none
theorem JX(ha:PD X E a ga):PD X E (.UnaryOp .USub a pos) (g1 jV ga):=(LX Kw ha).imp λσ H Q ⟨A,δ,R,o⟩=>g1.read (tt:=λQ x H1=>∃i,x=.int i/\Q (.int (-i)) H1) R o λd1 d x H' e _ _ h k=>by
 cases d1 with
 |int i=>cases e;exact⟨i,h.ofInt,k _ H' (ax.refl _) bN⟩
 |_=>cases e
theorem GX:PAD X E [] ah:=⟨gJ.imp λσ H Q a=>(by obtain⟨A,δ,R,o⟩:=a;exact o [] H (ax.refl _) c8),λδ ds e=>by cases e;rfl⟩
theorem Em(ha:PD X E a ga)(b:PAD X E es gs)(f:starEach (a::es) X.env=(false,eval a X.env)::starEach es X.env):PAD X E (a::es) (af ga gs):=by
 refine⟨(eV ha b.1 f).imp λσ H Q ⟨A,δ,R,o⟩=>?_,λδ ds e=>?_⟩
 ·unfold af at o;refine eD.run R (λd e v H1 c g h1=>?_) (λC e H' s'=>?_) (λe=>?_)
  ·simp only[e,Rs.ag]at o;refine aD.run g (λds e2 vs H2 s2 R2 h2=>?_) (λC e2 H' s'=>?_) (λe2=>?_)
   ·simp only[e2,Rs.ag]at o;exact o _ H2 (c.trans s2) (cM (h1.same s2.del) h2)
   ·simp only[e2,Rs.fi]at o;exact o H' (c.trans s')
   ·simp only[e2,Rs.bD]at o;exact o
  ·simp only[e,Rs.fi]at o;exact o H' s'
  ·simp only[e,Rs.bD]at o;exact o
 ·unfold af at e;cases q:ga δ with
  |ok d =>
   cases q2:gs δ with
   |ok l =>simp only[q,q2,Rs.ag]at e;cases e;simp[b.2 δ l q2]
   |rz C=>simp only[q,q2,Rs.ag,Rs.fi]at e;cases e
   |no=>simp only[q,q2,Rs.ag,Rs.bD]at e;cases e
  |rz C=>simp only[q,Rs.fi]at e;cases e
  |no=>simp only[q,Rs.bD]at e;cases e
theorem tN{f:List PyData->Rs PyData}{Q:VK}{t:List V->Hp->Prop}(R:dR K H A δ σ)(o:iu K E A H ((gs δ).bind f) Q)
  (k:∀ds vs H1,gs δ=.ok ds->ax H H1->dR K H1 A δ σ->Iss K (del H1 A) ds vs->iu K E A H1 (f ds) Q->t vs H1):aD K E gs σ H t:=by
 refine aD.run R (λd e v H1 a b h1=>?_) (λC e H' s'=>?_) (λe=>?_)
 ·rw[e]at o;exact k d v H1 e a b h1 (iu.mono (show iu K E A H (f d) Q from o) a)
 ·rw[e]at o;exact o H' s'
 ·rw[e]at o;exact o
theorem Kq{x1}(h:PAD X E es gs)(hl:es.length<=1000):PD X E (.Tuple es x1 pos) (dS gs):=(IK h.1).imp λσ H Q ⟨A,δ,R,o⟩=>tN R o λds vs H1 e s1 b h1 o=>by have n:=h.2 δ ds e;have m:=h1.length;exact⟨by rw[sizeLine_eq];omega,λp a=>o _ _ (bH a) (mO b.ls a h1)⟩
theorem Jt(h:PAD X E es gs)(hl:es.length<=1000):PD X E (.List es pos) (mL gs):=(xK h.1).imp λσ H Q ⟨A,δ,R,o⟩=>tN R o λds vs H1 e s1 b h1 o=>by have n:=h.2 δ ds e;have m:=h1.length;exact⟨by rw[sizeLine_eq];omega,λp a=>o _ _ (bH a) (kY b.ls a h1)⟩
def spD(K:W.Frag)(n:Nat)(gf:List PyData->Rs PyData):Sp:=λvs H Q E=>∃A ds,Ls H A/\Iss K (del H A) ds vs/\ds.length=n/\iu K E A H (gf ds) Q
structure iO(P:Program)(w:World)(K:W.Frag)(mg:Str->Option Value)(base:Heap)(k:Nat)(x:Str)(n:Nat)(gf:List PyData->Rs PyData):Prop where
 ex:∃f fd ps,gU P w K mg base (CXW P w) k f fd ps (spD K n gf)/\mg x=some (.ref f)/\W.keepIn K (.ref f)=true/\Binds K fd ps []
theorem xm:Passes (CXW X.prog X.w) X E0:=λ_ _ _ _ _ _ _ a=>(by obtain⟨_,_,_,_,_,_,h,_⟩:=a;exact h.elim)
theorem G0{k:Nat}(D:iO X.prog X.w X.K X.mg X.base k x (e::es).length gf)(h:cm j X.A)(i:Passes (CXW X.prog X.w) X E)(ha:PAD X E (e::es) gs)(l:k<=j)(m:Gl X x)
  (a:(x==("__debug__":Str))=false) (n:starEach (e::es) X.env=(false,eval e X.env)::starEach es X.env) (b:(backTo pos #[23]).any (·.1)=false) :
  PD X E (.Call (.Name x p) (e::es) [] pos) (au gf gs):=by
 obtain⟨f,fd,ps,F,hm,c,q⟩:=D.ex;refine (zV F (h.mono l) m hm c q .nil i ha.1 a n b).imp λσ H Q g=>?_
 obtain⟨A,δ,R,o⟩:=g;refine tN R o λds vs H1 e s1 r h1 o=>?_
 refine⟨A,ds,r.ls,by simpa using h1,ha.2 δ ds e,o⟩
def FnD(K:W.Frag)(f:List PyData->Option PyData)(r:List V->Hp->VK->Prop):Prop :=
 ∀(ds:List PyData)(d:PyData)(vs:List V)(H:Hp)(A:List Addr)(Q:VK),f ds=some d->Ls H A->Iss K (del H A) ds vs->(∀v H',ax H H'->Is K (del H' A) d v->Q v H')->r vs H Q
theorem gx{r:List V->Hp->VK->Prop}{f:List PyData->Option PyData}(a:FnD X.K f r)(ha:PAD X E es gs)(mk:∀{t:TA},PA X es t->PE X e (tCB r t)):PD X E e (gF f gs) :=
 (mk ha.1).imp λσ H Q ⟨A,δ,R,o⟩=>tN R o λds vs H1 e s1 b h1 o=>by
  cases q:f ds with
  |none=>rw[q]at o;exact o.elim
  |some d=>rw[q]at o;exact a ds d vs H1 A Q q b.ls h1 o
end
section
variable {a b c:Expr}{ga gb gc:Ds->Rs PyData}
def HF(K:W.Frag):R2:=λx y H Q=>∃a b xs ys,x=.ref a/\y=.ref b/\SqT K H a xs/\SqT K H b ys/\xs.length+ys.length<=sizeLine /\
 (xs=[]->Q (.ref b) H)/\(xs≠[]->ys=[]->Q (.ref a) H)/\(xs≠[]->ys≠[]->∀p,H p=none->Q (.ref p) (upd H p (.tup (xs++ys))))
theorem Fh:OpR X (binaryOp .Add) (HF X.K):=by
 intro pins s σ H x y v u Q I i j h;obtain⟨a,b,xs,ys,rfl,rfl,ha,l,o,p,q,r⟩:=h;by_cases hx:xs=[]
 ·cases i;cases j;obtain⟨vs,t,p1,_⟩:=I.tuple ha;obtain⟨ws,r2,p2,_⟩:=I.tuple l;obtain⟨⟨cls,dd,data,w⟩,m,hc,n,hd⟩:=id p1;obtain⟨⟨cls2,f,data2,g⟩,c,e,n2,hd2⟩:=id p2;simp only at hc hd e hd2;subst hc hd e hd2;have hv:vs=[]:=t.nil_iff.mpr hx;exact concat_meets ⟨_,m,rfl⟩ ⟨_,c,rfl⟩ noFill_tuple_add seq_tuple_add F.slot_tuple_add F.entry_tuple_add (F.args_tuple_add_2 _ _)
   (tuple_addW0 a b vs.toArray ws.toArray n n2 dd f w g (by simp[hv])) ⟨m,c,⟨.ref b,H,I,rfl,p hx⟩⟩
 ·exact F5 pins s σ H _ _ v u Q I i j ⟨a,b,xs,ys,rfl,rfl,ha,l,hx,o,q hx,r hx⟩
def aW:PyData->PyData->Option PyData
 |.int i,.int j=>some (.int (i+j))
 |.list x,.list y=>if x.length+y.length<=1000000 then some (.list (x++y)) else none
 |.tuple x,.tuple y=>if x.length+y.length<=1000000 then some (.tuple (x++y)) else none
 |_,_=>none
theorem Fs:OpD K aW (λx y H Q=>rI0 (λi j=>.int (i+j)) x y H Q\/LY x y H Q\/HF K x y H Q):=λd1 d2 d x y H A Q e h h1 h2 k=>by
 unfold aW at e;split at e
 ·cases e;exact .inl ⟨_,_,h1.ofInt,h2.ofInt,k _ H (ax.refl _) bN⟩
 ·rename_i l1 l2;split at e
  ·rename_i l;cases e;obtain⟨p,xs,rfl,f,a⟩:=h1.ofLst;obtain⟨q,ys,rfl,g,b⟩:=h2.ofLst;refine .inr (.inl ⟨p,q,xs,ys,rfl,rfl,az _ _ f,az _ _ g,by rw[a.length,b.length,sizeLine_eq];omega,λr c=>k _ _ (bH c) (kY h c (a.append b))⟩)
  ·cases e
 ·rename_i l1 l2;split at e
  ·rename_i l;cases e;obtain⟨p,xs,rfl,f,a⟩:=h1.ofTup;obtain⟨q,ys,rfl,g,b⟩:=h2.ofTup;refine .inr (.inr ⟨p,q,xs,ys,rfl,rfl,SqT.of (az _ _ f),SqT.of (az _ _ g),by rw[a.length,b.length,sizeLine_eq];omega,λz=>?_,λ_ z=>?_,λ_ _ r c=>k _ _ (bH c) (mO h c (a.append b))⟩)
   ·subst z;have:l1=[]:=O9.mp (by rw[<-a.length];rfl);subst this;exact k _ H (ax.refl _) (iS g b)
   ·subst z;have:l2=[]:=O9.mp (by rw[<-b.length];rfl);subst this;rw[Nr]at k;exact k _ H (ax.refl _) (iS f a)
  ·cases e
 ·cases e
theorem Jc(ha:PD X E a ga)(c:PD X E b gb):PD X E (.BinOp a .Add b pos) (g2 aW ga gb):=ic Fs ha c (fu (nv.or (Ia.or Fh)))
def dIx:PyData->PyData->Option PyData
 |.list x,.int i=>atI x i
 |.tuple x,.int i=>atI x i
 |_,_=>none
theorem Af{i:Int}{d:PyData}(h:Iss K H ds vs)(e:atI ds i=some d):∃v,atI vs i=some v/\Is K H d v:=by
 unfold atI at e ⊢;rw[h.length];cases q:ixN ds.length i with
 |none=>rw[q]at e;cases e
 |some j=>rw[q]at e;exact h.getD e
theorem Kv:OpD K dIx (λx y H Q=>Lz K x y H Q\/LD K x y H Q):=λd1 d2 d x y H A Q e hA h1 h2 k=>by
 unfold dIx at e;split at e
 ·obtain⟨p,xs,rfl,a,b⟩:=h1.ofLst;obtain⟨v,c,hv⟩:=Af b e;exact .inl ⟨p,xs,_,v,rfl,h2.ofInt,SqL.of (az _ _ a),c,k _ H (ax.refl _) hv⟩
 ·obtain⟨p,xs,rfl,a,b⟩:=h1.ofTup;obtain⟨v,c,hv⟩:=Af b e;exact .inr ⟨p,xs,_,v,rfl,h2.ofInt,SqT.of (az _ _ a),c,k _ H (ax.refl _) hv⟩
 ·cases e
theorem LH(ha:PD X E a ga)(c:PD X E b gb)(e:zZ b):PD X E (.Subscript a b pos) (g2 dIx ga gb):=ic Kv ha c λh1 h2=>B4 (u9.or Jg) h1 h2 e
def bS:List PyData->Option PyData
 |[.list x]=>some (.int x.length)
 |[.tuple x]=>some (.int x.length)
 |_=>none
theorem kZ{d:PyData}(h:Iss K H [d] vs):∃v,vs=[v]/\Is K H d v:=by obtain⟨v,r,rfl,h1,h2⟩:=h.cons_of;rw[h2.nil_of];exact⟨v,rfl,h1⟩
theorem D8{d e:PyData}(h:Iss K H [d,e] vs):∃v u,vs=[v,u]/\Is K H d v/\Is K H e u:=by obtain⟨v,r,rfl,h1,h2⟩:=h.cons_of;obtain⟨u,rfl,h3⟩:=kZ h2;exact⟨v,u,rfl,h1,h3⟩
theorem FL:FnD K bS (λxs H Q=>∃p ys,xs=[.ref p]/\(SqL K H p ys\/SqT K H p ys)/\Q (.int ys.length) H):=λds d vs H A Q e hA h k=>by
 unfold bS at e;split at e
 ·cases e;obtain⟨v,rfl,a⟩:=kZ h;obtain⟨p,xs,rfl,b,c⟩:=a.ofLst;exact⟨p,xs,rfl,.inl (SqL.of (az _ _ b)),k _ H (ax.refl _) (by rw[c.length];exact bN)⟩
 ·cases e;obtain⟨v,rfl,a⟩:=kZ h;obtain⟨p,xs,rfl,b,c⟩:=a.ofTup;exact⟨p,xs,rfl,.inr (SqT.of (az _ _ b)),k _ H (ax.refl _) (by rw[c.length];exact bN)⟩
 ·cases e
theorem Kg(hm:X.mg "len"=none)(ha:PAD X E (a::es) gs)(c:Gl X "len")(e:starEach (a::es) X.env=(false,eval a X.env)::starEach es X.env)(b:(backTo pos #[23]).any (·.1)=false) :
 PD X E (.Call (.Name "len" p) (a::es) [] pos) (gF bS gs):=gx FL ha λh=>gz jl c hm PySem.boot_len h #[2] #[2] e b
theorem DS:bootBuiltins "int"=some (.type "int"):=by decide +kernel
theorem xB:bootBuiltins "tuple"=some (.type "tuple"):=by decide +kernel
theorem vC:bootBuiltins "list"=some (.type "list"):=by decide +kernel
theorem AR:bootBuiltins "isinstance"=some (.builtin "isinstance"):=by decide +kernel
theorem Jq:bootBuiltins "all"=some (.builtin "all"):=by decide +kernel
theorem Ko:bootBuiltins "sum"=some (.builtin "sum"):=by decide +kernel
theorem Kf:bootBuiltins "min"=some (.builtin "min"):=by decide +kernel
theorem J0:bootBuiltins "max"=some (.builtin "max"):=by decide +kernel
noncomputable def gP:List PyData->Option (List Int)
 |[]=>some []
 |.int i::r=>(gP r).map (i::·)
 |_::_=>none
theorem fk:∀{ds:List PyData}{ns:List Int},gP ds=some ns->ds=ns.map PyData.int
 |[],_,h=>by cases h;rfl
 |.int i::r,ns,h=>by
  unfold gP at h;cases q:gP r with
  |none=>rw[q]at h;cases h
  |some l=>rw[q]at h;cases h;rw[fk q];rfl
 |.none::_,_,h=>by cases h
 |.bool _::_,_,h=>by cases h
 |.str _::_,_,h=>by cases h
 |.list _::_,_,h=>by cases h
 |.tuple _::_,_,h=>by cases h
 |.dict _::_,_,h=>by cases h
theorem ft:∀(ns:List Int),gP #[20]=some ns
 |[]=>rfl
 |n::r=>by rw[M5];unfold gP;rw[ft r];rfl
def iL:List PyData->Option (List Bool)
 |[]=>some []
 |.bool i::r=>(iL r).map (i::·)
 |_::_=>none
theorem oW:∀{ds:List PyData}{ns:List Bool},iL ds=some ns->ds=ns.map PyData.bool
 |[],_,h=>by cases h;rfl
 |.bool i::r,ns,h=>by
  unfold iL at h;cases q:iL r with
  |none=>rw[q]at h;cases h
  |some l=>rw[q]at h;cases h;rw[oW q];rfl
 |.none::_,_,h=>by cases h
 |.int _::_,_,h=>by cases h
 |.str _::_,_,h=>by cases h
 |.list _::_,_,h=>by cases h
 |.tuple _::_,_,h=>by cases h
 |.dict _::_,_,h=>by cases h
theorem qC:∀(ns:List Bool),iL (ns.map PyData.bool)=some ns
 |[]=>rfl
 |n::r=>by rw[M5];unfold iL;rw[qC r];rfl
def pw:List PyData->Option PyData
 |[.list x]=>(iL x).map λns=>.bool (ns.all id)
 |_=>none
theorem Hz:FnD K pw (λxs H Q=>∃(a:Addr)(ns:List Bool),xs=[.ref a]/\SqL K H a (ns.map V.bl)/\Q (.bl (ns.all id)) H):=λds d vs H A Q e hA h k=>by
 unfold pw at e;split at e
 ·rename_i x;cases q:iL x with
  |none=>rw[q]at e;cases e
  |some ns =>rw[q]at e;cases e;obtain⟨v,rfl,f⟩:=kZ h;obtain⟨p,xs,rfl,b,c⟩:=f.ofLst;rw[oW q]at c;rw[c.ofBools]at b;exact⟨p,ns,rfl,SqL.of (az _ _ b),k _ H (ax.refl _) is_bool⟩
 ·cases e
theorem JR(hc:X.calm=true)(hm:X.mg "all"=none)(ha:PAD X E (a::es) gs)(c:Gl X "all")(e:starEach (a::es) X.env=(false,eval a X.env)::starEach es X.env)(b:(backTo pos #[23]).any (·.1)=false) :
 PD X E (.Call (.Name "all" p) (a::es) [] pos) (gF pw gs):=gx Hz ha λh=>gz (CL hc) c hm Jq h #[2] #[2] e b
def iW:List PyData->Option PyData
 |[.int i,.int j]=>some (.int (if j<i then j else i))
 |_=>none
def gr:List PyData->Option PyData
 |[.int i,.int j]=>some (.int (if j>i then j else i))
 |_=>none
theorem Cp:FnD K iW (λxs H Q=>∃i j,xs=[.int i,.int j]/\Q (.int (if j<i then j else i)) H):=λds d vs H A Q e hA h k=>by
 unfold iW at e;split at e
 ·cases e;obtain⟨v,u,rfl,h1,h2⟩:=D8 h;rw[h1.ofInt,h2.ofInt];exact⟨_,_,rfl,k _ H (ax.refl _) bN⟩
 ·cases e
theorem B2:FnD K gr (λxs H Q=>∃i j,xs=[.int i,.int j]/\Q (.int (if j>i then j else i)) H):=λds d vs H A Q e hA h k=>by
 unfold gr at e;split at e
 ·cases e;obtain⟨v,u,rfl,h1,h2⟩:=D8 h;rw[h1.ofInt,h2.ofInt];exact⟨_,_,rfl,k _ H (ax.refl _) bN⟩
 ·cases e
theorem Fg(hc:X.calm=true)(hm:X.mg "min"=none)(ha:PAD X E (a::es) gs)(c:Gl X "min")(e:starEach (a::es) X.env=(false,eval a X.env)::starEach es X.env)(b:(backTo pos #[23]).any (·.1)=false) :
 PD X E (.Call (.Name "min" p) (a::es) [] pos) (gF iW gs):=gx Cp ha λh=>gz (AK hc) c hm Kf h #[2] #[2] e b
theorem Gh(hc:X.calm=true)(hm:X.mg "max"=none)(ha:PAD X E (a::es) gs)(c:Gl X "max")(e:starEach (a::es) X.env=(false,eval a X.env)::starEach es X.env)(b:(backTo pos #[23]).any (·.1)=false) :
 PD X E (.Call (.Name "max" p) (a::es) [] pos) (gF gr gs):=gx B2 ha λh=>gz (Bw hc) c hm J0 h #[2] #[2] e b
def BA:List PyData->Option PyData
 |[.int i]=>some (.int i)
 |[.bool k]=>some (.int (if k then 1 else 0))
 |_=>none
theorem F2:FnD K BA (λxs H Q=>(∃i,xs=[.int i]/\Q (.int i) H)\/∃k,xs=[.bl k]/\Q (.int (if k then 1 else 0)) H):=λds d vs H A Q e hA h k=>by
 unfold BA at e;split at e
 ·cases e;obtain⟨v,rfl,h1⟩:=kZ h;rw[h1.ofInt];exact .inl ⟨_,rfl,k _ H (ax.refl _) bN⟩
 ·cases e;obtain⟨v,rfl,h1⟩:=kZ h;rw[h1.ofBool];exact .inr ⟨_,rfl,k _ H (ax.refl _) bN⟩
 ·cases e
theorem Cz(hm:X.mg "int"=none)(ha:PAD X E (a::es) gs)(c:Gl X "int")(e:starEach (a::es) X.env=(false,eval a X.env)::starEach es X.env)(b:(backTo pos #[23]).any (·.1)=false) :
 PD X E (.Call (.Name "int" p) (a::es) [] pos) (gF BA gs):=gx F2 ha λh=>m9 Be c hm DS h #[2] #[2] e b
def ko:List PyData->Option PyData
 |[.list x]=>some (.tuple x)
 |[.tuple x]=>some (.tuple x)
 |_=>none
def xo:List PyData->Option PyData
 |[.list x]=>some (.list x)
 |[.tuple x]=>some (.list x)
 |_=>none
theorem BY:FnD K ko (λxs H Q=>∃p ys,xs=[.ref p]/\((SqL K H p ys/\∀l,H l=none->Q (.ref l) (upd H l (.tup ys)))\/(SqT K H p ys/\Q (.ref p) H))):=λds d vs H A Q e f h k=>by
 unfold ko at e;split at e
 ·cases e;obtain⟨v,rfl,b⟩:=kZ h;obtain⟨p,xs,rfl,a,c⟩:=b.ofLst;exact⟨p,xs,rfl,.inl ⟨SqL.of (az _ _ a),λl hl=>k _ _ (bH hl) (mO f hl c)⟩⟩
 ·cases e;obtain⟨v,rfl,b⟩:=kZ h;obtain⟨p,xs,rfl,a,c⟩:=b.ofTup;exact⟨p,xs,rfl,.inr ⟨SqT.of (az _ _ a),k _ H (ax.refl _) (iS a c)⟩⟩
 ·cases e
theorem C6:FnD K xo (λxs H Q=>∃p ys,xs=[.ref p]/\(SqL K H p ys\/SqT K H p ys)/\∀l,H l=none->Q (.ref l) (upd H l (.lst ys))):=λds d vs H A Q e f h k=>by
 unfold xo at e;split at e
 ·cases e;obtain⟨v,rfl,a⟩:=kZ h;obtain⟨p,xs,rfl,b,c⟩:=a.ofLst;exact⟨p,xs,rfl,.inl (SqL.of (az _ _ b)),λl hl=>k _ _ (bH hl) (kY f hl c)⟩
 ·cases e;obtain⟨v,rfl,a⟩:=kZ h;obtain⟨p,xs,rfl,b,c⟩:=a.ofTup;exact⟨p,xs,rfl,.inr (SqT.of (az _ _ b)),λl hl=>k _ _ (bH hl) (kY f hl c)⟩
 ·cases e
theorem ye(hm:X.mg "tuple"=none)(ha:PAD X E (a::es) gs)(c:Gl X "tuple")(e:starEach (a::es) X.env=(false,eval a X.env)::starEach es X.env)(b:(backTo pos #[23]).any (·.1)=false) :
 PD X E (.Call (.Name "tuple" p) (a::es) [] pos) (gF ko gs):=gx BY ha λh=>m9 rO c hm xB h #[2] #[2] e b
theorem Bn(hm:X.mg "list"=none)(ha:PAD X E (a::es) gs)(c:Gl X "list")(e:starEach (a::es) X.env=(false,eval a X.env)::starEach es X.env)(b:(backTo pos #[23]).any (·.1)=false) :
 PD X E (.Call (.Name "list" p) (a::es) [] pos) (gF xo gs):=gx C6 ha λh=>m9 uD c hm vC h #[2] #[2] e b
def lu(T:String)(d:PyData):Option PyData:=if aF d then some (.bool (uu d T)) else none
theorem Bc{T:Str}{b:String}{c:Pos}(hm:X.mg "isinstance"=none)(f:X.mg T=none)(q:bootBuiltins T=some (.type b))(r:b∈["bool", "int", "list", "tuple"])(ha:PD X E a ga)
  (s:Gl X "isinstance") (g:Gl X T) (hn:T≠"__name__") (i:(T==("__debug__":Str))=false) (n:starEach [a,.Name T c] X.env=(false,eval a X.env)::starEach [.Name T c] X.env)
  (j:starEach [.Name T c] X.env=(false,eval (.Name T c) X.env)::starEach [] X.env) (l:(backTo pos (starEach [.Name T c] X.env)).any (·.1)=false) :
  PD X E (.Call (.Name "isinstance" p) [a,.Name T c] [] pos) (g1 (lu b) ga):=by
 refine (gz xy s hm AR (eV ha (eV (GW (v:=.ty b) g f q rfl hn i) gJ j) n) #[2] #[2] n l).imp λσ H Q m=>?_
 obtain⟨A,δ,R,o⟩:=m;refine g1.read (tt:=λQ x H1=>∃d v T,[x,V.ty b]=[v,.ty T]/\IsD X.K H1 d v/\T∈["bool", "int", "list", "tuple"]/\Q (.bl (uu d T)) H1) R o λd1 d x H' e _ _ h k=>?_
 unfold lu at e;split at e
 ·rename_i z;cases e;exact⟨d1,x,b,rfl,(h.same az).isd z,r,k _ H' (ax.refl _) is_bool⟩
 ·cases e
end
def zu(K:W.Frag)(J:It)(ds:List PyData)(G:Hp):Prop:=∀(H1:Hp)(B:List Addr),ax G H1->Ls H1 B->(∀b∈B,G b=none) ->
 (∀i,i<ds.length->J.go i H1)/\J.stop ds.length H1/\∀i x H2,i<ds.length->J.yld i H1 x H2->ax H1 H2/\∃d,ds[i]?=some d/\Is K (del H2 B) d x
def outI(K:W.Frag)(E:XK)(A:List Addr)(H:Hp)(r:Rs #[5])(R:It->Hp->Prop):Prop:=match r with
 |.ok ds=>∀J H',ax H H'->zu K J ds (del H' A)->R J H'
 |.rz C=>∀H',ax H H'->E (.ref C) none H'
 |.no=>False
def iD(K:W.Frag)(E:XK)(g:Ds->Rs #[5]):TI:=λσ H R=>∃A δ,dR K H A δ σ/\outI K E A H (g δ) R
def PID(X:Cx)(E:XK)(tg iter:Expr)(g:Ds->Rs #[5]):Prop:=PI X tg iter (iD X.K E g)
theorem PI.imp{it:Expr}{t t':TI}(h:PI X tg it t)(k:∀σ H R,t' σ H R->t σ H R):PI X tg it t':=λpins s σ H R I q=>h pins s σ H R I (k σ H R q)
theorem PI.or{it:Expr}{t t':TI}(h:PI X tg it t)(h':PI X tg it t'):PI X tg it (λσ H R=>t σ H R\/t' σ H R):=λpins s σ H R I q=>q.elim (h pins s σ H R I) (h' pins s σ H R I)
section
variable {a:Expr}{ga:Ds->Rs PyData}
def Ab:PyData->Rs #[5]
 |.list ds=>.ok ds
 |.tuple ds=>.ok ds
 |_=>.no
theorem mD(s:ax G H1)(hB:∀b∈B,G b=none):ax G (del H1 B):=λb o e=>by rw[aP (λz=>by rw[hB b z]at e;cases e)];exact s b o e
theorem AW{p:Addr}(b:G p=some (.lst xs))(h:Iss K G ds xs):zu K (Itl K p) ds G:=λH1 B s _ hB=>by have hl:=h.length;have a:SqL K H1 p xs:=SqL.of (s _ _ b);refine⟨λi hi=>⟨xs,xs[i]'(by omega),a,M1 _⟩,⟨xs,a,by omega⟩,λi x H2 hi y=>?_⟩;obtain⟨rfl,y⟩:=y;obtain⟨d,e,hd⟩:=h.get (y xs a);exact⟨ax.refl _,d,e,hd.same (mD s hB)⟩
theorem E1{p:Addr}(b:G p=some (.tup xs))(h:Iss K G ds xs):zu K (Itt K p) ds G:=λH1 B s _ hB=>by have hl:=h.length;have a:SqT K H1 p xs:=SqT.of (s _ _ b);refine⟨λi hi=>⟨xs,xs[i]'(by omega),a,M1 _⟩,⟨xs,a,by omega⟩,λi x H2 hi y=>?_⟩;obtain⟨rfl,y⟩:=y;obtain⟨d,e,hd⟩:=h.get (y xs a);exact⟨ax.refl _,d,e,hd.same (mD s hB)⟩
def bh(g:Ds->Rs PyData):Ds->Rs #[5]:=λδ=>(g δ).bind Ab
theorem FO(h:PD X E a ga):PID X E tg a (bh ga):=(PI.or (FU h) (IS h)).imp λσ H R c=>by
 obtain⟨A,δ,f,o⟩:=c;unfold bh at o;cases q:ga δ with
 |no=>rw[q]at o;exact o.elim
 |rz C=>rw[q]at o;exact .inl (eD.run f (λd e=>by rw[q]at e;cases e) (λj e H' s=>by rw[q]at e;cases e;exact o H' s) (λe=>by rw[q]at e;cases e))
 |ok d =>
  rw[q]at o;cases d with
  |list ds =>refine .inl (eD.run f (λd e v H1 g l h1=>?_) (λj e=>by rw[q]at e;cases e) (λe=>by rw[q]at e;cases e));rw[q]at e;cases e;obtain⟨p,xs,rfl,b,i⟩:=h1.ofLst;exact⟨p,rfl,⟨xs,SqL.of (az _ _ b)⟩,o _ H1 g (AW b i)⟩
  |tuple ds =>refine .inr (eD.run f (λd e v H1 g l h1=>?_) (λj e=>by rw[q]at e;cases e) (λe=>by rw[q]at e;cases e));rw[q]at e;cases e;obtain⟨p,xs,rfl,b,i⟩:=h1.ofTup;exact⟨p,rfl,⟨xs,SqT.of (az _ _ b)⟩,o _ H1 g (E1 b i)⟩
  |_=>exact o.elim
noncomputable def bG(lo:Int)(n:Nat):List PyData:=(List.range n).map λ(i:Nat)=>PyData.int (lo+(i:Int))
theorem dg(lo:Int)(n:Nat):(bG lo n).length=n:=by simp[bG]
theorem yw{lo:Int}:zu K (Itr lo n) (bG lo n) G:=λH1 B s _ hB=>by refine⟨λi hi=>by rw[dg]at hi;exact hi,by rw[dg];exact My _,λi x H2 hi y=>?_⟩;obtain⟨rfl,rfl⟩:=y;rw[dg]at hi;exact⟨ax.refl _,_,by simp[bG,hi],bN⟩
def CQ:List PyData->Rs #[5]
 |[.int j]=>if -(2 ^ 62)<=j/\j<2 ^ 62 then .ok (bG 0 j.toNat) else .no
 |_=>.no
def K4:List PyData->Rs #[5]
 |[.int i,.int j]=>if -(2 ^ 62)<=i/\i<2 ^ 62/\-(2 ^ 62)<=j/\j<2 ^ 62 then .ok (bG i (j-i).toNat) else .no
 |_=>.no
def fh(g:Ds->Rs #[5]):Ds->Rs #[5]:=λδ=>(g δ).bind CQ
def KL(g:Ds->Rs #[5]):Ds->Rs #[5]:=λδ=>(g δ).bind K4
theorem vq{f:List PyData->Rs #[5]}{R:It->Hp->Prop}{t:List V->Hp->Prop}(b:dR K H A δ σ)(o:outI K E A H ((gs δ).bind f) R)
  (k:∀ds vs H1,gs δ=.ok ds->ax H H1->dR K H1 A δ σ->Iss K (del H1 A) ds vs->outI K E A H1 (f ds) R->t vs H1):aD K E gs σ H t:=by
 refine aD.run b (λd e v H1 a c h1=>?_) (λC e H' s'=>?_) (λe=>?_)
 ·rw[e]at o;refine k d v H1 e a c h1 ?_;have o:outI K E A H (f d) R:=o;cases q:f d with
  |ok ds=>rw[q]at o;exact λJ H' s j=>o J H' (a.trans s) j
  |rz C=>rw[q]at o;exact λH' s=>o H' (a.trans s)
  |no=>rw[q]at o;exact o
 ·rw[e]at o;exact o H' s'
 ·rw[e]at o;exact o
theorem yh(hm:X.mg "range"=none)(ha:PAD X E [a] gs)(b:Gl X "range")(c:starEach [a] X.env=[(false,eval a X.env)]) :
  PID X E tg (.Call (.Name "range" p) [a] [] pos) (fh gs):=(Bq b hm ha.1 c).imp λσ H R ⟨A,δ,Rp,o⟩=>vq Rp o λds vs H1 e s1 R1 h1 o=>by
 unfold CQ at o;split at o
 ·split at o
  ·rename_i z;obtain⟨v,rfl,h⟩:=kZ h1;rw[h.ofInt];exact⟨_,rfl,z.1,z.2,o _ H1 (ax.refl _) yw⟩
  ·exact o.elim
 ·exact o.elim
def TgD(K:W.Frag)(n0 n:Nat)(tgt:PyData->Option Ds)(g:TG):Prop:=∀(d:PyData)(v:V)(σ a:St)(H:Hp)(A:List Addr)(Q:St->Hp->Prop)(own:Ds),σ.length=n0->a.length=n->Ls H A->Is K (del H A) d v->tgt d=some own ->
 own.length=n/\((∀vs:St,vs.length=n->(∀(i:Nat) e,own[i]?=some (some e)->∃u,vs[i]?=some (some u)/\Is K (del H A) e u)->Q (σ++vs) H)->g v (σ++a) H Q)
def aG:PyData->Option Ds:=λd=>some [some d]
theorem Ey:TgD K n0 1 aG (ku n0):=λd v σ a H A Q own h1 h2 hA hd e=>by
 cases e;refine⟨rfl,λk=>?_⟩;unfold ku;subst h1;rw[set_own σ none v a h2];refine k _ rfl λi e z=>?_
 match i,z with
 |0,z=>cases z;exact⟨v,rfl,hd⟩
def kA:PyData->Option Ds
 |.tuple [x,y]=>some [some x,some y]
 |_=>none
theorem xk:TgD K n0 2 kA (L2.II K 2 (L2.Aj (ku n0) (L2.Aj (ku (n0+1)) L2.Ku))):=λd v σ a H A Q own h1 h2 hA hd e=>by
 unfold kA at e;split at e
 ·rename_i x y;cases e;refine⟨rfl,λk=>?_⟩;obtain⟨p,xs,rfl,b,c⟩:=hd.ofTup;obtain⟨u,w,rfl,f,hw⟩:=D8 c;subst h1;refine⟨p,_,rfl,SqT.of (az _ _ b),rfl,u,[w],rfl,w,[],rfl,rfl,?_⟩
  match a,h2 with
  |[s1,s2],_ =>
   have:((σ++[s1,s2]).set σ.length (some u)).set (σ.length+1) (some w)=σ++[some u,some w]:=by rw[OF _ _ (My _),OF _ _ (by omega)];simp
   rw[this];refine k _ rfl λi e z=>?_
   match i,z with
   |0,z=>cases z;exact⟨u,rfl,f⟩
   |1,z=>cases z;exact⟨w,rfl,hw⟩
 ·cases e
def eI(cond:Ds->Rs Bool)(elt:Ds->Rs PyData)(tgt:PyData->Option Ds)(δ:Ds):List PyData->Rs #[5]
 |[]=>.ok []
 |d::r=>match tgt d with
  |none=>.no
  |some own=>(cond (δ++own)).calm.bind λb=>if b=true then (elt (δ++own)).calm.bind λx=>(eI cond elt tgt δ r).bind λxs=>.ok (x::xs) else eI cond elt tgt δ r
def aX(n0:Nat)(src:Ds->Rs #[5])(cond:Ds->Rs Bool)(elt:Ds->Rs PyData)(tgt:PyData->Option Ds):Ds->Rs #[5]:=λδ=>if δ.length=n0 then (src δ).bind λds=>if ds.length<=1000000 then eI cond elt tgt δ ds else .no else .no
def bJ:Ds->Rs Bool:=λ_=>.ok true
def Gp(K:W.Frag)(E:XK)(A:List Addr)(H:Hp)(r:Rs #[5])(Q:VK):Prop:=match r with
 |.ok ds=>∀a xs H',H a=none->ax H H'->H' a=some (.lst xs)->Iss K (del H' (a::A)) ds xs->Q (.ref a) H'
 |.rz C=>∀H',ax H H'->E (.ref C) none H'
 |.no=>False
def lD(K:W.Frag)(E:XK)(g:Ds->Rs #[5]):TE:=λσ H Q=>∃A δ,dR K H A δ σ/\Gp K E A H (g δ) Q
def PLD(X:Cx)(E:XK)(e:Expr)(g:Ds->Rs #[5]):Prop:=PE X e (lD X.K E g)
def gL(g:Ds->Rs #[5]):Ds->Rs PyData:=λδ=>(g δ).bind λds=>.ok (.list ds)
theorem nP{a:Addr}:ax (del H (a::A)) (del H A):=λb o e=>by obtain⟨z,e⟩:=bj e;rw[aP (λq=>z (M3 _ q))];exact e
theorem Js{g:Ds->Rs #[5]}(h:PLD X E e g):PD X E e (gL g):=PE.imp h λσ H Q ⟨A,δ,R,o⟩=>⟨A,δ,R,by
 unfold gL at o;cases q:g δ with
 |no=>rw[q]at o;exact o
 |rz C=>rw[q]at o;exact o
 |ok ds =>rw[q]at o;intro a xs H' hn s hl hi;exact o _ H' s (ky (by rw[aP (R.ls.new hn)];exact hl) (hi.same nP))⟩
theorem Fo(h:PAD X E es gs)(hl:es.length<=1000):PLD X E (.List es pos) gs:=(xK h.1).imp λσ H Q a=>by
 obtain⟨A,δ,R,o⟩:=a;refine aD.run R (λds e vs H1 f R1 h1=>?_) (λC e H' s'=>by rw[e]at o;exact o H' s') (λe=>by rw[e]at o;exact o);rw[e]at o;have n:=h.2 δ ds e;have m:=h1.length;refine⟨by rw[sizeLine_eq];omega,λp c=>o p vs _ (f.free c) (f.trans (bH c)) aH (h1.same ?_)⟩;refine λb o e=>?_
 obtain⟨z,e⟩:=bj e;have:b≠p:=aK e c;rw[aP (by simp[this,z]),aC this];exact e
theorem Cu{T:Ds->Rs #[5]}{tt:TT}(hT:TgD K n0 own.length tgt g)(U:∀σ H Q,cD K E0 cond σ H Q->tt σ H Q) :
  ∀σ H Q,lD K E (aX n0 T cond ge tgt) σ H Q->tLC own.length (iD K E T) g tt (eD K E0 ge) σ H Q:=by
 intro σ H Q ⟨A,δ,R,o⟩;unfold aX at o;by_cases hn0:δ.length=n0
 case neg=>rw[if_neg hn0]at o;exact o.elim
 rw[if_pos hn0]at o;have X:σ.length=n0:=by rw[<-R.len];exact hn0
 refine⟨A,δ,R,?_⟩;cases q:T δ with
 |no=>rw[q]at o;exact o
 |rz C=>rw[q]at o;exact o
 |ok ds =>
  rw[q]at o;have o:Gp K E A H (if ds.length<=1000000 then eI cond ge tgt δ ds else .no) Q:=o;by_cases hz:ds.length<=1000000
  case neg=>rw[if_neg hz]at o;exact o.elim
  rw[if_pos hz]at o;intro J H1 Y hJ D p;have P:=R.same Y;have nD:D∉A:=P.ls.new p;cases qo:eI cond ge tgt δ ds with
  |rz C =>
   exfalso;have:∀l,eI cond ge tgt δ l≠.rz C:=by
    intro l
    induction l with
    |nil=>intro z;cases z
    |cons d r ih =>
     intro z;unfold eI at z;split at z
     ·cases z
     ·rename_i f _;cases c1:cond (δ++f) with
      |ok b =>
       simp only[c1,Rs.cQ,Rs.ag]at z;split at z
       ·cases h:ge (δ++f) with
        |ok x =>
         simp only[h,Rs.cQ,Rs.ag]at z;cases j:eI cond ge tgt δ r with
         |ok l=>simp only[j,Rs.ag]at z;cases z
         |rz C'=>simp only[j,Rs.fi]at z;cases z;exact ih j
         |no=>simp only[j,Rs.bD]at z;cases z
        |rz C'=>simp only[h,Rs.calm,Rs.bD]at z;cases z
        |no=>simp only[h,Rs.calm,Rs.bD]at z;cases z
       ·exact ih z
      |rz C'=>simp only[c1,Rs.calm,Rs.bD]at z;cases z
      |no=>simp only[c1,Rs.calm,Rs.bD]at z;cases z
   exact this ds qo
  |no=>rw[qo]at o;exact o.elim
  |ok out =>
   rw[qo]at o;have base:ax (del H1 A) (del (upd H1 D (.lst [])) (D::A)):=λb o e=>by obtain⟨z,e⟩:=bj e;have nb:b≠D:=aK e p;rw[aP (by simp[nb,z]),aC nb];exact e
   refine⟨λi m ys H'=>m=ds.length-i/\i<=ds.length/\ax H1 H'/\H' D=some (.lst ys)/\ys.length<=i/\∃w rest,eI cond ge tgt δ (ds.drop i)=.ok rest/\out=w++rest/\Iss K (del H' (D::A)) w ys,
    ⟨ds.length,by simp,NC _,bH p,aH,My _,[],out,qo,rfl,c8⟩,?_⟩
   rintro i m ys H' ⟨rfl,hi,s,hl,hy,w,rest,c1,h,j⟩
   refine⟨hl,?_⟩;have sG:ax (del H1 A) H':=az.trans s;have B:∀b∈D::A,(del H1 A) b=none:=λb F=>by
    rcases M8.mp F with z|z
    ·rw[z,aP nD];exact p
    ·exact hZ z
   obtain⟨jg,js,jy⟩:=hJ H' (D::A) sG (λb F=>by
    rcases M8.mp F with z|z
    ·exact⟨_,by rw[z];exact hl,rfl⟩
    ·exact (P.ls.same s) b z) B
   by_cases hlt:i<ds.length
   ·refine .inr ⟨jg i hlt,λx H2 Z G y=>?_⟩;obtain⟨s2,d,ed,hd⟩:=jy i x H2 hlt y;have edr:ds.drop i=d::ds.drop (i+1):=by
     rw[NP hlt];have:ds[i]=d:=by have:=M1 hlt;rw[this]at ed;exact Option.some.inj ed
     rw[this]
    rw[edr]at c1;unfold eI at c1;cases et:tgt d with
    |none=>rw[et]at c1;cases c1
    |some ow =>
     rw[et]at c1;have l2:H2 D=some (.lst ys):=s2 _ _ hl;have I:Ls H2 (D::A):=λb F=>by
      rcases M8.mp F with z|z
      ·exact⟨_,by rw[z];exact l2,rfl⟩
      ·exact (P.ls.same (s.trans s2)) b z
     obtain⟨hol,hgo⟩:=hT d x σ Z H2 (D::A) (λc H2=>tt c H2 λb H3 =>
      if b=true then eD K E0 ge c H3 λv L=>L D=some (.lst ys)/\ys.length<sizeLine/\(∃a,c=σ++a/\a.length=own.length)/\∃m',m' < ds.length-i/\_
      else (∃a,c=σ++a/\a.length=own.length)/\∃m',m' < ds.length-i/\_) ow X G I hd et
     refine hgo λvs n M=>?_
     have N:ax (del H1 A) (del H2 (D::A)):=mD (sG.trans s2) B;have RE:dR K H2 (D::A) (δ++ow) (σ++vs):=by
      refine⟨I,by rw[MN,MN,R.len,n,hol],λk e S=>?_⟩;by_cases hk:k<δ.length
      ·rw[N5 hk]at S;obtain⟨u,e1,hu⟩:=P.get k e S;exact⟨u,by rw[N5 (by rw[<-R.len];exact hk)];exact e1,hu.same N⟩
      ·rw[N6 (by omega)]at S;obtain⟨u,e1,hu⟩:=M _ e S;exact⟨u,by rw[N6 (by rw[<-R.len];omega),<-R.len];exact e1,hu⟩
     have bad:∀r:Rs Bool,r=.rz 0->r.calm=.no:=λr e=>by rw[e];rfl
     refine U _ _ _ (cD.run RE (λb O H3 t R3=>?_) (λC O=>?_) (λO=>?_))
     ·simp only[O,Rs.cQ,Rs.ag]at c1;cases b with
      |true =>
       simp only[if_true]at c1;refine eD.run R3 (λxd ex v L s4 R4 hv=>?_) (λC ex=>?_) (λex=>?_)
       ·simp only[ex,Rs.cQ,Rs.ag]at c1;cases cr:eI cond ge tgt δ (ds.drop (i+1)) with
        |ok rs =>
         simp only[cr,Rs.ag]at c1;cases c1;have l4:L D=some (.lst ys):=s4 _ _ (t _ _ l2);have dU:del (upd L D (.lst (ys++[v]))) (D::A)=del L (D::A):=kR (M7);refine⟨l4,by rw[sizeLine_eq];omega,⟨vs,rfl,n⟩,ds.length-(i+1),by omega,rfl,hlt,?_,aH,by simp;omega,w++[xd],rs,cr,by rw[h];simp,?_⟩
         ·exact ax.put (((s.trans s2).trans t).trans s4) p
         ·rw[dU];exact (j.same (ax.del (s2.trans (t.trans s4)))).append (jt hv)
        |rz C=>simp only[cr,Rs.fi]at c1;cases c1
        |no=>simp only[cr,Rs.bD]at c1;cases c1
       ·simp only[ex,Rs.calm,Rs.bD]at c1;cases c1
       ·simp only[ex,Rs.calm,Rs.bD]at c1;cases c1
      |false =>simp only[N2,if_false]at c1;exact⟨⟨vs,rfl,n⟩,ds.length-(i+1),by omega,rfl,hlt,(s.trans s2).trans t,t _ _ l2,by omega,w,rest,c1,h,j.same (ax.del (s2.trans t))⟩
     ·simp only[O,Rs.calm,Rs.bD]at c1;cases c1
     ·simp only[O,Rs.calm,Rs.bD]at c1;cases c1
   ·have e:i=ds.length:=by omega
    subst e;rw[OR]at c1;cases c1;rw[Nr]at h;subst h;exact .inl ⟨js,o D ys H' (Y.free p) (Y.trans s) hl j⟩
def fW:Expr->List Str
 |.Name x _=>[x]
 |.Tuple [.Name x _,.Name y _] _ _=>[x,y]
 |_=>[]
def HM(own N:List Str):List Str:=N.map λx=>bif own.elem x then x++"__" else x
abbrev bk(X:Cx)(tg:Expr)(scope:Scope):=blk X (HM (fW tg) X.N) scope (fW tg)
abbrev JI(X:Cx)(tg:Expr)(scope:Scope):Bool:=tP X.N (HM (fW tg) X.N) X.env.scope scope (fW tg)
inductive PIf (X:Cx):List Expr->(Ds->Rs Bool)->Prop
 |nil:PIf X [] bJ
 |one {c:Expr} {g:Ds->Rs Bool} (h:PCD X E0 c g):PIf X [c] g
def K2(K:W.Frag)(ifs:List Expr)(g:Ds->Rs Bool):TT:=match ifs with
 |[]=>vZ
 |_=>cD K E0 g
theorem PIf.pts{g:Ds->Rs Bool}(h:PIf X ifs g):PTs X ifs (K2 X.K ifs g):=by
 cases h with
 |nil=>exact .nil
 |one h=>exact .one h
theorem PIf.tt{g:Ds->Rs Bool}(h:PIf X ifs g):∀σ H Q,cD K E0 g σ H Q->K2 K ifs g σ H Q:=by
 cases h with
 |nil=>exact λσ H Q a=>(by obtain⟨A,δ,R,o⟩:=a;exact o H (ax.refl _))
 |one h=>exact λ_ _ _ h=>h
theorem D7{a:Ds->Rs #[5]}(hc:X.calm=true)(hi:PID X E tg iter a)
  (c:TgD X.K n0 (fW tg).length tgt g) (e:∀C s2 H2 fp,PG (bk X tg scope C s2 H2 fp) tg g) (b:∀C s2 H2 fp,PIf (bk X tg scope C s2 H2 fp) ifs cond) (f:∀C s2 H2 fp,PD (bk X tg scope C s2 H2 fp) E0 elt ge)
  (hB:JI X tg scope=true) (h:∀x,foldedSetIterable iter X.env x=pure x):PLD X E (.ListComp elt [⟨tg,iter,ifs,0⟩] scope pos) (aX n0 a cond ge tgt) :=
 (Es (own:=fW tg) (te:=eD X.K E0 ge) hc hi e (λC s2 H2 fp=>(b C s2 H2 fp).pts) (λC s2 H2 fp=>f C s2 H2 fp) hB h).imp (Cu c (PIf.tt (b 0 X.s₀ X.H₀ [])))
def PLS(X:Cx)(E:XK)(i:Nat)(st:Stmt)(a:Ds->Rs #[5]):Prop:=PS X st (B5 (lD X.K E a) (ku i))
theorem wQ{c:Ds->Rs #[5]}(a:swapsWith (.ListComp elt [⟨tg,iter,ifs,0⟩] scope pos) (some (.Name x pos')) spos.line X.env=pure true)(hc:X.calm=true)(f:X.N.Nodup)(hi:PID X E tg iter c)
  (j:TgD X.K n0 (fW tg).length tgt g) (l:∀C s2 H2 fp,PG (bk X tg scope C s2 H2 fp) tg g) (e:∀C s2 H2 fp,PIf (bk X tg scope C s2 H2 fp) ifs cond) (m:∀C s2 H2 fp,PD (bk X tg scope C s2 H2 fp) E0 elt ge)
  (b:X.N[i]?=some x) (n:Loc X.env.scope x) (hB:JI X tg scope=true) (o:∀x,foldedSetIterable iter X.env x=pure x) (p:X.fn x=true\/X.env.scope.names.lookup x=some .local) :
  PLS X E i (.Assign [.Name x pos'] (.ListComp elt [⟨tg,iter,ifs,0⟩] scope pos) spos) (aX n0 c cond ge tgt) :=
 PS.imp (qt (own:=fW tg) (te:=eD X.K E0 ge) hc f b n a hi l (λC s2 H2 fp=>(e C s2 H2 fp).pts) (λC s2 H2 fp=>m C s2 H2 fp) hB o p) λD σ H h=>Cu j (PIf.tt (e 0 X.s₀ X.H₀ [])) σ H _ h
end
inductive Sr where
 |nx (δ:Ds)
 |rt (d:PyData)
 |rz (C:Addr)
 |bk (δ:Ds)
 |ct (δ:Ds)
 |no
def iK(K:W.Frag)(G:Hp):PyData->HO->Prop
 |.list ds,.lst xs=>Iss K G ds xs
 |.dict kvs,o=>IB kvs o
 |_,_=>False
theorem iK.same{G':Hp}{d:PyData}(h:iK K G d o)(s:ax G G'):iK K G' d o:=by
 unfold iK at h ⊢;split at h
 ·exact Iss.same s h
 ·exact h
 ·exact h.elim
theorem iK.is{d:PyData}(h:iK K G d o)(ha:G a=some o):Is K G d (.ref a):=by
 unfold iK at h;split at h
 ·exact ky ha h
 ·unfold Is;exact .inl (.inr ⟨a,_,rfl,h,ha⟩)
 ·exact h.elim
theorem iK.lst(h:iK K G (.list ds) o):∃xs,o=.lst xs/\Iss K G ds xs:=by
 unfold iK at h;split at h
 ·rename_i e;cases e;exact⟨_,rfl,h⟩
 ·rename_i e;cases e
 ·exact h.elim
structure bX(K:W.Frag)(H0:Hp)(A0:List Addr)(H:Hp)(A:List Addr)(O:List Nat)(δ:Ds)(σ:St):Prop where
 same:ax H0 H
 ls0:Ls H0 A0
 new:∀a∈A,H0 a=none
 ls:Ls H A
 len:δ.length=σ.length
 pl:∀(i:Nat) d,i∉O->δ[i]?=some (some d)->∃v,σ[i]?=some (some v)/\Is K (del H (A++A0)) d v
 own:∀(i:Nat) d,i∈O->δ[i]?=some (some d)->∃a o d',σ[i]?=some (some (.ref a))/\a∈A/\H a=some o/\d=d'/\iK K (del H (A++A0)) d' o
 inj:∀(i j:Nat) d e a,i∈O->j∈O->δ[i]?=some (some d)->δ[j]?=some (some e)->σ[i]?=some (some (.ref a))->σ[j]?=some (some (.ref a))->i=j
def mask(O:List Nat)(δ:Ds):Ds:=if O=[] then δ else δ.mapIdx λi d=>if i∈O then none else d
theorem gp(δ:Ds):mask [] δ=δ:=by simp[mask]
theorem E2{d:PyData}(h:(mask O δ)[i]?=some (some d)):i∉O/\δ[i]?=some (some d):=by
 unfold mask at h;split at h
 ·rename_i z;subst z;exact⟨by simp,h⟩
 ·rw[O5]at h;cases q:δ[i]? with
  |none=>rw[q]at h;cases h
  |some x =>
   rw[q]at h;simp only[NQ,Option.some.injEq]at h;by_cases z:i∈O
   ·rw[if_pos z]at h;cases h
   ·rw[if_neg z]at h;exact⟨z,by rw[h]⟩
theorem xp:(mask O δ).length=δ.length:=by unfold mask;split <;> simp
theorem xc:ax (del H (A++B)) (del H B):=λb o e=>by obtain⟨z,e⟩:=bj e;rw[aP (λq=>z (ML _ q))];exact e
section
theorem bX.lsA(R:bX K H0 A0 H A O δ σ):Ls H (A++A0):=λa h=>(Nb.mp h).elim (R.ls a) λz=>(R.ls0.same R.same) a z
theorem bX.step(R:bX K H0 A0 H A O δ σ)(s:ax H H1):bX K H0 A0 H1 A O δ σ where
 same:=R.same.trans s
 ls0:=R.ls0
 new:=R.new
 ls:=R.ls.same s
 len:=R.len
 pl:=λi d h e=>by obtain⟨v,e1,h1⟩:=R.pl i d h e;exact⟨v,e1,h1.same s.del⟩
 own:=λi d h e=>by obtain⟨a,xs,ds,e1,h1,h2,h3,b⟩:=R.own i d h e;exact⟨a,xs,ds,e1,h1,s _ _ h2,h3,b.same s.del⟩
 inj:=R.inj
theorem bX.apart(R:bX K H0 A0 H A O δ σ)(h:a∈A):a∉A0:=λz=>by obtain⟨xs,e,_⟩:=R.ls0 a z;rw[R.new a h]at e;cases e
theorem bX.ownL(R:bX K H0 A0 H A O δ σ)(h:i∈O)(e:δ[i]?=some (some (.list ds))):∃a xs b,σ[i]?=some (some (.ref a))/\a∈A/\H a=some (.lst xs)/\PyData.list ds=.list b/\Iss K (del H (A++A0)) b xs:=by obtain⟨a,o,d',e1,h1,h2,h3,c⟩:=R.own i _ h e;subst h3;obtain⟨xs,rfl,f⟩:=c.lst;exact⟨a,xs,ds,e1,h1,h2,rfl,f⟩
theorem bX.full(R:bX K H0 A0 H A O δ σ):dR K H A0 δ σ where
 ls:=R.ls0.same R.same
 len:=R.len
 get:=λi d e=>by
  by_cases h:i∈O
  ·obtain⟨a,xs,ds,e1,h1,h2,h3,b⟩:=R.own i d h e;subst h3;exact⟨_,e1,(b.same xc).is (by rw[aP (R.apart h1)];exact h2)⟩
  ·obtain⟨v,e1,h1⟩:=R.pl i d h e;exact⟨v,e1,h1.same xc⟩
theorem bX.part(R:bX K H0 A0 H A O δ σ):dR K H (A++A0) (mask O δ) σ where
 ls:=R.lsA
 len:=by rw[xp];exact R.len
 get:=λi d e=>by obtain⟨h,e⟩:=E2 e;exact R.pl i d h e
theorem get_set{l:List α}{x y:α}(h:(l.set i x)[j]?=some y):(i=j/\y=x)\/(i≠j/\l[j]?=some y):=by
 by_cases z:i=j
 ·subst z;rw[List.getElem?_set_self']at h;cases q:l[i]? with
  |none=>rw[q]at h;cases h
  |some w=>rw[q]at h;simp at h;exact .inl ⟨rfl,h.symm⟩
 ·rw[N8 z]at h;exact .inr ⟨z,h⟩
theorem kX{l:List α}{x y:α}(hn:i≠j)(h:l[j]?=some y):(l.set i x)[j]?=some y:=by rw[N8 hn];exact h
theorem bX.set{d:PyData}(R:bX K H0 A0 H A O δ σ)(hi:i∉O)(hl:i<δ.length)(h:Is K (del H (A++A0)) d v):bX K H0 A0 H A O (δ.set i (some d)) (σ.set i (some v)) where
 same:=R.same
 ls0:=R.ls0
 new:=R.new
 ls:=R.ls
 len:=by simp[R.len]
 pl:=λj e b q=>by
  rcases get_set q with⟨z,q⟩|⟨z,q⟩
  ·cases q;subst z;exact⟨v,by rw[Ni (by rw[<-R.len];exact hl)],h⟩
  ·obtain⟨u,e1,h1⟩:=R.pl j e b q;exact⟨u,kX z e1,h1⟩
 own:=λj e b q=>by
  rcases get_set q with⟨z,q⟩|⟨z,q⟩
  ·subst z;exact absurd b hi
  ·obtain⟨a,xs,ds,e1,h1⟩:=R.own j e b q;exact⟨a,xs,ds,kX z e1,h1⟩
 inj:=λj k d' e a b c f g p1 p2=>by
  have n1:i≠j:=λz=>hi (z▸b)
  have n2:i≠k:=λz=>hi (z▸c)
  rw[N8 n1]at f p1;rw[N8 n2]at g p2;exact R.inj j k d' e a b c f g p1 p2
theorem bX.setOwn(R:bX K H0 A0 H A O δ σ)(hi:i∈O)(hl:i<δ.length)(hn:H a=none)(s:ax H H1)(ha:H1 a=some (.lst xs))(h:Iss K (del H1 (a::(A++A0))) ds xs) :
  bX K H0 A0 H1 (a::A) O (δ.set i (some (.list ds))) (σ.set i (some (.ref a))) where
 same:=R.same.trans s
 ls0:=R.ls0
 new:=λb m=>by
  rcases M8.mp m with z|z
  ·rw[z];exact R.same.free hn
  ·exact R.new b z
 ls:=λb m=>by
  rcases M8.mp m with z|z
  ·exact⟨_,by rw[z];exact ha,rfl⟩
  ·exact (R.ls.same s) b z
 len:=by simp[R.len]
 pl:=λj e c q=>by
  rcases get_set q with⟨z,q⟩|⟨z,q⟩
  ·subst z;exact absurd hi c
  ·obtain⟨u,e1,h1⟩:=R.pl j e c q;refine⟨u,kX z e1,h1.same λb o e=>?_⟩;obtain⟨y,e⟩:=bj e;have n:b≠a:=aK e hn;rw[aP (by simpa[n] using y)];exact s _ _ e
 own:=λj e c q=>by
  have r:∀b o,del H (A++A0) b=some o->del H1 (a::A++A0) b=some o:=λb o e=>by obtain⟨y,e⟩:=bj e;have n:b≠a:=aK e hn;rw[aP (by simpa[n] using y)];exact s _ _ e
  rcases get_set q with⟨z,q⟩|⟨z,q⟩
  ·cases q;subst z;exact⟨a,_,_,by rw[Ni (by rw[<-R.len];exact hl)],M7,ha,rfl,h⟩
  ·obtain⟨b,ys,es,e1,h1,h2,h3,t⟩:=R.own j e c q;exact⟨b,ys,es,kX z e1,M3 _ h1,s _ _ h2,h3,t.same r⟩
 inj:=λj k d' e b c f g l p1 p2=>by
  have old:∀k,k∈O->i≠k->∀e,δ[k]?=some (some e)->σ[k]?=some (some (.ref a))->False:=λk f _ e q p=>by obtain⟨b,ys,es,e1,h1,h2,_⟩:=R.own k e f q;rw[p]at e1;cases e1;rw[hn]at h2;cases h2
  by_cases z1:i=j
  ·by_cases z2:i=k
   ·rw[<-z1,z2]
   ·subst z1;rw[Ni (by rw[<-R.len];exact hl)]at p1;cases p1;rw[N8 z2]at l p2;exact (old k f z2 e l p2).elim
  ·by_cases z2:i=k
   ·subst z2;rw[Ni (by rw[<-R.len];exact hl)]at p2;cases p2;rw[N8 z1]at g p1;exact (old j c z1 d' g p1).elim
   ·rw[N8 z1]at g p1;rw[N8 z2]at l p2;exact R.inj j k d' e b c f g l p1 p2
theorem bX.put{l:PyData}(R:bX K H0 A0 H A O δ σ)(hi:i∈O)(hd:δ[i]?=some (some l))(p:σ[i]?=some (some (.ref a)))(ha:a∈A)(h:Iss K (del H (A++A0)) ds ys) :
  bX K H0 A0 (upd H a (.lst ys)) A O (δ.set i (some (.list ds))) σ:=by
 have m:del (upd H a (.lst ys)) (A++A0)=del H (A++A0):=kR (Nh _ ha);have hl:i<δ.length:=(N0.mp hd).1;refine⟨λb o e=>?_,R.ls0,R.new,λb s=>?_,by simp[R.len],λj e c q=>?_,λj e c q=>?_,λj k d' e b c r f g p1 p2=>?_⟩
 ·have n:b≠a:=λz=>by rw[z,R.new a ha]at e;cases e
  rw[aC n];exact R.same b o e
 ·by_cases z:b=a
  ·exact⟨_,by rw[z,aH],rfl⟩
  ·rw[aC z];exact R.ls b s
 ·rcases get_set q with⟨z,q⟩|⟨z,q⟩
  ·subst z;exact absurd hi c
  ·rw[m];exact R.pl j e c q
 ·rcases get_set q with⟨z,q⟩|⟨z,q⟩
  ·cases q;subst z;exact⟨a,_,_,p,ha,aH,rfl,by rw[m];exact h⟩
  ·obtain⟨b,zs,es,e1,h1,h2,h3,t⟩:=R.own j e c q;have n:b≠a:=λw=>z (R.inj i j _ _ a hi c hd q p (by rw[<-w];exact e1))
   exact⟨b,zs,es,e1,h1,by rw[aC n];exact h2,h3,by rw[m];exact t⟩
 ·rcases get_set f with⟨z1,f⟩|⟨z1,f⟩ <;> rcases get_set g with⟨z2,g⟩|⟨z2,g⟩
  ·rw[<-z1,z2]
  ·subst z1;exact R.inj i k l e b hi r hd g p1 p2
  ·subst z2;exact R.inj j i d' l b c hi f hd p1 p2
  ·exact R.inj j k d' e b c r f g p1 p2
def un(H0 G:Hp):Hp:=λb=>match H0 b with|some o=>some o|none=>G b
theorem Dn:ax H0 (un H0 G):=λb o e=>by unfold un;rw[e]
theorem Mq(a:ax H0 H)(c:ax G H):ax G (un H0 G):=λb o e=>by
 unfold un;cases q:H0 b with
 |none=>exact e
 |some o2=>have h2:=a b o2 q;rw[c b o e]at h2;exact h2.symm
theorem K0(a:ax H0 H)(c:ax G H):ax (un H0 G) H:=λb o e=>by
 unfold un at e;cases q:H0 b with
 |none=>rw[q]at e;exact c b o e
 |some o2=>rw[q]at e;rw[<-Option.some.inj e];exact a b o2 q
theorem bX.more(R:bX K H0 A0 H A O δ σ):bX K (un H0 (del H (A++A0))) A0 H A O δ σ :=
 ⟨K0 R.same az,R.ls0.same Dn,λa h=>by unfold un;rw[R.new a h];exact hZ (Nh _ h),R.ls,R.len,R.pl,R.own,R.inj⟩
theorem bX.less{b:Hp}(R:bX K b A0 H A O δ σ)(s:ax H0 b)(l:Ls H0 A0):bX K H0 A0 H A O δ σ:=⟨s.trans R.same,l,λa h=>s.free (R.new a h),R.ls,R.len,R.pl,R.own,R.inj⟩
end
def nk(K:W.Frag)(E:XK)(H0:Hp)(A0:List Addr)(O:List Nat)(r:Sr)(D:Ends):Prop:=match r with
 |.nx δ=>∀A σ H,bX K H0 A0 H A O δ σ->D.nx σ H
 |.rt d=>∀v H,ax H0 H->Is K (del H A0) d v->D.rt v H
 |.rz C=>∀H,ax H0 H->E (.ref C) none H
 |.bk δ=>∀A σ H,bX K H0 A0 H A O δ σ->D.bk σ H
 |.ct δ=>∀A σ H,bX K H0 A0 H A O δ σ->D.ct σ H
 |.no=>False
def sD(K:W.Frag)(E:XK)(O:List Nat)(G:Ds->Sr):TS:=λD σ H=>∃H0 A0 A δ,bX K H0 A0 H A O δ σ/\nk K E H0 A0 O (G δ) D
def PSD(X:Cx)(E:XK)(O:List Nat)(s:Stmt)(G:Ds->Sr):Prop:=PS X s (sD X.K E O G)
def PBD(X:Cx)(E:XK)(O:List Nat)(ss:List Stmt)(G:Ds->Sr):Prop:=PSs X ss (sD X.K E O G)
def aV:Ds->Sr:=λδ=>.nx δ
def ay(a b:Ds->Sr):Ds->Sr:=λδ=>match a δ with
 |.nx δ'=>b δ'
 |r=>r
noncomputable def ofR{α:Type}(r:Rs α)(k:α->Sr):Sr:=match r with
 |.ok a=>k a
 |.rz C=>.rz C
 |.no=>.no
@[simp]theorem aB(a:α)(k:α->Sr):ofR (.ok a) k=k a:=rfl
@[simp]theorem nJ(C:Addr)(k:α->Sr):ofR (.rz C) k=.rz C:=rfl
@[simp]theorem og(k:α->Sr):ofR (.no:Rs α) k=.no:=rfl
def sIf(c:Ds->Rs Bool)(a b:Ds->Sr):Ds->Sr:=λδ=>ofR (c δ) λt=>if t=true then a δ else b δ
def bf(g:Ds->Rs PyData):Ds->Sr:=λδ=>ofR (g δ) .rt
def lg(g:Ds->Rs PyData):Ds->Sr:=λδ=>ofR (g δ) λ_=>.nx δ
def aN(O:List Nat)(i:Nat)(g:Ds->Rs PyData):Ds->Sr:=λδ=>if i<δ.length then ofR (g (mask O δ)) λd=>.nx (δ.set i (some d)) else .no
def kl(i:Nat)(g:Ds->Rs PyData):Ds->Sr:=λδ=>if i<δ.length then ofR (g δ) λd=>if eK d then .nx (δ.set i (some d)) else .no else .no
def eu(O:List Nat)(i:Nat)(g:Ds->Rs #[5]):Ds->Sr:=λδ=>if i<δ.length then ofR (g (mask O δ)) λds=>.nx (δ.set i (some (.list ds))) else .no
def ik(O:List Nat)(i:Nat)(g:Ds->Rs PyData):Ds->Sr:=λδ=>match δ[i]? with
 |some (some (.list ds))=>ofR (g (mask O δ)) λd=>if ds.length<1000000 then .nx (δ.set i (some (.list (ds++[d])))) else .no
 |_=>.no
section
variable {ss:List Stmt}{G G':Ds->Sr}{a b c:Expr}{ga gb:Ds->Rs PyData}{ca:Ds->Rs Bool}
theorem uS:PBD X E O [] aV:=vf.imp λD σ H a=>(by obtain⟨H0,A0,A,δ,R,o⟩:=a;exact o A σ H R)
theorem iY(h1:PSD X E O st G)(h2:PBD X E O ss G'):PBD X E O (st::ss) (ay G G'):=(cO h1 h2).imp λD σ H ⟨H0,A0,A,δ,R,o⟩=>⟨H0,A0,A,δ,R,by
 unfold ay at o;cases q:G δ with
 |nx δ'=>rw[q]at o;exact λa σ' H' b=>⟨H0,A0,a,δ',b,o⟩
 |rt d=>rw[q]at o;exact o
 |rz C=>rw[q]at o;exact o
 |bk d=>rw[q]at o;exact o
 |ct d=>rw[q]at o;exact o
 |no=>rw[q]at o;exact o⟩
theorem pN(h1:PSD X E O st G):PBD X E O [st] G:=(iC h1).imp λD σ H h=>h
theorem CN{a:List Stmt}(hc:PCD X E c ca)(h1:PBD X E O ss G)(h2:PBD X E O a G'):PSD X E O (.If c ss a pos) (sIf ca G G'):=(An hc h1 h2).imp λD σ H e=>by
 obtain⟨H0,A0,A,δ,R,o⟩:=e;unfold sIf at o;refine cD.run R.full (λt b H1 f R1=>?_) (λC b H' s'=>?_) (λb=>?_)
 ·rw[b]at o;cases t with
  |true=>exact⟨H0,A0,A,δ,R.step f,o⟩
  |false=>exact⟨H0,A0,A,δ,R.step f,o⟩
 ·rw[b]at o;exact o H' (R.same.trans s')
 ·rw[b]at o;exact o
theorem um(h:PD X E e ga):PSD X E O (.Return (some e) pos) (bf ga):=(p6 h).imp λD σ H a=>by
 obtain⟨H0,A0,A,δ,R,o⟩:=a;unfold bf at o;refine eD.run R.full (λd c v H1 f R1 hv=>?_) (λC b H' s'=>?_) (λb=>?_)
 ·rw[c]at o;exact o v H1 (R.same.trans f) hv
 ·rw[b]at o;exact o H' (R.same.trans s')
 ·rw[b]at o;exact o
theorem C5(h:PD X E e ga)(c:swapsWith e none pos.line X.env=pure false):PSD X E O (.Expr e pos) (lg ga):=(lQ h c).imp λD σ H a=>by
 obtain⟨H0,A0,A,δ,R,o⟩:=a;unfold lg at o;refine eD.run R.full (λd f v H1 g R1 hv=>?_) (λC b H' s'=>?_) (λb=>?_)
 ·rw[f]at o;exact o A σ H1 (R.step g)
 ·rw[b]at o;exact o H' (R.same.trans s')
 ·rw[b]at o;exact o
theorem E9(h:PD X E e ga)(c:X.N.Nodup)(f:i∉O)(hi:X.N[i]?=some x)(g:Loc X.env.scope x)(j:swapsWith e (some (.Name x pos')) pos.line X.env=pure false)
  (l:X.fn x=true\/X.env.scope.names.lookup x=some .local):PSD X E O (.Assign [.Name x pos'] e pos) (aN O i ga):=(qX c hi g h j l).imp λD σ H a=>by
 obtain⟨H0,A0,A,δ,R,o⟩:=a;unfold aN at o;split at o
 ·rename_i hl;refine eD.run R.part (λd m v H1 n R1 hv=>?_) (λC b H' s'=>?_) (λb=>?_)
  ·rw[m]at o;exact o A _ H1 ((R.step n).set f hl hv)
  ·rw[b]at o;exact o H' (R.same.trans s')
  ·rw[b]at o;exact o
 ·exact o.elim
theorem Ei(h:PD X E e ga)(f:X.N.Nodup)(g:i∉O)(hi:X.N[i]?=some x)(j:Loc X.env.scope x)(l:swapsWith e (some (.Name x pos')) pos.line X.env=pure false)
  (m:X.fn x=true\/X.env.scope.names.lookup x=some .local):PSD X E O (.Assign [.Name x pos'] e pos) (kl i ga):=(qX f hi j h l m).imp λD σ H a=>by
 obtain⟨H0,A0,A,δ,R,o⟩:=a;unfold kl at o;split at o
 ·rename_i hl;refine eD.run R.full (λd n v H1 c R1 hv=>?_) (λC b H' s'=>?_) (λb=>?_)
  ·rw[n]at o;have o:nk X.K E H0 A0 O (if eK d=true then .nx (δ.set i (some d)) else .no) D:=o;split at o
   ·rename_i hd;exact o A _ H1 ((R.step c).set g hl ((hv.same az).dl (R.step c).lsA hd))
   ·exact o.elim
  ·rw[b]at o;exact o H' (R.same.trans s')
  ·rw[b]at o;exact o
 ·exact o.elim
theorem FY{a:Ds->Rs #[5]}(h:PLD X E e a)(f:X.N.Nodup)(g:i∈O)(hi:X.N[i]?=some x)(j:Loc X.env.scope x)(l:swapsWith e (some (.Name x pos')) pos.line X.env=pure false)
  (m:X.fn x=true\/X.env.scope.names.lookup x=some .local):PSD X E O (.Assign [.Name x pos'] e pos) (eu O i a):=(qX f hi j h l m).imp λD σ H b=>by
 obtain⟨H0,A0,A,δ,R,o⟩:=b;unfold eu at o;split at o
 ·rename_i hl;refine⟨A++A0,mask O δ,R.part,?_⟩;cases q:a (mask O δ) with
  |ok ds =>rw[q]at o;exact λp xs H' hn s n c=>o (p::A) _ H' (R.setOwn g hl hn s n c)
  |rz C=>rw[q]at o;exact λH' s'=>o H' (R.same.trans s')
  |no=>rw[q]at o;exact o
 ·exact o.elim
theorem Dk{a:Ds->Rs #[5]}(h:PLS X E i st a)(e:i∈O):PSD X E O st (eu O i a):=PS.imp h λD σ H b=>by
 obtain⟨H0,A0,A,δ,R,o⟩:=b;unfold eu at o;split at o
 ·rename_i hl;refine⟨A++A0,mask O δ,R.part,?_⟩;cases q:a (mask O δ) with
  |ok ds =>rw[q]at o;exact λp xs H' hn s f c=>o (p::A) _ H' (R.setOwn e hl hn s f c)
  |rz C=>rw[q]at o;exact λH' s'=>o H' (R.same.trans s')
  |no=>rw[q]at o;exact o
 ·exact o.elim
theorem CM{a:Ds->Rs #[5]}(h:PLS X E i st a)(f:i∉O):PSD X E O st (aN O i (gL a)):=PS.imp h λD σ H b=>by
 obtain⟨H0,A0,A,δ,R,o⟩:=b;unfold aN gL at o;split at o
 ·rename_i hl;have e:=R.part;refine⟨A++A0,mask O δ,e,?_⟩;cases q:a (mask O δ) with
  |ok ds =>rw[q]at o;intro p xs H' hn s g c;exact o A _ H' ((R.step s).set f hl (ky (by rw[aP (e.ls.new hn)];exact g) (c.same nP)))
  |rz C=>rw[q]at o;exact λH' s'=>o H' (R.same.trans s')
  |no=>rw[q]at o;exact o
 ·exact o.elim
theorem tyL{p:Addr}(h:H p=some (.lst xs)):tyV K "list" (.ref p) H:=.inl ⟨rfl,xs,SqL.of h⟩
theorem GV{j c:Pos}(h:PD X E e ga)(s:i∈O)(hi:X.N[i]?=some x)(hv:Vis X.env.scope x)
  (hd:(x==("__debug__":Str))=false) (l:(x==("__classdict__":Str))=false) (f:starEach [e] X.env=(false,eval e X.env)::starEach [] X.env)
  (a:attributeBase (.Name x pn) "append" X.env (eval (.Name x pn) X.env)=eval (.Name x pn) X.env)
  (g:((backTo c (starEach [e] X.env)).all (λx=>!x.1)&&(backToKw c (keywordEach [] X.env)).all (λx=>x.1.isSome)&&decide (([e]:List Expr).length+([]:List Keyword).length+(if ([]:List Keyword).isEmpty then 0 else 1)<30))=true)
  (b:(j.endLine==c.line)=true) (u:swapsWith (.Call (.Attribute (.Name x pn) "append" j) [e] [] c) none pos.line X.env=pure false) :
  PSD X E O (.Expr (.Call (.Attribute (.Name x pn) "append" j) [e] [] c) pos) (ik O i ga) :=
 (lQ (Ag F.plainAttrs_list F.slot_list_append F.type_list_append nC (kE hi hv hd l) (eV h gJ f) a g b f rfl) u).imp λD σ H m=>by
  obtain⟨H0,A0,A,δ,R,o⟩:=m;unfold ik at o;split at o
  ·rename_i ds q;obtain⟨p,xs,ds',e1,w,hl,e2,t⟩:=R.ownL s q;cases e2;refine⟨_,e1,tyL hl,?_⟩;refine eD.run R.part (λd y v H1 n R1 hv=>?_) (λC r H' s'=>?_) (λr=>?_)
   ·rw[y]at o;have o:nk X.K E H0 A0 O (if ds.length<1000000 then .nx (δ.set i (some (.list (ds++[d])))) else .no) D:=o;split at o
    ·rename_i hz;refine⟨p,xs,v,rfl,rfl,n _ _ hl,by rw[t.length,sizeLine_eq];omega,?_⟩;exact o A _ _ ((R.step n).put s q e1 w ((t.same n.del).append (jt hv)))
    ·exact o.elim
   ·rw[r]at o;exact o H' (R.same.trans s')
   ·rw[r]at o;exact o
  ·exact o.elim
def TgS(K:W.Frag)(O:List Nat)(tgt:PyData->Ds->Option Ds)(g:TG):Prop:=∀(d:PyData)(v:V)(H0:Hp)(A0:List Addr)(H:Hp)(A:List Addr)(δ a:Ds)(σ:St)(Q:St->Hp->Prop),bX K H0 A0 H A O δ σ->Is K (del H (A++A0)) d v->tgt d δ=some a ->
 (∀b,bX K H0 A0 H A O a b->Q b H)->g v σ H Q
def aU(i:Nat):PyData->Ds->Option Ds:=λd δ=>if i<δ.length then some (δ.set i (some d)) else none
theorem Cj(hi:i∉O):TgS K O (aU i) (ku i):=λd v H0 A0 H A δ δ' σ Q R h e k=>by
 unfold aU at e;split at e
 ·rename_i hl;cases e;exact k _ (R.set hi hl h)
 ·cases e
def kr:List Nat->List PyData->Ds->Option Ds
 |[],[],δ=>some δ
 |i::is,d::ds,δ=>if i<δ.length then kr is ds (δ.set i (some d)) else none
 |_,_,_=>none
def cn(is:List Nat):PyData->Ds->Option Ds
 |.tuple ds,δ=>kr is ds δ
 |_,_=>none
def xI:List Nat->TGs
 |[]=>L2.Ku
 |i::is=>L2.Aj (ku i) (xI is)
theorem oJ{K:W.Frag}:∀(is:List Nat)(ds:List PyData)(vs:List V)(H0:Hp)(A0:List Addr)(H:Hp)(A:List Addr)(δ a:Ds)(σ:St)(Q:St->Hp->Prop),(∀i∈is,i∉O)->bX K H0 A0 H A O δ σ->Iss K (del H (A++A0)) ds vs->kr is ds δ=some a ->
  (∀b,bX K H0 A0 H A O a b->Q b H)->xI is vs σ H Q
 |[],[],vs,H0,A0,H,A,δ,a,σ,Q,_,R,h,e,k=>by cases e;exact⟨h.nil_of,k σ R⟩
 |i::is,d::ds,vs,H0,A0,H,A,δ,a,σ,Q,hO,R,h,e,k=>by
  obtain⟨v,r,rfl,h1,h2⟩:=h.cons_of;unfold kr at e;split at e
  ·rename_i hl;exact⟨v,r,rfl,oJ is ds r H0 A0 H A _ a _ Q (λj c=>hO j (M3 _ c)) (R.set (hO i M7) hl h1) h2 e k⟩
  ·cases e
 |[],_::_,_,_,_,_,_,_,_,_,_,_,_,_,e,_=>by cases e
 |_::_,[],_,_,_,_,_,_,_,_,_,_,_,_,e,_=>by cases e
theorem qm:∀{is:List Nat}{ds:List PyData}{δ a:Ds},kr is ds δ=some a->ds.length=is.length
 |[],[],_,_,_=>rfl
 |_::is,_::ds,δ,a,e=>by
  unfold kr at e;split at e
  ·simp[qm e]
  ·cases e
 |[],_::_,_,_,e=>by cases e
 |_::_,[],_,_,e=>by cases e
theorem Gv{is:List Nat}(hi:∀i∈is,i∉O):TgS K O (cn is) (L2.II K is.length (xI is)):=λd v H0 A0 H A δ a σ Q R h e k=>by
 unfold cn at e;split at e
 ·obtain⟨p,xs,rfl,c,b⟩:=h.ofTup;exact⟨p,xs,rfl,SqT.of (az _ _ c),by rw[b.length,qm e],oJ is _ xs H0 A0 H A δ a σ Q hi R b e k⟩
 ·cases e
def forL(tgt:PyData->Ds->Option Ds)(body:Ds->Sr):List PyData->Ds->Sr
 |[],δ=>.nx δ
 |d::r,δ=>match tgt d δ with
  |none=>.no
  |some δ1=>match body δ1 with
   |.nx δ2=>forL tgt body r δ2
   |.ct δ2=>forL tgt body r δ2
   |.bk δ2=>.nx δ2
   |.rt v=>.rt v
   |.rz C=>.rz C
   |.no=>.no
def cA(O:List Nat)(src:Ds->Rs #[5])(tgt:PyData->Ds->Option Ds)(body:Ds->Sr):Ds->Sr:=λδ=>ofR (src (mask O δ)) λds=>forL tgt body ds δ
theorem Ge{s:Ds->Rs #[5]}{tgt:PyData->Ds->Option Ds}(P:PassesOwn #[4] X.A X.env X.xe)(hc:X.calm=true)(hi:PID X E tg iter s)(Q:TgS X.K O tgt g)(S:PG X tg g)(t:PBD X E O ss G)
  (T:∀x,foldedSetIterable iter X.env x=pure x):PSD X E O (.For tg iter ss [] pos) (cA O s tgt G):=(Ka P hc hi S t T).imp λD σ H u=>by
 obtain⟨H0,A0,A,δ,R,o⟩:=u;unfold cA at o;refine⟨A++A0,mask O δ,R.part,?_⟩;cases q:s (mask O δ) with
 |no=>rw[q]at o;exact o
 |rz C=>rw[q]at o;exact λH' s'=>o H' (R.same.trans s')
 |ok ds =>
  rw[q]at o;intro J H1 L U;have W:=(R.step L).more;have o:nk X.K E H0 A0 O (forL tgt G ds δ) D:=o;refine⟨λi m c H'=>m=ds.length-i/\i<=ds.length/\∃j a,bX X.K (un H0 (del H1 (A++A0))) A0 H' j O a c/\nk X.K E H0 A0 O (forL tgt G (ds.drop i) a) D,⟨ds.length,by simp,NC _,A,δ,W,o⟩,?_⟩
  rintro i m c H' ⟨rfl,hi',j,a,l,o'⟩
  have M:ax (del H1 (A++A0)) (un H0 (del H1 (A++A0))):=Mq (R.same.trans L) az;have hB:∀b∈j++A0,(del H1 (A++A0)) b=none:=λb t=>by
   rcases Nb.mp t with z|z
   ·exact M.free (l.new b z)
   ·exact hZ (ML _ z)
  obtain⟨Y,js,Z⟩:=U H' (j++A0) (M.trans l.same) l.lsA hB;by_cases hlt:i<ds.length
  ·refine .inr ⟨Y i hlt,?_⟩;have B:ds.drop i=ds[i]::ds.drop (i+1):=NP hlt;rw[B]at o';unfold forL at o';refine⟨λn H2=>∃F δ2,bX X.K (un H0 (del H1 (A++A0))) A0 H2 F O δ2 n/\nk X.K E H0 A0 O (forL tgt G (ds.drop (i+1)) δ2) D,λn H2 ⟨F,δ2,R2,o2⟩=>⟨ds.length-(i+1),by omega,rfl,hlt,F,δ2,R2,o2⟩,λx H2 y=>?_⟩;obtain⟨s2,d,N,hd⟩:=Z i x H2 hlt y;have:ds[i]=d:=by have:=M1 hlt;rw[this]at N;exact Option.some.inj N
   rw[this]at o';cases et:tgt d a with
   |none=>rw[et]at o';exact o'.elim
   |some δ1 =>
    simp only[et]at o';refine Q d x _ _ _ _ _ _ _ _ (l.step s2) hd et λσ3 R3=>⟨_,_,_,_,R3,?_⟩
    cases eb:G δ1 with
    |nx δ2=>rw[eb]at o';exact λp f h r=>⟨p,δ2,r,o'⟩
    |ct δ2=>rw[eb]at o';exact λp f h r=>⟨p,δ2,r,o'⟩
    |bk δ2=>rw[eb]at o';exact λp f h r=>o' p f h (r.less Dn R.ls0)
    |rt v=>rw[eb]at o';exact λv4 h I h4=>o' v4 h (Dn.trans I) h4
    |rz C=>rw[eb]at o';exact λh I=>o' h (Dn.trans I)
    |no=>rw[eb]at o';exact o'
  ·have e:i=ds.length:=by omega
   subst e;rw[OR]at o';exact .inl ⟨js,o' j c H' (l.less Dn R.ls0)⟩
end
section
variable {ss:List Stmt}{G G':Ds->Sr}{a b c:Expr}{ga gb gk:Ds->Rs PyData}{ca:Ds->Rs Bool}
def cE(c:Ds->Rs Bool)(b:Ds->Sr):Nat->Ds->Sr
 |0,_=>.no
 |n+1,δ=>ofR (c δ) λt=>if t=true then (match b δ with
  |.nx δ2=>cE c b n δ2
  |.ct δ2=>cE c b n δ2
  |.bk δ2=>.nx δ2
  |.rt v=>.rt v
  |.rz C=>.rz C
  |.no=>.no) else .nx δ
theorem By(fuel:Nat)(j:PassesOwn #[4] X.A X.env X.xe)(hc:PCD X E c ca)(l:PBD X E O ss G):PSD X E O (.While c ss [] pos) (λδ=>cE ca G fuel δ):=(vG j hc l).imp λD σ H e=>by
 obtain⟨H0,A0,A,δ,R,o⟩:=e;refine⟨λm σ H=>∃A δ,bX X.K H0 A0 H A O δ σ/\nk X.K E H0 A0 O (cE ca G m δ) D,⟨fuel,A,δ,R,o⟩,?_⟩
 rintro m σ H ⟨A,δ,R,o⟩
 cases m with
 |zero=>exact o.elim
 |succ m =>
  unfold cE at o;refine cD.run R.full (λt a H1 i R1=>?_) (λC a H' s'=>?_) (λa=>?_)
  ·rw[a]at o;cases t with
   |false=>exact o A σ H1 (R.step i)
   |true =>
    refine⟨λb H'=>∃A δ,bX X.K H0 A0 H' A O δ b/\nk X.K E H0 A0 O (cE ca G m δ) D,λb H' q=>⟨m,NO m,q⟩,H0,A0,A,δ,R.step i,?_⟩;have o:nk X.K E H0 A0 O (match G δ with
     |.nx δ2=>cE ca G m δ2
     |.ct δ2=>cE ca G m δ2
     |.bk δ2=>.nx δ2
     |.rt v=>.rt v
     |.rz C=>.rz C
     |.no=>.no) D:=o
    cases eb:G δ with
    |nx δ2=>rw[eb]at o;exact λf g n h=>⟨f,δ2,h,o⟩
    |ct δ2=>rw[eb]at o;exact λf g n h=>⟨f,δ2,h,o⟩
    |bk δ2=>rw[eb]at o;exact o
    |rt v=>rw[eb]at o;exact o
    |rz C=>rw[eb]at o;exact o
    |no=>rw[eb]at o;exact o
  ·rw[a]at o;exact o H' (R.same.trans s')
  ·rw[a]at o;exact o
def lH(i:Nat)(gk ge:Ds->Rs PyData):Ds->Sr:=λδ=>match δ[i]? with
 |some (some (.list ds))=>ofR (ge δ) λd=>ofR (gk δ) λk=>match k with
  |.int k=>match ixN ds.length k with
   |some j=>if eK d then .nx (δ.set i (some (.list (ds.set j d)))) else .no
   |none=>.no
  |_=>.no
 |_=>.no
theorem Hq{k:Expr}{ps:Pos}(h:PD X E e ga)(n:PD X E k gk)(g:i∈O)(hi:X.N[i]?=some x)(hv:Vis X.env.scope x)
  (hd:(x==("__debug__":Str))=false) (c:(x==("__classdict__":Str))=false)
  (ha:∀v,assign (.Subscript (.Name x pn) k ps) X.env v=(do
   let ov <-holding [v] (eval (.Name x pn) X.env);let iv <-holding [v,ov] (eval k X.env)
   standAt ps
   holding [v,ov,iv] (setItem ov iv v)
   release [v,ov,iv] []))
  (r:swapsWithSole [.Subscript (.Name x pn) k ps] e pos.line X.env=pure false) (hw:swappedStores [.Subscript (.Name x pn) k ps] e X.env=pure none)
  (h1:(assignEach [.Subscript (.Name x pn) k ps] X.env).map (·.2)=[assign (.Subscript (.Name x pn) k ps) X.env]):PSD X E O (.Assign [.Subscript (.Name x pn) k ps] e pos) (lH i gk ga) :=
 (DC h (Kz (kE hi hv hd c) n set_list ha) r hw h1).imp λD σ H f=>by
  obtain⟨H0,A0,A,δ,R,o⟩:=f;unfold lH at o;split at o
  ·rename_i ds q;obtain⟨p,xs,ds',e1,s,hl,e2,l⟩:=R.ownL g q;cases e2;refine eD.run R.full (λd t v H1 m w hv=>?_) (λC b H' s'=>?_) (λb=>?_)
   ·simp only[t,aB]at o;refine⟨_,e1,?_⟩;refine eD.run w (λkd y u H2 s2 R2 z=>?_) (λC b H' s'=>?_) (λb=>?_)
    ·simp only[y,aB]at o;split at o
     ·rename_i B;split at o
      ·rename_i j F;split at o
       ·rename_i hn;have a:=m.trans s2;refine⟨p,xs,B,j,rfl,z.ofInt,a _ _ hl,by rw[l.length];exact F,?_⟩;exact o A _ _ ((R.step a).put g q e1 s (Iss.set (((hv.same s2.del).same az).dl (R.step a).lsA hn) j (l.same a.del)))
       ·exact o.elim
      ·exact o.elim
     ·exact o.elim
    ·simp only[b,nJ]at o;exact o H' (R.same.trans (m.trans s'))
    ·simp only[b,og]at o;exact o
   ·simp only[b,nJ]at o;exact o H' (R.same.trans s')
   ·simp only[b,og]at o;exact o
  ·exact o.elim
def F9(O:List Nat)(i:Nat)(g:Ds->Rs PyData):Ds->Sr:=λδ=>match δ[i]? with
 |some (some (.list ds))=>ofR (g (mask O δ)) λd=>match d with
  |.list es=>if ds.length+es.length<=1000000 then .nx (δ.set i (some (.list (ds++es)))) else .no
  |_=>.no
 |_=>.no
theorem Gx{m f:Pos}(h:PD X E e ga)(u:i∈O)(hi:X.N[i]?=some x)(hv:Vis X.env.scope x)
  (hd:(x==("__debug__":Str))=false) (n:(x==("__classdict__":Str))=false) (g:starEach [e] X.env=(false,eval e X.env)::starEach [] X.env)
  (a:attributeBase (.Name x pn) "extend" X.env (eval (.Name x pn) X.env)=eval (.Name x pn) X.env)
  (j:((backTo f (starEach [e] X.env)).all (λx=>!x.1)&&(backToKw f (keywordEach [] X.env)).all (λx=>x.1.isSome)&&decide (([e]:List Expr).length+([]:List Keyword).length+(if ([]:List Keyword).isEmpty then 0 else 1)<30))=true)
  (c:(m.endLine==f.line)=true) (y:swapsWith (.Call (.Attribute (.Name x pn) "extend" m) [e] [] f) none pos.line X.env=pure false) :
  PSD X E O (.Expr (.Call (.Attribute (.Name x pn) "extend" m) [e] [] f) pos) (F9 O i ga) :=
 (lQ (Ag F.plainAttrs_list F.slot_list_extend F.type_list_extend AU (kE hi hv hd n) (eV h gJ g) a j c g rfl) y).imp λD σ H r=>by
  obtain⟨H0,A0,A,δ,R,o⟩:=r;unfold F9 at o;split at o
  ·rename_i ds q;obtain⟨p,xs,ds',e1,z,hl,e2,w⟩:=R.ownL u q;cases e2;refine⟨_,e1,tyL hl,?_⟩;refine eD.run R.part (λd B v H1 s R1 hv=>?_) (λC t H' s'=>?_) (λt=>?_)
   ·simp only[B,aB]at o;split at o
    ·rename_i es;split at o
     ·rename_i hz;obtain⟨b,zs,rfl,G,l⟩:=hv.ofLst;refine⟨p,b,xs,zs,rfl,rfl,s _ _ hl,az _ _ G,by rw[w.length,l.length,sizeLine_eq];omega,?_⟩;exact o A _ _ ((R.step s).put u q e1 z ((w.same s.del).append l))
     ·exact o.elim
    ·exact o.elim
   ·simp only[t,nJ]at o;exact o H' (R.same.trans s')
   ·simp only[t,og]at o;exact o
  ·exact o.elim
structure rR(K:W.Frag)(mg:Str->Option Value)(x:Str)(C:Addr):Prop where
 m:mg x=some (.ref C)
 e:W.excIn K C [.type "ValueError",.type "Exception",.type "BaseException",.type "object"] "ValueError.__new__"=true
def jh(C:Addr)(gs:Ds->Rs #[5]):Ds->Sr:=λδ=>ofR (gs δ) λ_=>.rz C
theorem Bx{i:Pos}(hc:X.calm=true)(M:yr X E)(g:rR X.K X.mg x C)(ha:PAD X E (e::es) gs)(hl:(e::es).length<=1000)(j:Gl X x)
  (a:(x==("__debug__":Str))=false) (l:starEach (e::es) X.env=(false,eval e X.env)::starEach es X.env) (b:(backTo cpos #[23]).any (·.1)=false) :
  PSD X E O (.Raise (some (.Call (.Name x i) (e::es) [] cpos)) none pos) (jh C gs) :=
 (Eb hc M F.excBase_ValueError j g.m g.e ha.1 a l b).imp λD σ H c=>by
  obtain⟨H0,A0,A,δ,R,o⟩:=c;unfold jh at o;refine aD.run R.full (λds h vs H1 n R1 hv=>?_) (λC f H' s'=>?_) (λf=>?_)
  ·simp only[h,aB]at o;exact⟨by rw[hv.length,ha.2 δ ds h,sizeLine_eq];omega,o H1 (R.same.trans n)⟩
  ·simp only[f,nJ]at o;exact o H' (R.same.trans s')
  ·simp only[f,og]at o;exact o
end
section
theorem ml{f:Addr}{k:Nat}(F:Fun K x qual st f fd)(S:dk N ps (aE st))(len:∀vs H Q E,sp vs H Q E->vs.length=ps.length)
  (a:∀(cdv:Value)(A:Around)(outer:List Env)(s:Shared)(H:Hp)(vs:List V)(Q:VK)(E:XK),cm k (A.deeper (envOfC qual (aE st) s.heap.objs.size f cdv))->sp vs H Q E ->
   ∃t,PSs (dF CX P w K mg base N qual (aE st) f cdv A outer s H E) (cf st) t/\t { nx:=λ_ H'=>Q .non H',rt:=Q } (start N vs) H):gU P w K mg base CX (k+1) f fd ps sp:=by
 obtain⟨oc,od,kV,doc,pm,an,cdv,ct,osl,rfl,e,b⟩:=F.ex;exact Dq e b S len λA outer s H vs Q E g c=>a cdv A outer s H vs Q E g c
def bo:Sr->Rs PyData
 |.rt d=>.ok d
 |.nx _=>.ok .none
 |.rz C=>.rz C
 |_=>.no
theorem JS{f:Addr}{A:Around}:yr #[10] E :=
 λ_ _ _ _ _ _ _ _ I a b=>xA (CX:=CX0) I a b
theorem bX.start(f:Ls H A0)(hi:Iss K (del H A0) ds vs)(hl:ds.length=ps.length)(c:∀i∈O,ps.length<=i) :
  bX K H A0 H [] O #[7] (L2.start N vs):=by
 have hv:=hi.length;have at':∀(i:Nat) d,#[7][i]?=some (some d)->i<ds.length/\ds[i]?=some d:=λi d e=>by
  by_cases h:i<ds.length
  ·rw[N5 (by simpa using h),MP]at e;refine⟨h,?_⟩;cases q:ds[i]? with
   |none=>rw[q]at e;cases e
   |some z=>rw[q]at e;simp at e;rw[e]
  ·rw[N6 (by simpa using h),OA]at e;split at e <;> cases e
 refine⟨ax.refl _,f,(λa h=>by cases h),(λa h=>by cases h),?_,λi d _ e=>?_,λi d h e=>?_,λi j d e a h _ q _ _ _=>?_⟩
 ·unfold L2.start;simp[hv,hl]
 ·obtain⟨b,e⟩:=at' i d e;obtain⟨v,g,hd⟩:=hi.getD e;refine⟨v,?_,hd⟩;unfold L2.start;rw[N5 (by simp;omega),MP,g];rfl
 ·obtain⟨b,_⟩:=at' i d e;exact absurd (c i h) (by omega)
 ·obtain⟨b,_⟩:=at' i d q;exact absurd (c i h) (by omega)
theorem iO.of{f:Addr}{k:Nat}{G:Ds->Sr}(F:Fun K x qual st f fd)(S:dk N ps (aE st))(b:Binds K fd ps [])(m:mg x=some (.ref f))(e:∀i∈O,ps.length<=i)
  (body:∀(cdv:Value)(A:Around)(outer:List Env)(s:Shared)(H:Hp)(E:XK),cm k (A.deeper (envOfC qual (aE st) s.heap.objs.size f cdv))->PBD (dF (CXW P w) P w K mg base N qual (aE st) f cdv A outer s H E) E O (cf st) G)
  (g:∀ds,ds.length=ps.length->gf ds≠.no->bo (G #[7])=gf ds):iO P w K mg base (k+1) x ps.length gf:=by
 refine⟨f,fd,ps,ml F S (λvs H Q E h=>?_) (λcdv A outer s H vs Q E j h=>?_),m,F.kp,b⟩
 ·obtain⟨A,ds,c,hi,hl,o⟩:=h;rw[hi.length,hl]
 ·obtain⟨A0,ds,c,hi,hl,o⟩:=h;refine⟨_,body cdv A outer s H E j,H,A0,[],_,bX.start c hi hl e,?_⟩;have a:=g ds hl (λz=>by rw[z]at o;exact o);cases q:G #[7] with
  |rt d=>rw[q]at a;rw[<-a]at o;exact λv H' s' hv=>o v H' s' hv
  |nx δ=>rw[q]at a;rw[<-a]at o;exact λA' σ H' l=>o .non H' l.same is_none
  |rz C=>rw[q]at a;rw[<-a]at o;exact λH' s'=>o H' s'
  |bk δ=>rw[q]at a;rw[<-a]at o;exact o.elim
  |ct δ=>rw[q]at a;rw[<-a]at o;exact o.elim
  |no=>rw[q]at a;rw[<-a]at o;exact o.elim
theorem iO.old{f:Addr}{k:Nat}(F:gU P w K mg base CX0 k f fd ps sp)(m:mg x=some (.ref f))(kp:W.keepIn K (.ref f)=true)(b:Binds K fd ps [])
  (h:∀ds,ds.length=ps.length->gf ds≠.no->∃d,gf ds=.ok d/\gm d=true/\∀vs H Q,Iss K H ds vs->(∀v H',ax H H'->IsD K H' d v->Q v H')->sp vs H Q E0):iO P w K mg base k x ps.length gf:=by
 refine⟨f,fd,ps,⟨λvs H Q E h'=>?_,λA outer s H args us vs Q E j l n hv h'=>?_⟩,m,kp,b⟩
 ·obtain⟨A,ds,g,hi,hl,o⟩:=h';rw[hi.length,hl]
 ·obtain⟨A0,ds,g,hi,hl,o⟩:=h';obtain⟨d,e,i,c⟩:=h ds hl (λz=>by rw[z]at o;exact o);rw[e]at o;refine codeAny_mono (F.run A outer s H args us vs Q E0 j l n hv (c vs H Q (hi.same az) λv H' s' hd=>o v H' s' ((hd.is i).dl (g.same s') (yP i)))) λr s' a=>?_
  cases r with
  |error ev=>exact False.elim a
  |ok fl =>
   cases fl with
   |ret u=>exact a
   |next=>exact False.elim a
   |brk=>exact False.elim a
   |cont=>exact False.elim a
end
open AutoSeq1 (wpAny_loadPart')
theorem n6:fillsNumberSlot (.type "tuple") "mul"=pure false :=
 PySem.fillsNumberSlot_seq (id:="tuple.__mul__") (r:=some (.builtin "tuple.__rmul__")) F.slot_tuple_mul.lookup (by decide +kernel) F.slot_tuple_rmul.lookup (by decide +kernel)
theorem vz:seqRepeat? (.type "tuple")=pure (some (.builtin "tuple.__mul__")):=by unfold seqRepeat?;rw[PySem.seqSlot_of (T:="tuple") (name:="__mul__") (id:="tuple.__mul__") F.slot_tuple_mul.lookup (by decide +kernel),PySem.seqSlot_of (T:="tuple") (name:="__rmul__") (id:="tuple.__rmul__") F.slot_tuple_rmul.lookup (by decide +kernel)];rfl
theorem u0(a:Int)(t:Tok)(l:Addr)(items:Array Value)(n:Nat)(dd:Option Addr)(b:Array (Option Value)) :
  Meets (Builtin.«int.__rmul__» ⟨[.int a t,.ref l],[]⟩) (λ_ R s=>s.heap.get? l=some { cls:=.type "tuple",dict:=dd,data:=.seq items n,slots:=b }/\R (.ok (.ret Value.notImplemented)) s) :=
 .of_wp λprog w A R s h=>by obtain⟨hp,g,d,tk,os⟩:=s;obtain⟨hl,h⟩:=h;wp_walk;exact⟨_,rfl,h⟩
theorem Dh(l:Addr)(items:Array Value)(n:Nat)(x:Int)(u:Tok)(dd:Option Addr)(a:Array (Option Value))(h1:(decide (x < -(2 ^ 63))||decide (x≥2 ^ 63))=false)(h2:(items.isEmpty||x==1)=false)(h3:(decide (x<=0)||items.isEmpty)=false)
  (b:decide ((items.size:Int)*x>(2 ^ 63-1) / 8)=false) (h5:Builtin.Tuple.tupleTooMany ((items.size:Int)*x)=false) (hsz:(List.foldl (λx1 x2=>x1++x2) #[] (List.replicate x.toNat items)).size<=sizeLine) :
  Meets (Builtin.«tuple.__mul__» ⟨[.ref l,.int x u],[]⟩) (λ_ R s=>s.heap.get? l=some { cls:=.type "tuple",dict:=dd,data:=.seq items n,slots:=a }/\R (.ok (.ret (Value.ref s.heap.objs.size))) { s with heap:=s.heap.push { cls:=Value.type "tuple",data:=Data.seq (List.foldl (λx1 x2=>x1++x2) #[] (List.replicate x.toNat items)) } }) :=
 .of_wp λprog w A R s h=>by
  obtain⟨hp,g,d,tk,os⟩:=s;obtain⟨hl,h⟩:=h;have f1:=AutoSeq1.idx_int;have f2:=AutoSeq1.sub_tuple_tuple
  wp_walk using wpAny_loadPart' hl
  refine wpAny_ite_false (by rw[h1];rfl) ?_
  wp_walk using wpAny_loadPart' hl
  refine wpAny_ite_false b ?_
  wp_walk using wpAny_loadPart' hl
  exact⟨_,rfl,h⟩
section
variable {a b c:Expr}{ga gb gc:Ds->Rs PyData}
def HK(K:W.Frag):R2:=λx y H Q=>∃l k xs,x=.ref l/\y=.int k/\SqT K H l xs/\xs≠[]/\2<=k/\k<1000000/\xs.length*k.toNat<=1000000/\∀p,H p=none->Q (.ref p) (upd H p (.tup (List.replicate k.toNat xs).flatten))
theorem Gd:OpR X (binaryOp .Mult) (HK X.K):=by
 intro pins s σ H x y v u Q I m p h;obtain⟨l,k,xs,rfl,rfl,hl,i,hk1,hk2,w,q⟩:=h;cases m;obtain⟨t,rfl⟩:=p;obtain⟨a,r,p1,_⟩:=I.tuple hl;obtain⟨⟨cls,dd,data,j⟩,g,hc,n,hd⟩:=id p1;simp only at hc hd;subst hc hd;have hlen:=r.length;have e:a≠[]:=λz=>i (r.nil_iff.mp z)
 have hpos:0<a.length:=NL.mpr e;have c:List.foldl (λx1 x2=>x1++x2) #[] (List.replicate k.toNat a.toArray)=(List.replicate k.toNat a).flatten.toArray:=by have:=foldl_rep a k.toNat [];rw[Nn]at this;exact this
 have f:a.toArray.isEmpty=false:=by simp[e]
 have hmul:(a.length:Int)*k<=1000000:=by
  have e1:((a.length*k.toNat:Nat):Int)=(a.length:Int)*k:=by rw[Int.natCast_mul,O7 (by omega)]
  rw[<-e1,<-hlen];omega
 have hsz2:(List.replicate k.toNat a).flatten.length<=1000000:=by rw[len_rep,Nat.mul_comm,<-hlen];exact w
 refine wpAny_binaryOp_repeat_ref (T:="tuple") (U:="int") #[2] ⟨_,g,rfl⟩ (λs'=>typeIs_int s' k t) n6 F.fills_int_mul F.slot_int_rmul vz F.slot_int_index.lookup
  (call_meets F.slot_int_rmul (typeIs_int s k t) F.entry_int_rmul (F.args_int_rmul_2 _ _) (u0 k t l a.toArray n dd j)
   ⟨g,rfl,⟨_,g,rfl⟩,call_meets F.slot_tuple_mul ⟨_,g,rfl⟩ F.entry_tuple_mul (F.args_tuple_mul_2 _ _) (Dh l a.toArray n k t dd j ?_ ?_ ?_ ?_ ?_ ?_) ⟨g,?_⟩⟩)
 ·rw[decide_eq_false (by omega),decide_eq_false (by omega)];rfl
 ·rw[f,Bool.false_or];simp;omega
 ·rw[f,Bool.or_false];exact decide_eq_false (by omega)
 ·rw[MO];exact decide_eq_false (by omega)
 ·rw[MO];unfold Builtin.Tuple.tupleTooMany;rw[sizeLine_eq];exact decide_eq_false (by omega)
 ·rw[c,MO,sizeLine_eq];omega
 ·rw[c];refine⟨.ref s.heap.objs.size,_,I.laid (t':=s.toks) (o:=.tup (List.replicate k.toNat xs).flatten) (λb ob q=>M4 _ q) (My _) ?_,rfl,q _ (I.hok.fresh (My _))⟩;exact⟨by rw[len_rep,Nat.mul_comm,sizeLine_eq];omega,_,r.rep k.toNat,uW.new _ _⟩
def fE:PyData->PyData->Option PyData
 |.int i,.int j=>if (-(2 ^ 64)<i/\i<2 ^ 64)\/(-(2 ^ 64)<j/\j<2 ^ 64) then some (.int (i*j)) else none
 |.list x,.int k=>if 0<=k/\k<1000000/\x.length*k.toNat<=1000000 then some (.list (List.replicate k.toNat x).flatten) else none
 |.tuple x,.int k=>if x≠[]/\2<=k/\k<1000000/\x.length*k.toNat<=1000000 then some (.tuple (List.replicate k.toNat x).flatten) else none
 |_,_=>none
theorem FJ:OpD K fE (λx y H Q=>rI FN (λi j=>.int (i*j)) x y H Q\/Ll x y H Q\/HK K x y H Q):=λd1 d2 d x y H A Q e f h1 h2 k=>by
 unfold fE at e;split at e
 ·split at e
  ·rename_i z;cases e;exact .inl ⟨_,_,h1.ofInt,h2.ofInt,z,k _ H (ax.refl _) bN⟩
  ·cases e
 ·split at e
  ·rename_i z;cases e;obtain⟨p,xs,rfl,c,a⟩:=h1.ofLst;exact .inr (.inl ⟨p,_,xs,rfl,h2.ofInt,az _ _ c,by omega,by omega,by rw[a.length,sizeLine_eq];omega,λr b=>k _ _ (bH b) (kY f b (a.rep _))⟩)
  ·cases e
 ·split at e
  ·rename_i z;cases e;obtain⟨p,xs,rfl,c,a⟩:=h1.ofTup;refine .inr (.inr ⟨p,_,xs,rfl,h2.ofInt,SqT.of (az _ _ c),λq=>z.1 ?_,z.2.1,z.2.2.1,by rw[a.length];exact z.2.2.2,λr b=>k _ _ (bH b) (mO f b (a.rep _))⟩);exact O9.mp (by rw[<-a.length,q];rfl)
  ·cases e
 ·cases e
theorem Iq(ha:PD X E a ga)(c:PD X E b gb):PD X E (.BinOp a .Mult b pos) (g2 fE ga gb):=ic FJ ha c (fu (mX.or (Jn.or Gd)))
end
section
variable {A:Around}{E:Value->Shared->Prop}
theorem k8{i j:Value}(a:IsTup s.heap t items)(l:s.heap.IsSliceOf c i j .none)(pl:IsPart i lo)(n:IsPart j hi)
  (hw:HT.sIx items.size 0 lo=0/\HT.sIx items.size items.size hi=items.size) (h:Q (.ref t) s):wpAny #[26] A (getItem (.ref t) (.ref c)) Q E s:=by
 obtain⟨os,e,f,hds⟩:=id l;have g:s.TypeIs (.ref c) "slice":=⟨os,e,f⟩
 unfold getItem
 try with_reducible refine wpAny_holding ?_
 first|refine wpAny_bind (wpAny_pure ?_)|skip
 refine wpAny_bind (wpAny_sequenceKey a.typeIs #[2] ?_);refine wpAny_bind (wpAny_callSpecial?_slot (name:=Str.ofString "__getitem__") a.typeIs PyProof.Rows.slot_tuple_getitem
  (wpAny_call_entry PyProof.Rows.slot_tuple_getitem a.typeIs entry_tuple_getitem ?_ (args_tuple_getitem _ _)))
 show wpAny _ _ (Builtin.Tuple.tupleItemsOf (.ref t) >>= _) _ _ s;refine wpAny_bind (tupleItemsOf_ a ?_);refine wpAny_bind (wpAny_typeOf g ?_);rw[if_pos #[2]];refine wpAny_bind (HT.ja l pl n ?_);have b:(((HT.sIx items.size 0 lo:Nat):Int)==0&&(1:Int)==1&&(HT.sIx items.size items.size hi-HT.sIx items.size 0 lo)==items.size)=true:=by rw[hw.1,hw.2];simp
 show wpAny _ _ (if (((HT.sIx items.size 0 lo:Nat):Int)==0&&(1:Int)==1&&(HT.sIx items.size items.size hi-HT.sIx items.size 0 lo)==items.size)=true then _ else _) _ _ s;rw[if_pos b];refine wpAny_bind (m:=Builtin.Tuple.tupleIsExact (.ref t)) (wpAny_bind (wpAny_typeOf a.typeIs (wpAny_pure ?_)));rw[if_pos #[2]]
 first
  |exact wpAny_bind (wpAny_rule (wpAny_pure ⟨_,rfl,wpAny_pure h⟩))
  |(refine wpAny_bind (wpAny_rule ?_);trace_state;exact wpAny_pure ⟨_,rfl,wpAny_pure h⟩)
end
end L2
variable {δ:L2.Ds}{gf:List PyData->L2.Rs PyData}{gs gi src:L2.Ds->L2.Rs #[5]}{cond:L2.Ds->L2.Rs Bool}{tgt:PyData->Option L2.Ds}{ga gb:L2.Ds->L2.Rs PyData}
namespace L2
open PySem PySem.Spec PyProof.Rows
section
variable {E:XK}{a b c:Expr}{gc:Ds->Rs PyData}{es:List Expr}
def LF(K:W.Frag):V->Option Int->Option Int->Hp->VK->Prop:=λx lo hi H Q=>∃a xs,x=.ref a/\SqT K H a xs/\(HT.sIx xs.length 0 lo=0/\HT.sIx xs.length xs.length hi=xs.length)/\Q (.ref a) H
theorem Fm:SlR X (LF X.K):=by
 intro pins s σ H x v vl vu lo hi sl Q I e f pl g h;obtain⟨a,xs,rfl,i,hw,q⟩:=h;cases e;obtain⟨b,r,c,hz⟩:=I.tuple i;have hlen:b.toArray.size=xs.length:=by rw[MO,r.length]
 refine⟨"tuple",_,PyProof.Rows.slot_tuple_getitem.lookup,c.typeIs,?_⟩;exact k8 c f pl g (by rw[hlen];exact hw) ⟨.ref a,H,I,rfl,q⟩
def cutD(xs:List PyData)(lo hi:Option Int):List PyData:=(xs.drop (HT.sIx xs.length 0 lo)).take (HT.sIx xs.length xs.length hi-HT.sIx xs.length 0 lo)
def Hh:PyData->Option Int->Option Int->Option PyData
 |.list x,lo,hi=>some (.list (cutD x lo hi))
 |.tuple x,lo,hi=>some (.tuple (cutD x lo hi))
 |_,_,_=>none
def Dt:PyData->Rs (Option Int)
 |.int i=>.ok (some i)
 |_=>.no
def cw:Ds->Rs (Option Int):=λ_=>.ok none
def c9(g:Ds->Rs PyData):Ds->Rs (Option Int):=λδ=>(g δ).bind Dt
def L9(E:XK)(H:Hp)(r:Rs (Option Int))(Q:Option Int->Hp->Prop):Prop:=match r with
 |.ok o=>∀H',ax H H'->Q o H'
 |.rz C=>∀H',ax H H'->E (.ref C) none H'
 |.no=>False
def oD(K:W.Frag)(E:XK)(g:Ds->Rs (Option Int)):TO:=λσ H Q=>∃A δ,dR K H A δ σ/\L9 E H (g δ) Q
def POD(X:Cx)(E:XK)(e:Option Expr)(g:Ds->Rs (Option Int)):Prop:=PO X e (oD X.K E g)
theorem PO.imp{e:Option Expr}{t t':TO}(h:PO X e t)(k:∀σ H Q,t' σ H Q->t σ H Q):PO X e t':=λpins s σ H Q I q=>h pins s σ H Q I (k σ H Q q)
theorem DY:POD X E none cw:=Ga.imp λσ H Q a=>(by obtain⟨A,δ,R,o⟩:=a;exact o H (ax.refl _))
theorem Co(h:PD X E e ga):POD X E (some e) (c9 ga):=(FT h).imp λσ H Q ⟨A,δ,R,o⟩=>⟨A,δ,R,by
 unfold c9 at o;cases q:ga δ with
 |no=>rw[q]at o;exact o
 |rz C=>rw[q]at o;exact o
 |ok d =>
  rw[q]at o;cases d with
  |int i=>exact λv H' s h=>⟨i,h.ofInt,o H' s⟩
  |_=>exact o.elim⟩
theorem oD.run{g:Ds->Rs (Option Int)}{Q:Option Int->Hp->Prop}(R:dR K H A δ σ)
  (ok:∀d,g δ=.ok d->∀H',ax H H'->dR K H' A δ σ->Q d H') (rz:∀C,g δ=.rz C->∀H',ax H H'->E (.ref C) none H') (no:g δ=.no->False):oD K E g σ H Q:=by
 refine⟨A,δ,R,?_⟩;cases e:g δ with
 |ok d=>exact λH' s=>ok d e H' s (R.same s)
 |rz C=>exact λH' s=>rz C e H' s
 |no=>exact no e
def cy(g:Ds->Rs PyData)(lo hi:Ds->Rs (Option Int)):Ds->Rs PyData:=λδ=>(g δ).bind λd=>(lo δ).bind λl=>(hi δ).bind λh=>Rs.eF (Hh d l h)
theorem Iss.cut(h:Iss K H ds vs)(lo hi:Option Int):Iss K H (cutD ds lo hi) (vM vs lo hi):=by unfold cutD vM;rw[h.length];exact (h.drop _).take _
theorem DV{lo hi:Option Expr}{n r:Ds->Rs (Option Int)}{p2:Pos}(u:PD X E e ga)(hl:POD X E lo n)(w:POD X E hi r):PD X E (.Subscript e (.Slice lo hi none p2) pos) (cy ga n r) :=
 (CD (GG.or (HX.or Fm)) u hl w).imp λσ H Q j=>by
  obtain⟨A,δ,R,o⟩:=j;unfold cy at o;refine eD.run R (λd x v H1 m y hv=>?_) (λC a H' s'=>by rw[a]at o;exact o H' s') (λa=>by rw[a]at o;exact o);simp only[x,Rs.ag]at o;refine oD.run y (λl z H2 s2 R2=>?_) (λC a H' s'=>by rw[a]at o;exact o H' (m.trans s')) (λa=>by rw[a]at o;exact o);simp only[z,Rs.ag]at o;refine oD.run R2 (λh B H3 s t=>?_) (λC a H' s'=>by rw[a]at o;exact o H' (m.trans (s2.trans s'))) (λa=>by rw[a]at o;exact o);simp only[B,Rs.ag]at o;have f:=hv.same (s2.trans s).del;have b:=m.trans (s2.trans s);cases d with
  |list ds =>obtain⟨p,xs,rfl,g,c⟩:=f.ofLst;exact .inl ⟨p,xs,rfl,SqL.of (az _ _ g),λq i=>o _ _ (b.trans (bH i)) (kY t.ls i (c.cut l h))⟩
  |tuple ds =>
   obtain⟨p,xs,rfl,g,c⟩:=f.ofTup;by_cases hw:HT.sIx xs.length 0 l=0/\HT.sIx xs.length xs.length h=xs.length
   ·refine .inr (.inr ⟨p,xs,rfl,SqT.of (az _ _ g),hw,o _ _ b ?_⟩);have e:cutD ds l h=ds:=by unfold cutD;rw[<-c.length,hw.1,hw.2];simp[c.length]
    show Is X.K _ (.tuple (cutD ds l h)) _;rw[e];exact iS g c
   ·exact .inr (.inl ⟨p,xs,rfl,SqT.of (az _ _ g),hw,λq i=>o _ _ (b.trans (bH i)) (mO t.ls i (c.cut l h))⟩)
  |_=>exact o.elim
def toV:PyData->V
 |.none=>.non
 |.bool b=>.bl b
 |.int i=>.int i
 |.str x=>.str x
 |_=>.non
def inD(x:PyData)(xs:List PyData):Bool:=inV (toV x) (xs.map toV)
def pz(neg:Bool):PyData->PyData->Option PyData
 |x,.list xs=>if gm x&&xs.all gm then some (.bool (if neg then !inD x xs else inD x xs)) else none
 |x,.tuple xs=>if gm x&&xs.all gm then some (.bool (if neg then !inD x xs else inD x xs)) else none
 |_,_=>none
theorem Is.flat{d:PyData}(h:Is K H d v)(f:gm d=true):v=toV d/\jS v=true:=by
 cases d with
 |none=>rw[h.ofNone];exact⟨rfl,rfl⟩
 |bool b=>rw[h.ofBool];exact⟨rfl,rfl⟩
 |int i=>rw[h.ofInt];exact⟨rfl,rfl⟩
 |str x=>rw[h.ofStr];exact⟨rfl,rfl⟩
 |_=>cases f
theorem Iss.flat{K:W.Frag}{H:Hp}:∀{ds:List PyData}{vs:List V},Iss K H ds vs->ds.all gm=true->vs=ds.map toV/\vs.all jS=true
 |[],_,h,_=>by rw[h.nil_of];exact⟨rfl,rfl⟩
 |d::ds,_,h,f=>by rw[Oi,M9]at f;obtain⟨v,r,rfl,h1,h2⟩:=h.cons_of;obtain⟨e1,f1⟩:=h1.flat f.1;obtain⟨e2,f2⟩:=Iss.flat h2 f.2;exact⟨by rw[e1,e2];rfl,by rw[Oi,f1,f2];rfl⟩
theorem EW{neg:Bool}:OpD K (pz neg) (rIn K neg):=λd1 d2 d x y H A Q e hA h1 h2 k=>by
 unfold pz at e;split at e
 ·split at e
  ·rename_i z;rw[M9]at z;cases e;obtain⟨p,xs,rfl,a,b⟩:=h2.ofLst;obtain⟨e1,f1⟩:=h1.flat z.1;obtain⟨e2,f2⟩:=b.flat z.2;refine⟨p,xs,rfl,.inl (SqL.of (az _ _ a)),f1,f2,?_⟩;rw[e1,e2];exact k _ H (ax.refl _) is_bool
  ·cases e
 ·split at e
  ·rename_i z;rw[M9]at z;cases e;obtain⟨p,xs,rfl,a,b⟩:=h2.ofTup;obtain⟨e1,f1⟩:=h1.flat z.1;obtain⟨e2,f2⟩:=b.flat z.2;refine⟨p,xs,rfl,.inr (SqT.of (az _ _ a)),f1,f2,?_⟩;rw[e1,e2];exact k _ H (ax.refl _) is_bool
  ·cases e
 ·cases e
theorem Lc(ha:PD X E a ga)(c:PD X E b gb)(hm:behindInMarks .In b=false):PD X E (.Compare a [.In] [b] pos) (g2 (pz false) ga gb):=ic EW ha c λh1 h2=>pD tO h1 h2 hm
theorem JU(ha:PD X E a ga)(c:PD X E b gb)(hm:behindInMarks .In b=false):PCD X E (.Compare a [.In] [b] pos) (gT (g2 (pz false) ga gb)):=jI EW ha c λh1 h2=>iF tO h1 h2 hm
def n8(f e:PyData->PyData->Option PyData)(a b c:Ds->Rs PyData):Ds->Rs PyData:=λδ=>(a δ).bind λx=>(b δ).bind λy=>(Rs.eF (f x y)).bind λz=>(truth z).bind λt=>if t=true then (c δ).bind λw=>Rs.eF (e y w) else .ok (.bool false)
theorem Dw{g:CmpOp}{r p:R2}{f i:PyData->PyData->Option PyData}(y:OpR X (compareOp op) r)(l:OpR X (compareOp g) p)(B:OpD X.K f r)(m:OpD X.K i p)(ha:PD X E a ga)(D:PD X E b gb)(hc:PD X E c gc)
  (hm:lastMarks [op,g] [b,c]=false:=by with_unfolding_all rfl):PD X E (.Compare a [op,g] [b,c] pos) (n8 f i ga gb gc):=(Ef y l ha D hc hm).imp λσ H Q n=>by
 obtain⟨A,δ,R,o⟩:=n;unfold n8 at o;refine eD.run R (λd1 e1 v H1 j F h1=>?_) (λC e H' s'=>by rw[e]at o;exact o H' s') (λe=>by rw[e]at o;exact o);simp only[e1,Rs.ag]at o;refine eD.run F (λd2 e2 u H2 s2 R2 h2=>?_) (λC e H' s'=>by rw[e]at o;exact o H' (j.trans s')) (λe=>by rw[e]at o;exact o);simp only[e2,Rs.ag]at o;cases e3:f d1 d2 with
 |none=>rw[e3]at o;exact o.elim
 |some z =>
  simp only[e3,Rs.ai,Rs.ag]at o;refine B d1 d2 z v u H2 A _ e3 R2.ls (h1.same s2.del) h2 λw G h h3=>?_
  obtain⟨t,rfl,o⟩:=qR o;refine⟨t,h3.ofBool,?_⟩;cases t with
  |false=>exact o _ G (j.trans (s2.trans h)) is_bool
  |true =>
   have o:iu X.K E A H ((gc δ).bind λw=>Rs.eF (i d2 w)) Q:=o;refine eD.run (R2.same h) (λq I J L s M N=>?_) (λC e H' s'=>by rw[e]at o;exact o H' (j.trans (s2.trans (h.trans s')))) (λe=>by rw[e]at o;exact o);simp only[I,Rs.ag]at o;cases e5:i d2 q with
   |none=>rw[e5]at o;exact o.elim
   |some d=>rw[e5]at o;exact m d2 q d u J L A Q e5 M.ls (h2.same (h.trans s).del) N λx O P S=>o x O (j.trans (s2.trans (h.trans (s.trans P)))) S
theorem Fu(ha:PD X E a ga)(e:PD X E b gb)(hc:PD X E c gc)(hm:lastMarks [.LtE,.LtE] [b,c]=false):PD X E (.Compare a [.LtE,.LtE] [b,c] pos) (n8 dLe dLe ga gb gc):=Dw zQ zQ (kD λ_ _ _ _=>is_bool) (kD λ_ _ _ _=>is_bool) ha e hc hm
end
def Itc(lo c:Int)(n:Nat):It:=⟨λi _=>i<n,λi H x H'=>H'=H/\x=.int (lo+i*c),λi _=>n<=i⟩
theorem xl(it:Addr)(lo c:Int)(n:Nat):Turn P w K tg (Itc lo c n) [it] it (λi h=>IsRangeIter h it (lo+(i:Nat)*c) ((n:Int)-(i:Nat)) c) where
 mem:=by simp
 obj:=λi h st b a=>by
  have e:b=it:=by simpa using a
  subst e;exact⟨_,st,λv z=>by have u:Data.fields _=Data.cell v:=z;cases u⟩
 keep:=λi h h' st k=>k it (by simp) _ st
 item:=by
  intro X j hw hK hc i pins s σ H E I g st l;subst j hw hK;obtain⟨m,f1,f2,p,q,r⟩:=g it (by simp);have W:=Walks.range (prog:=X.prog) (w:=X.w) (I.ok.hd hc) it lo c n;refine W.item i s _ _ l st λv h' tk hv f x=>?_
  obtain⟨t,rfl⟩:=hv;have y:Inv X pins σ H { s with heap:=h',toks:=tk }:=I.turned (λb o a e=>x b o (by simpa using a) e) m f1 p q r;exact⟨_,rfl,zY (s:={ s with heap:=h',toks:=tk }) (n:="range_iterator") f rfl rfl #[2] ⟨.int (lo+i*c),H,y,⟨t,rfl⟩,⟨rfl,rfl⟩,f,λb a=>(g b a).1⟩⟩
 done:=by intro X j hw hK hc i pins s σ H E I g st l;subst j hw hK;obtain⟨m,f1,f2,p,q,r⟩:=g it (by simp);exact wpAny_pyNext_range_end (I.ok.hd hc) st (by have:n<=i:=l;omega) λh' A=>⟨rfl,I.turned (t':=s.toks) (λb o a e=>A b o a e) m f1 p q r⟩
 self:=λ_ _ _ _ _ st h=>wpAny_pyIter_rangeiter st h
section
variable {E:XK}{a b c:Expr}
def yU(i j c:Int):Nat:=(Builtin.Range.rangeSize i j c).toNat
theorem uy(a b c:Int):0<=Builtin.Range.rangeSize a b c:=by
 unfold Builtin.Range.rangeSize;split
 ·split
  ·rename_i h1 h2;have:0<=(b-a-1) / c:=Int.ediv_nonneg (by omega) (by omega);omega
  ·omega
 ·split
  ·rename_i h1 h2;by_cases hc:c=0
   ·subst hc;simp
   ·have:0<=(a-b-1) / (-c):=Int.ediv_nonneg (by omega) (by omega);omega
  ·omega
noncomputable def pV(i j c:Int):Bool:=decide (-(1000000)<=i/\i<=1000000/\-(1000000)<=j/\j<=1000000/\-(1000000)<=c/\c<=1000000/\c≠0)&&Builtin.Range.small i j c
def Lb(ta:TA):TI:=λσ H R=>ta σ H λvs H1=>∃i j c:Int,vs=[.int i,.int j,.int c]/\pV i j c=true/\R (Itc i c (yU i j c)) H1
theorem BD(v:Gl X "range")(hm:X.mg "range"=none)(ha:PA X [a,b,c] ta)(w:starEach [a,b,c] X.env=[(false,eval a X.env),(false,eval b X.env),(false,eval c X.env)]:=by rfl)(m:starEach [b,c] X.env=[(false,eval b X.env),(false,eval c X.env)]:=by rfl) :
  PI X tg (.Call (.Name "range" p) [a,b,c] [] pos) (Lb ta):=by
 intro pins s σ H R I h;refine Call_ (fS I v hm boot_range (PyProof.Rows.callWith_type1 (thn (ha pos pins s σ H _ I h) λus g n=>?_) (by rw[w,m]) (by rw[m];rfl)));obtain⟨vs,H1,x,y,l⟩:=n;obtain⟨i,j,c,e,l,q⟩:=l;subst e;unfold pV at l;rw[M9]at l;have z:=of_decide_eq_true l.1;cases y with
 |cons r rr =>
  cases rr with
  |cons r' rr =>
   cases rr with
   |cons r'' rr =>
    cases rr;obtain⟨t,rfl⟩:=r;obtain⟨t',rfl⟩:=r';obtain⟨f,rfl⟩:=r'';refine PySem.call_range_3 z.2.2.2.2.2.2 ?_ (.inl (PyProof.noPylong_small (by omega)));refine wpAny_pyIter_range (IsRange.new ..) l.2 ?_;have u:Inv X pins σ H1 { g with heap:=g.heap.push { cls:=.type "range",data:=.fields #[.int i t,.int j t',.int c f] },toks:=g.toks }:=x.kept λb o e=>M4 _ e
    refine⟨(g.heap.push { cls:=.type "range",data:=.fields #[.int i t,.int j t',.int c f] }).objs.size,[(g.heap.push { cls:=.type "range",data:=.fields #[.int i t,.int j t',.int c f] }).objs.size],_,_,H1,rfl,
     u.kept (t':=g.toks) λb o e=>M4 _ e,xl _ i c (yU i j c),?_,λb A=>?_,q⟩
    ·have e1:i+((0:Nat):Int)*c=i:=by simp
     have e2:((yU i j c:Nat):Int)-((0:Nat):Int)=Builtin.Range.rangeSize i j c:=by have:=uy i j c;unfold yU;omega
     show IsRangeIter _ _ (i+((0:Nat):Int)*c) (((yU i j c:Nat):Int)-((0:Nat):Int)) c;rw[e1,e2];exact MU _ rfl
    ·have e:b=(g.heap.push { cls:=.type "range",data:=.fields #[.int i t,.int j t',.int c f] }).objs.size:=by simpa using A
     subst e;exact u.fpOk (My _) (u.hok.fresh (My _))
def ij(lo c:Int)(n:Nat):List PyData:=(List.range n).map λ(i:Nat)=>PyData.int (lo+(i:Int)*c)
theorem hW(lo c:Int)(n:Nat):(ij lo c n).length=n:=by simp[ij]
theorem wH{lo c:Int}:zu K (Itc lo c n) (ij lo c n) G:=λH1 B s _ hB=>by refine⟨λi hi=>by rw[hW]at hi;exact hi,by rw[hW];exact My _,λi x H2 hi y=>?_⟩;obtain⟨rfl,rfl⟩:=y;rw[hW]at hi;exact⟨ax.refl _,_,by simp[ij,hi],bN⟩
def Dj:List PyData->Rs #[5]
 |[.int i,.int j,.int c]=>if pV i j c then .ok (ij i c (yU i j c)) else .no
 |_=>.no
def Ax(g:Ds->Rs #[5]):Ds->Rs #[5]:=λδ=>(g δ).bind Dj
theorem Mr{d e f:PyData}(h:Iss K H [d,e,f] vs):∃v u w,vs=[v,u,w]/\Is K H d v/\Is K H e u/\Is K H f w:=by obtain⟨v,r,rfl,h1,h2⟩:=h.cons_of;obtain⟨u,w,rfl,h3,a⟩:=D8 h2;exact⟨v,u,w,rfl,h1,h3,a⟩
theorem xU(hm:X.mg "range"=none)(ha:PAD X E [a,b,c] gs)(i:Gl X "range")(j:starEach [a,b,c] X.env=[(false,eval a X.env),(false,eval b X.env),(false,eval c X.env)])(f:starEach [b,c] X.env=[(false,eval b X.env),(false,eval c X.env)]) :
  PID X E tg (.Call (.Name "range" p) [a,b,c] [] pos) (Ax gs):=(BD i hm ha.1 j f).imp λσ H R ⟨A,δ,Rp,o⟩=>vq Rp o λds vs H1 e s1 R1 h1 o=>by
 unfold Dj at o;split at o
 ·split at o
  ·rename_i z;obtain⟨v,u,w,rfl,h,h',g⟩:=Mr h1;rw[h.ofInt,h'.ofInt,g.ofInt];exact⟨_,_,_,rfl,z,o _ H1 (ax.refl _) wH⟩
  ·exact o.elim
 ·exact o.elim
def tLR(ta:TA):TE:=λσ H Q=>ta σ H λvs H1=>∃j:Int,vs=[.int j]/\0<=j/\j<=1000000/\∀p,H1 p=none->Q (.ref p) (upd H1 p (.lst ((List.range j.toNat).map λ(i:Nat)=>V.int (i:Int))))
theorem JC{s2:Shared}{Q:VK}{j:Int}{tk:Nat}{a:Array Value}{c':Nat}(c:Inv X pins σ H1 s2)(g:∀b o,s2.heap.get? b=some o->h'.get? b=some o)
 (hl:h'.get? s2.heap.objs.size=some { cls:=.type "list",dict:=none,data:=.seq a c',slots:=#[] }) (hi:ItemsOf (λi v=>∃t,v=.int ((0:Int)+(i:Int)*1) t) a j.toNat) (q1:0<=j) (q2:j<=1000000)
 (q:∀p,H1 p=none->Q (.ref p) (upd H1 p (.lst ((List.range j.toNat).map λ(i:Nat)=>V.int (i:Int))))):EP X pins σ Q (.ref s2.heap.objs.size) { s2 with heap:=h',toks:=tk }:=by
 have hv:Vals ((List.range j.toNat).map λ(i:Nat)=>V.int (i:Int)) a.toList:=by
  have aux:∀(l:List Value)(k:Nat),(∀(m:Nat) v,l[m]?=some v->∃t,v=.int ((0:Int)+((k+m:Nat):Int)*1) t)->Vals ((List.range' k l.length).map λ(i:Nat)=>V.int (i:Int)) l:=by
   intro l
   induction l with
   |nil=>intro k _;exact .nil
   |cons x r ih =>
    intro k f;rw[MW,OS,M5];refine .cons ?_ (ih (k+1) λm v hm=>?_)
    ·obtain⟨t,e⟩:=f 0 x rfl;exact⟨t,by rw[e];simp⟩
    ·obtain⟨t,e⟩:=f (m+1) v (by simpa using hm);exact⟨t,by rw[e,show k+(m+1)=k+1+m by omega]⟩
  have h1:=aux a.toList 0 (λm v hm=>by obtain⟨t,e⟩:=hi.2 m v (by rw[<-OE];exact hm);exact⟨t,by rw[e];simp⟩)
  rw[NJ,hi.1]at h1;rw[List.range_eq_range'];exact h1
 exact⟨.ref s2.heap.objs.size,_,c.laid (t':=tk) g (My _) (show dO X.prog X.w _ h' _ (.lst ((List.range j.toNat).map λ(i:Nat)=>V.int (i:Int))) from⟨by rw[M6,Od,sizeLine_eq];omega,a.toList,c',hv,by simpa using hl⟩),rfl,q _ (c.hok.fresh (My _))⟩
theorem vD{p2 c:Pos}(hc:X.calm=true)(v:Gl X "range")(hm:X.mg "range"=none)(g:Gl X "list")(i:X.mg "list"=none)(ha:PA X [a] ta)(w:starEach [a] X.env=[(false,eval a X.env)]:=by rfl)
  (f:starEach [.Call (.Name "range" p) [a] [] pos] X.env=[(false,eval (.Call (.Name "range" p) [a] [] pos) X.env)]:=by rfl) :
  PE X (.Call (.Name "list" p2) [.Call (.Name "range" p) [a] [] pos] [] c) (tLR ta):=by
 intro pins s σ H Q I h;refine Call_ (fS I g i vC (PyProof.Rows.callWith_type1 ?_ f rfl));rw[f];show wpAny _ _ (spliced ((false,eval (.Call (.Name "range" p) [a] [] pos) X.env)::backTo c [])) _ _ s;refine Calls.spliced_cons (Call_ (fS I v hm boot_range (PyProof.Rows.callWith_type1 (thn (ha pos pins s σ H _ I h) λus s1 l=>?_) w rfl)));obtain⟨vs,H1,u,x,m⟩:=l;obtain⟨j,e,m,y,q⟩:=m;subst e;cases x with
 |cons r rr =>
  cases rr;obtain⟨t,rfl⟩:=r;refine call_range_1 (Calls.spliced_nil ?_);have e2:Builtin.Range.rangeSize 0 j 1=((j.toNat:Nat):Int):=by rw[rangeSize_one];split <;> omega
  refine call_list_range (n:=j.toNat) (u.ok.hd hc) (IsRange.new ..) (small_one (by omega) (by omega) (by omega) (by omega)) e2 (by omega) λh' tk acc' c' z hl hi=>?_
  exact JC (u.kept λb o e=>M4 _ e) z hl hi m y q
def uT:List PyData->Rs #[5]
 |[.int j]=>if 0<=j/\j<=1000000 then .ok (bG 0 j.toNat) else .no
 |_=>.no
def gLR(g:Ds->Rs #[5]):Ds->Rs #[5]:=λδ=>(g δ).bind uT
theorem Bj{p2 b:Pos}(hc:X.calm=true)(hm:X.mg "range"=none)(c:X.mg "list"=none)(ha:PAD X E [a] gs)(r:Gl X "range")(f:Gl X "list")(s:starEach [a] X.env=[(false,eval a X.env)])
  (g:starEach [.Call (.Name "range" p) [a] [] pos] X.env=[(false,eval (.Call (.Name "range" p) [a] [] pos) X.env)]):PLD X E (.Call (.Name "list" p2) [.Call (.Name "range" p) [a] [] pos] [] b) (gLR gs) :=
 (vD hc r hm f c ha.1 s g).imp λσ H Q l=>by
  obtain⟨A,δ,R,o⟩:=l;unfold gLR at o;refine aD.run R (λds e vs H1 m R1 h1=>?_) (λC e H' s'=>by rw[e]at o;exact o H' s') (λe=>by rw[e]at o;exact o);simp only[e,Rs.ag]at o;unfold uT at o;split at o
  ·split at o
   ·rename_i j z;obtain⟨v,rfl,h⟩:=kZ h1;rw[h.ofInt];refine⟨j,rfl,z.1,z.2,λq n=>o q _ _ (m.free n) (m.trans (bH n)) aH ?_⟩;have:bG 0 j.toNat=((List.range j.toNat).map λ(i:Nat)=>(i:Int)).map PyData.int:=by unfold bG;rw[N4];congr 1;funext i;simp
    rw[this,show ((List.range j.toNat).map λ(i:Nat)=>V.int (i:Int))=((List.range j.toNat).map λ(i:Nat)=>(i:Int)).map V.int by rw[N4];rfl];exact vJ _
   ·exact o.elim
  ·exact o.elim
end
theorem vS(t:Addr)(xs:Array Value):Meets (Builtin.«enumerate.__new__» ⟨[.type "enumerate",.ref t],[]⟩) (λ_ R s=>s.heap.IsTuple t xs /\
   R (.ok (.ret (.ref (s.heap.push { cls:=.type "tuple_iterator",data:=.fields #[.ref t,.int 0 0] }).objs.size)))
    { s with heap:=(s.heap.push { cls:=.type "tuple_iterator",data:=.fields #[.ref t,.int 0 0] }).push { cls:=.type "enumerate",data:=.fields #[.none,.bool false,.ref s.heap.objs.size,rawInt 0,.none,.none] } }) :=
 .of_wp λprog w A R s h=>by
  obtain⟨a,g,d,tk,os⟩:=s;obtain⟨hl,h⟩:=h;have hsub:=sub_enumerate;have hL:Heap.IsTuple (Shared.heap ⟨a,g,d,tk,os⟩) t xs:=hl
  wp_walk
  refine wpAny_stack_any λst=>wpAny_pure ?_
  split
  ·rename_i c _ _ _ _ _;cases (c==Value.type "enumerate")
   ·wp_walk using wpAny_pyIter_tuple hL
    exact⟨_,rfl,h⟩
   ·wp_walk using wpAny_pyIter_tuple hL
    exact⟨_,rfl,h⟩
  ·wp_walk using wpAny_pyIter_tuple hL
   exact⟨_,rfl,h⟩
theorem yE{A:Around}{l:Addr}(hL:s.heap.IsTuple l items)
  (h:∀h',IsEnum h' (s.heap.objs.size+1) s.heap.objs.size 0 .none->h'.IsTupleIter s.heap.objs.size l 0->(∀b o,s.heap.get? b=some o->h'.get? b=some o)->Q (.ref (s.heap.objs.size+1)) { s with heap:=h' }) :
  wpAny #[26] A (call (.type "enumerate") [.ref l]) Q E s:=by
 refine callType_new F.called_enumerate #[2] (F.typeCall_enumerate_1 _) (F.newCall_enumerate_1 _) (λobj=>F.args_object_init_2 obj _) F.entry_enumerate_new (vS l items) ⟨hL,?_⟩;have a:(s.heap.push { cls:=.type "tuple_iterator",data:=.fields #[.ref l,.int 0 0] }).objs.size=s.heap.objs.size+1:=Heap.size_push ..;show _/\_;rw[a];have c:IsEnum ((s.heap.push { cls:=.type "tuple_iterator",data:=.fields #[.ref l,.int 0 0] }).push
   { cls:=.type "enumerate",data:=.fields #[.none,.bool false,.ref s.heap.objs.size,rawInt 0,.none,.none] }) (s.heap.objs.size+1) s.heap.objs.size 0 .none:=by
  have:=MU (s.heap.push { cls:=.type "tuple_iterator",data:=.fields #[.ref l,.int 0 0] })
   (o:={ cls:=.type "enumerate",data:=.fields #[.none,.bool false,.ref s.heap.objs.size,rawInt 0,.none,.none] }) rfl
  rw[a]at this;exact this
 refine⟨⟨_,c,rfl⟩,h _ c ⟨_,M4 _ (MU _ rfl),rfl,rfl⟩ λb o e=>M4 _ (M4 _ e)⟩
def Ite(P:Hp->List V->Prop)(n:Nat):It :=
 ⟨λi H=>i<n/\∃xs,P H xs/\xs.length=n,
  λi H v H'=>∃t x,v=.ref t/\H t=none/\H'=upd H t (.tup [.int i,x])/\∀xs,P H xs->xs[i]?=some x,
  λi H=>i=n/\∃xs,P H xs/\xs.length=n⟩
theorem tT{e:Addr}{r:Hp->List V->Prop}{S:Nat->Heap->Prop}{B:Heap->Array Value->Prop}(f:e≠it)(z:e≠a)
  (L:∀(A:Around),A.handled=none->∀b:Array Value,Draws P w A it [it,a] b.size (λi v=>b[i]?=some v) (λi h=>S i h/\B h b))
  (hB:∀(X:Cx),X.prog=P->X.w=w->X.K=K->∀{pins:List (Addr×Obj)}{s:Shared}{σ:St}{H:Hp}{xs:List V},Inv X pins σ H s->r H xs->∃b:List Value,Vals xs b/\B s.heap b.toArray)
  (Q:∀(X:Cx),X.prog=P->X.w=w->X.K=K->∀{pins:List (Addr×Obj)}{s:Shared}{σ:St}{H:Hp}{xs ys:List V},Inv X pins σ H s->r H xs->r H ys->xs=ys)
  (M:∀i h,S i h->∃o,h.get? it=some o/\∀v,o.data≠.cell v) (hK:∀i h h',S i h->(∀o,h.get? it=some o->h'.get? it=some o)->S i h') :
  Turn P w K (.Tuple elts x1 tp) (Ite r n) [e,it] e (λi h=>(∃old,IsEnum h e it i old)/\S i h) where
 mem:=by simp
 obj:=λi h st c hc=>by
  obtain⟨⟨old,h1⟩,h2⟩:=st;simp only[M8,N1,or_false]at hc;rcases hc with rfl|rfl
  ·exact⟨_,h1,λv q=>by cases q⟩
  ·exact M i h h2
 keep:=λi h h' st k=>by obtain⟨⟨old,h1⟩,h2⟩:=st;exact⟨⟨old,k e (by simp) _ h1⟩,hK i h h' h2 λo q=>k it (by simp) o q⟩
 item:=by
  intro X C hw g hc i pins s σ H E I t st D;subst C hw g;obtain⟨hi,xs,u,R⟩:=D;obtain⟨⟨old,h1⟩,h2⟩:=st;obtain⟨b,y,F⟩:=hB X rfl rfl rfl I u;have la:=y.length;refine wpAny_pyNext_enum_itemD (L X.A.in1 (I.ok.hd hc) b.toArray) h1 ⟨h2,F⟩ (by simp;omega) f (by simp[f,z]) λx h' tk T U Y Z hsz hk=>⟨_,rfl,?_⟩
  refine wpAny_letOwnedTupleGo_enum (s:={ s with heap:=h',toks:=tk+1 }) U λG d1 d2=>?_
  have N:e<s.heap.objs.size:=MS h1;have il:it<s.heap.objs.size:=by obtain⟨o,q,_⟩:=M i _ h2;exact MS q
  have J:∀c o,c≠e->h'.get? c=some o->G.get? c=some o:=λc o hc q=>(d2.2 c hc).trans q
  obtain⟨l,ex,rx⟩:∃l,xs[i]?=some l/\RelV l x:=by
   have m:i<xs.length:=by omega
   obtain⟨u',e1,e2⟩:=y.get (M1 m);refine⟨xs[i],M1 m,?_⟩;have p:b[i]?=some x:=by simpa using T
   rw[e1]at p;cases p;exact e2
  have fr:H s.heap.objs.size=none:=I.hok.fresh (My _);refine⟨.ref s.heap.objs.size,upd H s.heap.objs.size (.tup [.int i,l]),?_,rfl,⟨_,l,rfl,fr,rfl,λys h=>by rw[Q X rfl rfl rfl I h u];exact ex⟩,?_,λc j=>?_⟩
  ·refine I.turnLay (t':=tk+1) (ch:=[e,it]) t (My _) (λc o hn q=>?_) ⟨by show 2<=sizeLine;decide,[.int i tk,x],.cons ⟨tk,rfl⟩ (.cons rx .nil),⟨_,J _ _ (ND N) Z,rfl,rfl,_,rfl⟩⟩;simp only[M8,N1,or_false,not_or]at hn;exact J c o hn.1 (hk c o hn.1 hn.2 q)
  ·exact⟨⟨x,by simpa using d1⟩,hK _ _ _ Y.1 λo q=>J it o f.symm q⟩
  ·have O:=(t c j).1;simp only[M8,N1,or_false]at j;rcases j with rfl|rfl
   ·rw[aC (MV N)];exact O
   ·rw[aC (MV il)];exact O
 done:=by
  intro X C hw g hc i pins s σ H E I t st D;subst C hw g;obtain⟨hi,xs,u,R⟩:=D;obtain⟨⟨old,h1⟩,h2⟩:=st;obtain⟨b,y,F⟩:=hB X rfl rfl rfl I u;have la:=y.length;have e':b.toArray.size=i:=by simp;omega
  refine wpAny_pyNext_enum_endD (L X.A.in1 (I.ok.hd hc) b.toArray) h1 ⟨by rw[e'];exact h2,F⟩ λh' k=>⟨rfl,?_⟩
  refine I.turneds (t':=s.toks) (ch:=[e,it]) t λc o hn q=>?_
  simp only[M8,N1,or_false,not_or]at hn;exact k c o hn.2 q
 self:=λ_ _ _ _ _ st h=>by obtain⟨⟨old,h1⟩,_⟩:=st;exact wpAny_pyIter_enum h1 h
theorem F0:bootBuiltins "enumerate"=some (.type "enumerate"):=by decide +kernel
def KW(K:W.Frag)(ta:TA):TI:=λσ H R=>ta σ H λvs H1=>∃a xs,vs=[.ref a]/\((SqT K H1 a xs/\R (Ite (λH ys=>SqT K H a ys) xs.length) H1)\/(SqL K H1 a xs/\R (Ite (λH ys=>SqL K H a ys) xs.length) H1))
theorem GD{a:Expr}(F:Gl X "enumerate")(hm:X.mg "enumerate"=none)(ha:PA X [a] ta)(G:starEach [a] X.env=[(false,eval a X.env)]:=by rfl) :
  PI X (.Tuple elts x1 tp) (.Call (.Name "enumerate" p) [a] [] pos) (KW X.K ta):=by
 intro pins s σ H R I h;refine Call_ (fS I F hm F0 (PyProof.Rows.callWith_type1 (thn (ha pos pins s σ H _ I h) λus f x=>?_) G rfl));obtain⟨vs,H1,l,J,L⟩:=x;obtain⟨j,xs,e,q⟩:=L;subst e;obtain⟨u1,e1,M⟩:=vals1 J;subst e1;cases M;have big:∀c∈[f.heap.objs.size+1,f.heap.objs.size],f.heap.objs.size<=c:=λc hc=>by
  simp only[M8,N1,or_false]at hc;rcases hc with rfl|rfl
  ·exact Oc _
  ·exact My _
 have m:f.heap.objs.size+1≠f.heap.objs.size:=Nat.succ_ne_self _;rcases q with⟨y,q⟩|⟨y,q⟩
 ·obtain⟨b,n,pt,_⟩:=l.tuple y;have t:f.heap.IsTuple j b.toArray:=pt;have u:j<f.heap.objs.size:=by obtain⟨_,g,_⟩:=t;exact MS g
  refine yE t λh' w hit z=>wpAny_pyIter_enum w ?_
  have C:Inv X pins σ H1 { f with heap:=h' }:=l.kept (t':=f.toks) z;refine⟨_,_,_,_,H1,rfl,C,tT (a:=j) (S:=λi h=>h.IsTupleIter f.heap.objs.size j i) (B:=λh b=>h.IsTuple j b) m (ND (Np u)) (λA D b=>oj D f.heap.objs.size j (MV u) b)
   (λX' _ _ hK{_ _ _ _ _} I h=>?_) (λX' _ _ hK{_ _ _ _ _ _} I h1 h2=>?_) (λi h st=>?_) (λi h E st k=>?_),⟨⟨_,w⟩,hit⟩,λc hc=>l.fpOk (big c hc) (l.hok.fresh (big c hc)),q⟩
  ·rw[<-hK]at h;obtain⟨b,n,p,_⟩:=I.tuple h;exact⟨b,n,p⟩
  ·rw[<-hK]at h1 h2;exact I.tuple_inj h1 h2
  ·obtain⟨o,g,_,d⟩:=st;exact⟨o,g,λv q=>by rw[d]at q;cases q⟩
  ·obtain⟨o,g,r⟩:=st;exact⟨o,k o g,r⟩
 ·obtain⟨b,n,pl,_⟩:=l.list y;have u:j<f.heap.objs.size:=by obtain⟨_,_,g,_⟩:=pl;exact MS g
  refine call_enumerate_list pl.isList λh' w hit hz z=>wpAny_pyIter_enum w ?_
  have C:Inv X pins σ H1 { f with heap:=h' }:=l.kept (t':=f.toks) z;refine⟨_,_,_,_,H1,rfl,C,tT (a:=j) (S:=λi h=>h.IsListIter f.heap.objs.size j i) (B:=λh b=>h.IsList j b) m (ND (Np u)) (λA D b=>Draws.list D f.heap.objs.size j (MV u) b)
   (λX' _ _ hK{_ _ _ _ _} I h=>?_) (λX' _ _ hK{_ _ _ _ _ _} I h1 h2=>?_) (λi h st=>?_) (λi h E st k=>?_),⟨⟨_,w⟩,hit⟩,λc hc=>l.fpOk (big c hc) (l.hok.fresh (big c hc)),q⟩
  ·rw[<-hK]at h;obtain⟨b,n,p,_⟩:=I.list h;exact⟨b,n,p.isList⟩
  ·rw[<-hK]at h1 h2;exact I.list_inj h1 h2
  ·obtain⟨o,g,_,d⟩:=st;exact⟨o,g,λv q=>by rw[d]at q;cases q⟩
  ·obtain⟨o,g,r⟩:=st;exact⟨o,k o g,r⟩
def fD(ds:List PyData):List PyData:=ds.mapIdx λi d=>.tuple [.int i,d]
theorem iV(ds:List PyData):(fD ds).length=ds.length:=by simp[fD]
theorem tJ{f:Hp->List V->Prop}(h:Iss K G ds xs)(a:∀H1,ax G H1->f H1 xs):zu K (Ite f xs.length) (fD ds) G:=λH1 B s j hB=>by have hl:=h.length;rw[iV];refine⟨λi hi=>⟨by omega,xs,a H1 s,rfl⟩,⟨hl.symm,xs,a H1 s,rfl⟩,λi x H2 hi y=>?_⟩;obtain⟨t,x0,rfl,c,rfl,l⟩:=y;obtain⟨d,e,hd⟩:=h.get (l xs (a H1 s));refine⟨bH c,.tuple [.int i,d],by unfold fD;rw[O5,e];rfl,?_⟩;have m:t∉B:=j.new c;exact iS (by rw[aP m];exact aH) (cM bN (jt (hd.same (λb o q=>by have g:=s b o q;have n:b≠t:=aK g c;rw[aP (λz=>by rw[hB b z]at q;cases q),aC n];exact g))))
section
variable {E:XK}{a b c k:Expr}{gk:Ds->Rs PyData}{es:List Expr}
def qv:List PyData->Rs #[5]
 |[.list ds]=>.ok (fD ds)
 |[.tuple ds]=>.ok (fD ds)
 |_=>.no
def fw(g:Ds->Rs #[5]):Ds->Rs #[5]:=λδ=>(g δ).bind qv
theorem Cm(hm:X.mg "enumerate"=none)(ha:PAD X E [a] gs)(f:Gl X "enumerate")(g:starEach [a] X.env=[(false,eval a X.env)]) :
  PID X E (.Tuple elts x1 tp) (.Call (.Name "enumerate" p) [a] [] pos) (fw gs):=(GD f hm ha.1 g).imp λσ H R ⟨A,δ,Rp,o⟩=>vq Rp o λds vs H1 e s1 R1 h1 o=>by
 unfold qv at o;split at o
 ·obtain⟨v,rfl,h⟩:=kZ h1;obtain⟨p,xs,rfl,b,c⟩:=h.ofLst;exact⟨p,xs,rfl,.inr ⟨SqL.of (az _ _ b),o _ H1 (ax.refl _) (tJ c λH2 s2=>SqL.of (s2 _ _ b))⟩⟩
 ·obtain⟨v,rfl,h⟩:=kZ h1;obtain⟨p,xs,rfl,b,c⟩:=h.ofTup;exact⟨p,xs,rfl,.inl ⟨SqT.of (az _ _ b),o _ H1 (ax.refl _) (tJ c λH2 s2=>SqT.of (s2 _ _ b))⟩⟩
 ·exact o.elim
def jE(y x:Nat)(gk:Ds->Rs PyData):Ds->Sr:=λδ=>match δ[y]?,δ[x]? with
 |some (some (.list ys)),some (some (.list xs))=>ofR (gk δ) λk=>match k with
  |.int k=>if -(1000000)<=k/\k<=1000000/\ys.length<1000000 then (match ixN xs.length k with
   |some j=>match xs[j]? with
    |some d=>.nx ((δ.set x (some (.list (xs.eraseIdx j)))).set y (some (.list (ys++[d]))))
    |none=>.no
   |none=>.no) else .no
  |_=>.no
 |_,_=>.no
theorem yu{y x:Nat}{a nx:Str}{t L v b h c:Pos}(hk:PD X E k gk)(B:x≠y)(i:y∈O)(l:x∈O)(M:X.N[y]?=some a)(P:X.N[x]?=some nx)
  (Q:Vis X.env.scope a) (S:Vis X.env.scope nx)
  (T:(a==("__debug__":Str))=false) (G:(a==("__classdict__":Str))=false) (U:(nx==("__debug__":Str))=false) (I:(nx==("__classdict__":Str))=false)
  (J:starEach [k] X.env=(false,eval k X.env)::starEach [] X.env) (g:starEach [.Call (.Attribute (.Name nx b) "pop" h) [k] [] c] X.env=(false,eval (.Call (.Attribute (.Name nx b) "pop" h) [k] [] c) X.env)::starEach [] X.env)
  (m:attributeBase (.Name nx b) "pop" X.env (eval (.Name nx b) X.env)=eval (.Name nx b) X.env) (e:attributeBase (.Name a t) "append" X.env (eval (.Name a t) X.env)=eval (.Name a t) X.env)
  (K:((backTo c (starEach [k] X.env)).all (λx=>!x.1)&&(backToKw c (keywordEach [] X.env)).all (λx=>x.1.isSome)&&decide (([k]:List Expr).length+([]:List Keyword).length+(if ([]:List Keyword).isEmpty then 0 else 1)<30))=true)
  (n:((backTo v (starEach [.Call (.Attribute (.Name nx b) "pop" h) [k] [] c] X.env)).all (λx=>!x.1)&&(backToKw v (keywordEach [] X.env)).all (λx=>x.1.isSome)&&decide (([.Call (.Attribute (.Name nx b) "pop" h) [k] [] c]:List Expr).length+([]:List Keyword).length+(if ([]:List Keyword).isEmpty then 0 else 1)<30))=true)
  (q:(h.endLine==c.line)=true) (f:(L.endLine==v.line)=true)
  (hs:swapsWith (.Call (.Attribute (.Name a t) "append" L) [.Call (.Attribute (.Name nx b) "pop" h) [k] [] c] [] v) none pos.line X.env=pure false) :
  PSD X E O (.Expr (.Call (.Attribute (.Name a t) "append" L) [.Call (.Attribute (.Name nx b) "pop" h) [k] [] c] [] v) pos) (jE y x gk) :=
 (lQ (Ag F.plainAttrs_list F.slot_list_append F.type_list_append nC (kE M Q T G) (eV (Ag F.plainAttrs_list F.slot_list_pop F.type_list_pop C4 (kE P S U I) (eV hk gJ J) m K q J rfl) gJ g) e n f g rfl) hs).imp λD σ H W=>by
  obtain⟨H0,A0,A,δ,R,o⟩:=W;unfold jE at o;split at o
  ·rename_i ys xs Y Z;obtain⟨p,vy,dy,e1,hp,hl,e2,hx⟩:=R.ownL i Y;cases e2;obtain⟨r,vx,dx,f1,hr,hm,f2,hz⟩:=R.ownL l Z;cases f2;have npr:p≠r:=λz=>B (R.inj x y _ _ p l i Z Y (by rw[z];exact f1) e1)
   refine⟨_,e1,tyL hl,_,f1,tyL hm,?_⟩;refine eD.run R.full (λkd ek u H1 s R1 hu=>?_) (λC et H' s'=>by rw[et]at o;exact o H' (R.same.trans s')) (λet=>by rw[et]at o;exact o);simp only[ek,aB]at o;split at o
   ·rename_i kk;split at o
    ·rename_i hb;split at o
     ·rename_i j hj;split at o
      ·rename_i d hd;obtain⟨w,hw,hwd⟩:=hz.getD hd;have hj':=hj;obtain⟨g1,g2,g3,g4⟩:=u6 hj;have RS:=R.step s;have RS2:=RS.put (ds:=xs.eraseIdx j) (ys:=vx.eraseIdx j) l Z f1 hr ((hz.same s.del).eraseIdx j);refine⟨r,vx,kk,j,w,rfl,by rw[hu.ofInt],s _ _ hm,by omega,by omega,by rw[hz.length];exact g1,hw,?_⟩;have dU:del (upd H1 r (.lst (vx.eraseIdx j))) (A++A0)=del H1 (A++A0):=kR (Nh _ hr);refine⟨p,vy,w,rfl,rfl,by rw[aC npr];exact s _ _ hl,by rw[hx.length,sizeLine_eq];omega,?_⟩;refine o A _ _ (RS2.put (ds:=ys++[d]) i (by rw[N8 B];exact Y) e1 hp ?_);rw[dU];exact (hx.same s.del).append (jt (hwd.same s.del))
      ·exact o.elim
     ·exact o.elim
    ·exact o.elim
   ·exact o.elim
  ·exact o.elim
end
theorem we:isSubtype (.type "tuple") (.type "set")=pure false:=by rw[isSubtype_type];kernel_rfl
theorem vP:isSubtype (.type "tuple") (.type "frozenset")=pure false:=by rw[isSubtype_type];kernel_rfl
section
variable {A:Around}
noncomputable def seen(ns:List Int)(n:Nat):List Int:=firstMet (λi=>ns.getD i 0) n
theorem Ba{a:Array Value}(G:A.handled=none)(H:s.heap.IsTuple f a)(hi:IntsAre a.toList ns)(l:a.size+1<scanBound)
  (I:∀(h':Heap)(tk:Nat),h'.SetOf (intKind prog w) s.heap.objs.size (λk=>(seen ns a.size).any (·==k)) (seen ns a.size).length->(∀b o,b<s.heap.objs.size->s.heap.get? b=some o->h'.get? b=some o)->Q (.ref s.heap.objs.size) { s with heap:=h',toks:=tk }) :
  wpAny #[26] A (call (.type "set") [.ref f]) Q E s:=by
 obtain⟨c,tl,mro⟩:=F.called_set.mro;have m1:=F.called_set.made;have m2:=F.called_set.sub;refine wpAny_call (codeAny_of_tree ?_);show wpAny _ _ (callAny (.type "set") _) _ _ _;refine wpAny_pure ⟨Code.quiet_builtin _ (by decide +kernel),codeAny_builtin F.entry_type_call ?_⟩;rw[Around.under_plain (weight_type_call_type "set" [.ref f] []) rfl];have m3:=F.called_set.notType;have m4:=F.called_set.canCreate;have m5:=F.typeCall_set_1 (.ref f)
 repeat (any_goals (first|assumption|wp_step))
 refine codeAny_mono (PySem.code_set_new_1 (.ref f) (E:=E) (Q₁:=λy z=>∃led:Bool,y=.ref s.heap.objs.size/\z={ s with heap:=s.heap.push { cls:=.type "set",dict:=none,data:=.set #[] 0 (.fresh 0 0 led) } }) λled=>⟨led,rfl,rfl⟩) λr z n=>?_
 cases r with
 |error ev=>exact n
 |ok fl =>
  cases fl with
  |ret y =>
   obtain⟨led,rfl,rfl⟩:=n;have B:(s.heap.push { cls:=.type "set",dict:=none,data:=.set #[] 0 (.fresh 0 0 led) }).get? s.heap.objs.size=some { cls:=.type "set",dict:=none,data:=.set #[] 0 (.fresh 0 0 led) }:=MU _ rfl;have J:Shared.TypeIs { s with heap:=s.heap.push { cls:=.type "set",dict:=none,data:=.set #[] 0 (.fresh 0 0 led) } } (.ref s.heap.objs.size) "set":=⟨_,B,rfl⟩
   have m6:=F.called_set.init.lookup;have m7:=F.called_set.init.bind (.ref s.heap.objs.size)
   repeat (any_goals (first|assumption|wp_step))
   refine codeAny_mono (codeAny_call_builtin (R:=wants (λC s2=>C=.none/\∃h' tk,s2={ s with heap:=h',toks:=tk }/\h'.SetOf (intKind prog w) s.heap.objs.size (λk=>(seen ns a.size).any (·==k)) (seen ns a.size).length /\
     (∀b o,b<s.heap.objs.size->s.heap.get? b=some o->h'.get? b=some o)) E) F.called_set.init.plain F.entry_set_init (PySem.check_set_init_1 J ?_)) λK s2 g=>?_
   ·obtain⟨⟨oc,od,oda,osl⟩,go,gc,p,D⟩:=H;simp only at gc D;subst gc;subst D;have go':(s.heap.push { cls:=.type "set",dict:=none,data:=.set #[] 0 (.fresh 0 0 led) }).get? f=some { cls:=.type "tuple",dict:=od,data:=.seq a p,slots:=osl }:=M4 _ go;have n1:=we;have n2:=vP;have n3:(Value.type "tuple"==Value.type "dict")=false:=by decide
    have L:(s.heap.push { cls:=.type "set",dict:=none,data:=.set #[] 0 (.fresh 0 0 led) }).IsTuple f a:=⟨_,go',rfl,p,rfl⟩
    unfold Builtin.«set.__init__» noKeywords Builtin.Frozenset.updateFrom;generalize zz:pyIter=PI
    wp_walk
    subst zz;refine wpAny_pyIter_tuple L (wpAny_bind (wpAny_runValue ?_));have j:f<s.heap.objs.size:=MS go;have h3:A.in1.in1.in1.handled=none:=by simp[G]
    have ne1:f≠(s.heap.push { cls:=.type "set",dict:=none,data:=.set #[] 0 (.fresh 0 0 led) }).objs.size:=by rw[Heap.size_push];exact MV (Np j)
    have q:s.heap.objs.size∉[(s.heap.push { cls:=.type "set",dict:=none,data:=.set #[] 0 (.fresh 0 0 led) }).objs.size,f]:=by rw[Heap.size_push];simp only[M8,MR,N1,or_false,not_or];exact⟨MV (NO _),ND j⟩
    have M:∀(i:Nat)(v:Value),a[i]?=some v->∃t,v=.int ((λi=>ns.getD i 0) i) t:=λi v hv=>IntsAre.int_at hi i v (by rw[OE];exact hv)
    refine codeAny_set_update_loopS ((Walks.tuple h3 _ f ne1 a).toS) s.heap.objs.size q (λi=>ns.getD i 0) M l (a.size-0) 0 _ (by omega) (NC _) ⟨⟨_,MU _ rfl,rfl,rfl⟩,⟨_,M4 _ go',rfl,p,rfl⟩⟩ ?_ ?_
    ·have N:((s.heap.push { cls:=.type "set",dict:=none,data:=.set #[] 0 (.fresh 0 0 led) }).push { cls:=.type "tuple_iterator",data:=.fields #[.ref f,.int 0 0] }).get? s.heap.objs.size=some { cls:=.type "set",dict:=none,data:=.set #[] 0 (.fresh 0 0 led) }:=M4 _ B;exact SetOf_congr ((setObjOf_fresh (knd:=intKind prog w) led).setOf N (by unfold scanBound;omega)) (λ_=>rfl) rfl
    ·intro s' m h;obtain⟨h',g',d',u,x⟩:=s';have e1:g'=s.gens:=m.gens;have e2:d'=s.drawn:=m.drawn;have O:x=s.os:=m.os;subst e1;subst e2;subst O;show wpAny _ _ _ _ _ _;refine wpAny_pure ?_;show wpAny _ _ (ret Value.none) _ _ _;refine wpAny_pure ⟨rfl,h',u,rfl,h,λb o l e=>?_⟩;have P:b≠(s.heap.push { cls:=.type "set",dict:=none,data:=.set #[] 0 (.fresh 0 0 led) }).objs.size:=by rw[Heap.size_push];exact MV (Np l)
     exact m.heap b o (by simp only[M8,MR,N1,or_false,not_or];exact⟨MV l,P⟩) (M4 _ (M4 _ e))
   ·cases K with
    |error ev=>exact g
    |ok fl2 =>
     cases fl2 with
     |ret C =>
      obtain⟨rfl,h',tk,rfl,h,S⟩:=g
      repeat (any_goals (first|assumption|wp_step))
      exact I _ _ h S
     |_=>exact g.elim
  |_=>exact n.elim
end
section
variable {E:XK}{a b c:Expr}{gc:Ds->Rs PyData}{es:List Expr}
theorem HY:bootBuiltins "set"=some (.type "set"):=by decide +kernel
def tLS(K:W.Frag)(ta:TA):TE:=λσ H Q=>ta σ H λvs H1=>∃(p:Addr)(ns:List Int),vs=[.ref p]/\SqT K H1 p (ns.map V.int)/\ns.length<=1000/\Q (.int (seen ns ns.length).length) H1
theorem BE{p2 c:Pos}(hc:X.calm=true)(y:Gl X "set")(hm:X.mg "set"=none)(i:Gl X "len")(j:X.mg "len"=none)(ha:PA X [a] ta)(z:starEach [a] X.env=[(false,eval a X.env)]:=by rfl)
  (f:starEach [.Call (.Name "set" p) [a] [] pos] X.env=(false,eval (.Call (.Name "set" p) [a] [] pos) X.env)::starEach [] X.env:=by rfl) (l:(backTo c (starEach [] X.env)).any (·.1)=false:=by rfl) :
  PE X (.Call (.Name "len" p2) [.Call (.Name "set" p) [a] [] pos] [] c) (tLS X.K ta):=by
 intro pins s σ H Q I h;refine wpAny_Call_Name_kw (fS I i j PySem.boot_len ?_);refine PyProof.Rows.callWith_builtin1 ?_ f l;rw[f];show wpAny _ _ (spliced ((false,eval (.Call (.Name "set" p) [a] [] pos) X.env)::backTo c [])) _ _ s;refine Calls.spliced_cons (Call_ (fS I y hm HY (PyProof.Rows.callWith_type1 (thn (ha pos pins s σ H _ I h) λus v m=>?_) z rfl)));obtain⟨vs,H1,n,A,B⟩:=m;obtain⟨q,ns,e,C,hz,fin⟩:=B;subst e;obtain⟨u,rfl,D⟩:=vals1 A;cases D;obtain⟨g,w,pt,_⟩:=n.tuple C;have hl:=w.length;rw[M6]at hl;refine Ba (n.ok.hd hc) (show v.heap.IsTuple q g.toArray from pt) (intsAre_of w) (by rw[MO];unfold scanBound;omega) λh' tk x E=>Calls.spliced_nil ?_
 have F:Inv X pins σ H1 { v with heap:=h',toks:=tk }:=n.kept λb o e=>E b o (MS e) e
 have r:g.toArray.size=ns.length:=by rw[MO];exact hl.symm
 rw[r]at x;obtain⟨o,es',ep,t,G,ex,hd,_,_,J,L,hsz⟩:=x;refine PySem.call_len_set G ex hd L (by unfold scanBound at J;omega) ⟨.int (seen ns ns.length).length,H1,F.tok _,⟨_,by rw[hsz]⟩,fin⟩
def my:List PyData->Option PyData
 |[.tuple x]=>(gP x).bind λns=>if ns.length<=1000 then some (.int (seen ns ns.length).length) else none
 |_=>none
theorem BJ{p2 b:Pos}(hc:X.calm=true)(hm:X.mg "set"=none)(c:X.mg "len"=none)(ha:PAD X E [a] gs)(l:Gl X "set")(f:Gl X "len")(m:starEach [a] X.env=[(false,eval a X.env)])
  (g:starEach [.Call (.Name "set" p) [a] [] pos] X.env=(false,eval (.Call (.Name "set" p) [a] [] pos) X.env)::starEach [] X.env) (h:(backTo b (starEach [] X.env)).any (·.1)=false) :
  PD X E (.Call (.Name "len" p2) [.Call (.Name "set" p) [a] [] pos] [] b) (gF my gs):=(BE hc l hm f c ha.1 m g h).imp λσ H Q ⟨A,δ,R,o⟩=>tN R o λds vs H1 e s1 R1 h1 o=>by
 unfold my at o;split at o
 ·rename_i x;cases q:gP x with
  |none=>rw[q]at o;exact o.elim
  |some ns =>
   rw[q]at o;obtain⟨v,rfl,n⟩:=kZ h1;obtain⟨p,xs,rfl,i,j⟩:=n.ofTup;rw[fk q]at j;rw[j.ofInts]at i;by_cases z:ns.length<=1000
   ·simp only[Og,if_pos z]at o;exact⟨p,ns,rfl,SqT.of (az _ _ i),z,o _ H1 (ax.refl _) bN⟩
   ·simp only[Og,if_neg z]at o;exact o.elim
 ·exact o.elim
end
open AutoSeq1 (wpAny_loadPart')
open SeqAt (EqAt)
theorem xq{prog:Program}{w:World}{A:Around}{E:Value->Shared->Prop}{s:Shared}{a:Array Value}{x:Value}{e:Value->Bool}{j:Nat}{Q:Option PySem.Fin×Unit->Shared->Prop}(f:j<a.size)(hit:e a[j]=true)(c:∀m(hm:m<a.size),m<j->e a[m]=false)
  (g:∀y,y∈a->EqAt A s y x (e y)) (h:Q (some (.done (.ret (.int j s.toks))),()) { s with toks:=s.toks+1 }):∀(k i m:Nat),i+k=j->j<i+m ->
  wpAny #[26] A (forIn (List.range' i m) ((none:Option PySem.Fin),()) λ(i:Nat) _=>match a[i]? with
   |some y=>do
    let b <-eqBool y x
    if b=true then do
      let r <-retInt (i:Int)
      pure (ForInStep.done (some r,()))
     else pure (ForInStep.yield (none,()))
   |_=>pure (ForInStep.yield (none,()))) Q E s
 |0,i,0,h1,h2=>by omega
 |0,i,m+1,h1,h2=>by
  have:i=j:=by omega
  subst this;rw[OS,Oq];have q:a[i]?=some a[i]:=by simp[f]
  simp only[q];refine wpAny_bind (wpAny_bind (g _ (Array.getElem_mem f) prog w _ _ ?_));rw[hit,if_pos rfl];unfold retInt;exact wpAny_bind (wpAny_bind (wpAny_mkInt (wpAny_pure (wpAny_pure (wpAny_pure h)))))
 |k+1,i,0,h1,h2=>by omega
 |k+1,i,m+1,h1,h2=>by
  have hi:i<a.size:=by omega
  rw[OS,Oq];have q:a[i]?=some a[i]:=by simp[hi]
  simp only[q];refine wpAny_bind (wpAny_bind (g _ (Array.getElem_mem hi) prog w _ _ ?_));rw[c i hi (by omega),if_neg MQ];exact wpAny_pure (xq f hit c g h k (i+1) m (by omega) (by omega))
theorem Bp(c:Addr)(a:Array Value)(n:Nat)(dd:Option Addr)(f:Array (Option Value))(x:Value)(e:Value->Bool)(j:Nat)(h:j<a.size)(hit:e a[j]=true)(b:∀m(hm:m<a.size),m<j->e a[m]=false) :
  Meets (Builtin.«tuple.index» ⟨[.ref c,x],[]⟩)
   (λA R s=>s.heap.get? c=some { cls:=.type "tuple",dict:=dd,data:=.seq a n,slots:=f }/\(∀y,y∈a->EqAt A.in1 s y x (e y))/\R (.ok (.ret (.int j s.toks))) { s with toks:=s.toks+1 }):=by
 intro prog w A R s i;obtain⟨hp,g,d,tk,os⟩:=s;obtain⟨hl,l,o⟩:=i;unfold Builtin.«tuple.index»;simp only[Std.Legacy.Range.forIn_eq_forIn_range',Std.Legacy.Range.size];generalize hF:(@forIn Sem (List Nat))=F
 wp_walk using wpAny_loadPart' hl
 subst hF;refine xq h hit b l ?_ j 0 _ (by omega) (by simp;omega);exact wpAny_pure o
section
variable {E:XK}{a o:Expr}{go:Ds->Rs PyData}{es:List Expr}
def JY:V->List V->Hp->VK->Prop:=λx vs H Q=>∃l xs y j,x=.ref l/\vs=[y]/\H l=some (.tup xs)/\jS y=true/\xs.all jS=true/\(xs.findIdx? λz=>eqV z y)=some j/\Q (.int j) H
def tIx(to:TE)(t:TA):TE:=λσ H Q=>to σ H λx H1=>(∃l xs,x=.ref l/\H1 l=some (.tup xs))/\t σ H1 λvs H2=>JY x vs H2 Q
theorem CO{to:TE}{t:TA}{apos:Pos}(U:PE X o to)(ha:PA X [e] t)(c:attributeBase o "index" X.env (eval o X.env)=eval o X.env:=by rfl)
  (r:((backTo cpos (starEach [e] X.env)).all (λx=>!x.1)&&(backToKw cpos (keywordEach [] X.env)).all (λx=>x.1.isSome)&&decide (([e]:List Expr).length+([]:List Keyword).length+(if ([]:List Keyword).isEmpty then 0 else 1)<30))=true:=by rfl)
  (f:(apos.endLine==cpos.line)=true:=by rfl) (W:starEach [e] X.env=(false,eval e X.env)::starEach [] X.env:=by rfl) (b:(backTo cpos (starEach [] X.env)).any (·.1)=false:=by rfl) :
  PE X (.Call (.Attribute o "index" apos) [e] [] cpos) (tIx to t):=by
 intro pins s σ H Q I h;refine wpAny_Call_method_late c r f rfl (thn (U pins s σ H _ I h) λv Y g=>?_);obtain⟨x,H1,O,Z,⟨l,xs,hx,hl⟩,q1⟩:=g;subst hx;cases Z;obtain⟨P,its,rv,R,ge,gc,gd,n,gq⟩:=O.hok l _ hl;refine⟨"tuple", "tuple.index",F.plainAttrs_tuple,F.slot_tuple_index,F.type_tuple_index,⟨R,ge,gc⟩,λa ea=>by cases ea;exact⟨R,ge,gd⟩,?_⟩;have S:=ha cpos pins Y σ H1 _ O q1;rw[W]at S ⊢;refine Calls.callWith_builtin (by show (false||(backTo cpos (starEach [] X.env)).any (·.1))=false;rw[b];rfl) (Calls.evalArgs_plain ?_);refine thn S λus s2 g=>?_
 obtain⟨vs,H2,T,r2,q2⟩:=g;obtain⟨l',i,y,j,e1,e2,D,fy,fs,hj,q⟩:=q2;cases e1;subst e2;obtain⟨hz',its',p,E,w,A,B,n',C⟩:=T.hok l _ D;obtain⟨u,rfl,ru⟩:=vals1 r2;obtain⟨oc,od,oda,osl⟩:=E;simp only at A B C;subst A B C;have hlen:=p.length;obtain⟨G,J,K⟩:=List.findIdx?_eq_some_iff_getElem.mp hj;have at':∀(m:Nat)(hm:m<i.length),eqU y (its'[m]'(by omega))=eqV i[m] y:=λm hm=>by
  obtain⟨w',hw,L⟩:=p.get (M1 hm);have:its'[m]'(by omega)=w':=by have h2:=M1 (show m<its'.length by omega);rw[h2]at hw;exact Option.some.inj hw
  rw[this];exact xD L (MX.mp fs _ (Na hm))
 refine call_meets F.slot_tuple_index ⟨_,w,rfl⟩ F.entry_tuple_index (F.args_tuple_index_2 _ _) (Bp l its'.toArray n' none osl u (eqU y) j (by simp;omega) (by simpa[at' j G] using J) (λm hm M=>?_)) ⟨w,λz P=>me ru fy p fs z (by simpa using P),⟨.int j,H2,T.tok _,⟨_,rfl⟩,q⟩⟩;have N:m<i.length:=by simp at hm;omega
 have:=K m M;simpa[at' m N] using this
def nE(xs:List PyData)(y:PyData):Option PyData:=if gm y&&xs.all gm then ((xs.map toV).findIdx? λz=>eqV z (toV y)).map λj=>.int j else none
def nK(go ga:Ds->Rs PyData):Ds->Rs PyData:=λδ=>(go δ).bind λd=>match d with
 |.tuple xs=>(ga δ).bind λy=>Rs.eF (nE xs y)
 |_=>.no
theorem Di{apos:Pos}(r:PD X E o go)(ha:PD X E e ga)(c:attributeBase o "index" X.env (eval o X.env)=eval o X.env)
  (h:((backTo cpos (starEach [e] X.env)).all (λx=>!x.1)&&(backToKw cpos (keywordEach [] X.env)).all (λx=>x.1.isSome)&&decide (([e]:List Expr).length+([]:List Keyword).length+(if ([]:List Keyword).isEmpty then 0 else 1)<30))=true)
  (f:(apos.endLine==cpos.line)=true) (l:starEach [e] X.env=(false,eval e X.env)::starEach [] X.env) (b:(backTo cpos (starEach [] X.env)).any (·.1)=false) :
  PD X E (.Call (.Attribute o "index" apos) [e] [] cpos) (nK go ga):=(CO r (eV ha gJ l) c h f l b).imp λσ H Q i=>by
 obtain⟨A,δ,R,a⟩:=i;unfold nK at a;refine eD.run R (λd1 e1 v H1 m s h1=>?_) (λC g H' s'=>by rw[g]at a;exact a H' s') (λg=>by rw[g]at a;exact a);simp only[e1,Rs.ag]at a;cases d1 with
 |tuple xs =>
  obtain⟨p,vs,rfl,n,t⟩:=h1.ofTup;refine⟨⟨p,vs,rfl,az _ _ n⟩,?_⟩;have a:iu X.K E A H ((ga δ).bind λy=>Rs.eF (nE xs y)) Q:=a;refine eD.run s (λd2 e2 u H2 s2 R2 h2=>?_) (λC g H' s'=>by rw[g]at a;exact a H' (m.trans s')) (λg=>by rw[g]at a;exact a);simp only[e2,Rs.ag]at a;unfold nE at a;split at a
  ·rename_i z;rw[M9]at z;obtain⟨f1,f2⟩:=h2.flat z.1;obtain⟨w,B⟩:=t.flat z.2;cases q:((xs.map toV).findIdx? λz=>eqV z (toV d2)) with
   |none=>rw[q]at a;exact a.elim
   |some j =>rw[q]at a;exact⟨p,vs,u,j,rfl,rfl,s2 _ _ (az _ _ n),f2,B,by rw[f1,w];exact q,a _ H2 (m.trans s2) bN⟩
  ·exact a.elim
 |_=>exact a.elim
end
end L2
namespace L2
open PySem PySem.Spec PyProof.Rows
def vo:List Int->Option Int
 |[]=>none
 |x::r=>some (r.foldl (λa b=>if b>a then b else a) x)
theorem fold_max:∀(r:List Int)(x:Int),(r.foldl (λa b=>if b>a then b else a) x)∈x::r/\∀a∈x::r,a<=r.foldl (λa b=>if b>a then b else a) x
 |[],x=>⟨M7,λa ha=>by cases MR.mp ha;exact NN _⟩
 |y::r,x=>by
  obtain⟨h1,h2⟩:=fold_max r (if y>x then y else x);rw[Nz];have c:=h2 _ M7;refine⟨?_,λa ha=>?_⟩
  ·rcases M8.mp h1 with z|z
   ·rw[z];split <;> simp
   ·exact M3 _ (M3 _ z)
  ·have e:x<=(if y>x then y else x):=by split <;> omega
   have f:y<=(if y>x then y else x):=by split <;> omega
   rcases M8.mp ha with rfl|ha
   ·exact Ov e c
   ·rcases M8.mp ha with rfl|ha
    ·exact Ov f c
    ·exact h2 a (M3 _ ha)
theorem GR{M m:Int}(h1:M∈ns)(h2:∀a∈ns,a<=M)(e:vo ns=some m):M=m:=by
 cases ns with
 |nil=>cases e
 |cons x r =>cases e;obtain⟨g1,g2⟩:=fold_max r x;have a1:=h2 _ g1;have a2:=g2 _ h1;omega
section
variable {E:XK}{a:Expr}{es:List Expr}
theorem Bh(hc:X.calm=true):kf X (.builtin "max") (λxs H Q=>∃(a:Addr)(ns:List Int)(m:Int),xs=[.ref a]/\SqL X.K H a (ns.map V.int)/\vo ns=some m/\Q (.int m) H):=by
 intro pins s σ H xs us Q I r h;obtain⟨a,ns,m,rfl,w,hm,q⟩:=h;obtain⟨u,rfl,x⟩:=vals1 r;cases x;obtain⟨f,y,p,_⟩:=I.list w;have hi:IntsAre f ns:=intsAre_of y;have g:0<ns.length:=by cases ns with|nil=>cases hm|cons _ _=>simp
 obtain⟨xs,n⟩:=hi.allInts.items;have c:ns=xs.toList.map (·.1):=by rw[<-hi.numsOf,<-nums_intItems,<-n]
 have hsz:0<xs.size:=by have h3:=g;rw[c,M6,NJ]at h3;exact h3
 have l:s.heap.IsList a (intItems xs):=n▸p.isList;refine max_intList (I.ok.hd hc) l hsz λv h' tk hv z=>?_
 obtain⟨t,rfl⟩:=intItems_at hv;obtain⟨h1,h2⟩:=argBest_gt (numAt xs) (xs.size-1);have e:numAt xs (argBest (λi j=>decide (numAt xs i>numAt xs j)) (xs.size-1))=m:=by
  refine GR ?_ (λb o=>?_) hm
  ·rw[c,numAt_eq];exact getD_mem (by rw[M6,NJ];omega)
  ·rw[c]at o;obtain⟨j,A,rfl⟩:=mem_getD o;rw[M6,NJ]at A;rw[<-numAt_eq];exact h2 j (by omega)
 exact⟨.int m,H,I.kept z,⟨_,by rw[<-e]⟩,q⟩
def oG:List PyData->Option PyData
 |[.list x]=>(gP x).bind λns=>(vo ns).map PyData.int
 |_=>none
theorem Cw:FnD K oG (λxs H Q=>∃(a:Addr)(ns:List Int)(m:Int),xs=[.ref a]/\SqL K H a (ns.map V.int)/\vo ns=some m/\Q (.int m) H):=λds d vs H A Q e hA h k=>by
 unfold oG at e;split at e
 ·rename_i x;obtain⟨ns,q,e⟩:=Option.bind_eq_some_iff.mp e;obtain⟨m,f,rfl⟩:=NX.mp e;obtain⟨v,rfl,g⟩:=kZ h;obtain⟨p,xs,rfl,b,c⟩:=g.ofLst;rw[fk q]at c;rw[c.ofInts]at b;exact⟨p,ns,m,rfl,SqL.of (az _ _ b),f,k _ H (ax.refl _) bN⟩
 ·cases e
theorem FF:bootBuiltins "max"=some (.builtin "max"):=by decide +kernel
theorem Ho:bootBuiltins "min"=some (.builtin "min"):=by decide +kernel
theorem Gr(hc:X.calm=true)(hm:X.mg "max"=none)(ha:PAD X E (a::es) gs)(c:Gl X "max")(e:starEach (a::es) X.env=(false,eval a X.env)::starEach es X.env)(b:(backTo pos #[23]).any (·.1)=false) :
 PD X E (.Call (.Name "max" p) (a::es) [] pos) (gF oG gs):=gx Cw ha λh=>gz (Bh hc) c hm FF h #[2] #[2] e b
end
section
variable {E:XK}
end
section
variable {E:XK}{a b c:Expr}{gc:Ds->Rs PyData}
end
section
variable {E:XK}{a:Expr}{es:List Expr}
end
section
variable {E:XK}{a:Expr}
end
end L2
namespace PyProof.Rows
open PySem
section
variable {A:Around}
end
end PyProof.Rows
namespace L2
open PySem PySem.Spec PyProof.Rows
section
variable {E:XK}{a:Expr}{es:List Expr}
end
end L2
namespace L2
open PySem PySem.Spec PySem.Calls PyProof.Rows PySem.W PySem.Builtin Builtin.ObjectAttr Builtin.Getset_descriptor
section
variable {A:Around}{K:Frag}{x:Addr}{ox:Obj}
structure HN(h:Heap)(x:Addr)(D:Addr):Prop where
 ex:∃o,h.get? x=some o/\o.cls=.ref D
theorem HN.type{M:Model}(I:HN h x D):Looks M h (typeOf (.ref x)) (.ref D):=by obtain⟨o,h1,h2⟩:=I.ex;exact h2▸(Looks.ld h1).andThen .now
end
end L2
namespace L2
open PySem PySem.Spec PyProof.Rows
section
variable {E:XK}{ea:Addr}{oe:Obj}
end
section
variable {E:XK}{ea:Addr}{oe:Obj}
end
section
variable {E:XK}{a b:Expr}{es:List Expr}
def iA(f:Str):List (PyData×PyData)->Option PyData
 |[]=>none
 |(k,d)::r=>match k with
  |.str g=>if g=f then some d else iA f r
  |_=>none
def bc(C:Addr)(f:Str):PyData->Option PyData
 |.dict (k::r)=>match k with
  |(.str z,.int c)=>if z=""/\c=(C:Int) then iA f r else none
  |_=>none
 |_=>none
theorem Isk.iA{K:W.Frag}{H:Hp}:∀{r:List (PyData×PyData)}{fs:List (Str×V)}{f:Str}{d:PyData},Isk K H r fs->L2.iA f r=some d->∃v,fs.lookup f=some v/\Is K H d v
 |[],_,f,d,_,l=>by simp[L2.iA]at l
 |(k,x)::r,fs,f,d,h,l=>by
  unfold Isk at h;obtain⟨g,v,fs',rfl,rfl,h1,h2⟩:=h;simp only[L2.iA]at l;rw[N9];by_cases z:g=f
  ·subst z;rw[if_pos rfl]at l;cases l;exact⟨v,by simp,h1⟩
  ·rw[if_neg z]at l;have:(f==g)=false:=by simpa using λq=>z q.symm
   rw[this];exact Isk.iA h2 l
theorem Fl{f:Str}{d x:PyData}(s:f≠"@")(e:bc C f d=some x)(h:Is K H d v):∃a dx fs u,v=.ref a/\H a=some (.ins C dx fs)/\fs.lookup f=some u/\Is K H x u:=by
 unfold bc at e;split at e
 ·rename_i k r;split at e
  ·rename_i z c;split at e
   ·rename_i q;obtain⟨rfl,rfl⟩:=q;unfold Is at h;rcases h with (⟨a,ns,_,b,_⟩|⟨a,l,_,b,_⟩)|⟨a,o,dx,fs,p,h1,hn,h2|h2⟩
    ·injection b with b _;cases b
    ·rcases b with⟨m,b,_⟩|⟨m,b,_⟩ <;> first|(cases b;done)|(cases m <;> cases b)
    ·unfold Isk at h2;obtain⟨g,u,fs',e1,e2,h3,j⟩:=h2;cases e1;have i:=h3.ofInt;injection i with i
     obtain rfl:o=C:=Int.ofNat.inj i;obtain⟨u,l,n⟩:=j.iA e;exact⟨a,dx,fs,u,p,h1,l,n⟩
    ·unfold Isk at h2;obtain⟨g,u,fs',e1,e2,h3,j⟩:=h2;cases e1;have i:=h3.ofInt;injection i with i
     obtain rfl:o=C:=Int.ofNat.inj i;obtain⟨u,l,n⟩:=j.iA e;rw[N9,show (f==("@":Str))=false by simpa using s]at l;exact⟨a,dx,fs,u,p,h1,l,n⟩
   ·cases e
  ·cases e
 ·cases e
theorem Ic{f:Str}(cl:Cls X.K C)(n:fF X.K C f)(ha:PD X E a ga)(b:attributeBase a f X.env (eval a X.env)=eval a X.env)(c:f≠"@"):PD X E (.Attribute a f pos) (g1 (bc C f) ga) :=
 (Ke ha b).imp λσ H Q ⟨A,δ,R,o⟩=>g1.read (tt:=λQ x H1=>∃a C dx fs v,x=.ref a/\H1 a=some (.ins C dx fs)/\Cls X.K C/\fF X.K C f/\fs.lookup f=some v/\Q v H1) R o λd1 d x H' e _ _ h k=>by obtain⟨p,dx,fs,u,rfl,g,l,i⟩:=Fl c e h;exact⟨p,C,dx,fs,u,rfl,az _ _ g,cl,n,l,k _ H' (ax.refl _) i⟩
def Im(C:Addr)(names:List Str):Sp:=λvs H Q _=>∃(x dx:Addr)(args:List V),vs=.ref x::args/\args.length=names.length/\H x=some (.ins C dx []) /\
 ∀H':Hp,(∀b,b≠x->H' b=H b)->H' x=some (.ins C dx (names.zip args))->Q .non H'
structure rq(P:Program)(w:World)(K:W.Frag)(mg:Str->Option Value)(base:Heap)(k:Nat)(x:Str)(C:Addr)(names:List Str):Prop where
 ex:∃f fd ps,Mk K C f/\gU P w K mg base (CXW P w) k f fd ps (Im C names)/\Binds K fd ps []/\mg x=some (.ref C)
def sY(C:Addr)(names:List Str):List PyData->Rs PyData:=λds=>if ds.length=names.length then .ok (xG C (names.zip ds)) else .no
theorem uZ{K:W.Frag}{H:Hp}:∀{names:List Str}{ds:List PyData}{vs:List V},Iss K H ds vs->Isk K H ((names.zip ds).map λp=>(.str p.1,p.2)) (names.zip vs)
 |[],_,_,_=>by simpa using pL
 |_::_,[],_,h=>by rw[h.nil_of];simpa using pL
 |n::ns,d::ds,_,h=>by obtain⟨v,r,rfl,h1,h2⟩:=h.cons_of;simp only[Ou,M5];exact eP h1 (uZ h2)
theorem yX{f:Str}:∀{names:List Str}{vs:List V},f∉names->(names.zip vs).lookup f=none
 |[],_,_=>rfl
 |_::_,[],_=>rfl
 |n::ns,v::vs,h=>by rw[Ou,N9,show (f==n)=false by simpa using λq=>h (by rw[q];exact M7)];exact yX λq=>h (M3 _ q)
theorem He{k:Nat}(D:rq X.prog X.w X.K X.mg X.base k x C names)(m:cm j X.A)(n:Passes (CXW X.prog X.w) X E)(ha:PAD X E (e::es) gs)(r:k+1<=j)(s:Gl X x)
  (a:(x==("__debug__":Str))=false) (t:starEach (e::es) X.env=(false,eval e X.env)::starEach es X.env) (c:(backTo pos #[23]).any (·.1)=false) (hn:("@":Str)∉names) :
  PD X E (.Call (.Name x p) (e::es) [] pos) (au (sY C names) gs):=by
 obtain⟨f,fd,ps,M,F,u,hm⟩:=D.ex;refine (z0 M F (m.mono r) s hm u .nil n ha.1 a t c).imp λσ H Q g=>?_
 obtain⟨A,δ,R,o⟩:=g;refine tN R o λds vs H1 e s1 v h1 o=>?_
 unfold sY at o;split at o
 ·rename_i hl;intro x dx nx h ne;refine⟨x,dx,vs++[],rfl,by rw[Nr,h1.length,hl],aH,λH' k1 k2=>⟨rfl,?_⟩⟩;rw[Nr]at k2;have l:ax H1 H':=λb q i=>by have n1:b≠x:=aK i nx;rw[k1 b n1,aC n1,aC (aK i h)];exact i
  refine o (.ref x) H' l (Kh (dx:=dx) (fs:=names.zip vs) ?_ (yX hn) (uZ (h1.same l.del)));rw[aP (v.ls.new nx)];exact k2
 ·exact o.elim
end
section
variable {A:Around}{R:Result->Shared->Prop}{I:Addr}{wr:List Addr}{T:Nat->Value->Prop}{St:Nat->Heap->Prop}{dv:Value}
variable {l:Addr}{xs:Array (Int×Tok)}
end
section
variable {E:XK}{a b:Expr}{es:List Expr}
theorem eD.weak{g:Ds->Rs PyData}{Q a:VK}(h:eD K E g σ H Q)(k:∀v H',Q v H'->a v H'):eD K E g σ H a:=by
 obtain⟨A,δ,R,o⟩:=h;refine⟨A,δ,R,?_⟩;cases q:g δ with
 |ok d=>rw[q]at o;exact λv H' b h1=>k v H' (o v H' b h1)
 |rz C=>rw[q]at o;exact o
 |no=>rw[q]at o;exact o
end
variable {xs:List (List Key×Addr×Value)}{m:Str}{G:List Addr->Ds->Sr}
theorem Hv{b:Array (Option Value)}{kV e:Value}
  (g:∀(kV doc pm:Value)(an:Option Addr)(cdv ct:Value)(us:List Value),us.length=ps.length->bindArgs (W.fnOf "__init__" qual (fH st) (cf st) (aE st) .none kV doc pm an cdv ct) ⟨us,[]⟩=pure (ps.zip us))
  (a:W.findIn K (.ref C) "__init__"=some (some (.ref f))) (i:W.isFn K (.ref f)=true)
  (l:K.lookup f=some ⟨oc,od,.func (W.fnOf "__init__" qual (fH st) (cf st) (aE st) .none kV e pm an cd ct),b⟩)
  (c:W.codeIn K cd qual=true) (k:W.keepIn K (.ref f)=true) (mk:W.makesIn K C=true) (h:W.keepIn K (.ref C)=true):∃f fd,Mk K C f/\Fun K "__init__" qual st f fd/\Binds K fd ps [] :=
 have F:=xM (st:=st) l c k
 ⟨f,_,⟨mk,a,i,h⟩,F,F.binds g⟩
theorem mf.more{q l:Addr}{xs:List V}{Φ:Hp->Prop}{lt:Nat->Nat->Bool}(K:mf X σ [] q l xs Φ κ lt):mf X σ pins q l xs Φ κ lt :=
 ⟨K.lst,λi x a pins' H s u _=>K.turn i x a pins' H s u (λ_ h=>nomatch h),K.cmp⟩
def Hs(X:Cx)(ta tb:TE):TE:=λσ H Q=>ta σ H λx H1=>tb σ H1 λy H2=>∃(l q:Addr)(xs:List V)(Φ:Hp->Prop)(κ:Nat->V->Hp->Prop)(lt:Nat->Nat->Bool),x=.ref l/\y=.ref q/\0<xs.length/\Φ H2/\mf X σ [] q l xs Φ κ lt /\
 ∀a v,Φ a->xs[bst lt (xs.length-1)]?=some v->Q v a
section
variable {a b:Expr}{ta tb:TE}
theorem AE(hc:X.calm=true)(hm:X.mg "min"=none)(ha:PE X a ta)(j:PE X b tb)(m:Gl X "min":=by rfl)(f:starEach [a] X.env=[(false,eval a X.env)]:=by rfl)(wk:∀{σ H} {Q c:VK},ta σ H Q->(∀x H,Q x H->c x H)->ta σ H c)(g:∀{σ H} {Q c:VK},tb σ H Q->(∀x H,Q x H->c x H)->tb σ H c) :
  PE X (.Call (.Name "min" p) [a] [⟨some "key",b,kp⟩] pos) (Hs X ta tb):=by
 intro pins s σ H Q I h;refine wpAny_Call_Name_kw (fS I m hm Ho ?_ #[2] #[2]);refine callWith_kw ?_ (by rw[f];rfl) (by rw[f];rfl) rfl rfl;refine thn ((eV ha gJ f) pos pins s σ H (λvs H1=>∃x,vs=[x]/\tb σ H1 λy H2=>∃(l q:Addr)(xs:List V)(Φ:Hp->Prop)(κ:Nat->V->Hp->Prop)(lt:Nat->Nat->Bool),x=.ref l/\y=.ref q/\0<xs.length/\Φ H2/\mf X σ [] q l xs Φ κ lt /\
   ∀e v,Φ e->xs[bst lt (xs.length-1)]?=some v->Q v e) I
  (wk h λx H1 q=>⟨x,rfl,q⟩)) λus s1 ⟨vs,H1,I1,r1,x,q0,q1⟩=>?_
 subst q0;obtain⟨u,rfl,i⟩:=vals1 r1;refine thn ((FQ j Km) pos pins s1 σ H1 (λvs H2=>∃y,vs=[y]/\∃(l q:Addr)(xs:List V)(Φ:Hp->Prop)(κ:Nat->V->Hp->Prop)(lt:Nat->Nat->Bool),x=.ref l/\y=.ref q/\0<xs.length/\Φ H2/\mf X σ [] q l xs Φ κ lt /\
   ∀e v,Φ e->xs[bst lt (xs.length-1)]?=some v->Q v e) I1
  (g q1 λy H2 q=>⟨y,rfl,q⟩)) λws s2 ⟨zs,H2,I2,r2,y,q2,l,q,xs,Φ,κ,lt,ex,ey,hn,hΦ,KK,hQ⟩=>?_
 subst q2;obtain⟨v,rfl,n⟩:=vals1 r2;subst ex ey;obtain rfl:u=Value.ref l:=i;obtain rfl:v=Value.ref q:=n;exact IA KK.more (I2.ok.hd hc) I2 hΦ hn λH' s' x u o i J r=>⟨x,H',J,i,hQ H' x r o⟩
theorem AN{q l c':Addr}{xs:List V}{Φ:Hp->Prop}{lt:Nat->Nat->Bool}{k:Nat}{p:Str}{n:Value}{t:TE}
  (S:mB N [p] scope) (T:cm (k+2) X.A) (f:∀x c,cl.lookup x=some c->X.env.cells.lookup x=some c) (has:∀x,scope.names.lookup x=some .free->∃c,cl.lookup x=some c) (U:N.length=1+cap.length)
  (B:∀(i m:Nat)(x:Str),N[1+i]?=some x->cap[i]?=some m->X.N[m]?=some x/\scope.names.lookup x=some .free/\(X.env.kindOf x=some .cell\/X.env.kindOf x=some .free)/\Vis X.env.scope x)
  (Y:∀u,bindArgs (W.kla_fn "<lambda>" qual params body scope cl pm (.ref c') n) ⟨[u],[]⟩=pure ([p].zip [u]))
  (D:∀H,Φ H->H l=some (.lst xs)) (L:∀H,Φ H->H q=some (.frz (W.kla_obj "<lambda>" qual params body scope cl pm c' n) (.own q))/\∃o vs t,H c'=some (.frz o (.own c'))/\o.data=.fields vs/\vs[1]?=some (.str qual t))
  (g:∀(s:Shared)(H:Hp),PE (tK (CXW X.prog X.w) X.prog X.w X.K X.mg X.base N qual scope q (.ref c') cl X.A.in1 X.stack s H E0) body t)
  (turn:∀(i:Nat)(x:V)(H:Hp),xs[i]?=some x->Φ H->t (some x::cap.map λm=>(σ[m]?).join) H λv H'=>Φ H'/\κ i v H'/\∀j O,κ j O H->κ j O H')
  (cmp:∀(i j:Nat)(x y:V)(pins':List (Addr×Obj))(H:Hp)(s:Shared)(u v:Value),Inv X.in1 pins' σ H s->Φ H->κ i x H->κ j y H->RelV x u->RelV y v ->
   wpAny #[4] X.A.in1 (richCompare .Lt u v) (λr s'=>r=.bool (lt i j)/\Inv X.in1 pins' σ H s') (λ_ _=>False) s):mf X σ [] q l xs Φ κ lt:=by
 refine⟨D,λi x Z pins' H s u _ I F ru=>?_,cmp⟩;obtain⟨h,oc,vs,tt,h1,h2,h3⟩:=L H F;have C:Kd s H cl scope N [p].length (cap.map λm=>(σ[m]?).join):=by
  refine⟨λa b c e1 e2=>I.ok.inj a b c (f a c e1) (f b c e2),has,λa c e=>I.cell a c (f a c e),λa c e=>I.freeC a c (f a c e),by rw[M6];exact U,λj y v e1 e2=>?_⟩;rw[MP]at e2;cases hm:cap[j]? with
  |none=>rw[hm]at e2;cases e2
  |some m =>
   rw[hm]at e2;have G:(σ[m]?).join=some v:=by simpa using e2
   obtain⟨hX,P,J,hv⟩:=B j m y e1 hm;have e4:σ[m]?=some (some v):=by
    cases z:σ[m]? with
    |none=>rw[z]at G;cases G
    |some w=>rw[z]at G;cases w with
     |none=>cases G
     |some w=>cases G;rfl
   obtain⟨mm,hn,hl⟩:=I.loc;obtain⟨u,rv,lk⟩:=hl m y v hX e4 hv;rcases lk with⟨z,_⟩|⟨_,c,M,e6⟩
   ·have z:X.env.kindOf y=some .local:=z;rcases J with J|J <;> (rw[z]at J;cases J)
   ·obtain⟨c2,Q⟩:=has y P;have R:=f y c2 Q;have M:X.env.cells.lookup y=some c:=M;rw[M]at R;cases R;exact⟨u,c,rv,P,Q,e6⟩
 refine wpAny_call (codeAny_mono (FR (CX:=CXW X.prog X.w) (E:=E0) S T.in1 I.env0 rfl (.cons ru .nil) C (I.hok q _ h).1 ⟨c',oc,vs,tt,rfl,(I.hok c' _ h1).1,h2,h3⟩ (Y u) (g s H) (turn i x H Z F)) λr s' h=>?_);cases r with
 |error e=>obtain⟨_,_,_,_,_,_,z,_⟩:=h;exact z.elim
 |ok fl =>
  cases fl with
  |ret u=>exact I.after h
  |next=>exact False.elim h
  |brk=>exact False.elim h
  |cont=>exact False.elim h
end
section
variable {E:XK}{a b:Expr}
end
section
variable {E:XK}
end
structure iZ(P:Program)(w:World)(K:W.Frag)(mg:Str->Option Value)(base:Heap)(k:Nat)(C:Addr)(m:Str)(n:Nat)(gf:List PyData->Rs PyData):Prop where
 ex:∃f fd ps,Cls K C/\Meth K C m f/\gU P w K mg base (CXW P w) k f fd ps (spD K n gf)/\Binds K fd ps []
def jQ(m:Str):List (PyData×PyData)->Bool
 |[]=>true
 |(k,_)::r=>match k with
  |.str g=>decide (g≠m)&&jQ m r
  |_=>false
def isC(C:Addr)(m:Str):PyData->Bool
 |.dict (k::r)=>match k with
  |(.str z,.int c)=>decide (z="")&&decide (c=(C:Int))&&jQ m r
  |_=>false
 |_=>false
theorem Isk.jQ{K:W.Frag}{H:Hp}{m:Str}:∀{r:List (PyData×PyData)}{fs:List (Str×V)},Isk K H r fs->L2.jQ m r=true->fs.lookup m=none
 |[],_,h,_=>by unfold Isk at h;rw[h];rfl
 |(k,d)::r,fs,h,n=>by unfold Isk at h;obtain⟨f,v,fs',rfl,rfl,h1,h2⟩:=h;simp only[L2.jQ,M9,decide_eq_true_eq]at n;rw[N9,show (m==f)=false by simpa using λq=>n.1 q.symm];exact Isk.jQ h2 n.2
theorem JZ{d:PyData}(e:isC C m d=true)(h:Is K H d v):∃a dx fs,v=.ref a/\H a=some (.ins C dx fs)/\fs.lookup m=none:=by
 unfold isC at e;split at e
 ·rename_i k r;split at e
  ·rename_i z c;simp only[M9,decide_eq_true_eq]at e;obtain⟨⟨rfl,rfl⟩,n⟩:=e;unfold Is at h;rcases h with (⟨a,ns,_,b,_⟩|⟨a,l,_,b,_⟩)|⟨a,j,dx,fs,o,h1,hn,h2|h2⟩
   ·injection b with b _;cases b
   ·rcases b with⟨m,b,_⟩|⟨m,b,_⟩ <;> first|(cases b;done)|(cases m <;> cases b)
   ·unfold Isk at h2;obtain⟨g,u,fs',e1,e2,h3,i⟩:=h2;cases e1;have f:=h3.ofInt;injection f with f
    obtain rfl:j=C:=Int.ofNat.inj f;exact⟨a,dx,fs,o,h1,i.jQ n⟩
   ·unfold Isk at h2;obtain⟨g,u,fs',e1,e2,h3,i⟩:=h2;cases e1;have f:=h3.ofInt;injection f with f
    obtain rfl:j=C:=Int.ofNat.inj f;have l:=i.jQ n;rw[N9]at l;cases q:(m==("@":Str)) with
    |true=>rw[q]at l;cases l
    |false=>rw[q]at l;exact⟨a,dx,fs,o,h1,l⟩
  ·cases e
 ·cases e
def bw(C:Addr)(m:Str)(gf:List PyData->Rs PyData)(ga:Ds->Rs PyData)(gs:Ds->Rs #[5]):Ds->Rs PyData:=λδ=>(ga δ).bind λd=>if isC C m d then (gs δ).bind λds=>gf (d::ds) else .no
section
variable {E:XK}{o:Expr}{es:List Expr}{apos:Pos}
theorem bw.read{Q:VK}(hn:∀δ ds,gs δ=.ok ds->ds.length+1=n)(R:dR X.K H A δ σ)(b:iu X.K E A H (bw C m gf ga gs δ) Q):Av C m (spD X.K n gf) [] E (eD X.K E ga) (aD X.K E gs) σ H Q:=by
 unfold bw at b;refine eD.run R (λd f v H1 e g h1=>?_) (λC c H' s'=>?_) (λc=>?_)
 ·simp only[f,Rs.ag]at b;split at b
  ·rename_i hc;obtain⟨a,dx,fs,rfl,h,l⟩:=JZ hc h1;refine⟨a,dx,fs,rfl,az _ _ h,l,?_⟩;refine aD.run g (λds e2 vs H2 s2 R2 h2=>?_) (λC c H' s'=>?_) (λc=>?_)
   ·simp only[e2,Rs.ag]at b;refine⟨A,d::ds,R2.ls,?_,hn δ ds e2,b.mono (e.trans s2)⟩;rw[Nr];exact cM (h1.same s2.del) h2
   ·rw[c]at b;exact b H' (e.trans s')
   ·rw[c]at b;exact b
  ·exact b.elim
 ·rw[c]at b;exact b H' s'
 ·rw[c]at b;exact b
theorem Gb{k:Nat}{pl:Sem Bool}(D:iZ X.prog X.w X.K X.mg X.base k C m (es.length+2) gf)(c:cm j X.A)(g:Passes (CXW X.prog X.w) X E)(h:PD X E o ga)(ha:PAD X E (e::es) gs)(i:k<=j)
  (a:starEach (e::es) X.env=(false,eval e X.env)::starEach es X.env) (b:(backTo pos #[23]).any (·.1)=false)
  (l:eval (.Call (.Attribute o m apos) (e::es) [] pos) X.env=(do
   let ov <-eval o X.env
   standAt apos.atName
   let (f,first) <-holding [ov] (getMethod ov m pl)
   callWith pos f first (backTo pos (starEach (e::es) X.env)) (backToKw pos (keywordEach [] X.env)))) :
  PD X E (.Call (.Attribute o m apos) (e::es) [] pos) (bw C m gf ga gs):=by
 obtain⟨f,fd,ps,cl,hm,F,n⟩:=D.ex;exact (F8 h cl hm F (c.mono i) n .nil g ha.1 a b l).imp λσ H Q ⟨A,δ,R,ou⟩=>bw.read (λδ ds e=>by rw[ha.2 δ ds e];rfl) R ou
theorem DW{k:Nat}{pl:Sem Bool}(D:iZ X.prog X.w X.K X.mg X.base k C m 1 gf)(c:cm j X.A)(g:Passes (CXW X.prog X.w) X E)(i:PD X E o ga)(p:k<=j)
  (r:eval (.Call (.Attribute o m apos) [] [] pos) X.env=(do
   let ov <-eval o X.env
   standAt apos.atName
   let (f,first) <-holding [ov] (getMethod ov m pl)
   callWith pos f first (backTo pos (starEach [] X.env)) (backToKw pos (keywordEach [] X.env)))) :
  PD X E (.Call (.Attribute o m apos) [] [] pos) (bw C m gf ga ah):=by
 obtain⟨f,fd,ps,cl,hm,F,s⟩:=D.ex;refine (vX i cl hm F (c.mono p) s .nil g r).imp λσ H Q b=>?_
 obtain⟨A,δ,R,t⟩:=b;have h:=bw.read (gs:=ah) (X:=X) (n:=1) (λδ ds e=>by cases e;rfl) R t;unfold Av at h ⊢;exact h.weak λv H1 ⟨a,dx,fs,e,hp,l,q⟩=>⟨a,dx,fs,e,hp,l,by obtain⟨A',δ',R',o'⟩:=q;exact o' [] H1 (ax.refl _) c8⟩
end
noncomputable def intsOf:List PyData->Option (List Int)
 |[]=>some []
 |.int a::r=>(intsOf r).map (a::·)
 |_::_=>none
def lr:PyData->Option (Bool×List Int)
 |.int a=>some (false,[a])
 |.tuple ds=>(intsOf ds).map λl=>(true,l)
 |_=>none
def ltD(a b:PyData):Bool:=match lr a,lr b with
 |some (_,l),some (_,m)=>HT.lexLt l m
 |_,_=>false
def keysOk(ks:List PyData):Bool:=ks.all (λk=>match lr k with|some (false,_)=>true|_=>false)||ks.all λk=>match lr k with|some (true,_)=>true|_=>false
def allR(g:PyData->Rs PyData):List PyData->Rs #[5]
 |[]=>.ok []
 |d::r=>(g d).bind λk=>(allR g r).bind λks=>.ok (k::ks)
theorem xu{g:PyData->Rs PyData}:∀{ds ks:List PyData},allR g ds=.ok ks->ks.length=ds.length/\∀(i:Nat)(d:PyData),ds[i]?=some d->∃k,ks[i]?=some k/\g d=.ok k
 |[],ks,h=>by cases h;exact⟨rfl,λi d e=>by simp at e⟩
 |d::r,ks,h=>by
  unfold allR at h;cases e1:g d with
  |rz _=>rw[e1]at h;cases h
  |no=>rw[e1]at h;cases h
  |ok k =>
   rw[e1]at h;cases e2:allR g r with
   |rz _=>rw[Rs.ag,e2]at h;cases h
   |no=>rw[Rs.ag,e2]at h;cases h
   |ok t =>
    rw[Rs.ag,e2]at h;cases h;obtain⟨hl,a⟩:=xu e2;refine⟨by simp[hl],λi d' e=>?_⟩;cases i with
    |zero=>simp at e;subst e;exact⟨k,rfl,e1⟩
    |succ i=>simpa using a i d' (by simpa using e)
def vB(cap:List Nat)(δ:Ds):Ds:=cap.map λm=>(δ[m]?).join
def okR:Rs #[5]->(List PyData->Rs PyData)->Rs PyData
 |.ok a,f=>f a
 |_,_=>.no
def jo(cap:List Nat)(ga gb:Ds->Rs PyData):Ds->Rs PyData:=λδ=>(ga δ).bind λd=>match d with
 |.list ds=>if 0<ds.length then okR (allR (λx=>gb (some x::vB cap δ)) ds) λks=>if keysOk ks then .eF (ds[bst (λi j=>ltD (ks.getD i .none) (ks.getD j .none)) (ds.length-1)]?) else .no else .no
 |_=>.no
theorem Ae{d:PyData}{l:List Int}(e:lr d=some (false,l))(h:Is K H d v):∃n,l=[n]/\v=.int n:=by
 unfold lr at e;split at e
 ·cases e;exact⟨_,rfl,h.ofInt⟩
 ·rename_i ds;cases q:intsOf ds with
  |none=>rw[q]at e;cases e
  |some l=>rw[q]at e;cases e
 ·cases e
theorem tG:∀{ds:List PyData}{l:List Int},intsOf ds=some l->ds=l.map PyData.int
 |[],l,e=>by cases e;rfl
 |d::r,l,e=>by
  cases d <;> first|(cases e;done)|skip
  rename_i a;unfold intsOf at e;cases q:intsOf r with
  |none=>rw[q]at e;cases e
  |some t=>rw[q]at e;cases e;rw[tG q];rfl
theorem wN{d:PyData}{l:List Int}(e:lr d=some (true,l))(h:Is K H d v):∃a,v=.ref a/\H a=some (.tup (l.map V.int)):=by
 unfold lr at e;split at e
 ·cases e
 ·rename_i ds;cases q:intsOf ds with
  |none=>rw[q]at e;cases e
  |some l' =>rw[q]at e;cases e;obtain⟨a,xs,c,f,b⟩:=h.ofTup;rw[tG q]at b;exact⟨a,c,by rw[f,b.ofInts]⟩
 ·cases e
section
theorem DO{ks:List PyData}(P:X.A.in1.units<cLine)(g:keysOk ks=true){x:V}{v:Value}{a b:PyData}(I:Inv X.in1 pins σ H s)
  (ea:ks[i]?=some a) (Q:ks[j]?=some b) (F:Is X.K (del H A) a x) (G:Is X.K (del H A) b y) (L:RelV x u) (M:RelV y v) :
  wpAny #[4] X.A.in1 (richCompare .Lt u v) (λr s'=>r=.bool (ltD a b)/\Inv X.in1 pins σ H s') (λ_ _=>False) s:=by
 have J:=I.wish λ_ _=>False
 have N:a∈ks:=Nm ea;have O:b∈ks:=Nm Q;unfold keysOk at g;rcases Bool.or_eq_true_iff.mp g with g|g
 ·have c:=MX.mp g a N;have f:=MX.mp g b O;cases ka:lr a with
  |none=>rw[ka]at c;cases c
  |some p=>obtain⟨o,la⟩:=p;cases o with
   |true=>rw[ka]at c;cases c
   |false=>cases kb:lr b with
    |none=>rw[kb]at f;cases f
    |some p=>obtain⟨t,l⟩:=p;cases t with
     |true=>rw[kb]at f;cases f
     |false =>
      obtain⟨n,rfl,rfl⟩:=Ae ka F;obtain⟨m,rfl,rfl⟩:=Ae kb G;have e:ltD a b=decide (n<m):=by
       unfold ltD;rw[ka,kb];show HT.lexLt [n] [m]=_;rw[HT.rh,HT.ll];by_cases z:n=m
       ·subst z;simp
       ·simp[z]
      rw[e];refine thn (DU (X:=X.in1.wish λ_ _=>False) pins s σ H (.int n) (.int m) u v (λr H'=>r=.bl (decide (n<m))/\H'=H) J L M ⟨n,m,rfl,rfl,rfl,rfl⟩) λr s' h=>?_
      obtain⟨R,H',B,C,D,E⟩:=h;subst D E;exact⟨C,B.unwish⟩
 ·have c:=MX.mp g a N;have f:=MX.mp g b O;cases ka:lr a with
  |none=>rw[ka]at c;cases c
  |some p=>obtain⟨o,la⟩:=p;cases o with
   |false=>rw[ka]at c;cases c
   |true=>cases kb:lr b with
    |none=>rw[kb]at f;cases f
    |some p=>obtain⟨t,l⟩:=p;cases t with
     |false=>rw[kb]at f;cases f
     |true =>
      obtain⟨p,rfl,S⟩:=wN ka F;obtain⟨q,rfl,T⟩:=wN kb G;have e:ltD a b=HT.lexLt la l:=by unfold ltD;rw[ka,kb]
      rw[e];refine thn (Ih (X:=X.in1.wish λ_ _=>False) P pins s σ H (.ref p) (.ref q) u v (λr H'=>r=.bl (HT.lexLt la l)/\H'=H) J L M ⟨p,q,la,l,rfl,rfl,SqT.of (az _ _ S),SqT.of (az _ _ T),rfl,rfl⟩) λr s' h=>?_
      obtain⟨R,H',B,C,D,E⟩:=h;subst D E;exact⟨C,B.unwish⟩
theorem BI{E:XK}{a:Expr}{G p0:Pos}{g:List (Str×Addr)}{P:Addr}{k:Nat}{p:Str}
  (hc:X.calm=true) (hm:X.mg "min"=none) (hr:cm (k+2) X.A) (ha:PD X E a ga) (T:CF X c P) (U:closureFor scope X.env=pure g) (S:mB N [p] scope)
  (J:∀x c,g.lookup x=some c->X.env.cells.lookup x=some c) (has:∀x,scope.names.lookup x=some .free->∃c,g.lookup x=some c) (hN:N.length=1+cap.length)
  (L:∀(i m:Nat)(x:Str),N[1+i]?=some x->cap[i]?=some m->X.N[m]?=some x/\scope.names.lookup x=some .free/\(X.env.kindOf x=some .cell\/X.env.kindOf x=some .free)/\Vis X.env.scope x)
  (hb:∀(c':Addr)(pm r u:Value),bindArgs (W.kla_fn "<lambda>" (X.env.qual++"<lambda>") params body scope g pm (.ref c') r) ⟨[u],[]⟩=pure ([p].zip [u]))
  (D:∀(q c':Addr)(s:Shared)(H:Hp),PD (tK (CXW X.prog X.w) X.prog X.w X.K X.mg X.base N (X.env.qual++"<lambda>") scope q (.ref c') g X.A.in1 X.stack s H E0) E0 body gb)
  (hg:Gl X "min":=by rfl) (he:starEach [a] X.env=[(false,eval a X.env)]:=by rfl) (M:defaultsOf params X.env=([],[]):=by rfl) :
  PD X E (.Call (.Name "min" p0) [a] [⟨some "key",.Lambda params body scope G,kp⟩] pos) (jo cap ga gb):=by
 refine (AE hc hm ha (IF T U M) hg he (λh k=>eD.weak h k) (λh k f c' r H' n e s c=>k _ _ (h f c' r H' n e s c))).imp λσ H Q Y=>?_
 obtain⟨A,δ,R,b⟩:=Y;unfold jo at b;refine eD.run R (λd ed v H1 s1 R1 h1=>?_) (λC Z H' s'=>?_) (λZ=>?_)
 ·rw[ed,Rs.ag]at b;cases d with
  |list ds =>
   by_cases hpos:0<ds.length
   case neg=>simp only[if_neg hpos]at b;exact b.elim
   simp only[if_pos hpos]at b;cases ek:allR (λx=>gb (some x::vB cap δ)) ds with
   |rz _=>rw[ek]at b;exact b.elim
   |no=>rw[ek]at b;exact b.elim
   |ok ks =>
    rw[ek]at b;cases hko:keysOk ks with
    |false=>simp only[okR,hko]at b;exact b.elim
    |true =>
     simp only[okR,hko,if_true]at b;intro f c' r H2 hn hf s2 F;obtain⟨l,xs,rfl,hl,hx⟩:=h1.ofLst;have hlen:=hx.length;obtain⟨hkl,hkg⟩:=xu ek;refine⟨l,f,xs,λH=>ax H2 H,λi v H=>∃O,ks[i]?=some O/\Is X.K (del H A) O v,λi j=>ltD (ks.getD i .none) (ks.getD j .none),rfl,rfl,by omega,ax.refl _,?_,λH3 v s3 ev=>?_⟩
     ·refine AN (t:=eD X.K E0 gb) (c':=c') (cap:=cap) S hr J has hN L (hb c' _ r) (λH s=>s _ _ (s2 _ _ (az _ _ hl))) (λH s=>⟨s _ _ hf,?_⟩) (λs H=>D f c' s H) (λi x H ex s=>?_) (λi j x y pins' H s u v I sΦ hx' hy' rx ry=>?_)
      ·obtain⟨o,vs,t,e1,e2,B⟩:=F;exact⟨o,vs,t,s _ _ e1,e2,B⟩
      ·obtain⟨d,e1,hd⟩:=hx.get ex;obtain⟨O,e2,gk⟩:=hkg i d e1;have R':dR X.K H A δ σ:=R.same (s1.trans (s2.trans s));refine⟨A,some d::vB cap δ,⟨R'.ls,by simp[vB],λn d' e=>?_⟩,?_⟩
       ·cases n with
        |zero =>have e:some (some d)=some (some d'):=e;cases e;exact⟨x,rfl,hd.same (ax.del (s2.trans s))⟩
        |succ n =>
         have e:(vB cap δ)[n]?=some (some d'):=by simpa using e
         unfold vB at e;rw[MP]at e;cases hm':cap[n]? with
         |none=>rw[hm']at e;cases e
         |some m =>
          rw[hm']at e;have B:(δ[m]?).join=some d':=by simpa using e
          have e4:δ[m]?=some (some d'):=by
           cases z:δ[m]? with
           |none=>rw[z]at B;cases B
           |some w=>rw[z]at B;cases w with
            |none=>cases B
            |some w=>cases B;rfl
          obtain⟨v',e5,h5⟩:=R'.get m d' e4;exact⟨v',by simp[hm',e5],h5⟩
       ·have gk':gb (some d::vB cap δ)=.ok O:=gk;rw[gk'];exact λv H' s' q=>⟨s.trans s',⟨O,e2,q⟩,λj v' qz2=>(by obtain⟨kd',B,e4⟩:=qz2;exact⟨kd',B,e4.same s'.del⟩)⟩
      ·obtain⟨ka,e1,h1'⟩:=hx';obtain⟨kb,e2,h2'⟩:=hy';have:=DO (X:=X) (by have:=hr.un;show X.A.units+1<_;omega) hko I e1 e2 h1' h2' rx ry;rw[MT,MT,e1,e2];exact this
     ·rw[hlen]at ev;obtain⟨d,e1,hd⟩:=hx.get ev;rw[e1]at b;exact b v H3 (s1.trans (s2.trans s3)) (hd.same (ax.del (s2.trans s3)))
  |_=>exact b.elim
 ·rw[Z]at b;exact b H' s'
 ·rw[Z]at b;exact b
end
section
mutual
theorem Is.off{C dx:Addr}{fs:List (Str×V)}(ha:H a=some (.ins C dx fs)):∀{d:PyData}{v:V},aF d=true->Is K H d v->Is K (del H [a]) d v
 |.none,_,_,h=>by unfold Is at h ⊢;exact h
 |.bool _,_,_,h=>by unfold Is at h ⊢;exact h
 |.int _,_,_,h=>by unfold Is at h ⊢;exact h
 |.str _,_,_,h=>by unfold Is at h ⊢;exact h
 |.dict _,_,n,_=>by unfold aF at n;cases n
 |.list ds,_,n,h=>by unfold aF at n;obtain⟨b,xs,e,h1,h2⟩:=h.ofLst;subst e;exact ky (by rw[aP (λz=>by rw[MR.mp z,ha]at h1;cases h1)];exact h1) (Iss.off ha n h2)
 |.tuple ds,_,n,h=>by unfold aF at n;obtain⟨b,xs,e,h1,h2⟩:=h.ofTup;subst e;exact iS (by rw[aP (λz=>by rw[MR.mp z,ha]at h1;cases h1)];exact h1) (Iss.off ha n h2)
theorem Iss.off{C dx:Addr}{fs:List (Str×V)}(ha:H a=some (.ins C dx fs)):∀{ds:List PyData}{vs:List V},df ds=true->Iss K H ds vs->Iss K (del H [a]) ds vs
 |[],_,_,h=>by rw[h.nil_of];exact c8
 |d::ds,_,n,h=>by unfold df at n;obtain⟨n1,n2⟩:=NB.mp n;obtain⟨v,r,e,h1,h2⟩:=h.cons_of;subst e;exact cM (Is.off ha n1 h1) (Iss.off ha n2 h2)
end
noncomputable def lE:List (PyData×PyData)->Bool
 |[]=>true
 |(_,d)::r=>aF d&&lE r
theorem Isk.off{C dx:Addr}{fs:List (Str×V)}(ha:H a=some (.ins C dx fs)):∀{ds:List (PyData×PyData)}{gs:List (Str×V)},lE ds=true->Isk K H ds gs->Isk K (del H [a]) ds gs
 |[],_,_,h=>by unfold Isk at h ⊢;exact h
 |(k,d)::ds,_,n,h=>by unfold lE at n;obtain⟨n1,n2⟩:=NB.mp n;unfold Isk at h ⊢;obtain⟨f,v,r,e1,e2,h1,h2⟩:=h;exact⟨f,v,r,e1,e2,Is.off ha n1 h1,Isk.off ha n2 h2⟩
def kC:List (PyData×PyData)->Option Int
 |(.str x,.int _)::(.str y,.int b)::r=>if x=""/\y="@"/\lE r then some b else none
 |_=>none
mutual
def objs:PyData->Bool
 |.list ds=>kq ds
 |.tuple ds=>kq ds
 |.dict kvs=>(kC kvs).isSome
 |_=>true
def kq:List PyData->Bool
 |[]=>true
 |d::ds=>objs d&&kq ds
end
mutual
def fK(a:Addr)(nd:PyData):PyData->PyData
 |.list ds=>.list (jP a nd ds)
 |.tuple ds=>.tuple (jP a nd ds)
 |.dict kvs=>if kC kvs=some (a:Int) then nd else .dict kvs
 |d=>d
def jP(a:Addr)(nd:PyData):List PyData->List PyData
 |[]=>[]
 |d::ds=>fK a nd d::jP a nd ds
end
end
def lC(a:Addr)(nd:PyData)(δ:Ds):Ds:=δ.map λd=>d.map (fK a nd)
theorem mU{d:PyData}(h:(lC a nd δ)[i]?=some (some d)):∃b,δ[i]?=some (some b)/\d=fK a nd b:=by
 unfold lC at h;rw[MP]at h;cases e:δ[i]? with
 |none=>rw[e]at h;cases h
 |some x=>cases x with
  |none=>rw[e]at h;cases h
  |some b=>rw[e]at h;cases h;exact⟨b,rfl,rfl⟩
theorem wM(h:a∉B):del (upd H a o) B=upd (del H B) a o:=by
 funext b;by_cases z:b=a
 ·subst z;rw[aP h,aH,aH]
 ·rw[aC z];by_cases y:b∈B
  ·rw[hZ y,hZ y]
  ·rw[aP y,aP y,aC z]
section
theorem jc{fs:List (Str×V)}(e:ax (del H [a]) H')(ha:H a=some (.ins C dx fs))(f:H b=some o)(c:b≠a):H' b=some o :=
 e _ _ (by rw[aP (λz=>c (MR.mp z))];exact f)
mutual
theorem Is.mutH{C dx:Addr}{fs:List (Str×V)}{nd:PyData}(ha:H a=some (.ins C dx fs))(j:ax (del H [a]) H')(hn:Is K H' nd (.ref a)):∀{d:PyData}{v:V},objs d=true->Is K H d v->Is K H' (fK a nd d) v
 |.none,_,_,h=>by unfold fK;unfold Is at h ⊢;exact h
 |.bool _,_,_,h=>by unfold fK;unfold Is at h ⊢;exact h
 |.int _,_,_,h=>by unfold fK;unfold Is at h ⊢;exact h
 |.str _,_,_,h=>by unfold fK;unfold Is at h ⊢;exact h
 |.list ds,_,n,h=>by unfold objs at n;obtain⟨b,xs,e,h1,h2⟩:=h.ofLst;subst e;unfold fK;exact ky (jc j ha h1 (λz=>by rw[z,ha]at h1;cases h1)) (Iss.mutH ha j hn n h2)
 |.tuple ds,_,n,h=>by unfold objs at n;obtain⟨b,xs,e,h1,h2⟩:=h.ofTup;subst e;unfold fK;exact iS (jc j ha h1 (λz=>by rw[z,ha]at h1;cases h1)) (Iss.mutH ha j hn n h2)
 |.dict kvs,v,n,h=>by
  unfold objs at n;unfold fK;unfold kC at n ⊢;split at n
  case h_2=>cases n
  rename_i x F y b r;split at n
  case isFalse=>cases n
  rename_i G;obtain⟨rfl,rfl,B⟩:=G;have I:∃(g:Addr)(o c:Addr)(gs:List (Str×V)),v=.ref g/\b=(g:Int)/\F=(o:Int)/\H g=some (.ins o c gs)/\gs.lookup ("@":Str)=none/\Isk K H r gs:=by
   unfold Is at h;rcases h with (⟨s,ns,_,e,_⟩|⟨s,l,_,e,_⟩)|⟨s,o,c,gs,e,h1,i,h2|h2⟩
   ·cases e
   ·rcases e with⟨m,e,_⟩|⟨m,e,_⟩ <;> first|(cases e;done)|(cases m <;> cases e)
   ·unfold Isk at h2;obtain⟨f,u,t,e1,e2,h3,p⟩:=h2;cases e1;unfold Isk at p;obtain⟨f,u,t,e1,e2,D,E⟩:=p;injection e2 with e2
    subst e2 e1;rw[N9]at i;simp at i
   ·unfold Isk at h2;obtain⟨f,u,t,e1,e2,h3,p⟩:=h2;cases e1;have w:=h3.ofInt;injection w with w
    unfold Isk at p;obtain⟨f,u,t,e1,e2,D,E⟩:=p;cases e1;have A:=D.ofInt;injection A with A
    exact⟨s,o,c,gs,e,A.symm,w.symm,h1,i,E⟩
  obtain⟨g,o,c,gs,rfl,rfl,rfl,h1,hl,h2⟩:=I;simp only[B,and_self,if_true];by_cases z:g=a
  ·subst z;rw[if_pos rfl];exact hn
  ·have zz:¬ (some (g:Int)=some (a:Int)):=λq=>z (Int.ofNat.inj (Option.some.inj q))
   rw[if_neg zz];unfold Is;refine .inr ⟨g,o,c,gs,rfl,jc j ha h1 z,hl,.inr (eP bN (eP bN ?_))⟩;exact (Isk.off ha B h2).same j
theorem Iss.mutH{C dx:Addr}{fs:List (Str×V)}{nd:PyData}(ha:H a=some (.ins C dx fs))(b:ax (del H [a]) H')(hn:Is K H' nd (.ref a)):∀{ds:List PyData}{vs:List V},kq ds=true->Iss K H ds vs->Iss K H' (jP a nd ds) vs
 |[],_,_,h=>by rw[h.nil_of];unfold jP;exact c8
 |d::ds,_,n,h=>by unfold kq at n;obtain⟨n1,n2⟩:=NB.mp n;obtain⟨v,r,e,h1,h2⟩:=h.cons_of;subst e;unfold jP;exact cM (Is.mutH ha b hn n1 h1) (Iss.mutH ha b hn n2 h2)
end
theorem GL:ax (del H [a]) H'->ax (del (del H B) [a]) (del H' B):=λc b o e=>by obtain⟨e1,e2⟩:=bj e;obtain⟨f,g⟩:=bj e2;rw[aP f];exact c b o (by rw[aP e1];exact g)
theorem bX.mutH{fs:List (Str×V)}(R:bX K H0 A0 H A O δ σ)
  (ha:H a=some (.ins C dx fs)) (s:H0 a=none) (n:∀(i:Nat) d,δ[i]?=some (some d)->objs d=true) (l:ax (del H [a]) H') (hn:Is K (del H' (A++A0)) nd (.ref a)):bX K H0 A0 H' A O (lC a nd δ) σ:=by
 have o:Ls H A0:=R.ls0.same R.same;have na:a∉A++A0:=λz=>by
  rcases Nb.mp z with z|z
  ·obtain⟨xs,e,q⟩:=R.ls a z;rw[ha]at e;cases e;cases q
  ·obtain⟨xs,e,q⟩:=o a z;rw[ha]at e;cases e;cases q
 have hd:del H (A++A0) a=some (.ins C dx fs):=by rw[aP na];exact ha
 have g:ax (del (del H (A++A0)) [a]) (del H' (A++A0)):=GL l;refine⟨λb u e=>?_,R.ls0,R.new,λb p=>?_,?_,λi d hi e=>?_,λi d hi e=>?_,λi j d e b hi t e1 e2 w x=>?_⟩
 ·exact jc l ha (R.same b u e) (λz=>by rw[z,s]at e;cases e)
 ·obtain⟨xs,e,q⟩:=R.ls b p;exact⟨xs,jc l ha e (λz=>by rw[z,ha]at e;cases e;cases q),q⟩
 ·unfold lC;rw[M6];exact R.len
 ·obtain⟨c,f,rfl⟩:=mU e;obtain⟨v,e1,h1⟩:=R.pl i c hi f;exact⟨v,e1,Is.mutH hd g hn (n i c f) h1⟩
 ·obtain⟨c,f,rfl⟩:=mU e;obtain⟨b,o',d1,e1,p,r,rfl,h1⟩:=R.own i c hi f;have h:=n i _ f;obtain⟨ds,xs,rfl,rfl⟩:∃ds xs,c=.list ds/\o'=.lst xs:=by
   unfold iK at h1;split at h1
   ·exact⟨_,_,rfl,rfl⟩
   ·exfalso;rcases h1 with⟨m,rfl,_⟩|⟨m,rfl,_⟩ <;> unfold objs kC at h <;> cases m <;> simp at h
   ·exact h1.elim
  have h1:Iss K _ ds xs:=h1;have:=n i _ f;unfold objs at this;exact⟨b,.lst xs,.list (jP a nd ds),e1,p,jc l ha r (λz=>by rw[z,ha]at r;cases r),by unfold fK;rfl,Iss.mutH hd g hn this h1⟩
 ·obtain⟨c,y,_⟩:=mU e1;obtain⟨d1,B,_⟩:=mU e2;exact R.inj i j c d1 b hi t y B w x
end
def sDN(as:List Addr)(K:W.Frag)(E:XK)(O:List Nat)(G:Ds->Sr):TS:=λD σ H=>∃H0 A0 A δ,(∀a∈as,H0 a=none)/\bX K H0 A0 H A O δ σ/\nk K E H0 A0 O (G δ) D
def PSN(as:List Addr)(X:Cx)(E:XK)(O:List Nat)(s:Stmt)(G:Ds->Sr):Prop:=PS X s (sDN as X.K E O G)
def PBN(as:List Addr)(X:Cx)(E:XK)(O:List Nat)(ss:List Stmt)(G:Ds->Sr):Prop:=PSs X ss (sDN as X.K E O G)
section
variable {E:XK}{ss:List Stmt}{G G':Ds->Sr}{c:Expr}{ca:Ds->Rs Bool}
theorem Jd(h:PSD X E O st G):PSN as X E O st G:=h.imp λD σ H a=>(by obtain⟨H0,A0,A,δ,_,R,o⟩:=a;exact⟨H0,A0,A,δ,R,o⟩)
theorem Ky(h:PBD X E O ss G):PBN as X E O ss G:=h.imp λD σ H a=>(by obtain⟨H0,A0,A,δ,_,R,o⟩:=a;exact⟨H0,A0,A,δ,R,o⟩)
theorem FH:PBN as X E O [] aV:=Ky uS
theorem wO(h1:PSN as X E O st G)(h2:PBN as X E O ss G'):PBN as X E O (st::ss) (ay G G'):=(cO h1 h2).imp λD σ H ⟨H0,A0,A,δ,hn,R,o⟩=>⟨H0,A0,A,δ,hn,R,by
 unfold ay at o;cases q:G δ with
 |nx δ'=>rw[q]at o;exact λa σ' H' b=>⟨H0,A0,a,δ',hn,b,o⟩
 |rt d=>rw[q]at o;exact o
 |rz C=>rw[q]at o;exact o
 |bk d=>rw[q]at o;exact o
 |ct d=>rw[q]at o;exact o
 |no=>rw[q]at o;exact o⟩
theorem zB(h1:PSN as X E O st G):PBN as X E O [st] G:=(iC h1).imp λD σ H h=>h
theorem Jw{a:List Stmt}(hc:PCD X E c ca)(h1:PBN as X E O ss G)(h2:PBN as X E O a G'):PSN as X E O (.If c ss a pos) (sIf ca G G'):=(An hc h1 h2).imp λD σ H e=>by
 obtain⟨H0,A0,A,δ,hn,R,o⟩:=e;unfold sIf at o;refine cD.run R.full (λt b H1 f R1=>?_) (λC b H' s'=>?_) (λb=>?_)
 ·rw[b]at o;cases t with
  |true=>exact⟨H0,A0,A,δ,hn,R.step f,o⟩
  |false=>exact⟨H0,A0,A,δ,hn,R.step f,o⟩
 ·rw[b]at o;exact o H' (R.same.trans s')
 ·rw[b]at o;exact o
theorem Bb(fuel:Nat)(j:PassesOwn #[4] X.A X.env X.xe)(hc:PCD X E c ca)(l:PBN as X E O ss G):PSN as X E O (.While c ss [] pos) (λδ=>cE ca G fuel δ):=(vG j hc l).imp λD σ H e=>by
 obtain⟨H0,A0,A,δ,hn,R,o⟩:=e;refine⟨λm σ H=>∃A δ,bX X.K H0 A0 H A O δ σ/\nk X.K E H0 A0 O (cE ca G m δ) D,⟨fuel,A,δ,R,o⟩,?_⟩
 rintro m σ H ⟨A,δ,R,o⟩
 cases m with
 |zero=>exact o.elim
 |succ m =>
  unfold cE at o;refine cD.run R.full (λt a H1 i R1=>?_) (λC a H' s'=>?_) (λa=>?_)
  ·rw[a]at o;cases t with
   |false=>exact o A σ H1 (R.step i)
   |true =>
    refine⟨λb H'=>∃A δ,bX X.K H0 A0 H' A O δ b/\nk X.K E H0 A0 O (cE ca G m δ) D,λb H' q=>⟨m,NO m,q⟩,H0,A0,A,δ,hn,R.step i,?_⟩;have o:nk X.K E H0 A0 O (match G δ with
     |.nx δ2=>cE ca G m δ2
     |.ct δ2=>cE ca G m δ2
     |.bk δ2=>.nx δ2
     |.rt v=>.rt v
     |.rz C=>.rz C
     |.no=>.no) D:=o
    cases eb:G δ with
    |nx δ2=>rw[eb]at o;exact λf g n h=>⟨f,δ2,h,o⟩
    |ct δ2=>rw[eb]at o;exact λf g n h=>⟨f,δ2,h,o⟩
    |bk δ2=>rw[eb]at o;exact o
    |rt v=>rw[eb]at o;exact o
    |rz C=>rw[eb]at o;exact o
    |no=>rw[eb]at o;exact o.elim
  ·rw[a]at o;exact o H' (R.same.trans s')
  ·rw[a]at o;exact o
end
def lO:List (PyData×PyData)->Option (List (Str×PyData))
 |[]=>some []
 |(.str f,d)::r=>(lO r).map λl=>(f,d)::l
 |_=>none
theorem sN:∀{r:List (PyData×PyData)}{fds:List (Str×PyData)},lO r=some fds->r=fds.map λp=>(.str p.1,p.2)
 |[],fds,e=>by cases e;rfl
 |(k,d)::r,fds,e=>by
  cases k <;> first|(cases e;done)|skip
  rename_i f;unfold lO at e;cases q:lO r with
  |none=>rw[q]at e;cases e
  |some l=>rw[q]at e;cases e;rw[sN q];rfl
theorem qF:∀fds:List (Str×PyData),lO (fds.map λp=>(.str p.1,p.2))=some fds
 |[]=>rfl
 |p::r=>by rw[M5];unfold lO;rw[qF r];rfl
def objOf:PyData->Option (Addr×Addr×List (Str×PyData))
 |.dict ((.str x,.int c)::(.str y,.int b)::r)=>if x=""/\y="@"/\0<=c/\0<=b then (lO r).map λl=>(c.toNat,b.toNat,l) else none
 |_=>none
theorem Ew{d:PyData}{fds:List (Str×PyData)}(e:objOf d=some (C,a,fds)):d=cB C a fds:=by
 unfold objOf at e;split at e
 ·rename_i x c y b r;split at e
  ·rename_i h;obtain⟨rfl,rfl,f,h1⟩:=h;obtain⟨l,q,e⟩:=NX.mp e;cases e;rw[sN q];unfold cB;rw[O7 f,O7 h1]
  ·cases e
 ·cases e
theorem sL(C a:Addr)(fds:List (Str×PyData)):objOf (cB C a fds)=some (C,a,fds):=by unfold cB objOf;simp only[Ob,and_self,if_true,qF,NQ,N7]
def oS(f:Str):List (Str×PyData)->Option PyData
 |[]=>none
 |(g,d)::r=>if g=f then some d else oS f r
def qe(f:Str)(v:PyData):List (Str×PyData)->List (Str×PyData)
 |[]=>[(f,v)]
 |(g,x)::r=>if g=f then (g,v)::r else (g,x)::qe f v r
theorem Isk.put{K:W.Frag}{H:Hp}{f:Str}{d:PyData}{v:V}(hv:Is K H d v):∀{fds:List (Str×PyData)}{gs:List (Str×V)},Isk K H (fds.map λp=>(.str p.1,p.2)) gs->Isk K H ((qe f d fds).map λp=>(.str p.1,p.2)) (iP f v gs)
 |[],gs,h=>by rw[Nw]at h;unfold Isk at h;subst h;exact eP hv pL
 |(g,x)::r,gs,h=>by
  rw[M5]at h;unfold Isk at h;obtain⟨g',u,a,rfl,e,h1,h2⟩:=h;injection e with e
  subst e;show Isk K H ((if g=f then (g,d)::r else (g,x)::qe f d r).map _) (if g=f then (g,v)::a else (g,u)::iP f v a);by_cases z:g=f
  ·rw[if_pos z,if_pos z];exact eP hv h2
  ·rw[if_neg z,if_neg z];exact eP h1 (Isk.put hv h2)
theorem Isk.look{K:W.Frag}{H:Hp}{f:Str}{d:PyData}:∀{fds:List (Str×PyData)}{gs:List (Str×V)},Isk K H (fds.map λp=>(.str p.1,p.2)) gs->oS f fds=some d->∃v,gs.lookup f=some v/\Is K H d v
 |[],gs,h,e=>by cases e
 |(g,x)::r,gs,h,e=>by
  rw[M5]at h;unfold Isk at h;obtain⟨g',u,gs',rfl,e2,h1,h2⟩:=h;injection e2 with e2
  subst e2;unfold oS at e;rw[N9];by_cases z:g=f
  ·rw[if_pos z]at e;cases e;subst z;simp only[beq_self_eq_true];exact⟨u,rfl,h1⟩
  ·rw[if_neg z]at e;rw[show (f==g)=false by simpa using λq=>z q.symm];exact Isk.look h2 e
theorem Isk.len{K:W.Frag}{H:Hp}:∀{fds:List (PyData×PyData)}{gs:List (Str×V)},Isk K H fds gs->gs.length=fds.length
 |[],_,h=>by unfold Isk at h;rw[h];rfl
 |(k,d)::r,_,h=>by unfold Isk at h;obtain⟨_,_,_,rfl,_,_,h2⟩:=h;rw[MW,MW,Isk.len h2]
theorem Is.atObj{fds:List (Str×PyData)}(h:Is K H (cB C a fds) v):v=.ref a/\∃dx gs,H a=some (.ins C dx gs)/\gs.lookup ("@":Str)=none/\Isk K H (fds.map λp=>(.str p.1,p.2)) gs:=by
 unfold cB at h;unfold Is at h;rcases h with (⟨g,ns,_,e,_⟩|⟨g,l,_,e,_⟩)|⟨g,s,i,gs,e,h1,b,h2|h2⟩
 ·cases e
 ·rcases e with⟨m,e,_⟩|⟨m,e,_⟩ <;> first|(cases e;done)|(cases m <;> cases e)
 ·unfold Isk at h2;obtain⟨f,u,j,e1,e2,h3,c⟩:=h2;cases e1;unfold Isk at c;obtain⟨f,u,j,e1,e2,q,r⟩:=c;injection e2 with e2
  subst e2 e1;rw[N9]at b;simp at b
 ·unfold Isk at h2;obtain⟨f,u,j,e1,e2,h3,c⟩:=h2;cases e1;have n:=h3.ofInt;injection n with n
  obtain rfl:s=C:=Int.ofNat.inj n;unfold Isk at c;obtain⟨f,u,j,e1,e2,q,r⟩:=c;cases e1;have o:=q.ofInt;injection o with o
  obtain rfl:g=a:=Int.ofNat.inj o;exact⟨e,i,gs,h1,b,r⟩
def gM(fds:List (Str×PyData)):Bool:=lE (fds.map λp=>(.str p.1,p.2))
theorem wY(C a:Addr)(fds:List (Str×PyData)):objs (cB C a fds)=gM fds:=by unfold cB objs kC gM;cases h:lE (fds.map λp=>(PyData.str p.1,p.2)) <;> simp[h]
def gZ(δ:Ds):Bool:=δ.all λo=>match o with|some d=>objs d|none=>true
theorem jZ(h:gZ δ=true)(i:Nat)(d:PyData)(e:δ[i]?=some (some d)):objs d=true:=by have:=MX.mp h _ (Nm e);exact this
theorem CZ{fds:List (Str×PyData)}{gs:List (Str×V)}{f:Str}{z:Int}(hB:a∉B)(ha:H a=some (.ins C dx gs))(hl:gs.lookup ("@":Str)=none)(c:f≠"@")(g:gM fds=true)(h:Isk K (del H B) (fds.map λp=>(.str p.1,p.2)) gs) :
  Is K (del (upd H a (.ins C dx (iP f (.int z) gs))) B) (cB C a (qe f (.int z) fds)) (.ref a):=by
 rw[wM hB];refine C0 (dx:=dx) (fs:=iP f (.int z) gs) (aH) (by rw[kz,if_neg (λq=>c q.symm)];exact hl) (Isk.put bN ?_);have hd:del H B a=some (.ins C dx gs):=by rw[aP hB];exact ha
 refine (Isk.off hd g h).same λb o e=>?_
 obtain⟨e1,e2⟩:=bj e;rw[aC (λq=>e1 (by rw[q];exact MR.mpr rfl))];exact e2
theorem wg:ax (del H [a]) (upd H a o):=λb u e=>by obtain⟨e1,e2⟩:=bj e;rw[aC (λq=>e1 (by rw[q];exact MR.mpr rfl))];exact e2
def oZ(as:List Addr)(C:Addr)(i:Nat)(δ:Ds):Option (Addr×List (Str×PyData)):=match δ[i]? with
 |some (some d)=>(match objOf d with
  |some (C',a,fds)=>if C'=C/\a∈as/\gZ δ=true/\gM fds=true/\fds.length<1000 then some (a,fds) else none
  |none=>none)
 |_=>none
theorem nU{fds:List (Str×PyData)}(h:oZ as C i δ=some (a,fds)):δ[i]?=some (some (cB C a fds))/\a∈as/\gZ δ=true/\gM fds=true/\fds.length<1000:=by
 unfold oZ at h;split at h
 ·rename_i d e;split at h
  ·rename_i C' a' fds' q;split at h
   ·rename_i c;cases h;obtain⟨rfl,c1,b,f,g⟩:=c;rw[e,Ew q];exact⟨rfl,c1,b,f,g⟩
   ·cases h
  ·cases h
 ·cases h
def mI(as:List Addr)(C:Addr)(i:Nat)(f:Str)(g:Ds->Rs PyData):Ds->Sr:=λδ=>match oZ as C i δ with
 |some (a,fds)=>ofR (g δ) λd=>match d with
  |.int z=>.nx (lC a (cB C a (qe f (.int z) fds)) δ)
  |_=>.no
 |none=>.no
def fj(as:List Addr)(C:Addr)(i:Nat)(f:Str)(g:Ds->Rs PyData):Ds->Sr:=λδ=>match oZ as C i δ with
 |some (a,fds)=>(match oS f fds with
  |some (.int n)=>ofR (g δ) λd=>match d with
   |.int z=>.nx (lC a (cB C a (qe f (.int (n+z)) fds)) δ)
   |_=>.no
  |_=>.no)
 |none=>.no
section
variable {E:XK}{o value:Expr}{g:Ds->Rs PyData}{tpos:Pos}{f:Str}
theorem GQ(I:PD X E o (ae i))(hv:PD X E value g)(cl:Cls X.K C)(na:fF X.K C f)(hi:i∉O)(J:f≠"@")(L:swapsWith value (some (.Attribute o f pos')) pos.line X.env=pure false):PSN as X E O (.Assign [.Attribute o f pos'] value pos) (mI as C i f g):=(gG I hv L).imp λD σ H s=>by
 obtain⟨H0,A0,A,δ,hn,R,b⟩:=s;unfold mI at b;split at b
 case h_2=>exact b.elim
 rename_i a fds q;obtain⟨e,ha,t,u,w⟩:=nU q;refine eD.run R.full (λd M v H1 G R1 hv=>?_) (λC c H' s'=>?_) (λc=>?_)
 ·rw[M]at b;cases d with
  |int z =>
   have x:=hv.ofInt;subst x;have e2:ae i δ=.ok (cB C a fds):=by unfold ae;rw[e]
   refine eD.run (R.step G).full (λd2 j v2 H2 s2 R2 y=>?_) (λC c H' s'=>?_) (λc=>?_)
   ·rw[e2]at j;cases j;obtain⟨rfl,dx,gs,hp,hl,hk⟩:=y.atObj;have l:=R.step (G.trans s2);obtain⟨v3,e3,h3⟩:=l.pl i _ hi e;obtain⟨rfl,m,n,p,B,r⟩:=h3.atObj;have h:H2 a=some (.ins C m n):=(bj p).2;have F:a∉A++A0:=(bj p).1;refine⟨a,C,m,n,rfl,h,cl,na,by rw[r.len,M6];exact w,?_⟩;exact b A σ _ (l.mutH h (hn a ha) (jZ t) wg (CZ F h B J u r))
   ·rw[e2]at c;cases c
   ·rw[e2]at c;cases c
  |_=>exact b.elim
 ·rw[c]at b;exact b H' (R.same.trans s')
 ·rw[c]at b;exact b
theorem xZ(P:PD X E o (ae i))(hv:PD X E value g)(cl:Cls X.K C)(na:fF X.K C f)(hi:i∉O)(Q:f≠"@"):PSN as X E O (.AugAssign (.Attribute o f tpos) .Add value pos) (fj as C i f g):=(A8 P hv JL).imp λD σ H t=>by
 obtain⟨H0,A0,A,δ,hn,R,b⟩:=t;unfold fj at b;split at b
 case h_2=>exact b.elim
 rename_i a fds q;obtain⟨e,ha,u,x,y⟩:=nU q;split at b
 case h_2=>exact b.elim
 rename_i n B;have e2:ae i δ=.ok (cB C a fds):=by unfold ae;rw[e]
 refine eD.run R.full (λd2 j v2 H1 F R1 G=>?_) (λC c H' s'=>?_) (λc=>?_)
 ·rw[e2]at j;cases j;obtain⟨rfl,dx,gs,S,hl,T⟩:=G.atObj;obtain⟨v,U,I⟩:=T.look B;have J:=I.ofInt;subst J;refine⟨a,C,dx,gs,.int n,rfl,(bj S).2,cl,na,U,?_⟩;refine eD.run (R.step F).full (λd W w H2 s2 R2 hw=>?_) (λC c H' s'=>?_) (λc=>?_)
  ·rw[W]at b;cases d with
   |int z =>have L:=hw.ofInt;subst L;refine⟨n,z,rfl,rfl,?_⟩;have l:=R.step (F.trans s2);obtain⟨v3,e3,h3⟩:=l.pl i _ hi e;obtain⟨rfl,m,p,r,M,s⟩:=h3.atObj;have h:H2 a=some (.ins C m p):=(bj r).2;have N:a∉A++A0:=(bj r).1;refine⟨m,p,h,by rw[s.len,M6];exact y,?_⟩;exact b A σ _ (l.mutH h (hn a ha) (jZ u) wg (CZ N h M Q x s))
   |_=>exact b.elim
  ·rw[c]at b;exact b H' (R.same.trans (F.trans s'))
  ·rw[c]at b;exact b
 ·rw[e2]at c;cases c
 ·rw[e2]at c;cases c
end
def spM(K:W.Frag)(C:Addr)(g:List (Str×PyData)->Option (List (Str×PyData))):Sp:=λvs H Q E=>∃A a fds b,vs=[.ref a]/\Ls H A/\Is K (del H A) (cB C a fds) (.ref a)/\gM fds=true/\fds.length<1000/\g fds=some b /\
 ∀H',ax (del H [a]) H'->Is K (del H' A) (cB C a b) (.ref a)->Q .non H'
structure jY(P:Program)(w:World)(K:W.Frag)(mg:Str->Option Value)(base:Heap)(k:Nat)(C:Addr)(m:Str)(g:List (Str×PyData)->Option (List (Str×PyData))):Prop where
 ex:∃f fd ps,Cls K C/\Meth K C m f/\gU P w K mg base (CXW P w) k f fd ps (spM K C g)/\Binds K fd ps []
theorem qT{K:W.Frag}{H:Hp}{f:Str}:∀{fds:List (Str×PyData)}{gs:List (Str×V)},Isk K H (fds.map λp=>(.str p.1,p.2)) gs->oS f fds=none->gs.lookup f=none
 |[],gs,h,_=>by rw[Nw]at h;unfold Isk at h;rw[h];rfl
 |(g,x)::r,gs,h,e=>by
  rw[M5]at h;unfold Isk at h;obtain⟨g',u,gs',rfl,e2,h1,h2⟩:=h;injection e2 with e2
  subst e2;unfold oS at e;rw[N9];by_cases z:g=f
  ·rw[if_pos z]at e;cases e
  ·rw[if_neg z]at e;rw[show (f==g)=false by simpa using λq=>z q.symm];exact qT h2 e
def lI(as:List Addr)(C:Addr)(m:Str)(i:Nat)(g:List (Str×PyData)->Option (List (Str×PyData))):Ds->Sr:=λδ=>match oZ as C i δ with
 |some (a,fds)=>if oS m fds=none then (match g fds with
  |some fds'=>.nx (lC a (cB C a fds') δ)
  |none=>.no) else .no
 |none=>.no
section
variable {E:XK}{o:Expr}{apos:Pos}
theorem DQ{k:Nat}{pl:Sem Bool}(D:jY X.prog X.w X.K X.mg X.base k C m g)(B:cm j X.A)(G:Passes (CXW X.prog X.w) X E)(I:PD X E o (ae i))(p:k<=j)(hi:i∉O)
  (J:eval (.Call (.Attribute o m apos) [] [] pos) X.env=(do
   let ov <-eval o X.env
   standAt apos.atName
   let (f,first) <-holding [ov] (getMethod ov m pl)
   callWith pos f first (backTo pos (starEach [] X.env)) (backToKw pos (keywordEach [] X.env))))
  (L:swapsWith (.Call (.Attribute o m apos) [] [] pos) none spos.line X.env=pure false) :
  PSN as X E O (.Expr (.Call (.Attribute o m apos) [] [] pos) spos) (lI as C m i g):=by
 obtain⟨f,fd,ps,cl,hm,F,M⟩:=D.ex;refine (lQ (vX I cl hm F (B.mono p) M .nil G J) L).imp λD σ H r=>?_
 obtain⟨H0,A0,A,δ,hn,R,b⟩:=r;unfold lI at b;split at b
 case h_2=>exact b.elim
 rename_i a fds q;obtain⟨e,ha,s,t,u⟩:=nU q;split at b
 case isFalse=>exact b.elim
 rename_i v;split at b
 case h_2=>exact b.elim
 rename_i h N;have e2:ae i δ=.ok (cB C a fds):=by unfold ae;rw[e]
 refine eD.run R.full (λd2 l v2 H1 P R1 x=>?_) (λC n H' s'=>?_) (λn=>?_)
 ·rw[e2]at l;cases l;obtain⟨rfl,dx,gs,Q,hl,p⟩:=x.atObj;have c:=R.step P;obtain⟨v3,e3,h3⟩:=c.pl i _ hi e;obtain⟨rfl,dx',gs',y,hl',hk'⟩:=h3.atObj;refine⟨a,dx,gs,rfl,(bj Q).2,qT p v,?_⟩;refine⟨A++A0,a,fds,h,rfl,c.lsA,h3,t,u,N,λH' S z=>?_⟩;exact b A σ H' (c.mutH (bj y).2 (hn a ha) (jZ s) S z)
 ·rw[e2]at n;cases n
 ·rw[e2]at n;cases n
end
theorem jY.of{p:Str}{k:Nat}(F:Fun K m qual st f fd)(S:dk N [p] (aE st))(b:Binds K fd [p] [])(cl:Cls K C)(hm:Meth K C m f)
  (body:∀(as:List Addr)(cdv:Value)(A:Around)(outer:List Env)(s:Shared)(H:Hp)(E:XK),cm k (A.deeper (envOfC qual (aE st) s.heap.objs.size f cdv))->PBN as (dF (CXW P w) P w K mg base N qual (aE st) f cdv A outer s H E) E [] (cf st) (G as))
  (I:∀a fds c,gM fds=true->fds.length<1000->g fds=some c->∃δ,G [a] (some (cB C a fds)::List.replicate (N.length-1) none)=.nx δ/\δ[0]?=some (some (cB C a c))):jY P w K mg base (k+1) C m g:=by
 refine⟨f,fd,[p],cl,hm,ml F S (λvs H Q E h=>?_) (λcdv A outer s H vs Q E J h=>?_),b⟩
 ·obtain⟨A,a,fds,c,rfl,_⟩:=h;rfl
 ·obtain⟨A0,a,fds,c,rfl,B,hi,n,r,t,o⟩:=h;obtain⟨_,dx,gs,L,hl,hk⟩:=hi.atObj;have ha:=bj L;obtain⟨δ,e1,e2⟩:=I a fds c n r t;have l:bX K H A0 H [] [] (some (cB C a fds)::List.replicate (N.length-1) none) (L2.start N [.ref a]):=bX.start (ps:=[p]) (ds:=[cB C a fds]) B (cM hi c8) rfl (λi h=>by cases h);have x:Ls (del H [a]) A0:=λb j=>by
   obtain⟨xs,e,q⟩:=B b j;exact⟨xs,by
    have y:b∉[a]:=λz=>ha.1 (by rw[<-MR.mp z];exact j)
    rw[aP y];exact e,q⟩
  refine⟨_,body [a] cdv A outer s H E J,del H [a],A0,[],_,λb j=>by rw[MR.mp j];exact hZ (MR.mpr rfl),⟨az,x,λb j=>(N1 j).elim,l.ls,l.len,l.pl,l.own,l.inj⟩,?_⟩;rw[e1];intro A' σ' H' D;refine o H' D.same ?_;obtain⟨v,_,h2⟩:=D.pl 0 _ (by simp) e2;have h3:=h2.same (H':=del H' A0) (λb u e=>by obtain⟨M,O⟩:=bj e;rw[aP (λz=>M (ML _ z))];exact O)
  rw[h3.atObj.1]at h3;exact h3
def Mg(C:Addr)(names:List Str)(tl:List (Str×Int)):Sp:=λvs H Q _=>∃(x dx:Addr)(args:List V),vs=.ref x::args/\args.length=names.length/\H x=some (.ins C dx []) /\
 ∀H':Hp,(∀b,b≠x->H' b=H b)->H' x=some (.ins C dx (names.zip args++tl.map λp=>(p.1,.int p.2)))->Q .non H'
structure MkD(P:Program)(w:World)(K:W.Frag)(mg:Str->Option Value)(base:Heap)(k:Nat)(x:Str)(C:Addr)(names:List Str)(tl:List (Str×Int)):Prop where
 ex:∃f fd ps,Mk K C f/\gU P w K mg base (CXW P w) k f fd ps (Mg C names tl)/\Binds K fd ps []/\mg x=some (.ref C)
def tlD(tl:List (Str×Int)):List (Str×PyData):=tl.map λp=>(p.1,.int p.2)
theorem DZ{K:W.Frag}{H:Hp}:∀tl:List (Str×Int),Isk K H ((tlD tl).map λp=>(.str p.1,p.2)) (tl.map λp=>(p.1,.int p.2))
 |[]=>pL
 |p::r=>eP bN (DZ r)
theorem Al{K:W.Frag}{H:Hp}{e:List (PyData×PyData)}{gs:List (Str×V)}(h2:Isk K H e gs):∀{d:List (PyData×PyData)}{fs:List (Str×V)},Isk K H d fs->Isk K H (d++e) (fs++gs)
 |[],fs,h=>by unfold Isk at h;subst h;exact h2
 |(k,x)::r,fs,h=>by unfold Isk at h;obtain⟨f,v,fs',rfl,rfl,h1,h3⟩:=h;exact eP h1 (Al h2 h3)
theorem rK{f:Str}{b:List (Str×V)}(c:b.lookup f=none):∀{a:List (Str×V)},a.lookup f=none->(a++b).lookup f=none
 |[],_=>c
 |(g,x)::r,h=>by
  rw[Nv,N9];rw[N9]at h;cases q:(f==g) with
  |true=>rw[q]at h;cases h
  |false=>rw[q]at h;exact rK c h
theorem HI{f:Str}:∀{tl:List (Str×Int)},(f∉tl.map (·.1))->(tl.map λp=>((p.1,V.int p.2):Str×V)).lookup f=none
 |[],_=>rfl
 |p::r,h=>by rw[M5,N9,show (f==p.1)=false by simpa using λq=>h (by rw[q];exact M7)];exact HI λq=>h (M3 _ q)
def eMk(K:W.Frag)(E:XK)(C:Addr)(names:List Str)(tl:List (Str×Int))(gs:Ds->Rs #[5]):TE:=λσ H Q=>∃A δ,dR K H A δ σ/\(match gs δ with
 |.ok ds=>ds.length=names.length/\∀x H',H x=none->ax H H'->Is K (del H' A) (cB C x (names.zip ds++tlD tl)) (.ref x)->Q (.ref x) H'
 |.rz C'=>∀H',ax H H'->E (.ref C') none H'
 |.no=>False)
section
variable {E:XK}{es:List Expr}
theorem Lp{k:Nat}(D:MkD X.prog X.w X.K X.mg X.base k x C names tl)(s:cm j X.A)(t:Passes (CXW X.prog X.w) X E)(ha:PAD X E (e::es) gs)(u:k+1<=j:=by decide)(v:Gl X x:=by rfl)
  (a:(x==("__debug__":Str))=false:=by decide) (y:starEach (e::es) X.env=(false,eval e X.env)::starEach es X.env:=by rfl) (c:(backTo pos #[23]).any (·.1)=false:=by rfl) (hn:("@":Str)∉names:=by decide) (g:("@":Str)∉tl.map (·.1):=by decide) :
  PE X (.Call (.Name x p) (e::es) [] pos) (eMk X.K E C names tl gs):=by
 obtain⟨f,fd,ps,M,F,z,hm⟩:=D.ex;refine (z0 M F (s.mono u) v hm z .nil t ha.1 a y c).imp λσ H Q h=>?_
 obtain⟨A,δ,R,o⟩:=h;refine aD.run R (λds e1 vs H1 n B h1=>?_) (λC i H' s'=>?_) (λi=>?_)
 ·rw[e1]at o;obtain⟨hl,o⟩:=o;intro x dx nx l ne;refine⟨x,dx,vs++[],rfl,by rw[Nr,h1.length,hl],aH,λH' k1 k2=>⟨rfl,?_⟩⟩;rw[Nr]at k2;have r:ax H1 H':=λb q m=>by have n1:b≠x:=aK m nx;rw[k1 b n1,aC n1,aC (aK m l)];exact m
  refine o x H' (n.free nx) (n.trans r) (C0 (dx:=dx) (fs:=names.zip vs++tl.map λp=>(p.1,.int p.2)) ?_ (rK (HI g) (yX hn)) ?_)
  ·rw[aP (B.ls.new nx)];exact k2
  ·rw[Nk];exact Al (DZ tl) (uZ (h1.same r.del))
 ·rw[i]at o;exact o H' s'
 ·rw[i]at o;exact o
end
def k9(C:Addr)(names:List Str)(tl:List (Str×Int))(as:List Addr)(a:List #[5]):List PyData:=(as.zip a).map λp=>cB C p.1 (names.zip p.2++tlD tl)
def lJ(K:W.Frag)(E:XK)(C:Addr)(names:List Str)(tl:List (Str×Int))(n0:Nat)(e gs:Ds->Rs #[5])(tgt:PyData->Option Ds):TE:=λσ H Q=>∃A δ,dR K H A δ σ/\δ.length=n0/\∃ds b,e δ=.ok ds/\ds.length<=1000000/\b.length=ds.length /\
 (∀(i:Nat) d,ds[i]?=some d->∃c fs,tgt d=some c/\b[i]?=some fs/\gs (δ++c)=.ok fs/\fs.length=names.length) /\
 ∀(as:List Addr)(D:Addr)(H':Hp),as.length=ds.length->as.Nodup->(∀a∈as,H a=none)->ax H H'->Is K (del H' A) (.list (k9 C names tl as b)) (.ref D)->Q (.ref D) H'
theorem Jo{E:XK}{g:TG}(hT:TgD K n0 own.length tgt g) :
  ∀σ H Q,lJ K E C names tl n0 gi gs tgt σ H Q->tLC own.length (iD K E gi) g vZ (eMk K E0 C names tl gs) σ H Q:=by
 intro σ H Q ⟨A,δ,R,X,ds,j,q,hz,Y,Z,o⟩;have hσ:σ.length=n0:=by rw[<-R.len];exact X
 refine⟨A,δ,R,?_⟩;rw[q];intro J H1 s1 hJ D P;have S:=R.same s1;have nD:D∉A:=S.ls.new P;refine⟨λi m ys H'=>m=ds.length-i/\i<=ds.length/\ax H1 H'/\H' D=some (.lst ys)/\∃as:List Addr,as.length=i/\ys=as.map V.ref/\as.Nodup/\(∀a∈as,H1 a=none/\a≠D/\∃u,H' a=some u)/\Iss K (del H' (D::A)) (k9 C names tl as (j.take i)) ys,
  ⟨ds.length,by simp,NC _,bH P,aH,[],rfl,rfl,OI,λa h=>(N1 h).elim,c8⟩,?_⟩
 rintro i m ys H' ⟨rfl,hi,w,hl,as,n,rfl,nd,l,c3⟩
 refine⟨hl,?_⟩;have sG:ax (del H1 A) H':=az.trans w;have F:∀b∈D::A,(del H1 A) b=none:=λb r=>by
  rcases M8.mp r with z|z
  ·rw[z,aP nD];exact P
  ·exact hZ z
 obtain⟨jg,js,jy⟩:=hJ H' (D::A) sG (λb r=>by
  rcases M8.mp r with z|z
  ·exact⟨_,by rw[z];exact hl,rfl⟩
  ·exact (S.ls.same w) b z) F
 by_cases hlt:i<ds.length
 ·refine .inr ⟨jg i hlt,λx H2 σ' G y=>?_⟩;obtain⟨s2,d,ed,hd⟩:=jy i x H2 hlt y;obtain⟨ow,fs,et,ef,eg,hfs⟩:=Z i d ed;have l2:H2 D=some (.lst (as.map V.ref)):=s2 _ _ hl;have I:Ls H2 (D::A):=λb r=>by
   rcases M8.mp r with z|z
   ·exact⟨_,by rw[z];exact l2,rfl⟩
   ·exact (S.ls.same (w.trans s2)) b z
  obtain⟨hol,hgo⟩:=hT d x σ σ' H2 (D::A) (λs H2=>vZ s H2 λb H3 =>
   if b=true then eMk K E0 C names tl gs s H3 λv B=>B D=some (.lst (as.map V.ref))/\(as.map V.ref).length<sizeLine/\(∃f,s=σ++f/\f.length=own.length)/\∃m',m' < ds.length-i/\_
   else (∃f,s=σ++f/\f.length=own.length)/\∃m',m' < ds.length-i/\_) ow hσ G I hd et
  refine hgo λvs L M=>?_
  have N:ax (del H1 A) (del H2 (D::A)):=mD (sG.trans s2) F;have RE:dR K H2 (D::A) (δ++ow) (σ++vs):=by
   refine⟨I,by rw[MN,MN,R.len,L,hol],λk e T=>?_⟩;by_cases hk:k<δ.length
   ·rw[N5 hk]at T;obtain⟨u,e1,t⟩:=S.get k e T;exact⟨u,by rw[N5 (by rw[<-R.len];exact hk)];exact e1,t.same N⟩
   ·rw[N6 (by omega)]at T;obtain⟨u,e1,t⟩:=M _ e T;exact⟨u,by rw[N6 (by rw[<-R.len];omega),<-R.len];exact e1,t⟩
  unfold vZ;have hI:∀{p q:Prop},p->(if true=true then p else q):=λh=>by rw[if_pos rfl];exact h
  refine hI ?_;refine⟨D::A,δ++ow,RE,?_⟩;rw[eg];refine⟨hfs,λa B na U ha=>?_⟩;have l4:B D=some (.lst (as.map V.ref)):=U _ _ l2;have O:a≠D:=λz=>by rw[z,l2]at na;cases na
  have naA:a∉as:=λz=>by obtain⟨_,_,u,t⟩:=l a z;rw[s2 _ _ t]at na;cases na
  have dU:del (upd B D (.lst (as.map V.ref++[.ref a]))) (D::A)=del B (D::A):=kR (M7);have h4a:∃u,B a=some u:=by obtain⟨_,dx,gs',hp,_⟩:=ha.atObj;exact⟨_,(bj hp).2⟩
  have hex:k9 C names tl (as++[a]) (j.take (i+1))=k9 C names tl as (j.take i)++[cB C a (names.zip fs++tlD tl)]:=by
   have ht:j.take (i+1)=j.take i++[fs]:=by rw[List.take_add_one,ef];rfl
   unfold k9;rw[ht,List.zip_append (by rw[n,Of];omega),Nk];rfl
  refine⟨l4,by rw[sizeLine_eq,M6,n];omega,⟨vs,rfl,L⟩,ds.length-(i+1),by omega,rfl,hlt,?_,aH,as++[a],by rw[MN,n];rfl,by rw[Nk];rfl,?_,λb r=>?_,?_⟩
  ·exact ax.put ((w.trans s2).trans U) P
  ·exact OB.mpr ⟨nd,by simp,λb r c hc e=>by rw[MR.mp hc]at e;exact naA (e▸r)⟩
  ·rcases Nb.mp r with z|z
   ·obtain⟨h1,h2,u,t⟩:=l b z;refine⟨h1,h2,u,?_⟩;rw[aC h2];exact U _ _ (s2 _ _ t)
   ·cases MR.mp z;obtain⟨u,t⟩:=h4a;refine⟨(w.trans s2).free na,O,u,?_⟩;rw[aC O];exact t
  ·rw[dU,hex];exact (c3.same (ax.del (s2.trans U))).append (jt ha)
 ·have e:i=ds.length:=by omega
  subst e;rw[<-Y,OT]at c3;refine .inl ⟨js,o as D H' (by rw[n]) nd (λa ha=>s1.free (l a ha).1) (s1.trans w) ?_⟩;have hs:ax (del H' (D::A)) (del H' A):=λb u eb=>by obtain⟨q1,q2⟩:=bj eb;rw[aP (λz=>q1 (M3 _ z))];exact q2
  exact ky (by rw[aP nD];exact hl) (c3.same hs)
section
variable {E:XK}{ss:List Stmt}
theorem GA{r:Ds->Rs #[5]}{e:Ds->Sr}(u:PS X st (B5 (lJ X.K E C names tl n0 r gs tgt) (ku i)))(f:∀as,PBN as X E O ss (G as))(hi:i∉O)
  (g:∀δ,e δ≠.no->∃d ds b,e δ=.rt d/\i<δ.length/\δ.length=n0/\r (mask O δ)=.ok ds/\ds.length<=1000000/\b.length=ds.length/\(∀(i:Nat) d,ds[i]?=some d->∃t fs,tgt d=some t/\b[i]?=some fs/\gs (mask O δ++t)=.ok fs/\fs.length=names.length) /\
   ∀as:List Addr,as.length=ds.length->as.Nodup->G as (δ.set i (some (.list (k9 C names tl as b))))=.rt d):PBD X E O (st::ss) e:=by
 have h2:PSs X ss (λD σ H=>∃as,sDN as X.K E O (G as) D σ H):=λpins s σ H D I j=>(by obtain⟨as,h⟩:=j;exact f as pins s σ H D I h)
 refine (cO u h2).imp λD σ H l=>?_
 obtain⟨H0,A0,A,δ,R,o⟩:=l;by_cases z:e δ=.no
 ·rw[z]at o;exact o.elim
 obtain⟨d,ds,b,e1,hl,hn,e2,v,w,m,x⟩:=g δ z;rw[e1]at o;have n:(mask O δ).length=n0:=by rw[xp];exact hn
 refine⟨A++A0,mask O δ,R.part,n,ds,b,e2,v,w,m,λas Dd H' p nd c y q=>?_⟩;refine⟨as,H0,A0,A,_,λa ha=>R.same.free (c a ha),(R.step y).set hi hl q,?_⟩;rw[x as p nd];exact o
end
section
variable {κ:Type}[DecidableEq κ]
def oh(kvs:List (κ×V))(k:κ):Option V:=(kvs.find? λa=>decide (a.1=k)).map (·.2)
def putK(kvs:List (κ×V))(k:κ)(v:V):List (κ×V) :=
 if (kvs.any λa=>decide (a.1=k))=true then kvs.map (λa=>if a.1=k then (a.1,v) else a) else kvs++[(k,v)]
theorem ql{p:κ×V}{r:List (κ×V)}{k:κ}(e:p.1=k):oh (p::r) k=some p.2:=by simp[oh,Ng,e]
theorem rD{p:κ×V}{r:List (κ×V)}{k:κ}(e:¬ p.1=k):oh (p::r) k=oh r k:=by simp[oh,Ng,e]
theorem wu(k:κ):∀kvs:List (κ×V),(kvs.any λa=>decide (a.1=k))=(oh kvs k).isSome
 |[]=>rfl
 |p::r=>by
  rw[NS];by_cases e:p.1=k
  ·simp only[ql e,decide_eq_true e,Bool.true_or,Option.isSome_some]
  ·rw[rD e,decide_eq_false e,Bool.false_or];exact wu k r
theorem oP(kvs:List (κ×V))(k:κ)(v:V):(putK kvs k v).length<=kvs.length+1:=by
 unfold putK;split
 ·rw[M6];omega
 ·rw[MN,MW,NI];omega
theorem k7.isSome_eq{o:Option V}{u:Option Value}(r:k7 o u):o.isSome=u.isSome:=by
 cases o with
 |none=>cases u with
  |none=>rfl
  |some _=>exact (show False from r).elim
 |some _=>cases u with
  |none=>exact (show False from r).elim
  |some _=>rfl
theorem k7.getD{o:Option V}{u:Option Value}{d:V}{d':Value}(r:k7 o u)(a:RelV d d'):RelV (o.getD d) (u.getD d'):=by
 cases o with
 |none=>cases u with
  |none=>exact a
  |some _=>exact (show False from r).elim
 |some _=>cases u with
  |none=>exact (show False from r).elim
  |some _=>exact r
theorem KV.val{kvs:List (κ×V)}{vs:List (κ×Value)}(r:KV kvs vs)(k:κ):k7 (oh kvs k) (valueAt vs k):=by
 unfold KV at r
 induction r with
 |nil=>exact True.intro
 |@cons p q ps qs h t ih =>
  obtain⟨h1,h2⟩:=h;by_cases e:p.1=k
  ·have a:q.1=k:=h1.symm.trans e;have b:valueAt (q::qs) k=some q.2:=by simp[valueAt,Ng,a]
   rw[ql e,b];exact h2
  ·have a:¬ q.1=k:=λz=>e (h1.trans z)
   have b:valueAt (q::qs) k=valueAt qs k:=by simp[valueAt,Ng,a]
   rw[rD e,b];exact ih
theorem KV.any{kvs:List (κ×V)}{vs:List (κ×Value)}(r:KV kvs vs)(k:κ):(kvs.any λa=>decide (a.1=k))=vs.any λa=>decide (a.1=k):=by
 unfold KV at r
 induction r with
 |nil=>rfl
 |cons h t ih=>rw[NS,NS,ih,h.1]
theorem KV.repl{kvs:List (κ×V)}{vs:List (κ×Value)}(r:KV kvs vs)(k:κ)(b:RelV y u) :
  KV (kvs.map λa=>if a.1=k then (a.1,y) else a) (vs.map λa=>if a.1=k then (a.1,u) else a):=by
 unfold KV at r ⊢
 induction r with
 |nil=>exact .nil
 |@cons p q ps qs h t ih =>
  rw[M5,M5];refine .cons ?_ ih;obtain⟨h1,h2⟩:=h;by_cases e:p.1=k
  ·rw[if_pos e,if_pos (h1.symm.trans e)];exact⟨h1,b⟩
  ·rw[if_neg e,if_neg (λz=>e (h1.trans z))];exact⟨h1,h2⟩
theorem KV.put{kvs:List (κ×V)}{vs:List (κ×Value)}(r:KV kvs vs)(k:κ)(a:RelV y u):KV (putK kvs k y) (stored vs k u):=by
 unfold putK stored;rw[r.any k];by_cases e:(vs.any λb=>decide (b.1=k))=true
 ·rw[if_pos e,if_pos e];exact r.repl k a
 ·rw[if_neg e,if_neg e];exact Paired.snoc r ⟨rfl,a⟩
theorem KV.length{kvs:List (κ×V)}{vs:List (κ×Value)}(r:KV kvs vs):kvs.length=vs.length:=Paired.length r
end
theorem Cg{k:Key}(r:RelV (kV k) u):(dj P w).is k u=true:=by
 cases k with
 |inl i=>obtain⟨t,e⟩:=(show ∃t,u=Value.int i t from r);subst e;exact w5 P w i t
 |inr x=>obtain⟨t,e⟩:=(show ∃t,u=Value.str x t from r);subst e;exact wV P w x t
theorem sT{P:Program}{w:World}:∀{ks:List Key}{us:List Value},Vals (ks.map kV) us->ItemsAre (dj P w) ks us
 |[],_,r=>by rw[Nw]at r;cases r;exact .nil
 |k::ks,_,r=>by
  rw[M5]at r;cases r with
  |cons h t=>exact .cons (Cg h) (sT t)
abbrev KT(H:Hp):List (List Key×V)->List (List Key×Addr×Value)->Prop:=Paired λp q=>p.1=q.1/\H q.2.1=some (.tup (p.1.map kV))/\RelV p.2 q.2.2
theorem KT.val(r:KT H kvs xs)(k:List Key):k7 (oh kvs k) ((atKey xs k).map (·.2)):=by
 induction r with
 |nil=>exact True.intro
 |@cons p q ps qs h t ih =>
  obtain⟨h1,_,h2⟩:=h;by_cases e:p.1=k
  ·have a:q.1=k:=h1.symm.trans e;have b:atKey (q::qs) k=some q.2:=by simp[atKey,Ng,a]
   rw[ql e,b];exact h2
  ·have a:¬ q.1=k:=λz=>e (h1.trans z)
   have b:atKey (q::qs) k=atKey qs k:=by simp[atKey,Ng,a]
   rw[rD e,b];exact ih
theorem KT.repl(r:KT H kvs xs)(k:List Key)(b:RelV y u) :
  KT H (kvs.map λa=>if a.1=k then (a.1,y) else a) (xs.map (putAt k u)):=by
 induction r with
 |nil=>exact .nil
 |@cons p q ps qs h t ih =>
  rw[M5,M5];refine .cons ?_ ih;obtain⟨h1,h2,h3⟩:=h;unfold putAt;by_cases e:p.1=k
  ·rw[if_pos e,if_pos (h1.symm.trans e)];exact⟨h1,h2,b⟩
  ·rw[if_neg e,if_neg (λz=>e (h1.trans z))];exact⟨h1,h2,h3⟩
theorem KT.put(r:KT H kvs xs)(k:List Key)(c:H b=some (.tup (k.map kV)))(a:RelV y u) :
  KT H (putK kvs k y) (storedH xs k b u):=by
 have e:(kvs.any λf=>decide (f.1=k))=(atKey xs k).isSome:=by rw[wu,(r.val k).isSome_eq,Option.isSome_map]
 unfold putK storedH;rw[e];by_cases q:(atKey xs k).isSome=true
 ·rw[if_pos q,if_pos q];exact r.repl k a
 ·rw[if_neg q,if_neg q];exact Paired.snoc r ⟨rfl,c,a⟩
theorem KT.keeps(r:KT H kvs xs)(a:∀b ys,H b=some (.tup ys)->H' b=some (.tup ys)):KT H' kvs xs :=
 Paired.mapP r λ_ _ z=>⟨z.1,a _ _ z.2.1,z.2.2⟩
section
theorem HR{u:HO}(ok:HOk P w H h)(e:Rd H a u):dO P w H h a u:=e.ok ok
theorem zL{kvs:List (Key×V)}(ok:HOk P w H h)(e:Rd H a (.dK kvs)):kvs.length<=sizeLine/\(a==sysModules)=false/\∃vs,KV kvs vs/\h.DictOf (dj P w) a vs :=
 show dO P w H h a (.dK kvs) from HR ok e
theorem Lu{kvs:List (Key×V)}(ok:HOk P w H h)(e:H a=some (.dK kvs)):kvs.length<=sizeLine/\(a==sysModules)=false/\∃vs,KV kvs vs/\h.DictOf (dj P w) a vs:=zL ok (.inl e)
theorem yZ{ks:List Key}(ok:HOk P w H h)(e:H a=some (.tup (ks.map kV))):(tupleKind (dj P w)).is h ks a:=by
 obtain⟨_,b,r,o,h1,h2,_,n,h3⟩:=(show dO P w H h a (.tup (ks.map kV)) from ok a _ e)
 exact⟨o,b.toArray,n,h1,h2,h3,by simpa using sT r⟩
theorem DA(ok:HOk P w H h)(e:Rd H a (.dT kvs)):kvs.length<=sizeLine/\(a==sysModules)=false /\
  ∃xs,KT H kvs xs/\h.DictOfH (tupleKind (dj P w)) a xs:=by
 obtain⟨z,y,xs,r,o,es,c,h1,h2,h3,f,g⟩:=(show dO P w H h a (.dT kvs) from HR ok e)
 refine⟨z,y,xs,r,o,es,c,h1,h2,h3,f,λx b=>?_,g⟩;have all:∀{l:List (List Key×V)}{m:List (List Key×Addr×Value)},KT H l m->∀x∈m,(tupleKind (dj P w)).is h x.1 x.2.1:=by
  intro l m q
  induction q with
  |nil=>intro x b;exact nomatch b
  |@cons p q ps qs hq t ih =>
   intro x b;rcases M8.mp b with e|b
   ·subst e;exact yZ ok (by rw[<-hq.1];exact hq.2.1)
   ·exact ih x b
 exact all r x b
theorem KI(ok:HOk P w H h)(e:H a=some (.dT kvs)):kvs.length<=sizeLine/\(a==sysModules)=false /\
 ∃xs,KT H kvs xs/\h.DictOfH (tupleKind (dj P w)) a xs:=DA ok (.inl e)
end
def Ec(H:Hp)(a:Addr)(y:V)(r:Option V):Prop :=
 (∃kvs k,Rd H a (.dK kvs)/\y=kV k/\r=oh kvs k)\/∃kvs k b,Rd H a (.dT kvs)/\y=.ref b/\H b=some (.tup (k.map kV))/\r=oh kvs k
def EI(H:Hp)(a:Addr)(y v:V)(H':Hp):Prop :=
 (∃kvs k,H a=some (.dK kvs)/\y=kV k/\kvs.length<sizeLine/\H'=upd H a (.dK (putK kvs k v))) \/
 ∃kvs k b,H a=some (.dT kvs)/\y=.ref b/\H b=some (.tup (k.map kV))/\kvs.length<sizeLine/\H'=upd H a (.dT (putK kvs k v))
theorem Ec.k{kvs:List (Key×V)}{k:Key}(e:H a=some (.dK kvs)):Ec H a (kV k) (oh kvs k):=.inl ⟨kvs,k,.inl e,rfl,rfl⟩
theorem EI.k{kvs:List (Key×V)}{k:Key}(e:H a=some (.dK kvs))(hl:kvs.length<sizeLine):EI H a (kV k) v (upd H a (.dK (putK kvs k v))):=.inl ⟨kvs,k,e,rfl,hl,rfl⟩
section
variable {r:Value}{o:Option V}{A:Around}
theorem Inv.big(I:Inv X pins σ H s):sysModules<s.heap.objs.size:=by have h:mainGlobals<s.heap.objs.size:=(I.mod.glob.keeps I.bk).lt;exact Nat.lt_trans #[2] h
theorem Az{t':Nat}{c:HO}(I:Inv X pins σ H s)(f:Mut (H a))(g:Heap.SameBut a s.heap h')(h:∃q,h'.get? a=some q)(new:dO X.prog X.w (upd H a c) h' a c) :
  Inv X pins σ (upd H a c) { s with heap:=h',toks:=t' } :=
 I.write (x:=a) (e:=a) f (.inl rfl) (λb q i z=>(g.2 b i).trans z) h new
theorem IG{kvs:List (Key×V)}{vs:List (Key×Value)}(z:kvs.length<=sizeLine)(hd:(a==sysModules)=false)(rel:KV kvs vs)(dd:h'.DictOf (dj P w) a vs) :
 dO P w H' h' a (.dK kvs):=⟨z,hd,vs,rel,dd⟩
theorem AX{Q:Unit->Shared->Prop}(C:A.units+1<cLine)(I:Inv X pins σ H s)(g:EI H a y v H')(p:RelV y u)(t:RelV v r)(h:∀s',Inv X pins σ H' s'->Q () s') :
  wpAny #[4] A (setItem (.ref a) u r) Q E s:=by
 rcases g with⟨kvs,k,e,j,l,m⟩|⟨kvs,k,b,e,j,x,l,m⟩
 ·subst j m;obtain⟨z,hd,vs,rel,dd⟩:=Lu I.hok e;have n:vs.length<=sizeLine:=by rw[<-rel.length];exact z
  have hl:(putK kvs k v).length<=sizeLine:=by have:=oP kvs k v;omega
  refine wpAny_setItem_pairs (hsz:=n) (Cg p) dd λh' f o=>h _ ?_
  have D:∃q,h'.get? a=some q:=let ⟨q,_,_,i,_⟩:=f;⟨q,i⟩;exact Az I (by rw[e];exact True.intro) o D (IG hl hd (rel.put k t) f)
 ·subst j m;cases (show u=Value.ref b from p);obtain⟨z,hd,xs,rel,dd⟩:=KI I.hok e;have n:xs.length<=sizeLine:=by rw[<-Paired.length rel];exact z
  have hl:(putK kvs k v).length<=sizeLine:=by have:=oP kvs k v;omega
  refine wpAny_setItem_heap (hsz:=n) (tupleKind_room_in1 C) (yZ I.hok x) dd λh' f o=>h _ ?_
  obtain⟨q,es,F,i,h2,h3,G,_,J⟩:=f;refine Az I (by rw[e];exact True.intro) o ⟨q,i⟩ ⟨hl,hd,_,(rel.put k x t).keeps λc ys B=>?_,q,es,F,i,h2,h3,G,J⟩;rw[aC (K3 B e (λz=>nomatch z))];exact B
end
section
variable {kvs:List (Key×V)}{k:Key}{A:Around}
end
def Lf(td ty tv:TE):TS:=λD σ H=>tv σ H λv H1=>td σ H1 λx H2=>ty σ H2 λy c=>∃a b,x=.ref a/\EI c a y v b/\D.nx σ b
section
variable {o i value:Expr}{tpos:Pos}{td ty tv:TE}
theorem FV(c:X.A.units+1<cLine)(e:PE X o td)(hi:PE X i ty)(hv:PE X value tv)(f:swapsWith value (some (.Subscript o i pos')) pos.line X.env=pure false) :
  PS X (.Assign [.Subscript o i pos'] value pos) (Lf td ty tv):=by
 intro pins s σ H D I h;refine wpAny_Assign_Subscript (thn (hv pins s σ H _ I h) λr j b=>?_) f;obtain⟨v,H1,l,m,n⟩:=b;refine thn (e pins j σ H1 _ l n) λu s2 b=>?_
 obtain⟨x,H2,p,q,t⟩:=b;refine thn (hi pins s2 σ H2 _ p t) λiv s3 b=>?_
 obtain⟨y,H3,w,z,a,B,ex,g,C⟩:=b;subst ex;obtain rfl:u=Value.ref a:=q;exact AX c w g z m λs4 E=>⟨σ,B,E,C⟩
end
theorem Ce(h:Heap)(a:sysModules<h.objs.size):dO P w H (h.push { cls:=.type "dict",data:=.dict #[] }) h.objs.size (.dK []) :=
 ⟨NC _,beq_eq_false_iff_ne.mpr (Ne.symm (MV a)),[],.nil,Heap.DictOf.new h⟩
def Jy:TE:=λ_ H Q=>∀p,H p=none->Q (.ref p) (upd H p (.dK []))
section
theorem wb:PE X (.Dict [] [] pos) Jy:=λpins s σ H Q I h =>
 wpAny_Dict_empty ⟨.ref s.heap.objs.size,_,I.laid (a:=s.heap.objs.size) (o:=.dK []) (t':=s.toks) (λ_ _ q=>M4 _ q) (My _) (Ce s.heap I.big),rfl,h _ (I.hok.fresh (My _))⟩
end
structure M2(X:Cx)(o:Expr)(m:Str)(apos:Pos)(e f:Expr)(cpos:Pos):Prop where
 base:attributeBase o m X.env (eval o X.env)=eval o X.env
 few:((backTo cpos (starEach [e,f] X.env)).all (λx=>!x.1)&&(backToKw cpos (keywordEach [] X.env)).all (λx=>x.1.isSome)
 &&decide (([e,f]:List Expr).length+([]:List Keyword).length+(if ([]:List Keyword).isEmpty then 0 else 1)<30))=true
 line:(apos.endLine==cpos.line)=true
 trees:backTo cpos (starEach [e,f] X.env)=[(false,eval e X.env),(false,eval f X.env)]
def Lm(H:Hp)(a:Addr):Prop:=(∃kvs,Rd H a (.dK kvs))\/∃kvs,Rd H a (.dT kvs)
theorem EF(I:Inv X pins σ H s)(d:Lm H a) :
  s.TypeIs (.ref a) "dict"/\(∀b,Value.ref a=.ref b->∃c,s.heap.get? b=some c/\c.dict=none)/\(a==sysModules)=false:=by
 rcases d with⟨kvs,e⟩|⟨kvs,e⟩
 ·obtain⟨_,hd,vs,_,dd⟩:=zL I.hok e;refine⟨dd.typeIs,λb q=>?_,hd⟩;cases q;obtain⟨c,_,_,h1,h2,_⟩:=dd;exact⟨c,h1,h2.2.1⟩
 ·obtain⟨_,hd,xs,_,dd⟩:=DA I.hok e;refine⟨dd.typeIs,λb q=>?_,hd⟩;cases q;obtain⟨c,_,_,h1,h2,_⟩:=dd;exact⟨c,h1,h2.2.1⟩
section
variable {d:V}{r:Value}{o:Option V}{A:Around}
theorem ID(m:A.units+1<cLine)(I:Inv X pins σ H s)(g:Ec H a y o)(f:RelV y u)(i:RelV d r)(h:∀j s',Inv X pins σ H s'->RelV (o.getD d) j->Q j s') :
  wpAny #[4] A (call (.builtin "dict.get") [.ref a,u,r]) Q E s:=by
 rcases g with⟨kvs,k,e,c,l⟩|⟨kvs,k,b,e,c,n,l⟩
 ·subst c;obtain⟨z,hd,vs,rel,dd⟩:=zL I.hok e;refine call_meetsIn F.slot_dict_get dd.typeIs F.entry_dict_get (F.args_dict_get_3 _ _ _) (meets_dict_get_default (dj X.prog X.w) a (Cg f) hd r) ⟨_,dd.mapOf,h _ _ (I.tok _) ?_⟩;rw[l];exact (rel.val k).getD i
 ·subst c;cases (show u=Value.ref b from f);obtain⟨z,hd,xs,rel,dd⟩:=DA I.hok e;refine call_meetsIn F.slot_dict_get dd.typeIs F.entry_dict_get (F.args_dict_get_3 _ _ _) (meetsH_dict_get_default (tupleKind (dj X.prog X.w)) a b hd r) ⟨tupleKind_room_in1 m,k,xs,yZ I.hok n,dd,h _ _ (I.tok _) ?_⟩;rw[l];exact (rel.val k).getD i
end
def JD(td ty tx:TE):TE:=λσ H Q=>td σ H λx H1=>∃a,x=.ref a/\Lm H1 a/\ty σ H1 λy H2=>tx σ H2 λz b=>∃o,Ec b a y o/\Q (o.getD z) b
section
variable {o f:Expr}{apos:Pos}{td ty tx:TE}
theorem Dc(j:X.A.units+1<cLine)(l:PE X o td)(n:PE X e ty)(p:PE X f tx)(m:M2 X o "get" apos e f cpos):PE X (.Call (.Attribute o "get" apos) [e,f] [] cpos) (JD td ty tx):=by intro pins s σ H Q I h;refine wpAny_Call_method m.base m.few m.line F.plainAttrs_dict F.slot_dict_get F.type_dict_get (thn (l pins s σ H _ I h) λu q b=>?_);obtain⟨x,H1,i,r,a,ex,d,t⟩:=b;subst ex;obtain rfl:u=Value.ref a:=r;obtain⟨v,w,_⟩:=EF i d;refine⟨v,w,?_⟩;rw[m.trees];refine Calls.callWith_builtin rfl (Calls.evalArgs_plain (Calls.spliced_cons (thn (n pins q σ H1 _ i t) λiv s2 b=>?_)));obtain⟨y,H2,B,C,D⟩:=b;refine Calls.spliced_cons (thn (p pins s2 σ H2 _ B D) λfv s3 b=>?_);obtain⟨z,E,G,rz,ov,g,J⟩:=b;refine Calls.spliced_nil ?_;exact ID j G g C rz λw' s4 K c=>⟨_,E,K,c,J⟩
end
section
variable {kvs:List (Key×V)}{A:Around}
end
section
variable {A:Around}
end
section
theorem bX.setOwnO{t:PyData}(R:bX K H0 A0 H A O δ σ)(hi:i∈O)(hl:i<δ.length)(hn:H a=none)(s:ax H H1)(ha:H1 a=some o)(m:Ie o=true)(h:iK K (del H1 (a::(A++A0))) t o) :
  bX K H0 A0 H1 (a::A) O (δ.set i (some t)) (σ.set i (some (.ref a))) where
 same:=R.same.trans s
 ls0:=R.ls0
 new:=λb n=>by
  rcases M8.mp n with z|z
  ·rw[z];exact R.same.free hn
  ·exact R.new b z
 ls:=λb n=>by
  rcases M8.mp n with z|z
  ·exact⟨_,by rw[z];exact ha,m⟩
  ·exact (R.ls.same s) b z
 len:=by simp[R.len]
 pl:=λj e c q=>by
  rcases get_set q with⟨z,q⟩|⟨z,q⟩
  ·subst z;exact absurd hi c
  ·obtain⟨u,e1,h1⟩:=R.pl j e c q;refine⟨u,kX z e1,h1.same λb o e=>?_⟩;obtain⟨y,e⟩:=bj e;have r:b≠a:=aK e hn;rw[aP (by simpa[r] using y)];exact s _ _ e
 own:=λj e c q=>by
  have v:∀b o,del H (A++A0) b=some o->del H1 (a::A++A0) b=some o:=λb o e=>by obtain⟨y,e⟩:=bj e;have r:b≠a:=aK e hn;rw[aP (by simpa[r] using y)];exact s _ _ e
  rcases get_set q with⟨z,q⟩|⟨z,q⟩
  ·cases q;subst z;exact⟨a,_,_,by rw[Ni (by rw[<-R.len];exact hl)],M7,ha,rfl,h⟩
  ·obtain⟨b,ys,es,e1,h1,h2,h3,w⟩:=R.own j e c q;exact⟨b,ys,es,kX z e1,M3 _ h1,s _ _ h2,h3,w.same v⟩
 inj:=λj k d' e b c f g l p1 p2=>by
  have old:∀k,k∈O->i≠k->∀e,δ[k]?=some (some e)->σ[k]?=some (some (.ref a))->False:=λk f _ e q p=>by obtain⟨b,ys,es,e1,h1,h2,_⟩:=R.own k e f q;rw[p]at e1;cases e1;rw[hn]at h2;cases h2
  by_cases z1:i=j
  ·by_cases z2:i=k
   ·rw[<-z1,z2]
   ·subst z1;rw[Ni (by rw[<-R.len];exact hl)]at p1;cases p1;rw[N8 z2]at l p2;exact (old k f z2 e l p2).elim
  ·by_cases z2:i=k
   ·subst z2;rw[Ni (by rw[<-R.len];exact hl)]at p2;cases p2;rw[N8 z1]at g p1;exact (old j c z1 d' g p1).elim
   ·rw[N8 z1]at g p1;rw[N8 z2]at l p2;exact R.inj j k d' e b c f g l p1 p2
theorem bX.putO{d1 l:PyData}(R:bX K H0 A0 H A O δ σ)(hi:i∈O)(hd:δ[i]?=some (some l))(r:σ[i]?=some (some (.ref a)))(ha:a∈A)(m:Ie o=true)(h:iK K (del H (A++A0)) d1 o) :
  bX K H0 A0 (upd H a o) A O (δ.set i (some d1)) σ:=by
 have n:del (upd H a (o)) (A++A0)=del H (A++A0):=kR (Nh _ ha);have hl:i<δ.length:=(N0.mp hd).1;refine⟨λb o e=>?_,R.ls0,R.new,λb t=>?_,by simp[R.len],λj e c q=>?_,λj e c q=>?_,λj k d' e b c s f g p1 p2=>?_⟩
 ·have p:b≠a:=λz=>by rw[z,R.new a ha]at e;cases e
  rw[aC p];exact R.same b o e
 ·by_cases z:b=a
  ·exact⟨_,by rw[z,aH],m⟩
  ·rw[aC z];exact R.ls b t
 ·rcases get_set q with⟨z,q⟩|⟨z,q⟩
  ·subst z;exact absurd hi c
  ·rw[n];exact R.pl j e c q
 ·rcases get_set q with⟨z,q⟩|⟨z,q⟩
  ·cases q;subst z;exact⟨a,_,_,r,ha,aH,rfl,by rw[n];exact h⟩
  ·obtain⟨b,zs,es,e1,h1,h2,h3,u⟩:=R.own j e c q;have p:b≠a:=λw=>z (R.inj i j _ _ a hi c hd q r (by rw[<-w];exact e1))
   exact⟨b,zs,es,e1,h1,by rw[aC p];exact h2,h3,by rw[n];exact u⟩
 ·rcases get_set f with⟨z1,f⟩|⟨z1,f⟩ <;> rcases get_set g with⟨z2,g⟩|⟨z2,g⟩
  ·rw[<-z1,z2]
  ·subst z1;exact R.inj i k l e b hi s hd g p1 p2
  ·subst z2;exact R.inj j i d' l b c hi f hd p1 p2
  ·exact R.inj j k d' e b c s f g p1 p2
end
noncomputable def bF(l:List (Int×Int)):PyData:=.dict (l.map λp=>(PyData.int p.1,PyData.int p.2))
noncomputable def dkO(l:List (Int×Int)):HO:=.dK (l.map λp=>(.inl p.1,V.int p.2))
theorem rj:∀{l m:List (Int×Int)},l.map (λp=>(PyData.int p.1,PyData.int p.2))=m.map (λp=>(PyData.int p.1,PyData.int p.2))->l=m
 |[],[],_=>rfl
 |[],_::_,h=>by simp at h
 |_::_,[],h=>by simp at h
 |(a,b)::l,(c,d)::m,h=>by simp only[M5,List.cons.injEq,Prod.mk.injEq,PyData.int.injEq]at h;obtain⟨⟨rfl,rfl⟩,h⟩:=h;rw[rj h]
theorem Is.ofDic(h:Is K H (bF l) v):∃a,v=.ref a/\H a=some (dkO l):=by
 unfold bF Is at h;rcases h with (⟨a,ns,_,e,_⟩|⟨a,m,e1,e,h2⟩)|⟨a,C,dx,fs,_,_,_,h|h⟩
 ·cases l with
  |nil=>simp at e
  |cons p l=>simp at e
 ·rcases e with⟨b,e,rfl⟩|⟨b,e,rfl⟩
  ·rw[rj e];exact⟨a,e1,h2⟩
  ·cases l <;> cases e
 ·cases l with
  |nil=>unfold Isk at h;simp at h
  |cons p l=>rw[M5]at h;unfold Isk at h;obtain⟨f,_,_,_,q,_⟩:=h;cases q
 ·cases l with
  |nil=>unfold Isk at h;simp at h
  |cons p l=>rw[M5]at h;unfold Isk at h;obtain⟨f,_,_,_,q,_⟩:=h;cases q
theorem IT(h:H a=some (dkO l)):Is K H (bF l) (.ref a):=by unfold bF Is;exact .inl (.inr ⟨a,_,rfl,.inl ⟨l,rfl,rfl⟩,h⟩)
def lz:List (PyData×PyData)->Option (List (Int×Int))
 |[]=>some []
 |(.int a,.int b)::r=>(lz r).map λl=>(a,b)::l
 |_=>none
theorem sC:∀{r:List (PyData×PyData)}{l:List (Int×Int)},lz r=some l->r=l.map λp=>(PyData.int p.1,PyData.int p.2)
 |[],l,e=>by cases e;rfl
 |(a,b)::r,l,e=>by
  cases a <;> cases b <;> first|(cases e;done)|skip
  unfold lz at e;cases q:lz r with
  |none=>rw[q]at e;cases e
  |some m=>rw[q]at e;cases e;rw[sC q];rfl
theorem rH:∀l:List (Int×Int),lz (l.map λp=>(PyData.int p.1,PyData.int p.2))=some l
 |[]=>rfl
 |p::r=>by rw[M5];unfold lz;rw[rH r];rfl
def mK:PyData->Option (List (Int×Int))
 |.dict kvs=>lz kvs
 |_=>none
theorem qW{d:PyData}(h:mK d=some l):d=bF l:=by
 unfold mK at h;split at h
 ·unfold bF;rw[sC h]
 ·cases h
theorem iT(l:List (Int×Int)):mK (bF l)=some l:=rH l
noncomputable def cz(l:List (Int×Int))(k:Int):Option Int:=(l.find? λp=>decide (p.1=k)).map (·.2)
def nN(l:List (Int×Int))(k v:Int):List (Int×Int):=if (l.any λp=>decide (p.1=k))=true then l.map (λp=>if p.1=k then (p.1,v) else p) else l++[(k,v)]
theorem DM(l:List (Int×Int))(k:Int):oh (l.map λp=>((.inl p.1,V.int p.2):Key×V)) (.inl k)=(cz l k).map V.int:=by
 unfold oh cz
 induction l with
 |nil=>rfl
 |cons p r ih =>
  rw[M5,Ng,Ng];by_cases z:p.1=k
  ·have h1:decide ((Sum.inl p.1:Key)=.inl k)=true:=decide_eq_true (by rw[z]);simp only[h1,decide_eq_true z];rfl
  ·have h1:decide ((Sum.inl p.1:Key)=.inl k)=false:=decide_eq_false λq=>z (Sum.inl.inj q)
   simp only[h1,decide_eq_false z];exact ih
theorem Hm(l:List (Int×Int))(k v:Int):putK (l.map λp=>((.inl p.1,V.int p.2):Key×V)) (.inl k) (.int v)=(nN l k v).map λp=>(.inl p.1,V.int p.2):=by
 have ha:((l.map λp=>((.inl p.1,V.int p.2):Key×V)).any λa=>decide (a.1=.inl k))=l.any λp=>decide (p.1=k):=by
  rw[List.any_map];congr 1;funext p;by_cases z:p.1=k
  ·simp[z]
  ·have:¬ ((Sum.inl p.1:Key)=.inl k):=λq=>z (Sum.inl.inj q)
   simp[z,this]
 unfold putK nN;rw[ha];split
 ·rw[N4,N4];refine MY λp _=>?_
  by_cases z:p.1=k
  ·simp[z]
  ·have:¬ ((Sum.inl p.1:Key)=.inl k):=λq=>z (Sum.inl.inj q)
   simp[z,this]
 ·rw[Nk];rfl
section
variable {E:XK}{o f i' value:Expr}{go ge gf:Ds->Rs PyData}{apos:Pos}
theorem HB:PD X E (.Dict [] [] pos) (gC (bF [])):=(wb).imp λσ H Q ⟨A,δ,R,o⟩=>λp a=>o (.ref p) _ (bH a) (IT (l:=[]) (by rw[aP (R.ls.new a)];exact aH))
def iI(go ge gf:Ds->Rs PyData):Ds->Rs PyData:=λδ=>(go δ).bind λd=>match mK d with
 |some l=>(ge δ).bind λk=>(gf δ).bind λz=>(match k,z with
  |.int k,.int z=>.ok (.int ((cz l k).getD z))
  |_,_=>.no)
 |none=>.no
end
section
variable {E:XK}{o f k value:Expr}{go ge gf gk gv:Ds->Rs PyData}{apos:Pos}
theorem Hc(q:X.A.units+1<cLine)(r:PD X E o go)(s:PD X E e ge)(t:PD X E f gf)(m:M2 X o "get" apos e f cpos):PD X E (.Call (.Attribute o "get" apos) [e,f] [] cpos) (iI go ge gf) :=
 (Dc q r s t m).imp λσ H Q i=>by
  obtain⟨A,δ,R,b⟩:=i;unfold iI at b;refine eD.run R (λd w v H1 j x h1=>?_) (λC c H' s'=>?_) (λc=>?_)
  ·simp only[w,Rs.ag]at b;split at b
   ·rename_i l hl;rw[qW hl]at h1;obtain⟨a,rfl,ha⟩:=h1.ofDic;have g:H1 a=some (dkO l):=az _ _ ha;refine⟨a,rfl,.inl ⟨_,.inl g⟩,?_⟩;refine eD.run x (λkd y u H2 s2 R2 n=>?_) (λC c H' s'=>?_) (λc=>?_)
    ·simp only[y,Rs.ag]at b;refine eD.run R2 (λzd B z D p R3 F=>?_) (λC c H' s'=>?_) (λc=>?_)
     ·simp only[B,Rs.ag]at b;split at b
      ·rename_i h zz;have e1:=n.ofInt;have e2:=F.ofInt;subst e1 e2;refine⟨_,Ec.k (k:=.inl h) (p _ _ (s2 _ _ g)),?_⟩;rw[DM];have:((cz l h).map V.int).getD (.int zz)=.int ((cz l h).getD zz):=by cases cz l h <;> rfl
       rw[this];exact b _ D (j.trans (s2.trans p)) bN
      ·exact b.elim
     ·simp only[c,Rs.fi]at b;exact b H' (j.trans (s2.trans s'))
     ·simp only[c,Rs.bD]at b;exact b
    ·simp only[c,Rs.fi]at b;exact b H' (j.trans s')
    ·simp only[c,Rs.bD]at b;exact b
   ·exact b.elim
  ·simp only[c,Rs.fi]at b;exact b H' s'
  ·simp only[c,Rs.bD]at b;exact b
def oF(i:Nat):Ds->Sr:=λδ=>if i<δ.length then .nx (δ.set i (some (bF []))) else .no
theorem CA(c:X.N.Nodup)(e:i∈O)(hi:X.N[i]?=some x)(f:Loc X.env.scope x)(g:swapsWith (.Dict [] [] pos') (some (.Name x apos)) pos.line X.env=pure false)
  (h:X.fn x=true\/X.env.scope.names.lookup x=some .local):PSD X E O (.Assign [.Name x apos] (.Dict [] [] pos') pos) (oF i):=(qX c hi f wb g h).imp λD σ H a=>by
 obtain⟨H0,A0,A,δ,R,o⟩:=a;unfold oF at o;split at o
 ·rename_i hl;intro p b;exact o (p::A) _ _ (R.setOwnO (o:=dkO []) e hl b (bH b) aH rfl (.inl ⟨[],rfl,rfl⟩))
 ·exact o.elim
def lA(i:Nat)(gk gv:Ds->Rs PyData):Ds->Sr:=λδ=>match δ[i]? with
 |some (some d)=>(match mK d with
  |some l=>ofR (gv δ) λv=>ofR (gk δ) λk=>(match k,v with
   |.int k,.int v=>if l.length<1000000 then .nx (δ.set i (some (bF (nN l k v)))) else .no
   |_,_=>.no)
  |none=>.no)
 |_=>.no
theorem Eg(B:X.A.units+1<cLine)(h:PD X E value gv)(F:PD X E k gk)(w:i∈O)(hi:X.N[i]?=some x)(hv:Vis X.env.scope x)
  (hd:(x==("__debug__":Str))=false) (f:(x==("__classdict__":Str))=false) (G:swapsWith value (some (.Subscript (.Name x pn) k pos')) pos.line X.env=pure false):PSD X E O (.Assign [.Subscript (.Name x pn) k pos'] value pos) (lA i gk gv) :=
 (FV B (kE hi hv hd f) F h G).imp λD σ H g=>by
  obtain⟨H0,A0,A,δ,R,a⟩:=g;unfold lA at a;split at a
  ·rename_i d q;split at a
   ·rename_i l hl;rw[qW hl]at q;obtain⟨p,o',d',e1,I,j,e2,n⟩:=R.own i _ w q;subst e2;have r:o'=dkO l:=by
     have n:IB _ o':=n;rcases n with⟨m,c,rfl⟩|⟨m,c,_⟩
     ·rw[rj c];rfl
     ·cases l <;> cases c
    subst r;refine eD.run R.full (λvd J v H1 y K s=>?_) (λC b H' s'=>?_) (λb=>?_)
    ·simp only[J,aB]at a;refine⟨_,e1,?_⟩;refine eD.run K (λkd L u H2 s2 R2 t=>?_) (λC b H' s'=>?_) (λb=>?_)
     ·simp only[L,aB]at a;split at a
      ·rename_i z M;split at a
       ·rename_i hlen;have c:=t.ofInt;have P:=s.ofInt;subst c P;have e:=y.trans s2;refine⟨p,_,rfl,EI.k (k:=.inl z) (e _ _ j) (by rw[M6,sizeLine_eq];omega),?_⟩;rw[Hm];exact a A _ _ ((R.step e).putO (o:=dkO (nN l z M)) w q e1 I rfl (.inl ⟨_,rfl,rfl⟩))
       ·exact a.elim
      ·exact a.elim
     ·simp only[b,nJ]at a;exact a H' (R.same.trans (y.trans s'))
     ·simp only[b,og]at a;exact a
    ·simp only[b,nJ]at a;exact a H' (R.same.trans s')
    ·simp only[b,og]at a;exact a
   ·exact a.elim
  ·exact a.elim
end
theorem cm.u1{k:Nat}{A:Around}(r:cm k A):A.units+1<cLine:=by have:=r.un;omega
def HQ(b N:List Str)(p:Str)(cap:List Nat)(a sc:Scope):Bool :=
 (sc.kind==.function)&&!sc.isCoroutine&&!sc.isGenerator&&decide N.Nodup&&decide (N.take 1=[p])&&(sc.names.lookup p==some .local)&&sc.names.all (λx=>x.2 != .cell) &&
 sc.names.all (λy=>y.2 != .free||a.names.lookup y.1==some .cell)&&decide (N.length=1+cap.length) &&
 (List.range cap.length).all (λi=>match N[1+i]?,cap[i]? with
  |some x,some m=>(b[m]?==some x)&&(sc.names.lookup x==some .free)&&(a.names.lookup x==some .cell)
  |_,_=>false)
theorem oX{α:Type}{x:Str}{k:α}:∀{l:List (Str×α)},l.lookup x=some k->(x,k)∈l
 |[],h=>by cases h
 |(y,j)::r,h=>by
  rw[N9]at h;cases q:(x==y) with
  |true=>rw[q]at h;cases h;rw[eq_of_beq q];exact M7
  |false=>rw[q]at h;exact M3 _ (oX h)
theorem rl{e:List Str}{b:Scope}{A:Around}{E:XK}
  {C:XK} {a:Expr} {n F:Pos} {G:Addr} {k:Nat} {p:Str}
  (hm:mg "min"=none) (I:cm (k+2) #[9].A) (ha:PD #[9] C a ga) (T:CF #[9] c G)
  (l:∀(q c':Addr)(s':Shared)(H':Hp),PD (tK (CXW P w) P w K mg base N (#[9].env.qual++"<lambda>") scope q (.ref c') (nW scope.names #[9].env.cells []) #[9].A.in1 #[9].stack s' H' E0) E0 body gb)
  (hok:HQ e N p cap b scope=true:=by decide +kernel)
  (J:∀(q:Str)(cl:List (Str×Addr))(c':Addr)(pm t u:Value),bindArgs (W.kla_fn "<lambda>" q params body scope cl pm (.ref c') t) ⟨[u],[]⟩=pure ([p].zip [u]):=by intro _ _ _ _ _ _;rfl)
  (L:Gl #[9] "min":=by rfl) (M:starEach [a] #[9].env=[(false,eval a #[9].env)]:=by rfl) (o:defaultsOf params #[9].env=([],[]):=by rfl) :
  PD #[9] C (.Call (.Name "min" F) [a] [⟨some "key",.Lambda params body scope n,kp⟩] pos) (jo cap ga gb):=by
 unfold HQ at hok;simp only[M9,MX,decide_eq_true_eq,beq_iff_eq,bne_iff_ne,OG,OM]at hok;obtain⟨⟨⟨⟨⟨⟨⟨⟨⟨O,Q⟩,R⟩,S⟩,U⟩,X⟩,Y⟩,o8⟩,Z⟩,v⟩:=hok;have g:∀x,b.names.lookup x=some .cell->∃c,#[9].env.cells.lookup x=some c:=λx r=>qw r
 refine BI (cap:=cap) rfl hm I ha T (jR λy hy hf=>?_) ⟨O,Q,R,S,U,λx r=>by rw[MR.mp r];exact X,Y⟩ (λx c h=>qH _ _ _ x c (λ_ _ z=>by cases z) h) (λx r=>?_) Z (λi m x h1 h2=>?_) (J _ _) (λq c' s' H'=>l q c' s' H') L M o
 ·rcases o8 y hy with z|z
  ·exact absurd hf z
  ·exact g y.1 z
 ·have j:=oX r;rcases o8 (x,.free) j with z|z
  ·exact absurd rfl z
  ·obtain⟨c,hc⟩:=g x z;exact lW _ _ _ x c j hc
 ·have B:i<cap.length:=(N0.mp h2).1;have:=v i (NV.mpr B);rw[h1,h2]at this;simp only[M9,beq_iff_eq]at this;obtain⟨⟨q1,q2⟩,D⟩:=this;exact⟨q1,q2,.inl D,.inr (.inl D)⟩
end L2
namespace RS
open PySem
set_option genInjectivity true in
structure Er where
 every:Int
 due:Int
 late:Int
 parts:List #[25]
noncomputable def bg:Option Int->PyData
 |none=>.none
 |some i=>.int i
def aI(p:Int×Option Int):PyData:=.tuple [.int p.1,bg p.2]
def Er.d(e:Er):PyData:=.tuple [.int e.every,.int e.due,.int e.late,.tuple (e.parts.map aI)]
def ar(es:List Er):PyData:=.tuple (es.map Er.d)
noncomputable def isWhole(d:PyData)(lo hi:Int):Bool:=match d with
 |.int i=>decide (lo<=i)&&decide (i<=hi)
 |_=>false
def cg(d:PyData)(lo hi:Int):Bool:=match d with
 |.tuple ds=>decide (lo<=(ds.length:Int))&&decide ((ds.length:Int)<=hi)
 |_=>false
def dB(d:PyData):Bool:=match d with
 |.tuple [a,b]=>isWhole a 1 20&&(match b with|.none=>true|b=>isWhole b 0 3)
 |_=>false
def i0(ds:List PyData):Bool:=match ds.getLast? with
 |some (.tuple [_,.none])=>true
 |_=>false
def eN(d:PyData):Bool:=match d with
 |.tuple ds=>decide (1<=ds.length)&&decide (ds.length<=4)&&ds.all dB&&i0 ds
 |_=>false
def bO(d:PyData):Bool:=match d with
 |.tuple [.int e,du,.int l,ps]=>decide (2<=e)&&decide (e<=60)&&(decide (0<=l)&&decide (l<=(if e-1<20 then e-1 else 20)))&&isWhole du 1 (e-l)&&eN ps
 |_=>false
def dD(d:PyData):Bool:=match d with
 |.tuple ds=>decide (1<=ds.length)&&decide (ds.length<=6)&&ds.all bO
 |_=>false
structure Er.Ok(e:Er):Prop where
 e1:2<=e.every
 e2:e.every<=60
 l1:0<=e.late
 l2:e.late<=20
 l3:e.late<e.every
 d1:1<=e.due
 d2:e.due<=e.every-e.late
 p1:e.parts≠[]
 p2:e.parts.length<=4
 pl:∀p∈e.parts,1<=p.1/\p.1<=20/\∀t,p.2=some t->0<=t/\t<=3
 la:∀p,e.parts.getLast?=some p->p.2=none
theorem Bi{p:Int×Option Int}(h1:1<=p.1)(h2:p.1<=20)(h3:∀t,p.2=some t->0<=t/\t<=3):dB (aI p)=true:=by
 obtain⟨l,t⟩:=p;cases t with
 |none=>simp[dB,aI,bg,isWhole,h1,h2]
 |some t =>obtain⟨a,b⟩:=h3 t rfl;simp[dB,aI,bg,isWhole,h1,h2,a,b]
theorem vU{e:Er}(h:e.Ok):bO e.d=true:=by
 have f:(e.parts.map aI).all dB=true:=by rw[MX];intro d hd;obtain⟨p,f,rfl⟩:=MM.mp hd;obtain⟨a,b,c⟩:=h.pl p f;exact Bi a b c
 have hl:i0 (e.parts.map aI)=true:=by
  unfold i0;rw[ON];cases q:e.parts.getLast? with
  |none=>exact absurd (Ot.mp q) h.p1
  |some p =>obtain⟨l,t⟩:=p;have:t=none:=h.la _ q;subst this;rfl
 have hn:1<=e.parts.length:=by
  cases q:e.parts with
  |nil=>exact absurd q h.p1
  |cons _ _=>simp
 have h1:=h.e1;have h2:=h.e2;have h3:=h.l1;have h4:=h.l2;have h5:=h.l3;have i:=h.d1;have j:=h.d2;have m:=h.p2;have g:e.late<=if e.every-1<20 then e.every-1 else 20:=by split <;> omega
 simp[bO,Er.d,eN,isWhole,f,hl,hn,h1,h2,h3,i,j,m,g]
theorem mS{es:List Er}(h1:1<=es.length)(h2:es.length<=6)(h:∀e∈es,e.Ok):dD (ar es)=true:=by
 have a:(es.map Er.d).all bO=true:=by rw[MX];intro d hd;obtain⟨e,b,rfl⟩:=MM.mp hd;exact vU (h e b)
 simp[dD,ar,h1,h2,a]
noncomputable def cellAt(ns:List Int)(k:Int):Int :=
 if k<(ns.length:Int) then ns.getD k.toNat 0 else if ns=[] then 0 else ns.getD (k % (ns.length:Int)).toNat 0*31+k
def BX(ns:List Int)(k:Int):Int:=(cellAt ns k+7919*k+1)*48271 % 2147483647
def mixed(ns:List Int)(k many:Int):Int:=(BX ns k*BX ns k+7*BX ns k+k) % 2147483629 % many
theorem Hl(ns:List Int)(k:Int):0<=BX ns k:=NR _ #[2]
theorem Hf(ns:List Int)(k:Int):BX ns k<2147483647:=NZ _ #[2]
theorem c7(ns:List Int)(k:Int)(h:0<many):0<=mixed ns k many:=NR _ (by omega)
theorem dw(ns:List Int)(k:Int)(h:0<many):mixed ns k many<many:=NZ _ h
def lj(i:Int):Option Int:=if i=0 then some 0 else if i=1 then some 1 else if i=2 then some 1 else if i=3 then some 0 else none
def fm(ns:List Int)(j:Int)(a:Bool):Int×Option Int:=(1+mixed ns j 40 % 4,if a then lj (mixed ns j 40 / 4 % 5) else none)
def iM(ns:List Int)(at' every:Int):Int :=
 if every-1<mixed ns (at' + 1) 4*(if mixed ns (at' + 2) 3=0 then 1 else 0) then every-1 else mixed ns (at' + 1) 4*(if mixed ns (at' + 2) 3=0 then 1 else 0)
def oH(ns:List Int)(at' a:Int):Int:=if mixed ns (at' + 1) 3=0 then a-mixed ns (at' + 2) a else a
def mkE(ns:List Int)(at' top:Int)(a:Bool):Er where
 every:=3+mixed ns at' top
 late:=iM ns at' (3+mixed ns at' top)
 due:=oH ns at' (3+mixed ns at' top-iM ns at' (3+mixed ns at' top))
 parts:=((List.range (mixed ns (at' + 3) 3).toNat).map λ(k:Nat)=>fm ns (at' + 4+(k:Int)) a)++[(1+mixed ns (at' + 6) 3,none)]
def pk(ns:List Int)(at' most top:Int)(a:Bool):List Er:=(List.range (1+mixed ns at' most).toNat).map λ(k:Nat)=>mkE ns (at' + 1+7*(k:Int)) top a
theorem xg(ns:List Int)(at' every:Int)(h:3<=every):0<=iM ns at' every/\iM ns at' every<=3/\iM ns at' every<every:=by
 have h1:=c7 ns (at' + 1) (many:=4) #[2];have h2:=dw ns (at' + 1) (many:=4) #[2];unfold iM;generalize mixed ns (at' + 1) 4=x at *;by_cases hc:mixed ns (at' + 2) 3=0
 ·simp only[hc,if_true,Int.mul_one];split <;> omega
 ·simp only[hc,if_false,Int.mul_zero];split <;> omega
theorem GN(ns:List Int)(at' a:Int)(h:1<=a):1<=oH ns at' a/\oH ns at' a<=a:=by have h1:=c7 ns (at' + 2) (many:=a) (by omega);have h2:=dw ns (at' + 2) (many:=a) (by omega);unfold oH;split <;> omega
theorem GY(i t:Int)(h:lj i=some t):0<=t/\t<=1:=by
 unfold lj at h
 repeat' split at h
 all_goals (first|(cases h;decide)|cases h)
theorem DL(ns:List Int)(j:Int)(a:Bool):1<=(fm ns j a).1/\(fm ns j a).1<=4/\∀t,(fm ns j a).2=some t->0<=t/\t<=1:=by
 have h1:0<=mixed ns j 40 % 4:=NR _ #[2];have h2:mixed ns j 40 % 4<4:=NZ _ #[2];refine⟨by unfold fm;simp only;omega,by unfold fm;simp only;omega,λt h=>?_⟩;unfold fm at h;simp only at h;cases a with
 |false=>simp at h
 |true=>simp at h;exact GY _ _ h
theorem Ii(ns:List Int)(at' top:Int)(a:Bool)(h1:0<top)(h2:top<=58):(mkE ns at' top a).Ok:=by
 have a1:=c7 ns at' h1;have a2:=dw ns at' h1;have l:=xg ns at' (3+mixed ns at' top) (by omega);have d:=GN ns at' (3+mixed ns at' top-iM ns at' (3+mixed ns at' top)) (by omega);have n1:=c7 ns (at' + 3) (many:=3) #[2];have n2:=dw ns (at' + 3) (many:=3) #[2];have n3:=c7 ns (at' + 6) (many:=3) #[2];have n4:=dw ns (at' + 6) (many:=3) #[2];refine⟨?_,?_,l.1,?_,l.2.2,d.1,d.2,?_,?_,?_,?_⟩
 ·show 2<=3+mixed ns at' top;omega
 ·show 3+mixed ns at' top<=60;omega
 ·have:=l.2.1;show iM ns at' (3+mixed ns at' top)<=20;omega
 ·simp[mkE]
 ·simp only[mkE,MN,M6,Od,Nj];omega
 ·intro p b;simp only[mkE,Nb,MM,MR]at b;rcases b with⟨k,_,rfl⟩|rfl
  ·have:=DL ns (at' + 4+(k:Int)) a;refine⟨this.1,by omega,λt c=>?_⟩;have:=this.2.2 t c;omega
  ·exact⟨by simp only;omega,by simp only;omega,λt c=>by cases c⟩
 ·intro p b;simp only[mkE,List.getLast?_append,List.getLast?_singleton,Option.some_or]at b;cases b;rfl
theorem EJ(ns:List Int)(at' most top:Int)(a:Bool)(h:0<most):1<=(pk ns at' most top a).length/\((pk ns at' most top a).length:Int)<=most:=by have h1:=c7 ns at' h;have h2:=dw ns at' h;simp only[pk,M6,Od];omega
theorem Fw(ns:List Int)(at' most top:Int)(a:Bool)(h1:0<top)(h2:top<=58):∀e∈pk ns at' most top a,e.Ok:=by intro e b;simp only[pk,MM]at b;obtain⟨k,_,rfl⟩:=b;exact Ii _ _ _ _ h1 h2
end RS
variable {es:List RS.Er}
namespace RS
open PySem L2
structure Cs where
 RankError:Addr
 NoErrands:Addr
 NoRanks:Addr
 NoComings:Addr
 NoErrand:Addr
 NoNumber:Addr
 TooLong:Addr
 NoText:Addr
 Holding:Addr
 Jobs:Addr
abbrev Gf:=List PyData->Rs PyData
def bQ(K:W.Frag)(mg:Str->Option Value)(x:Str)(st:Stmt)(ps:List Str):Prop:=∃f fd,Fun K x x st f fd/\Binds K fd ps []/\mg x=some (.ref f)
def jH(cs:Cs):Ds->Sr :=
 (ay (sIf (cOr (gA (gT (g1 (lu "int") (ae 0)))) (gT (g1 (lu "bool") (ae 0)))) #[16] aV)
  (bf (n8 dLe dLe (ae 1) (ae 0) (ae 2))))
def jO(cs:Cs):Ds->Sr :=
 (bf (A3 (g1 (lu "tuple") (ae 0)) (n8 dLe dLe (ae 1) (gF bS (af (ae 0) ah)) (ae 2))))
def g9(cs:Cs)(aO ba:Gf):Ds->Sr :=
 (ay (sIf (cOr (gA (gT (au ba (af (ae 0) (af (gC (.int 2)) (af (gC (.int 2)) ah)))))) (gA (gT (au aO (af (g2 dIx (ae 0) #[1]) (af #[0] (af (gC (.int 20)) ah))))))) #[16] aV)
  (bf (gOr (g1 ju (g2 dIx (ae 0) #[0])) (au aO (af (g2 dIx (ae 0) #[0]) (af #[1] (af (g2 eM (gC (.int 4)) #[0]) ah)))))))
def gw(cs:Cs)(ba a:Gf):Ds->Sr :=
 (ay (sIf (cOr (gA (gT (au ba (af (ae 0) (af #[0] (af (gC (.int 4)) ah)))))) (gA (gT (gF pw (af (gL (aX 1 (bh (ae 0)) bJ (au a (af (ae 1) ah)) aG)) ah))))) #[16] aV)
  (bf (g1 ju (g2 dIx (g2 dIx (ae 0) (g1 jV #[0])) #[0]))))
def eQ(cs:Cs)(aO a ba:Gf):Ds->Sr :=
 (ay (sIf (gA (gT (au ba (af (ae 0) (af (gC (.int 4)) (af (gC (.int 4)) ah)))))) #[16] aV)
  (ay (aN [] 1 (g2 dIx (ae 0) #[1]))
  (ay (aN [] 2 (g2 dIx (ae 0) #[0]))
  (ay (aN [] 3 (g2 dIx (ae 0) (gC (.int 2))))
  (ay (sIf (gA (gT (au aO (af (ae 1) (af (gC (.int 2)) (af (gC (.int 60)) ah)))))) #[16] aV)
  (ay (sIf (gA (gT (au aO (af (ae 3) (af #[1] (af (gF iW (af (gC (.int 20)) (af (g2 eM (ae 1) #[0]) ah))) ah)))))) #[16] aV)
  (bf (A3 (au aO (af (ae 2) (af #[0] (af (g2 eM (ae 1) (ae 3)) ah)))) (au a (af (g2 dIx (ae 0) #[15]) ah))))))))))
def jd(cs:Cs)(ba a:Gf):Ds->Sr :=
 (ay (sIf (cOr (gA (gT (au ba (af (ae 0) (af #[0] (af (gC (.int 6)) ah)))))) (gA (gT (gF pw (af (gL (aX 1 (bh (ae 0)) bJ (au a (af (ae 1) ah)) aG)) ah))))) (jh cs.NoErrands (af (gC (.str "errands are a tuple of 1 to 6 errands (every, due, late, parts)")) ah)) aV)
  (bf (ae 0)))
def cV(cs:Cs)(ba aO:Gf):Ds->Sr :=
 (ay (aN [] 2 (g2 eM (gF bS (af (ae 0) ah)) #[0]))
  (ay (sIf (cOr (gA (gT (au ba (af (ae 1) (af (gF bS (af (ae 0) ah)) (af (gF bS (af (ae 0) ah)) ah)))))) (gA (gT (gF pw (af (gL (aX 3 (bh (ae 1)) bJ (au aO (af (ae 3) (af #[1] #[28]))) aG)) ah))))) (jh cs.NoRanks (af (gC (.str "ranks are a tuple of the numbers of all errands")) ah)) aV)
  (ay (sIf (gT (g2 dLt (gF my (af (ae 1) ah)) (gF bS (af (ae 1) ah)))) (jh cs.NoRanks (af (gC (.str "ranks have each errand's number once")) ah)) aV)
  (bf (ae 1)))))
def eZ(cs:Cs)(aO:Gf):Ds->Sr :=
 (ay (sIf (gA (gT (au aO (af (ae 1) (af #[1] (af (g2 eM (gF bS (af (ae 0) ah)) #[0]) ah)))))) (jh cs.NoErrand (af (gC (.str "no errand has this number")) ah)) aV)
  (bf (ae 1)))
def fV(cs:Cs)(bz aY bt:Gf):Ds->Sr :=
 (ay (lg (au bt (af (ae 0) ah)))
  (ay (lg (au aY #[21]))
  (lg (au bz (af (ae 0) #[28])))))
def jm(cs:Cs):Ds->Sr :=
 (bf (g2 (pz false) (ae 1) (gL (aX 2 (bh (g2 dIx (ae 0) #[15])) bJ (g2 dIx (ae 2) #[0]) aG))))
def mM(cs:Cs)(cH:Gf):Ds->Sr :=
 (ay (cA [] (fw (af (ae 1) ah)) (cn [3,4]) (sIf (gT (au cH (af (g2 dIx (ae 0) (ae 4)) #[28]))) (bf (ae 3)) aV))
  (bf (gC .none)))
def gR(cs:Cs)(eo:Gf):Ds->Sr :=
 (bf (gL (aX 2 (fh (af (gC (.int 4)) ah)) bJ (au eo (af (ae 0) (af (ae 1) #[28]))) aG)))
def jL(cs:Cs)(aR:Gf):Ds->Sr :=
 (ay (aN [5] 3 (nK (ae 1) (ae 2)))
  (ay (aN [5] 4 (au aR #[21]))
  (ay (eu [5] 5 ah)
  (ay (cA [5] (bh #[29]) (aU 6) (cA [5] (fw (af #[6] ah)) (cn [7,8]) (sIf (iN (gT (g1 eE (g2 dIx (ae 8) #[0]))) (gT (g2 dLe (g2 dIx (ae 4) (g2 dIx (ae 8) #[0])) (ae 3)))) (ik [5] 5 (au (sY cs.Holding ["number", "part", "tool", "times"]) (af (ae 6) (af (ae 7) (af (g2 dIx (ae 8) #[0]) (af (g2 eM (g2 dIx (ae 8) #[1]) #[0]) ah)))))) aV)))
  (bf (ae 5))))))
def gX(cs:Cs)(ao:Gf):Ds->Sr :=
 (ay (aN [7] 4 (g2 aW #[15] (au ao (af (ae 0) (af (ae 1) #[28])))))
  (ay (aN [7] 5 (g2 fE (au ao (af (ae 0) (af (g2 aW (ae 1) #[0]) (af (gC (.int 4)) ah)))) (gF BA (af (g2 dEq (au ao (af (ae 0) (af (g2 aW (ae 1) (gC (.int 2))) (af #[15] ah)))) #[1]) ah))))
  (ay (aN [7] 5 (gF iW (af (ae 5) (af (g2 eM (ae 4) #[0]) ah))))
  (ay (aN [7] 6 (g2 eM (ae 4) (ae 5)))
  (ay (sIf (gT (g2 dEq (au ao (af (ae 0) (af (g2 aW (ae 1) #[0]) (af #[15] ah)))) #[1])) (aN [7] 6 (g2 eM (ae 6) (au ao (af (ae 0) (af (g2 aW (ae 1) (gC (.int 2))) (af (ae 6) ah)))))) aV)
  (ay (eu [7] 7 ah)
  (ay (cA [7] (fh (af (au ao (af (ae 0) (af (g2 aW (ae 1) #[15]) (af #[15] ah)))) ah)) (aU 8) (ay (aN [7] 9 #[33])
  (ay (ik [7] 7 #[12])
  (sIf (gA (gT (ae 3))) (lH 7 (g1 jV #[0]) (dS (af (g2 dIx (g2 dIx (ae 7) (g1 jV #[0])) #[1]) (af (gC .none) ah)))) aV))))
  (bf (dS (af (ae 4) (af (ae 6) (af (ae 5) (af (gF ko (af (g2 aW (ae 7) (mL (af (dS (af (g2 aW #[0] (au ao (af (ae 0) (af (g2 aW (ae 1) (gC (.int 6))) (af #[15] ah))))) (af (gC .none) ah))) ah))) ah)) ah)))))))))))))
def fZ(cs:Cs)(ck ao:Gf):Ds->Sr :=
 (ay (aN [] 5 (g2 aW #[0] (au ao (af (ae 0) (af (ae 1) #[28])))))
  (bf (gF ko (af (gL (aX 6 (fh (af (ae 5) ah)) bJ (au ck (af (ae 0) (af (g2 aW (g2 aW (ae 1) #[0]) (g2 fE (gC (.int 7)) (ae 6))) (af (ae 3) (af (ae 4) ah))))) aG)) ah))))
def iH(cs:Cs)(ao:Gf):Ds->Sr :=
 (ay (eu [3,4] 3 (gLR #[28]))
  (ay (eu [3,4] 4 ah)
  (ay (cA [3,4] (fh #[28]) (aU 5) (jE 4 3 (au ao #[34])))
  (bf (gF ko (af (ae 4) ah))))))
def fY(cs:Cs):Ds->Sr :=
 (ay (eu [2] 2 (af (gC .none) (af (gC .none) (af (gC .none) (af (gC .none) ah)))))
  (ay (cA [2] (Ax (af (g2 eM (gF bS (af (ae 1) ah)) #[0]) (af (g1 jV #[0]) (af (g1 jV #[0]) ah)))) (aU 3) (cA [2] (bh (g2 dIx (g2 dIx (ae 0) (g2 dIx (ae 1) (ae 3))) #[15])) (cn [4,5]) (sIf (gT (g1 eE (ae 5))) (lH 2 (ae 5) (ae 3)) aV)))
  (bf (ae 2))))
end RS
set_option maxHeartbeats 1000000
variable {cs:RS.Cs}
namespace RS
open PySem L2
variable {xs:List PyData}{g:PyData->Bool}{n a b:Int}{e:PyData}
theorem Hw(h:i∉O):(mask O δ)[i]?=δ[i]?:=by
 unfold mask;by_cases z:O=[]
 ·rw[if_pos z]
 ·rw[if_neg z,O5];cases δ[i]? with
  |none=>rfl
  |some d=>simp[h]
theorem aM(h:i∉O):ae i (mask O δ)=ae i δ:=by unfold ae;rw[Hw h]
@[simp]theorem aq(d:PyData)(δ:Ds):ae 0 (some d::δ)=.ok d:=rfl
@[simp]theorem aw(i:Nat)(x:Option PyData)(δ:Ds):ae (i+1) (x::δ)=ae i δ:=rfl
@[simp]theorem cJ(d:PyData)(δ:Ds):gC d δ=.ok d:=rfl
@[simp]theorem gH(f:PyData->Option PyData)(a:Ds->Rs PyData)(δ:Ds):g1 f a δ=(a δ).bind λx=>Rs.eF (f x):=rfl
@[simp]theorem bR(f:PyData->PyData->Option PyData)(a b:Ds->Rs PyData)(δ:Ds):g2 f a b δ=(a δ).bind λx=>(b δ).bind λy=>Rs.eF (f x y):=rfl
@[simp]theorem fQ(f:List PyData->Option PyData)(a:Ds->Rs #[5])(δ:Ds):gF f a δ=(a δ).bind λx=>Rs.eF (f x):=rfl
@[simp]theorem aJ(δ:Ds):ah δ=.ok []:=rfl
@[simp]theorem aA(a:Ds->Rs PyData)(r:Ds->Rs #[5])(δ:Ds):af a r δ=(a δ).bind λx=>(r δ).bind λxs=>.ok (x::xs):=rfl
@[simp]theorem jB(a:Ds->Rs #[5])(δ:Ds):dS a δ=(a δ).bind λds=>.ok (.tuple ds):=rfl
@[simp]theorem yK(a:Ds->Rs #[5])(δ:Ds):mL a δ=(a δ).bind λds=>.ok (.list ds):=rfl
@[simp]theorem bK(f:Gf)(a:Ds->Rs #[5])(δ:Ds):au f a δ=(a δ).bind f:=rfl
@[simp]theorem dE(a:Ds->Rs PyData)(δ:Ds):gT a δ=(a δ).bind truth:=rfl
@[simp]theorem bB(b:Bool):truth (.bool b)=.ok b:=rfl
@[simp]theorem rC(a:Ds->Rs Bool)(δ:Ds):gA a δ=(a δ).bind λb=>.ok (!b):=rfl
@[simp]theorem qV(a b:Ds->Rs Bool)(δ:Ds):iN a b δ=(a δ).bind λx=>if x=true then b δ else .ok false:=rfl
@[simp]theorem Ao(a b:Ds->Rs Bool)(δ:Ds):cOr a b δ=(a δ).bind λx=>if x=true then .ok true else b δ:=rfl
@[simp]theorem xW(a b:Ds->Rs PyData)(δ:Ds):A3 a b δ=(a δ).bind λx=>(truth x).bind λt=>if t=true then b δ else .ok (.bool false):=rfl
@[simp]theorem ME(a b:Ds->Rs PyData)(δ:Ds):gOr a b δ=(a δ).bind λx=>(truth x).bind λt=>if t=true then .ok (.bool true) else b δ:=rfl
@[simp]theorem L4(a:Ds->Rs PyData)(δ:Ds):Me a δ=(a δ).bind λx=>(truth x).bind λt=>.ok (.bool (!t)):=rfl
@[simp]theorem nV(a:Ds->Rs #[5])(δ:Ds):gL a δ=(a δ).bind λds=>.ok (.list ds):=rfl
@[simp]theorem nA(a:Ds->Rs PyData)(δ:Ds):bh a δ=(a δ).bind Ab:=rfl
@[simp]theorem JG(ds:List PyData):Ab (.list ds)=.ok ds:=rfl
@[simp]theorem yl(ds:List PyData):Ab (.tuple ds)=.ok ds:=rfl
@[simp]theorem l5(a:Ds->Rs #[5])(δ:Ds):fh a δ=(a δ).bind CQ:=rfl
@[simp]theorem L0(a:Ds->Rs #[5])(δ:Ds):KL a δ=(a δ).bind K4:=rfl
@[simp]theorem Ha(a:Ds->Rs #[5])(δ:Ds):Ax a δ=(a δ).bind Dj:=rfl
@[simp]theorem Ly(a:Ds->Rs #[5])(δ:Ds):gLR a δ=(a δ).bind uT:=rfl
@[simp]theorem pK(a:Ds->Rs #[5])(δ:Ds):fw a δ=(a δ).bind qv:=rfl
@[simp]theorem L1(ds:List PyData):qv [.list ds]=.ok (fD ds):=rfl
@[simp]theorem uh(ds:List PyData):qv [.tuple ds]=.ok (fD ds):=rfl
@[simp]theorem LJ(f f':PyData->PyData->Option PyData)(a b c:Ds->Rs PyData)(δ:Ds):n8 f f' a b c δ=(a δ).bind λx=>(b δ).bind λy=>(Rs.eF (f x y)).bind λz=>(truth z).bind λt=>if t=true then (c δ).bind λw=>Rs.eF (f' y w) else .ok (.bool false):=rfl
@[simp]theorem kP(δ:Ds):cw δ=.ok none:=rfl
@[simp]theorem mr(g:Ds->Rs PyData)(δ:Ds):c9 g δ=(g δ).bind Dt:=rfl
@[simp]theorem mE(i:Int):Dt (.int i)=.ok (some i):=rfl
@[simp]theorem kF(g:Ds->Rs PyData)(lo hi:Ds->Rs (Option Int))(δ:Ds):cy g lo hi δ=(g δ).bind λd=>(lo δ).bind λl=>(hi δ).bind λh=>Rs.eF (Hh d l h):=rfl
@[simp]theorem De(x:List PyData)(lo hi:Option Int):Hh (.list x) lo hi=some (.list (cutD x lo hi)):=rfl
@[simp]theorem yY(x:List PyData)(lo hi:Option Int):Hh (.tuple x) lo hi=some (.tuple (cutD x lo hi)):=rfl
@[simp]theorem aT(a b:Ds->Sr)(δ:Ds):ay a b δ=match a δ with|.nx δ'=>b δ'|r=>r:=rfl
@[simp]theorem fX(δ:Ds):aV δ=.nx δ:=rfl
@[simp]theorem cK(c:Ds->Rs Bool)(a b:Ds->Sr)(δ:Ds):sIf c a b δ=ofR (c δ) λt=>if t=true then a δ else b δ:=rfl
@[simp]theorem cq(g:Ds->Rs PyData)(δ:Ds):bf g δ=ofR (g δ) .rt:=rfl
@[simp]theorem u5(g:Ds->Rs PyData)(δ:Ds):lg g δ=ofR (g δ) λ_=>.nx δ:=rfl
@[simp]theorem jF(i:Nat)(g:Ds->Rs PyData)(δ:Ds):aN [] i g δ=if i<δ.length then ofR (g δ) λd=>.nx (δ.set i (some d)) else .no:=by unfold aN;rw[gp]
@[simp]theorem LN(C:Addr)(gs:Ds->Rs #[5])(δ:Ds):jh C gs δ=ofR (gs δ) λ_=>.rz C:=rfl
theorem jj(O:List Nat)(src:Ds->Rs #[5])(tgt:PyData->Ds->Option Ds)(body:Ds->Sr)(δ:Ds):cA O src tgt body δ=ofR (src (mask O δ)) λds=>forL tgt body ds δ:=rfl
@[simp]theorem bx(d:PyData):bo (.rt d)=.ok d:=rfl
@[simp]theorem KG(δ:Ds):bo (.nx δ)=.ok .none:=rfl
@[simp]theorem KC(C:Addr):bo (.rz C)=.rz C:=rfl
@[simp]theorem KH:bo .no=.no:=rfl
@[simp]theorem e9(a b:Int):aW (.int a) (.int b)=some (.int (a+b)):=rfl
@[simp]theorem oE(a b:Int):eM (.int a) (.int b)=some (.int (a-b)):=rfl
@[simp]theorem sI(a b:Int):ff (.int a) (.int b)=if 0<b then some (.int (a % b)) else none:=rfl
@[simp]theorem zG(a b:Int):jN (.int a) (.int b)=if 0<b/\b<1073741824 then some (.int (a / b)) else none:=rfl
@[simp]theorem Ej(a b:Int):dLt (.int a) (.int b)=some (.bool (decide (a<b))):=rfl
@[simp]theorem Ma(a b:Int):dLe (.int a) (.int b)=some (.bool (decide (a<=b))):=rfl
@[simp]theorem GB(a b:Int):dGt (.int a) (.int b)=some (.bool (decide (b<a))):=rfl
@[simp]theorem MG(a b:Int):dGe (.int a) (.int b)=some (.bool (decide (b<=a))):=rfl
@[simp]theorem CU(a:Int):jV (.int a)=some (.int (-a)):=rfl
@[simp]theorem Dg(d:PyData):ju d=some (.bool (fA d)):=rfl
@[simp]theorem L8(d:PyData):eE d=some (.bool (!fA d)):=rfl
@[simp]theorem D6:fA .none=true:=rfl
@[simp]theorem BM(i:Int):fA (.int i)=false:=rfl
@[simp]theorem zF(x:List PyData)(i:Int):dIx (.tuple x) (.int i)=atI x i:=rfl
@[simp]theorem CI(x:List PyData)(i:Int):dIx (.list x) (.int i)=atI x i:=rfl
@[simp]theorem rJ(x:List PyData):bS [.tuple x]=some (.int x.length):=rfl
@[simp]theorem lN(x:List PyData):bS [.list x]=some (.int x.length):=rfl
@[simp]theorem yS(a b:Int):iW [.int a,.int b]=some (.int (if b<a then b else a)):=rfl
@[simp]theorem Cb(a b:Int):gr [.int a,.int b]=some (.int (if b>a then b else a)):=rfl
@[simp]theorem Ki(b:Bool):BA [.bool b]=some (.int (if b then 1 else 0)):=rfl
@[simp]theorem Dx(x:List PyData):ko [.list x]=some (.tuple x):=rfl
@[simp]theorem Mo(x:List PyData):ko [.tuple x]=some (.tuple x):=rfl
@[simp]theorem je(a b:Int):dEq (.int a) (.int b)=some (.bool (a==b)):=by
 have h:∀i:Int,SeqAt.shaped (.int i)=true:=λi=>by simp[SeqAt.shaped,PyData.canLay0,PyData.depth]
 unfold dEq;rw[h,h];simp[aF,PyData.eqv]
@[simp]theorem HC(a b:Int):dNe (.int a) (.int b)=some (.bool (!(a==b))):=by
 have h:∀i:Int,SeqAt.shaped (.int i)=true:=λi=>by simp[SeqAt.shaped,PyData.canLay0,PyData.depth]
 unfold dNe;rw[h,h];simp[aF,PyData.eqv]
theorem lL{xs:List α}{i:Int}(h:i=j):atI xs i=xs[j]?:=by
 subst h;unfold atI ixN;by_cases z:(j:Int)<xs.length
 ·rw[if_pos (by omega),if_pos z];simp
 ·rw[if_pos (by omega),if_neg z];simp;omega
@[simp]theorem MI(xs:List α):atI xs 0=xs[0]?:=lL (j:=0) rfl
@[simp]theorem MK(xs:List α):atI xs 1=xs[1]?:=lL (j:=1) rfl
@[simp]theorem MJ(xs:List α):atI xs 2=xs[2]?:=lL (j:=2) rfl
@[simp]theorem MH(xs:List α):atI xs 3=xs[3]?:=lL (j:=3) rfl
theorem kO(xs:List α):atI xs (-1)=xs.getLast?:=by
 unfold atI ixN;rw[if_neg #[2]];by_cases z:xs=[]
 ·subst z;rfl
 ·have:0<xs.length:=NL.mpr z;rw[if_pos (by omega),List.getLast?_eq_getElem?];simp only[Og];congr 1;omega
theorem i9(g:α->Bool)(xs:List α):pw [.list (xs.map λd=>.bool (g d))]=some (.bool (xs.all g)):=by
 have a:iL (xs.map λd=>PyData.bool (g d))=some (xs.map g):=by rw[show (xs.map λd=>PyData.bool (g d))=(xs.map g).map PyData.bool by rw[N4];rfl];exact qC _
 show (iL (xs.map λd=>PyData.bool (g d))).map (λns=>PyData.bool (ns.all id))=_;rw[a,NQ,List.all_map];rfl
theorem comp_map{elt:Ds->Rs PyData}{δ:Ds}{f:PyData->PyData}:∀(ds:List PyData),(∀d∈ds,elt (δ++[some d])=.ok (f d))->eI bJ elt aG δ ds=.ok (ds.map f)
 |[],_=>rfl
 |d::r,h=>by unfold eI;simp only[aG,bJ,Rs.cQ,Rs.ag,if_true,h d M7,comp_map r λe a=>h e (M3 _ a),M5]
theorem ej{elt:Ds->Rs PyData}{f:PyData->PyData}(hn:δ.length=n0)(a:src δ=.ok ds)(hl:ds.length<=1000000)(h:∀d∈ds,elt (δ++[some d])=.ok (f d)) :
  aX n0 src bJ elt aG δ=.ok (ds.map f):=by
 unfold aX;rw[if_pos hn,a];simp only[Rs.ag,if_pos hl];exact comp_map ds h
theorem jM:∀{ds:List PyData},df ds=true->∀d∈ds,aF d=true
 |[],_,d,hd=>by cases hd
 |e::r,h,d,hd=>by
  unfold df at h;obtain⟨h1,h2⟩:=NB.mp h;rcases M8.mp hd with z|z
  ·rw[z];exact h1
  ·exact jM h2 d z
theorem eY(h:aF (.tuple ds)=true):∀d∈ds,aF d=true:=by unfold aF at h;exact jM h
def aO:Gf
 |[d,.int a,.int b]=>if aF d then .ok (.bool (isWhole d a b)) else .no
 |_=>.no
theorem pB{f:PyData->Int->Int->Rs PyData}(h:(match ds with|[a,.int x1,.int x2]=>f a x1 x2|_=>.no)≠.no):∃a x1 x2,ds=[a,.int x1,.int x2]/\f a x1 x2≠.no:=by
 rcases ds with _|⟨a,_|⟨x1,_|⟨x2,_|⟨y,ys⟩⟩⟩⟩
 ·exact absurd rfl h
 ·exact absurd rfl h
 ·first|exact absurd rfl h|(cases x1 <;> exact absurd rfl h)
 ·skip
  cases x1 with
  |int x1 =>
   cases x2 with
   |int x2 =>exact⟨_,_,_,rfl,h⟩
   |_=>exact absurd rfl h
  |_=>first|exact absurd rfl h|(cases x2 <;> exact absurd rfl h)
 ·first|exact absurd rfl h|(cases x1 <;> first|exact absurd rfl h|(cases x2 <;> exact absurd rfl h))
abbrev LLq(G:Ds->Sr)(n k:Nat)(g:Gf):Prop:=∀ds,ds.length=n->g ds≠.no->bo (G (ds.map some++List.replicate k none))=g ds
theorem yn(cs:Cs):LLq (jH cs) 3 0 aO:=by
 intro ds hl c;obtain⟨d,a,b,f,e⟩:=pB c;clear c;subst f;have c:=e;clear e;unfold aO
 ·skip
  split at c
  ·rename_i hd;simp only[hd,if_true];cases d with
   |int i=>by_cases h:a<=i <;> simp[jH,lu,hd,uu,tyD,isWhole,h]
   |dict _=>simp[aF]at hd
   |_=>simp[jH,lu,hd,uu,tyD,isWhole]
  ·exact absurd rfl c
def ba:Gf
 |[d,.int a,.int b]=>if aF d then .ok (.bool (cg d a b)) else .no
 |_=>.no
theorem xR(cs:Cs):LLq (jO cs) 3 0 ba:=by
 intro ds hl c;obtain⟨d,a,b,f,e⟩:=pB c;clear c;subst f;have c:=e;clear e;unfold ba
 ·skip
  split at c
  ·rename_i hd;simp only[hd,if_true];cases d with
   |tuple x=>by_cases h:a<=(x.length:Int) <;> simp[jO,lu,hd,uu,tyD,cg,h]
   |dict _=>simp[aF]at hd
   |_=>simp[jO,lu,hd,uu,tyD,cg]
  ·exact absurd rfl c
def gN(g:PyData->Bool):Gf
 |[d]=>if aF d then .ok (.bool (g d)) else .no
 |_=>.no
theorem qE(h:gN g ds≠.no):∃d,ds=[d]/\aF d=true/\gN g ds=.ok (.bool (g d)):=by
 unfold gN at h ⊢;split at h
 ·rename_i d;split at h
  ·rename_i hd;exact⟨d,rfl,hd,by simp[hd]⟩
  ·exact absurd rfl h
 ·exact absurd rfl h
theorem qg{d:PyData}(h:aF d=true):gN g [d]=.ok (.bool (g d)):=by unfold gN;simp[h]
@[simp]theorem KD{d:PyData}(h:aF d=true):ba [d,.int a,.int b]=.ok (.bool (cg d a b)):=by unfold ba;simp[h]
@[simp]theorem vF{d:PyData}(h:aF d=true):aO [d,.int a,.int b]=.ok (.bool (isWhole d a b)):=by unfold aO;simp[h]
theorem wX{d:PyData}(h:cg d 2 2=true):∃a b,d=.tuple [a,b]:=by
 cases d with
 |tuple ds =>
  simp[cg]at h
  match ds,h with
  |[a,b],_=>exact⟨a,b,rfl⟩
  |[],h=>simp at h
  |[_],h=>simp at h
  |_::_::_::_,h=>simp at h;omega
 |_=>cases h
theorem BH(cs:Cs):LLq (g9 cs aO ba) 1 0 (gN dB):=by
 intro ds hl c;obtain⟨d,rfl,hd,e⟩:=qE c;rw[e];cases e1:cg d 2 2 with
 |false =>
  have:dB d=false:=by
   unfold dB;split
   ·simp[cg]at e1
   ·rfl
  simp[g9,hd,e1,this]
 |true =>
  obtain⟨a,b,rfl⟩:=wX e1;have ha:=eY hd a (by simp);have f:=eY hd b (by simp);cases e2:isWhole a 1 20 with
  |false=>simp[g9,hd,ha,e1,e2,dB]
  |true =>
   cases b with
   |none=>simp[g9,hd,ha,e1,e2,dB]
   |_=>simp[g9,hd,ha,f,e1,e2,dB,fA]
theorem wR(cs:Cs):LLq (gw cs ba (gN dB)) 1 0 (gN eN):=by
 intro ds hl c;obtain⟨d,rfl,hd,e⟩:=qE c;rw[e];cases e1:cg d 1 4 with
 |false =>
  have:eN d=false:=by
   cases d with
   |tuple ds =>simp only[cg,Nx,decide_eq_false_iff_not]at e1;simp only[eN,Nx,decide_eq_false_iff_not];refine .inl (.inl ?_);omega
   |_=>rfl
  simp[gw,hd,e1,this]
 |true =>
  obtain⟨xs,rfl⟩:∃ds,d=.tuple ds:=by cases d <;> first|exact⟨_,rfl⟩|cases e1
  have hn:1<=xs.length/\xs.length<=4:=by simp only[cg,M9,decide_eq_true_eq]at e1;omega
  have hc:aX 1 (bh (ae 0)) bJ (au (gN dB) (af (ae 1) ah)) aG [some (.tuple xs)]=.ok (xs.map λd=>.bool (dB d)) :=
   ej rfl rfl (by omega) λd h=>by simp[qg (eY hd d h)]
  have l:=i9 dB xs;cases e2:xs.all dB with
  |false=>simp[gw,hd,e1,hc,l,e2,eN]
  |true =>
   have c:xs≠[]:=by intro z;subst z;simp at hn
   have f:xs.getLast?=some (xs.getLast c):=List.getLast?_eq_some_getLast c;have g:=MX.mp e2 _ (List.getLast_mem c);obtain⟨a,b,i⟩:∃a b,xs.getLast c=.tuple [a,b]:=by
    revert g;generalize xs.getLast c=z;intro g;unfold dB at g;split at g
    ·exact⟨_,_,rfl⟩
    ·cases g
   rw[i]at f;have j:i0 xs=fA b:=by unfold i0;rw[f];cases b <;> rfl
   simp[gw,hd,e1,hc,l,e2,eN,kO,f,j,hn.1,hn.2]
theorem vp{d:PyData}(h:cg d 4 4=true):∃a b c e,d=.tuple [a,b,c,e]:=by
 cases d with
 |tuple ds =>
  simp[cg]at h
  match ds,h with
  |[a,b,c,e],_=>exact⟨a,b,c,e,rfl⟩
  |[],h=>simp at h
  |[_],h=>simp at h
  |[_,_],h=>simp at h
  |[_,_,_],h=>simp at h
  |_::_::_::_::_::_,h=>simp at h;omega
 |_=>cases h
theorem dP{d:PyData}(h:isWhole d a b=true):∃i,d=.int i/\a<=i/\i<=b:=by
 cases d with
 |int i=>simp[isWhole]at h;exact⟨i,rfl,h⟩
 |_=>cases h
theorem pW{a b c:PyData}(h:isWhole a 2 60=false):bO (.tuple [a,b,c,e])=false:=by
 cases a with
 |int i =>
  cases c with
  |int l =>simp only[isWhole,Nx,decide_eq_false_iff_not]at h;simp only[bO,Nx,decide_eq_false_iff_not];omega
  |_=>rfl
 |_=>rfl
theorem sk{b c:PyData}{i:Int}(h:isWhole c 0 (if i-1<20 then i-1 else 20)=false):bO (.tuple [.int i,b,c,e])=false:=by
 cases c with
 |int l =>simp only[isWhole,Nx,decide_eq_false_iff_not]at h;simp only[bO,Nx,decide_eq_false_iff_not];exact .inl (.inl (.inr h))
 |_=>rfl
theorem su{b:PyData}{i l:Int}(h1:2<=i/\i<=60)(h2:0<=l/\l<=if i-1<20 then i-1 else 20):bO (.tuple [.int i,b,.int l,e])=(isWhole b 1 (i-l)&&eN e):=by simp[bO,h1.1,h1.2,h2.1,h2.2]
theorem wZ(cs:Cs):LLq (eQ cs aO (gN eN) ba) 1 3 (gN bO):=by
 intro ds hl h;obtain⟨d,rfl,hd,e⟩:=qE h;rw[e];cases e1:cg d 4 4 with
 |false =>
  have:bO d=false:=by
   unfold bO;split
   ·simp[cg]at e1
   ·rfl
  simp[eQ,hd,e1,this]
 |true =>
  obtain⟨a,b,c,q,rfl⟩:=vp e1;have ha:=eY hd a (by simp);have g:=eY hd b (by simp);have hc:=eY hd c (by simp);have f:=eY hd q (by simp);cases e2:isWhole a 2 60 with
  |false=>simp[eQ,hd,ha,g,hc,f,e1,e2,pW e2]
  |true =>
   obtain⟨i,rfl,i1,i2⟩:=dP e2;cases e3:isWhole c 0 (if i-1<20 then i-1 else 20) with
   |false=>simp[eQ,hd,ha,g,hc,f,e1,e2,e3,sk e3]
   |true =>
    obtain⟨l,rfl,l1,l2⟩:=dP e3;have j:=su (b:=b) (e:=q) ⟨i1,i2⟩ ⟨l1,l2⟩;cases e4:isWhole b 1 (i-l) with
    |false=>simp[eQ,hd,ha,g,hc,f,e1,e2,e3,e4,j]
    |true=>simp[eQ,hd,ha,g,hc,f,e1,e2,e3,e4,j,qg f]
def bt(cs:Cs):Gf
 |[d]=>if aF d then (if dD d then .ok d else .rz cs.NoErrands) else .no
 |_=>.no
theorem Bl(cs:Cs):LLq (jd cs ba (gN bO)) 1 0 (bt cs):=by
 intro ds hl a;obtain⟨d,rfl⟩:∃d,ds=[d]:=by
  match ds,hl with
  |[d],_=>exact⟨d,rfl⟩
 have hd:aF d=true:=by
  unfold bt at a;by_cases z:aF d=true
  ·exact z
  ·simp[z]at a
 have e:bt cs [d]=if dD d then .ok d else .rz cs.NoErrands:=by unfold bt;simp[hd]
 rw[e];cases e1:cg d 1 6 with
 |false =>
  have:dD d=false:=by
   cases d with
   |tuple ds =>simp only[cg,Nx,decide_eq_false_iff_not]at e1;simp only[dD,Nx,decide_eq_false_iff_not];refine .inl ?_;omega
   |_=>rfl
  simp[jd,hd,e1,this]
 |true =>
  obtain⟨xs,rfl⟩:∃ds,d=.tuple ds:=by cases d <;> first|exact⟨_,rfl⟩|cases e1
  have hn:1<=xs.length/\xs.length<=6:=by simp only[cg,M9,decide_eq_true_eq]at e1;omega
  have hc:aX 1 (bh (ae 0)) bJ (au (gN bO) (af (ae 1) ah)) aG [some (.tuple xs)]=.ok (xs.map λd=>.bool (bO d)) :=
   ej rfl rfl (by omega) λd b=>by simp[qg (eY hd d b)]
  have c:=i9 bO xs;cases e2:xs.all bO with
  |false=>simp[jd,hd,e1,hc,c,e2,dD]
  |true=>simp[jd,hd,e1,hc,c,e2,dD,hn.1,hn.2]
theorem jz{β:Type}{tgt:PyData->Ds->Option Ds}{body:Ds->Sr}(inv:Nat->Ds->Prop):∀(ds:List PyData)(k:Nat),(∀(i:Nat) d δ,ds[i]?=some d->inv (k+i) δ->∃δ1 δ2,tgt d δ=some δ1/\body δ1=.nx δ2/\inv (k+i+1) δ2) ->
  ∀δ,inv k δ->∃a,forL tgt body ds δ=.nx a/\inv (k+ds.length) a
 |[],k,_,δ,h=>⟨δ,rfl,h⟩
 |d::r,k,hs,δ,h=>by
  obtain⟨δ1,δ2,e1,e2,h2⟩:=hs 0 d δ rfl h;obtain⟨a,b,h3⟩:=jz (β:=β) inv r (k+1) (λi x δ c hi=>by have:=hs (i+1) x δ (by simpa using c) (by rw[show k+(i+1)=k+1+i by omega];exact hi);rw[show k+1+i+1=k+(i+1)+1 by omega];exact this) δ2 h2
  exact⟨a,by unfold forL;rw[e1];simp only[e2];exact b,by rw[MW,show k+(r.length+1)=k+1+r.length by omega];exact h3⟩
noncomputable def Cf:PyData->Option Int
 |.int i=>some i
 |_=>none
def cL:PyData->Int×Option Int
 |.tuple [.int l,t]=>(l,Cf t)
 |_=>(0,none)
def deE:PyData->Er
 |.tuple [.int e,.int d,.int l,.tuple ps]=>⟨e,d,l,ps.map cL⟩
 |_=>⟨0,0,0,[]⟩
theorem tE(e:Int)(d:Int)(l:Int)(ps:List PyData):deE (.tuple [.int e,.int d,.int l,.tuple ps])=⟨e,d,l,ps.map cL⟩:=rfl
def dJ:PyData->List Er
 |.tuple ds=>ds.map deE
 |_=>[]
theorem yy(o:Option Int):Cf (bg o)=o:=by cases o <;> rfl
theorem qO(p:Int×Option Int):cL (aI p)=p:=by obtain⟨l,t⟩:=p;simp[aI,cL,yy]
theorem Ap(e:Er):deE e.d=e:=by
 obtain⟨a,b,c,ps⟩:=e;simp[Er.d,tE,N4]
 conv=>rhs;rw[<-NA ps]
 exact MY λp _=>qO p
theorem jw(es:List Er):dJ (ar es)=es:=by
 simp[ar,dJ,N4]
 conv=>rhs;rw[<-NA es]
 exact MY λe _=>Ap e
theorem part_of{d:PyData}(h:dB d=true):aI (cL d)=d/\1<=(cL d).1/\(cL d).1<=20/\∀t,(cL d).2=some t->0<=t/\t<=3:=by
 unfold dB at h;split at h
 ·rename_i a b;rw[M9]at h;obtain⟨i,rfl,h1,h2⟩:=dP h.1;have c:=h.2;cases b with
  |none=>exact⟨rfl,h1,h2,λt q=>by cases q⟩
  |int t =>obtain⟨t',q,h3,e⟩:=dP c;cases q;exact⟨rfl,h1,h2,λt q=>by cases q;exact⟨h3,e⟩⟩
  |_=>cases c
 ·cases h
theorem ue{d:PyData}(h:bO d=true):(deE d).d=d/\(deE d).Ok:=by
 unfold bO at h;split at h
 ·rename_i e j l ps;simp only[M9,decide_eq_true_eq]at h;obtain⟨⟨⟨⟨h1,h2⟩,h3,m⟩,n⟩,c⟩:=h;obtain⟨j,rfl,d1,d2⟩:=dP n;unfold eN at c;split at c
  ·rename_i ps;simp only[M9,decide_eq_true_eq]at c;obtain⟨⟨⟨p1,p2⟩,o⟩,f⟩:=c;have g:=MX.mp o;have i:l<=20/\l<e:=by split at m <;> omega
   refine⟨?_,?_⟩
   ·have r:ps.map (aI∘cL)=ps:=by
     conv=>rhs;rw[<-NA ps]
     exact MY λp b=>(part_of (g p b)).1
    simp only[tE,Er.d,N4,r]
   ·refine⟨h1,h2,h3,i.1,i.2,d1,d2,λz=>?_,by simpa[tE] using p2,λp b=>?_,λp b=>?_⟩
    ·have:ps=[]:=by simpa[tE] using z
     subst this;simp at p1
    ·obtain⟨q,s,rfl⟩:=MM.mp (show p∈ps.map cL from b);exact (part_of (g q s)).2
    ·have b:(ps.map cL).getLast?=some p:=b;rw[ON]at b;unfold i0 at f;cases q:ps.getLast? with
     |none=>rw[q]at b;cases b
     |some z =>
      rw[q]at b f;simp at b;split at f
      ·rename_i a heq;cases heq;subst b;unfold cL;split
       ·rename_i l t e1;injection e1 with e1;injection e1 with _ e1;injection e1 with e1 _
        rw[<-e1];rfl
       ·rfl
      ·cases f
  ·cases c
 ·cases h
theorem xQ{d:PyData}(h:dD d=true):ar (dJ d)=d/\1<=(dJ d).length/\(dJ d).length<=6/\∀e∈dJ d,e.Ok:=by
 unfold dD at h;split at h
 ·rename_i ds;simp only[M9,decide_eq_true_eq]at h;obtain⟨⟨h1,h2⟩,h3⟩:=h;have a:=MX.mp h3;refine⟨?_,by simpa[dJ] using h1,by simpa[dJ] using h2,λe b=>?_⟩
  ·simp only[dJ,ar,N4];congr 1
   conv=>rhs;rw[<-NA ds]
   exact MY λp c=>(ue (a p c)).1
  ·obtain⟨q,f,rfl⟩:=MM.mp (show e∈ds.map deE from b);exact (ue (a q f)).2
 ·cases h
def deI:PyData->Int
 |.int i=>i
 |_=>0
def de:PyData->List Int
 |.tuple ds=>ds.map deI
 |_=>[]
def ak(ns:List Int):PyData:=.tuple (ns.map .int)
theorem kI(ns:List Int):de (ak ns)=ns:=by
 simp[ak,de,N4]
 conv=>rhs;rw[<-NA ns]
 exact MY λ_ _=>rfl
def dQ(n:Nat):PyData->Bool
 |.tuple ds=>decide (ds.length=n)&&ds.all (λd=>isWhole d 0 ((n:Int)-1))&&decide (ds.map deI).Nodup
 |_=>false
structure cN(n:Nat)(rs:List Int):Prop where
 len:rs.length=n
 rng:∀r∈rs,0<=r/\r<n
 nd:rs.Nodup
theorem kx{n:Nat}{d:PyData}(h:dQ n d=true):ak (de d)=d/\cN n (de d):=by
 unfold dQ at h;split at h
 ·rename_i ds;simp only[M9,decide_eq_true_eq]at h;obtain⟨⟨h1,h2⟩,h3⟩:=h;have c:=MX.mp h2;refine⟨?_,by simpa[de] using h1,λr e=>?_,h3⟩
  ·simp only[de,ak,N4];congr 1
   conv=>rhs;rw[<-NA ds]
   refine MY λp f=>?_
   obtain⟨i,rfl,_⟩:=dP (c p f);rfl
  ·obtain⟨q,g,rfl⟩:=MM.mp (show r∈ds.map deI from e);obtain⟨i,rfl,a,b⟩:=dP (c q g);exact⟨a,by show i<n;omega⟩
 ·cases h
theorem fP{n:Nat}(h:cN n rs):dQ n (ak rs)=true:=by
 have e:(rs.map PyData.int).map deI=rs:=by
  rw[N4];conv=>rhs;rw[<-NA rs]
  exact MY λ_ _=>rfl
 unfold dQ ak;simp only[M6,h.len,decide_true,OD,e,h.nd,Oa];rw[MX];intro d hd;obtain⟨r,a,rfl⟩:=MM.mp hd;have:=h.rng r a;simp[isWhole,this.1];omega
theorem nR:∀(l acc:List Int),acc.Nodup->((l.foldl PyProof.Rows.step_dedup acc).length<=acc.length+l.length)/\((l.foldl PyProof.Rows.step_dedup acc).length=acc.length+l.length↔(acc++l).Nodup)
 |[],acc,h=>by simpa using h
 |x::r,acc,h=>by
  rw[Nz];by_cases z:acc.any (·==x)=true
  ·have e:PyProof.Rows.step_dedup acc x=acc:=by unfold PyProof.Rows.step_dedup;rw[if_pos z]
   rw[e];have:=nR r acc h;refine⟨by rw[MW];omega,λq=>?_,λq=>?_⟩
   ·rw[MW]at q;omega
   ·exfalso;obtain⟨y,c,f⟩:=NG.mp z;have:y=x:=by simpa using f
    subst this;rw[OB]at q;exact q.2.2 y c y M7 rfl
  ·have e:PyProof.Rows.step_dedup acc x=acc++[x]:=by unfold PyProof.Rows.step_dedup;rw[if_neg z]
   have g:x∉acc:=λq=>z (NG.mpr ⟨x,q,by simp⟩)
   have hn:(acc++[x]).Nodup:=by rw[OB];exact⟨h,by simp,λa ha b i=>by rw[MR.mp i];rintro rfl;exact g ha⟩
   rw[e];have:=nR r (acc++[x]) hn;rw[MN,Nj,O4]at this;refine⟨by rw[MW];omega,?_⟩;rw[MW,show acc.length+(r.length+1)=acc.length+1+r.length by omega];exact this.2
theorem zt(ns:List Int):((seen ns ns.length).length:Int)<ns.length↔¬ ns.Nodup:=by
 have e:(List.range ns.length).map (λi=>ns.getD i 0)=ns:=by
  apply List.ext_getElem?;intro i;rw[MP];by_cases h:i<ns.length
  ·rw[NM h,M1 h];simp[MT,M1 h]
  ·rw[Ny (by simpa using h),Ny (by simpa using h)];rfl
 have:=nR ns [] OI;unfold seen PyProof.Rows.firstMet;rw[e];simp only[NI,Nl,Nn]at this;constructor
 ·intro h q;have:=this.2.mpr q;omega
 ·intro h;have h1:=this.1;have h2:¬ (List.foldl PyProof.Rows.step_dedup [] ns).length=ns.length:=λq=>h (this.2.mp q)
  omega
def aY(cs:Cs):Gf
 |[.tuple es,r]=>if aF r&&decide (es.length<=100) then (if dQ es.length r then .ok r else .rz cs.NoRanks) else .no
 |_=>.no
theorem DR{f:List PyData->PyData->Rs PyData}(h:(match ds with|[.tuple a,x1]=>f a x1|_=>.no)≠.no):∃a x1,ds=[.tuple a,x1]/\f a x1≠.no:=by
 rcases ds with _|⟨a,_|⟨x1,_|⟨y,ys⟩⟩⟩
 ·exact absurd rfl h
 ·first|exact absurd rfl h|(cases a <;> exact absurd rfl h)
 ·skip
  cases a with
  |tuple a =>exact⟨_,_,rfl,h⟩
  |_=>exact absurd rfl h
 ·first|exact absurd rfl h|(cases a <;> exact absurd rfl h)
theorem pf(cs:Cs):LLq (cV cs ba aO) 2 1 (aY cs):=by
 intro ds hl a;obtain⟨es,r,l,j⟩:=DR a;clear a;subst l;have a:=j;clear j;unfold aY
 ·skip
  split at a
  ·rename_i c;simp only[c,if_true];rw[M9,decide_eq_true_eq]at c;obtain⟨hd,h100⟩:=c;cases e1:cg r es.length es.length with
   |false =>
    have:dQ es.length r=false:=by
     cases r with
     |tuple xs =>
      have:xs.length≠es.length:=λq=>by simp[cg,q]at e1
      simp[dQ,this]
     |_=>rfl
    simp[cV,hd,e1,this]
   |true =>
    obtain⟨xs,rfl⟩:∃ds,r=.tuple ds:=by cases r <;> first|exact⟨_,rfl⟩|cases e1
    have hn:xs.length=es.length:=by simp only[cg,M9,decide_eq_true_eq]at e1;omega
    have hc:aX 3 (bh (ae 1)) bJ (au aO (af (ae 3) (af #[1] #[28]))) aG [some (.tuple es),some (.tuple xs),some (.int ((es.length:Int)-1))]=.ok (xs.map λd=>.bool (isWhole d 0 ((es.length:Int)-1))) :=
     ej rfl rfl (by omega) λd e=>by simp[eY hd d e]
    have f:=i9 (λd=>isWhole d 0 ((es.length:Int)-1)) xs;cases e2:xs.all (λd=>isWhole d 0 ((es.length:Int)-1)) with
    |false=>simp[cV,hd,e1,hc,f,e2,dQ]
    |true =>
     have m:=MX.mp e2;have n:xs=(xs.map deI).map PyData.int:=by
      rw[N4]
      conv=>lhs;rw[<-NA xs]
      refine MY λp o=>?_
      obtain⟨i,rfl,_⟩:=dP (m p o);rfl
     have g:my [.tuple xs]=some (.int (seen (xs.map deI) (xs.map deI).length).length):=by
      unfold my
      conv=>lhs;rw[n]
      simp only[ft,Og];rw[if_pos (by simp;omega)]
     have b:=zt (xs.map deI);have h:(xs.map deI).length=es.length:=by rw[M6];exact hn
     rw[h]at g b;by_cases hnd:(xs.map deI).Nodup
     ·have h2:¬ (seen (xs.map deI) es.length).length<es.length:=λq=>b.mp (by omega) hnd
      simp[cV,hd,e1,hc,f,e2,g,hn,h2,dQ,hnd]
     ·have h2:(seen (xs.map deI) es.length).length<es.length:=by have:=b.mpr hnd;omega
      simp[cV,hd,e1,hc,f,e2,g,hn,h2,dQ,hnd]
  ·exact absurd rfl a
noncomputable def kL:PyData->Bool
 |.tuple [.int l,b]=>decide (0<=l)&&decide (l<=1000000)&&(match b with|.none=>true|.int t=>decide (0<=t)&&decide (t<=3)|_=>false)
 |_=>false
def vW:PyData->Bool
 |.tuple [.int e,.int _,.int l,.tuple ps]=>decide (1<=e)&&decide (e<1073741824)&&decide (-1000000000<=l)&&decide (l<=1000000000)&&decide (ps.length<=1000)&&ps.all kL
 |_=>false
def oN:PyData->Bool
 |.tuple ds=>decide (ds.length<=100)&&ds.all vW
 |_=>false
structure Er.Sh(e:Er):Prop where
 e1:1<=e.every
 e2:e.every<1073741824
 l1:-1000000000<=e.late
 l2:e.late<=1000000000
 pn:e.parts.length<=1000
 pl:∀p∈e.parts,0<=p.1/\p.1<=1000000/\∀t,p.2=some t->0<=t/\t<=3
theorem sQ{d:PyData}(h:kL d=true):aI (cL d)=d/\0<=(cL d).1/\(cL d).1<=1000000/\∀t,(cL d).2=some t->0<=t/\t<=3:=by
 unfold kL at h;split at h
 ·rename_i l b;simp only[M9,decide_eq_true_eq]at h;obtain⟨⟨h1,h2⟩,h3⟩:=h;cases b with
  |none=>exact⟨rfl,h1,h2,λt q=>by cases q⟩
  |int t =>simp only[M9,decide_eq_true_eq]at h3;exact⟨rfl,h1,h2,λt q=>by cases q;exact h3⟩
  |_=>cases h3
 ·cases h
theorem vV{d:PyData}(h:vW d=true):(deE d).d=d/\(deE d).Sh:=by
 unfold vW at h;split at h
 ·rename_i e du l ps;simp only[M9,decide_eq_true_eq]at h;obtain⟨⟨⟨⟨⟨h1,h2⟩,a⟩,b⟩,h3⟩,g⟩:=h;have f:=MX.mp g;have i:ps.map (aI∘cL)=ps:=by
   conv=>rhs;rw[<-NA ps]
   exact MY λp c=>(sQ (f p c)).1
  refine⟨by simp only[tE,Er.d,N4,i],h1,h2,a,b,by simpa[tE] using h3,λp c=>?_⟩;obtain⟨q,j,rfl⟩:=MM.mp (show p∈ps.map cL from c);exact (sQ (f q j)).2
 ·cases h
theorem pH{e:Er}(h:e.Sh):vW e.d=true:=by
 unfold vW Er.d;simp only[h.e1,h.e2,h.l1,h.l2,decide_true,OD,M6,h.pn];rw[MX];intro d hd;obtain⟨p,f,rfl⟩:=MM.mp hd;obtain⟨a,b,c⟩:=h.pl p f;obtain⟨l,t⟩:=p;cases t with
 |none=>simp at a b;simp[kL,aI,bg,a,b]
 |some t=>have:=c t rfl;simp at a b;simp[kL,aI,bg,a,b,this.1,this.2]
theorem Er.Ok.sh{e:Er}(h:e.Ok):e.Sh:=⟨by have:=h.e1;omega,by have:=h.e2;omega,by have:=h.l1;omega,by have:=h.l2;omega,by have:=h.p2;omega,λp f=>by obtain⟨a,b,c⟩:=h.pl p f;exact⟨by omega,by omega,c⟩⟩
theorem uE{d:PyData}(h:oN d=true):ar (dJ d)=d/\(dJ d).length<=100/\∀e∈dJ d,e.Sh:=by
 unfold oN at h;split at h
 ·rename_i ds;simp only[M9,decide_eq_true_eq]at h;have a:=MX.mp h.2;refine⟨?_,by simpa[dJ] using h.1,λe b=>?_⟩
  ·simp only[dJ,ar,N4];congr 1
   conv=>rhs;rw[<-NA ds]
   exact MY λp c=>(vV (a p c)).1
  ·obtain⟨q,f,rfl⟩:=MM.mp (show e∈ds.map deE from b);exact (vV (a q f)).2
 ·cases h
theorem mH(h1:es.length<=100)(h:∀e∈es,e.Sh):oN (ar es)=true:=by unfold oN ar;simp only[M6,h1,decide_true,OD];rw[MX];intro d hd;obtain⟨e,a,rfl⟩:=MM.mp hd;exact pH (h e a)
def Er.has(e:Er)(t:Int):Bool:=e.parts.any λp=>p.2==some t
noncomputable def er0:Er:=⟨1,1,0,[]⟩
def bZ(es:List Er)(n:Int):Er:=es.getD n.toNat er0
def hts(es:List Er):List Int->Int->Int->Option Int
 |[],_,_=>none
 |r::rs,k,t=>if (bZ es r).has t then some k else hts es rs (k+1) t
def bq(es:List Er)(rs:List Int)(t:Int):Option Int:=hts es rs 0 t
def placeOf(rs:List Int)(n:Int):Nat:=rs.findIdx (·==n)
theorem qu(h0:0<=n)(h1:n<es.length):es[n.toNat]?=some (bZ es n):=by unfold bZ;rw[MT,M1 (by omega)];rfl
theorem dX(a:0<=n)(h1:n<es.length):bZ es n∈es:=Nm (qu a h1)
theorem iz(a:0<=n)(h1:n<es.length):atI (es.map Er.d) n=some (bZ es n).d:=by rw[lL (j:=n.toNat) (by omega),MP,qu a h1];rfl
theorem C7(h0:0<=n)(h1:n<ns.length):atI #[20] n=some (.int (ns.getD n.toNat 0)):=by rw[lL (j:=n.toNat) (by omega),MP,MT,M1 (by omega)];rfl
theorem Kc(p:Int×Option Int):dIx (aI p) (.int 0)=some (.int p.1):=rfl
theorem DP(p:Int×Option Int):dIx (aI p) (.int 1)=some (bg p.2):=rfl
theorem vi(e:Er):dIx e.d (.int 3)=some (.tuple (e.parts.map aI)):=rfl
theorem rangeSize_down(n:Nat):Builtin.Range.rangeSize ((n:Int)-1) (-1) (-1)=n:=by
 unfold Builtin.Range.rangeSize;rw[if_neg #[2]];split
 ·simp
 ·omega
theorem AS(n:Nat)(h:n<=1000):Dj [.int ((n:Int)-1),.int (-1),.int (-1)]=.ok (ij ((n:Int)-1) (-1) n):=by
 have a:Builtin.Range.small ((n:Int)-1) (-1) (-1)=true:=by unfold Builtin.Range.small;rw[rangeSize_down];simp[Builtin.Range.rangeFitsLong];omega
 have b:pV ((n:Int)-1) (-1) (-1)=true:=by unfold pV;rw[a,Oa];exact decide_eq_true (by omega)
 unfold Dj;simp only[b,if_true];unfold yU;rw[rangeSize_down];rfl
def bp:Gf
 |[d,r]=>if oN d&&dQ (dJ d).length r then .ok (.list ((List.range 4).map λ(t:Nat)=>bg (bq (dJ d) (de r) t))) else .no
 |_=>.no
theorem iy(h1:es.length<=100)(h:∀e∈es,e.Sh)(a:cN es.length rs):bp [ar es,ak rs]=.ok (.list ((List.range 4).map λ(t:Nat)=>bg (bq es rs t))):=by unfold bp;simp[mH h1 h,jw,fP a,kI]
def qa(k:Int)(L:List PyData)(p:Int×Option Int):List PyData:=match p.2 with
 |some t=>L.set t.toNat (.int k)
 |none=>L
theorem qG(k:Int)(L:List PyData)(p:Int×Option Int):(qa k L p).length=L.length:=by unfold qa;split <;> simp
theorem sU(k:Int):∀(ps:List #[25])(L:List PyData),(ps.foldl (qa k) L).length=L.length
 |[],L=>rfl
 |p::r,L=>by rw[Nz,sU k r,qG]
theorem sW(k:Int):∀(ps:List #[25])(L:List PyData)(t:Nat),(∀p∈ps,∀t,p.2=some t->0<=t/\t<=3)->t<L.length->(ps.foldl (qa k) L)[t]?=if ps.any (λp=>p.2==some (t:Int)) then some (.int k) else L[t]?
 |[],L,t,_,_=>rfl
 |p::r,L,t,h,hl=>by
  rw[Nz,sW k r _ t (λq a=>h q (M3 _ a)) (by rw[qG];exact hl)];rw[NS];cases hr:r.any (λp=>p.2==some (t:Int)) with
  |true=>simp
  |false =>
   obtain⟨l,o⟩:=p;cases o with
   |none=>simp[qa]
   |some u =>
    have hu:=h (l,some u) M7 u rfl;simp only[N2,if_false,Bool.or_false,qa];by_cases z:u=(t:Int)
    ·subst z;simp[hl]
    ·rw[N8 (by omega)];have:(some u==some (t:Int))=false:=by simpa using z
     rw[this];rfl
theorem lp(E R:PyData)(k:Int):∀(ps:List #[25])(L:List PyData)(x4 x5:Option PyData),L.length=4->(∀p∈ps,∀t,p.2=some t->0<=t/\t<=3) ->
  ∃a b,forL (cn [4,5]) (sIf (gT (g1 eE (ae 5))) (lH 2 (ae 5) (ae 3)) aV) (ps.map aI) [some E,some R,some (.list L),some (.int k),x4,x5]=.nx [some E,some R,some (.list (ps.foldl (qa k) L)),some (.int k),a,b]
 |[],L,x4,x5,_,_=>⟨x4,x5,rfl⟩
 |p::r,L,x4,x5,hL,h=>by
  obtain⟨a,b,e⟩:=lp E R k r (qa k L p) (some (.int p.1)) (some (bg p.2)) (by rw[qG];exact hL) (λq c=>h q (M3 _ c));refine⟨a,b,?_⟩;rw[M5,Nz];unfold forL;obtain⟨l,o⟩:=p;cases o with
  |none =>simp[aI,cn,kr,bg];simpa[qa,bg] using e
  |some u =>
   have f:=h (l,some u) M7 u rfl;have g:ixN L.length u=some u.toNat:=by unfold ixN;rw[if_pos f.1,if_pos (by omega)]
   have i:eK (.int k)=true:=by unfold eK;rfl
   simp[aI,cn,kr,bg,lH,g,i];simpa[qa,bg] using e
theorem DN(es:List Er)(rs:List Int)(k:Nat)(t:Int)(h:k<rs.length):hts es (rs.drop k) k t=if (bZ es (rs.getD k 0)).has t then some (k:Int) else hts es (rs.drop (k+1)) ((k+1:Nat):Int) t:=by rw[NP h];show (if _ then _ else _)=_;rw[MT,M1 h];simp
theorem rV(cs:Cs):LLq (fY cs) 2 4 bp:=by
 intro ds hl a;obtain⟨d,r,rfl⟩:∃d r,ds=[d,r]:=by
  match ds,hl with
  |[d,r],_=>exact⟨d,r,rfl⟩
 unfold bp at a;simp only at a;split at a
 ·rename_i hc;rw[M9]at hc;obtain⟨e1,hlen,f⟩:=uE hc.1;obtain⟨e2,l⟩:=kx hc.2;rw[<-e1,<-e2];generalize dJ d=es at *;generalize de r=rs at *;rw[iy hlen f l];have hn:=l.len
  -- the outer loop
  have outer:∃b,forL (aU 3) (cA [2] (bh (g2 dIx (g2 dIx (ae 0) (g2 dIx (ae 1) (ae 3))) #[15])) (cn [4,5]) (sIf (gT (g1 eE (ae 5))) (lH 2 (ae 5) (ae 3)) aV))
    (ij ((rs.length:Int)-1) (-1) rs.length) [some (ar es),some (ak rs),some (.list [.none,.none,.none,.none]),none,none,none]=.nx b /\
    (∃x3 x4 x5,b=[some (ar es),some (ak rs),some (.list ((List.range 4).map λ(t:Nat)=>bg (hts es (rs.drop (rs.length-(0+(ij ((rs.length:Int)-1) (-1) rs.length).length))) (((rs.length-(0+(ij ((rs.length:Int)-1) (-1) rs.length).length):Nat):Int)) t))),x3,x4,x5]):=by
   refine jz (β:=Unit) (λi δ=>∃x3 x4 x5,δ=[some (ar es),some (ak rs),some (.list ((List.range 4).map λ(t:Nat)=>bg (hts es (rs.drop (rs.length-i)) ((rs.length-i:Nat):Int) t))),x3,x4,x5]) _ 0 ?_ _ ⟨none,none,none,?_⟩
   ·rintro i dd δ hi ⟨x3,x4,x5,rfl⟩
    rw[Nl]at *;have m:i<rs.length:=by
     have:=(N0.mp hi).1
     rwa[hW]at this
    have n:dd=.int (((rs.length-(i+1):Nat):Int)):=by unfold ij at hi;rw[MP,NM m]at hi;simp at hi;rw[<-hi];congr 1;omega
    subst n;generalize hk:rs.length-(i+1)=k at *;have o:rs.length-i=k+1:=by omega
    rw[o];have c:k<rs.length:=by omega
    have g:=l.rng (rs.getD k 0) (by rw[MT,M1 c];exact Na c);have h:=f _ (dX g.1 (by omega));obtain⟨s,u,e⟩:=lp (ar es) (ak rs) k (bZ es (rs.getD k 0)).parts ((List.range 4).map λ(t:Nat)=>bg (hts es (rs.drop (k+1)) ((k+1:Nat):Int) t)) x4 x5 (by simp) (λp q=>(h.pl p q).2.2);have a1:atI (rs.map PyData.int) (k:Int)=some (.int (rs.getD k 0)):=by rw[C7 (by omega) (by omega)];simp
    have a2:atI (es.map Er.d) (rs.getD k 0)=some (bZ es (rs.getD k 0)).d:=iz g.1 (by omega);refine⟨[some (ar es),some (ak rs),some (.list ((List.range 4).map λ(t:Nat)=>bg (hts es (rs.drop (k+1)) ((k+1:Nat):Int) t))),some (.int k),x4,x5],_,by simp[aU],?_,some (.int k),s,u,rfl⟩;rw[jj];have src:bh (g2 dIx (g2 dIx (ae 0) (g2 dIx (ae 1) (ae 3))) #[15]) (mask [2] [some (ar es),some (ak rs),some (.list ((List.range 4).map λ(t:Nat)=>bg (hts es (rs.drop (k+1)) ((k+1:Nat):Int) t))),some (.int (k:Int)),x4,x5])=.ok ((bZ es (rs.getD k 0)).parts.map aI):=by simp only[nA,bR,aM (show 0∉[2] by decide),aM (show 1∉[2] by decide),aM (show 3∉[2] by decide),aq,aw,cJ,Rs.ag];simp only[ar,ak,zF,a1,a2,vi,Rs.ai,Rs.ag,yl]
    rw[src,aB,e];have hL:(bZ es (rs.getD k 0)).parts.foldl (qa k) ((List.range 4).map λ(t:Nat)=>bg (hts es (rs.drop (k+1)) ((k+1:Nat):Int) t))=(List.range 4).map λ(t:Nat)=>bg (hts es (rs.drop k) k t):=?hL
    rw[hL]
    case hL =>
    apply List.ext_getElem?;intro t;by_cases ht:t<4
    ·rw[sW _ _ _ _ (λp q=>(h.pl p q).2.2) (by simpa using ht),MP,MP,NM ht];rw[NQ,NQ,DN es rs k t c];unfold Er.has;split <;> rfl
    ·rw[Ny (by rw[sU];simp;omega),Ny (by simp;omega)]
   ·simp[hts];rfl
  rw[hW,Nl,Nat.sub_self]at outer;obtain⟨b,e,x3,x4,x5,rfl⟩:=outer;have v:=AS rs.length (by omega);have j:eu [2] 2 (af (gC .none) (af (gC .none) (af (gC .none) (af (gC .none) ah)))) [some (ar es),some (ak rs),none,none,none,none]=.nx [some (ar es),some (ak rs),some (.list [.none,.none,.none,.none]),none,none,none]:=rfl;have src:Ax (af (g2 eM (gF bS (af (ae 1) ah)) #[0]) (af (g1 jV #[0]) (af (g1 jV #[0]) ah))) (mask [2] [some (ar es),some (ak rs),some (.list [.none,.none,.none,.none]),none,none,none])=.ok (ij ((rs.length:Int)-1) (-1) rs.length):=by simp only[Ha,aA,aJ,bR,gH,fQ,aM (show 1∉[2] by decide),aq,aw,cJ,Rs.ag,ak,rJ,Rs.ai,oE,CU,M6];exact v
  show bo (fY cs [some (ar es),some (ak rs),none,none,none,none])=_;simp only[fY,aT,j,jj,src,aB];rw[e];simp[bq]
 ·exact absurd rfl a
theorem qS(h:n∈rs):placeOf rs n<rs.length:=List.findIdx_lt_length_of_exists ⟨n,h,by simp⟩
theorem w6:∀{l m:List Int},l.Nodup->(∀x∈l,x∈m)->l.length<=m.length
 |[],m,_,_=>NC _
 |x::r,m,hn,hs=>by
  rw[Nc]at hn;have a:=hs x M7;have:=w6 (l:=r) (m:=m.erase x) hn.2 λy b=>by rw[List.mem_erase_of_ne (by rintro rfl;exact hn.1 b)];exact hs y (M3 _ b)
  rw[List.length_erase_of_mem a]at this;have hp:=List.length_pos_of_mem a;rw[MW];omega
theorem cN.mem{k:Nat}(h:cN k rs)(c:0<=n)(h1:n<k):n∈rs:=by
 have base:∀x:Int,0<=x->x<k->x∈(List.range k).map λ(i:Nat)=>(i:Int):=λx a b=>MM.mpr ⟨x.toNat,NV.mpr (by omega),by omega⟩
 by_cases z:n∈rs
 ·exact z
 ·exfalso;have:=w6 (l:=n::rs) (m:=(List.range k).map λ(i:Nat)=>(i:Int)) (Nc.mpr ⟨z,h.nd⟩) λx e=>by
   rcases M8.mp e with q|q
   ·rw[q];exact base n c h1
   ·have:=h.rng x q;exact base x this.1 this.2
  have hl:=h.len;simp at this;omega
theorem tm(ns:List Int):(ns.map PyData.int).all gm=true:=by rw[MX];intro d hd;obtain⟨n,_,rfl⟩:=MM.mp hd;rfl
theorem mT(n:Int):∀rs:List Int,n∈rs->(((rs.map PyData.int).map toV).findIdx? λz=>eqV z (.int n))=some #[8]
 |[],h=>by cases h
 |r::rs,h=>by
  have b:eqV (.int r) (.int n)=(r==n):=rfl;rw[M5,M5,List.findIdx?_cons];unfold placeOf;rw[List.findIdx_cons];show (if eqV (.int r) (.int n)=true then some 0 else _)=_;rw[b];cases hr:r==n with
  |true=>rfl
  |false =>
   have a:r≠n:=by simpa using hr
   have:=mT n rs ((M8.mp h).resolve_left λq=>a q.symm);rw[if_neg MQ,this];rfl
theorem kj(h:n∈rs):nE (rs.map .int) (.int n)=some (.int #[8]):=by unfold nE;rw[tm,show gm (.int n)=true from rfl];simp only[Bool.and_self,if_true];rw[show toV (.int n)=.int n from rfl,mT n rs h];rfl
@[simp]theorem yN(go ga:Ds->Rs PyData)(δ:Ds):nK go ga δ=(go δ).bind λd=>match d with|.tuple xs=>(ga δ).bind λy=>Rs.eF (nE xs y)|_=>.no:=rfl
theorem pQ{k:Nat}:cutD xs (some (k:Int)) none=xs.drop k:=by
 unfold cutD;have e1:HT.sIx xs.length 0 (some (k:Int))=min k xs.length:=HT.pF _ _ _;have e2:HT.sIx xs.length xs.length none=xs.length:=rfl;rw[e1,e2];by_cases h:k<=xs.length
 ·rw[Nat.min_eq_left h];exact List.take_of_length_le (by simp)
 ·rw[Nat.min_eq_right (by omega),NY (My _),NY (by omega)];simp
theorem IY{k:Nat}:cutD xs none (some (k:Int))=xs.take k:=by unfold cutD;have e1:HT.sIx xs.length 0 none=0:=rfl;have e2:HT.sIx xs.length xs.length (some (k:Int))=min k xs.length:=HT.pF _ _ _;rw[e1,e2];simp
theorem mP(es:List Er)(t:Int):∀(rs:List Int)(k:Int)(m:Int),m∈rs->(bZ es m).has t=true->∃h,hts es rs k t=some h
 |[],_,_,h,_=>by cases h
 |r::rs,k,m,h,ht=>by
  unfold hts;by_cases z:(bZ es r).has t=true
  ·exact⟨k,by rw[if_pos z]⟩
  ·rw[if_neg z];rcases M8.mp h with q|q
   ·subst q;exact absurd ht z
   ·exact mP es t rs (k+1) m q ht
theorem yi{t:Int}(a:0<=t)(h3:t<=3):atI ((List.range 4).map λ(t:Nat)=>bg (bq es rs t)) t=some (bg (bq es rs t)):=by rw[lL (j:=t.toNat) (by omega),MP,NM (by omega)];simp only[NQ];rw[O7 a]
theorem Io{e:Er}{p:Int×Option Int}{t:Int}(a:p∈e.parts)(h:p.2=some t):e.has t=true:=NG.mpr ⟨p,a,by simp[h]⟩
theorem Ep(h1:-(2 ^ 64)<b)(h2:b<2 ^ 64):fE (.int a) (.int b)=some (.int (a*b)):=by show (if _ then _ else _)=_;rw[if_pos (.inr ⟨h1,h2⟩)]
theorem ux(h1:-(2 ^ 64)<a)(h2:a<2 ^ 64):fE (.int a) (.int b)=some (.int (a*b)):=by show (if _ then _ else _)=_;rw[if_pos (.inl ⟨h1,h2⟩)]
def fB:PyData->Option (List Int)
 |.dict [(.none,.list l)]=>gP l
 |_=>none
theorem fR(ns:List Int):fB (aj ns)=some ns:=ft ns
def ao:Gf
 |[s,.int k,.int many]=>(match fB s with
  |some ns=>if 0<=k/\0<many then .ok (.int (mixed ns k many)) else .no
  |none=>.no)
 |_=>.no
theorem cW{k:Int}(h1:0<=k)(h2:0<many):ao [aj ns,.int k,.int many]=.ok (.int (mixed ns k many)):=by unfold ao;simp[fR,h1,h2]
theorem jX(O:List Nat)(i:Nat)(g:Ds->Rs PyData)(δ:Ds):aN O i g δ=if i<δ.length then ofR (g (mask O δ)) λd=>.nx (δ.set i (some d)) else .no:=rfl
def ck:Gf
 |[s,.int a,.int top,.bool tools]=>(match fB s with
  |some ns=>if 0<=a/\0<top/\top<=58 then .ok (mkE ns a top tools).d else .no
  |none=>.no)
 |_=>.no
theorem iU{top:Int}{b:Bool}(h1:0<=a)(h2:0<top)(h3:top<=58):ck [aj ns,.int a,.int top,.bool b]=.ok (mkE ns a top b).d:=by unfold ck;simp[fR,h1,h2,h3]
theorem AQ(o:Option Int):eK (bg o)=true:=by cases o <;> (unfold bg eK;rfl)
theorem zr(p:Int×Option Int):eK (aI p)=true:=by unfold aI eK j9;rw[show eK (.int p.1)=true by unfold eK;rfl];unfold j9;rw[AQ];unfold j9;rfl
theorem CC{i:Int}(h0:0<=i)(h1:i<5):atI [PyData.int 0,PyData.int 1,PyData.int 1,PyData.int 0,PyData.none] i=some (bg (lj i)):=by
 have:i=0\/i=1\/i=2\/i=3\/i=4:=by omega
 rcases this with rfl|rfl|rfl|rfl|rfl <;> rfl
theorem wW(ns:List Int)(a top:Int)(b:Bool)(e la f:PyData)(ha:0<=a)(L:List PyData)(hL:L.length<1000)(i:Nat)(x8 g:Option PyData) :
   ay (aN [7] 9 #[33])
   (ay (ik [7] 7 #[12])
   (sIf (gA (gT (ae 3))) (lH 7 (g1 jV #[0]) (dS (af (g2 dIx (g2 dIx (ae 7) (g1 jV #[0])) #[1]) (af (gC .none) ah)))) aV))
     [some (aj ns),some (.int a),some (.int top),some (.bool b),some e,some la,some f,some (.list L),some (.int (0+(i:Int))),g]
  =.nx [some (aj ns),some (.int a),some (.int top),some (.bool b),some e,some la,some f,some (.list (L++[aI (fm ns (a+4+(i:Int)) b)])),some (.int (0+(i:Int))),some (.int (mixed ns (a+4+(0+(i:Int))) 40))]:=by
 have hm:=cW (ns:=ns) (k:=a+4+(0+(i:Int))) (many:=40) (by omega) #[2];have m0:=c7 ns (a+4+(0+(i:Int))) (many:=40) #[2];have m1:=dw ns (a+4+(0+(i:Int))) (many:=40) #[2];have j:a+4+(0+(i:Int))=a+4+(i:Int):=by omega
 generalize hc:mixed ns (a+4+(0+(i:Int))) 40=c at *;have l:0<=c / 4 % 5:=NR _ #[2];have m:c / 4 % 5<5:=NZ _ #[2];have n:=CC l m;have h:fm ns (a+4+(i:Int)) b=(1+c % 4,if b then lj (c / 4 % 5) else none):=by unfold fm;rw[<-j,hc]
 have o:aN [7] 9 #[33] [some (aj ns),some (.int a),some (.int top),some (.bool b),some e,some la,some f,some (.list L),some (.int (0+(i:Int))),g]
    =.nx [some (aj ns),some (.int a),some (.int top),some (.bool b),some e,some la,some f,some (.list L),some (.int (0+(i:Int))),some (.int c)]:=by
   rw[jX,if_pos (by simp)];simp only[bK,aA,aJ,bR,aM (show 0∉[7] by decide),aM (show 1∉[7] by decide),aM (show 8∉[7] by decide),aq,aw,cJ,Rs.ag,e9,Rs.ai,hm,aB];rfl
 have s2:ik [7] 7 #[12]
     [some (aj ns),some (.int a),some (.int top),some (.bool b),some e,some la,some f,some (.list L),some (.int (0+(i:Int))),some (.int c)]
    =.nx [some (aj ns),some (.int a),some (.int top),some (.bool b),some e,some la,some f,some (.list (L++[aI (1+c % 4,lj (c / 4 % 5))])),some (.int (0+(i:Int))),some (.int c)]:=by
   unfold ik;simp only[NT,NU];simp only[jB,yK,aA,aJ,bR,aM (show 9∉[7] by decide),aq,aw,cJ,Rs.ag,e9,Rs.ai,sI,zG,if_pos (show (0:Int)<4 by decide),if_pos (show (0:Int)<5 by decide),if_pos (show (0:Int)<4/\(4:Int)<1073741824 by decide),CI,n,aB,if_pos (show L.length<1000000 by omega)];rfl
 rw[aT,o];simp only;rw[aT,s2];simp only;cases b with
 |true =>rw[h];simp
 |false =>
   rw[h];have hl:atI (L++[aI (1+c % 4,lj (c / 4 % 5))]) (-1)=some (aI (1+c % 4,lj (c / 4 % 5))):=by rw[kO];simp
   have p:ixN (L++[aI (1+c % 4,lj (c / 4 % 5))]).length (-1)=some L.length:=by unfold ixN;rw[if_neg #[2],MN,Nj,if_pos (by omega)];congr 1;omega
   have q:(L++[aI (1+c % 4,lj (c / 4 % 5))]).set L.length (.tuple [.int (1+c % 4),.none])=L++[aI (1+c % 4,none)]:=by rw[OF _ _ (My _)];simp;rfl
   have r:eK (.tuple [.int (1+c % 4),.none])=true:=zr (1+c % 4,none);rw[cK];simp only[rC,dE,aq,aw,Rs.ag,bB,aB,Bool.not_false,if_true];unfold lH;simp only[NT,NU,jB,aA,aJ,bR,gH,aq,aw,cJ,Rs.ag,CU,Rs.ai,CI,hl,Kc,aB,p,r,if_true,q];rfl
theorem jK{j:Int}(h0:0<=j)(h1:j<1000000):CQ [.int j]=.ok (bG 0 j.toNat):=by show (if _ then _ else _)=_;rw[if_pos (by omega)]
theorem fU{lo:Int}{n:Nat}{d:PyData}(h:(bG lo n)[i]?=some d):i<n/\d=.int (lo+(i:Int)):=by have hi:=(N0.mp h).1;rw[dg]at hi;unfold bG at h;rw[MP,NM hi]at h;exact⟨hi,(Option.some.inj h).symm⟩
theorem qk(n:Nat)(g:Nat->α):(List.range (n+1)).map g=(List.range n).map g++[g n]:=by rw[List.range_succ,Nk];rfl
theorem Cn{f:PyData->Int->Int->Bool->Rs PyData}(h:(match ds with|[a,.int x1,.int x2,.bool x3]=>f a x1 x2 x3|_=>.no)≠.no):∃a x1 x2 x3,ds=[a,.int x1,.int x2,.bool x3]/\f a x1 x2 x3≠.no:=by
 rcases ds with _|⟨a,_|⟨x1,_|⟨x2,_|⟨x3,_|⟨y,ys⟩⟩⟩⟩⟩
 ·exact absurd rfl h
 ·exact absurd rfl h
 ·first|exact absurd rfl h|(cases x1 <;> exact absurd rfl h)
 ·first|exact absurd rfl h|(cases x1 <;> first|exact absurd rfl h|(cases x2 <;> exact absurd rfl h))
 ·skip
  cases x1 with
  |int x1 =>
   cases x2 with
   |int x2 =>
    cases x3 with
    |bool x3 =>exact⟨_,_,_,_,rfl,h⟩
    |_=>exact absurd rfl h
   |_=>first|exact absurd rfl h|(cases x3 <;> exact absurd rfl h)
  |_=>first|exact absurd rfl h|(cases x2 <;> first|exact absurd rfl h|(cases x3 <;> exact absurd rfl h))
 ·first|exact absurd rfl h|(cases x1 <;> first|exact absurd rfl h|(cases x2 <;> first|exact absurd rfl h|(cases x3 <;> exact absurd rfl h)))
theorem vm(cs:Cs):LLq (gX cs ao) 4 6 ck:=by
 intro ds hl c;obtain⟨s,a,top,b,q,p⟩:=Cn c;clear c;subst q;have c:=p;clear p
 ·skip
  split at c
  ·rename_i ns h;have es:s=aj ns:=by
    unfold fB at h;split at h
    ·rename_i l;rw[fk h];rfl
    ·cases h
   subst es;split at c
   ·rename_i hc;obtain⟨ha,j,m⟩:=hc;rw[iU ha j m];show bo (gX cs ao [some (aj ns),some (.int a),some (.int top),some (.bool b),none,none,none,none,none,none])=_;have hm:∀k many:Int,0<=k->0<many->ao [aj ns,.int k,.int many]=.ok (.int (mixed ns k many)):=λk many h1 h2=>cW h1 h2
    have a1:=c7 ns a j;have lb:=xg ns a (3+mixed ns a top) (by omega);have b1:=c7 ns (a+1) (many:=4) #[2];have b2:=dw ns (a+1) (many:=4) #[2];have n1:=c7 ns (a+3) (many:=3) #[2];have n2:=dw ns (a+3) (many:=3) #[2];have c1:=c7 ns (a+6) (many:=3) #[2];have c2:=dw ns (a+6) (many:=3) #[2]
    -- every
    have r:aN [7] 4 (g2 aW #[15] (au ao (af (ae 0) (af (ae 1) #[28])))) [some (aj ns),some (.int a),some (.int top),some (.bool b),none,none,none,none,none,none]
      =.nx [some (aj ns),some (.int a),some (.int top),some (.bool b),some (.int (3+mixed ns a top)),none,none,none,none,none]:=by
     rw[jX,if_pos (by simp)];simp only[bK,aA,aJ,bR,aM (show 0∉[7] by decide),aM (show 1∉[7] by decide),aM (show 2∉[7] by decide),aq,aw,cJ,Rs.ag,hm a top ha j,e9,Rs.ai,aB];rfl
    generalize hev:3+mixed ns a top=ev at *;have evp:3<=ev:=by omega
    have s2:aN [7] 5 (g2 fE (au ao (af (ae 0) (af (g2 aW (ae 1) #[0]) (af (gC (.int 4)) ah)))) (gF BA (af (g2 dEq (au ao (af (ae 0) (af (g2 aW (ae 1) (gC (.int 2))) (af #[15] ah)))) #[1]) ah))) [some (aj ns),some (.int a),some (.int top),some (.bool b),some (.int ev),none,none,none,none,none]
      =.nx [some (aj ns),some (.int a),some (.int top),some (.bool b),some (.int ev),some (.int (mixed ns (a+1) 4*(if mixed ns (a+2) 3=0 then 1 else 0))),none,none,none,none]:=by
     rw[jX,if_pos (by simp)];simp only[bK,aA,aJ,bR,fQ,aM (show 0∉[7] by decide),aM (show 1∉[7] by decide),aq,aw,cJ,Rs.ag,e9,Rs.ai,hm (a+1) 4 (by omega) #[2],hm (a+2) 3 (by omega) #[2],je,Ki];rw[ux (by omega) (by omega)];simp only[Rs.ai,aB,beq_iff_eq];rfl
    have t:aN [7] 5 (gF iW (af (ae 5) (af (g2 eM (ae 4) #[0]) ah))) [some (aj ns),some (.int a),some (.int top),some (.bool b),some (.int ev),some (.int (mixed ns (a+1) 4*(if mixed ns (a+2) 3=0 then 1 else 0))),none,none,none,none]
      =.nx [some (aj ns),some (.int a),some (.int top),some (.bool b),some (.int ev),some (.int (iM ns a ev)),none,none,none,none]:=by
     rw[jX,if_pos (by simp)];simp only[fQ,aA,aJ,bR,aM (show 4∉[7] by decide),aM (show 5∉[7] by decide),aq,aw,cJ,Rs.ag,oE,Rs.ai,yS,aB];rfl
    generalize hla:iM ns a ev=la at *;have u:aN [7] 6 (g2 eM (ae 4) (ae 5)) [some (aj ns),some (.int a),some (.int top),some (.bool b),some (.int ev),some (.int la),none,none,none,none]
      =.nx [some (aj ns),some (.int a),some (.int top),some (.bool b),some (.int ev),some (.int la),some (.int (ev-la)),none,none,none]:=by
     rw[jX,if_pos (by simp)];simp only[bR,aM (show 4∉[7] by decide),aM (show 5∉[7] by decide),aq,aw,Rs.ag,oE,Rs.ai,aB];rfl
    have v:sIf (gT (g2 dEq (au ao (af (ae 0) (af (g2 aW (ae 1) #[0]) (af #[15] ah)))) #[1])) (aN [7] 6 (g2 eM (ae 6) (au ao (af (ae 0) (af (g2 aW (ae 1) (gC (.int 2))) (af (ae 6) ah)))))) aV
        [some (aj ns),some (.int a),some (.int top),some (.bool b),some (.int ev),some (.int la),some (.int (ev-la)),none,none,none]
      =.nx [some (aj ns),some (.int a),some (.int top),some (.bool b),some (.int ev),some (.int la),some (.int (oH ns a (ev-la))),none,none,none]:=by
     rw[cK];simp only[dE,bR,bK,aA,aJ,aq,aw,cJ,Rs.ag,e9,Rs.ai,hm (a+1) 3 (by omega) #[2],je,bB,aB];by_cases z:mixed ns (a+1) 3=0
     · rw[if_pos (by simp[z]),jX,if_pos (by simp)];simp only[bK,aA,aJ,bR,aM (show 0∉[7] by decide),aM (show 1∉[7] by decide),aM (show 6∉[7] by decide),aq,aw,cJ,Rs.ag,e9,Rs.ai,hm (a+2) (ev-la) (by omega) (by omega),oE,aB];unfold oH;rw[if_pos z];rfl
     · rw[if_neg (by simp[z])];unfold oH;rw[if_neg z];rfl
    generalize hdu:oH ns a (ev-la)=du at *;have w:eu [7] 7 ah [some (aj ns),some (.int a),some (.int top),some (.bool b),some (.int ev),some (.int la),some (.int du),none,none,none]
      =.nx #[35]:=rfl
    have src:fh (af (au ao (af (ae 0) (af (g2 aW (ae 1) #[15]) (af #[15] ah)))) ah) (mask [7] #[35])=.ok (bG 0 (mixed ns (a+3) 3).toNat):=by simp only[l5,bK,aA,aJ,bR,aM (show 0∉[7] by decide),aM (show 1∉[7] by decide),aq,aw,cJ,Rs.ag,e9,Rs.ai,hm (a+3) 3 (by omega) #[2]];exact jK n1 (by omega)
    obtain⟨δ',e,x8,f,n⟩:=jz (β:=Unit) (tgt:=aU 8) (body:=ay (aN [7] 9 #[33])
  (ay (ik [7] 7 #[12])
  (sIf (gA (gT (ae 3))) (lH 7 (g1 jV #[0]) (dS (af (g2 dIx (g2 dIx (ae 7) (g1 jV #[0])) #[1]) (af (gC .none) ah)))) aV)))
     (λi δ=>∃x8 f,δ=[some (aj ns),some (.int a),some (.int top),some (.bool b),some (.int ev),some (.int la),some (.int du),some (.list ((List.range i).map λ(k:Nat)=>aI (fm ns (a+4+(k:Int)) b))),x8,f])
     (bG 0 (mixed ns (a+3) 3).toNat) 0 (λi d δ hi o=>by obtain⟨x8,f,x⟩:=o;subst x;rw[Nl]at *;obtain⟨hil,rfl⟩:=fU hi;refine⟨[some (aj ns),some (.int a),some (.int top),some (.bool b),some (.int ev),some (.int la),some (.int du),some (.list ((List.range i).map λ(k:Nat)=>aI (fm ns (a+4+(k:Int)) b))),some (.int (0+(i:Int))),f],_,rfl,wW ns a top b (.int ev) (.int la) (.int du) ha _ (by simp;omega) i none f,some (.int (0+(i:Int))),some (.int (mixed ns (a+4+(0+(i:Int))) 40)),?_⟩;rw[qk]) #[35] ⟨none,none,rfl⟩
    subst n;rw[Nl,dg]at e;have hd:(mkE ns a top b).d=.tuple [.int ev,.int du,.int la,.tuple (((List.range (mixed ns (a+3) 3).toNat).map λ(k:Nat)=>aI (fm ns (a+4+(k:Int)) b))++[aI (1+mixed ns (a+6) 3,none)])]:=by simp only[mkE,Er.d,Nk,N4,hev,hla,hdu];rfl
    rw[hd];simp only[gX];rw[aT,r];simp only;rw[aT,s2];simp only;rw[aT,t];simp only;rw[aT,u];simp only;rw[aT,v];simp only;rw[aT,w];simp only;rw[aT,jj,src,aB,e];simp only;simp only[cq,jB,yK,aA,aJ,bR,fQ,bK,aq,aw,cJ,Rs.ag,e9,Rs.ai,hm (a+6) 3 (by omega) #[2]];have g:aW (.list ((List.range (mixed ns (a+3) 3).toNat).map λ(k:Nat)=>aI (fm ns (a+4+(k:Int)) b))) (.list [.tuple [.int (1+mixed ns (a+6) 3),.none]])=some (.list (((List.range (mixed ns (a+3) 3).toNat).map λ(k:Nat)=>aI (fm ns (a+4+(k:Int)) b))++[aI (1+mixed ns (a+6) 3,none)])):=by show (if _ then _ else _)=_;rw[if_pos (by simp;omega)];rfl
    rw[g];simp
   ·exact absurd rfl c
  ·exact absurd rfl c
def bE:Gf
 |[s,.int a,.int most,.int top,.bool tools]=>(match fB s with
  |some ns=>if 0<=a/\0<most/\most<=6/\0<top/\top<=58 then .ok (ar (pk ns a most top tools)) else .no
  |none=>.no)
 |_=>.no
theorem iJ{most top:Int}{b:Bool}(h1:0<=a)(h2:0<most)(h3:most<=6)(c:0<top)(e:top<=58):bE [aj ns,.int a,.int most,.int top,.bool b]=.ok (ar (pk ns a most top b)):=by unfold bE;simp[fR,h1,h2,h3,c,e]
theorem iG{s:PyData}(a:fB s=some ns):s=aj ns:=by
 unfold fB at a;split at a
 ·rename_i l;rw[fk a];rfl
 ·cases a
theorem AZ{f:PyData->Int->Int->Int->Bool->Rs PyData}(h:(match ds with|[a,.int x1,.int x2,.int x3,.bool x4]=>f a x1 x2 x3 x4|_=>.no)≠.no):∃a x1 x2 x3 x4,ds=[a,.int x1,.int x2,.int x3,.bool x4]/\f a x1 x2 x3 x4≠.no:=by
 rcases ds with _|⟨a,_|⟨x1,_|⟨x2,_|⟨x3,_|⟨x4,_|⟨y,ys⟩⟩⟩⟩⟩⟩
 ·exact absurd rfl h
 ·exact absurd rfl h
 ·first|exact absurd rfl h|(cases x1 <;> exact absurd rfl h)
 ·first|exact absurd rfl h|(cases x1 <;> first|exact absurd rfl h|(cases x2 <;> exact absurd rfl h))
 ·first|exact absurd rfl h|(cases x1 <;> first|exact absurd rfl h|(cases x2 <;> first|exact absurd rfl h|(cases x3 <;> exact absurd rfl h)))
 ·skip
  cases x1 with
  |int x1 =>
   cases x2 with
   |int x2 =>
    cases x3 with
    |int x3 =>
     cases x4 with
     |bool x4 =>exact⟨_,_,_,_,_,rfl,h⟩
     |_=>exact absurd rfl h
    |_=>first|exact absurd rfl h|(cases x4 <;> exact absurd rfl h)
   |_=>first|exact absurd rfl h|(cases x3 <;> first|exact absurd rfl h|(cases x4 <;> exact absurd rfl h))
  |_=>first|exact absurd rfl h|(cases x2 <;> first|exact absurd rfl h|(cases x3 <;> first|exact absurd rfl h|(cases x4 <;> exact absurd rfl h)))
 ·first|exact absurd rfl h|(cases x1 <;> first|exact absurd rfl h|(cases x2 <;> first|exact absurd rfl h|(cases x3 <;> first|exact absurd rfl h|(cases x4 <;> exact absurd rfl h))))
theorem rM(cs:Cs):LLq (fZ cs ck ao) 5 1 bE:=by
 intro ds hl c;obtain⟨s,a,most,top,b,n,l⟩:=AZ c;clear c;subst n;have c:=l;clear l
 ·skip
  split at c
  ·rename_i ns o;have es:=iG o;subst es;split at c
   ·rename_i hc;obtain⟨ha,e,g,m,f⟩:=hc;rw[iJ ha e g m f];have hm:=cW (ns:=ns) ha e;have m1:=c7 ns a e;have m2:=dw ns a e;have h:aX 6 (fh (af (ae 5) ah)) bJ (au ck (af (ae 0) (af (g2 aW (g2 aW (ae 1) #[0]) (g2 fE (gC (.int 7)) (ae 6))) (af (ae 3) (af (ae 4) ah))))) aG
      [some (aj ns),some (.int a),some (.int most),some (.int top),some (.bool b),some (.int (1+mixed ns a most))]=.ok ((bG 0 (1+mixed ns a most).toNat).map λd=>(mkE ns (a+1+7*deI d) top b).d) :=
     ej rfl (by simp only[l5,aA,aJ,aq,aw,Rs.ag];exact jK (by omega) (by omega)) (by rw[dg];omega) λd hd=>by obtain⟨i,hi⟩:=List.getElem?_of_mem hd;obtain⟨_,rfl⟩:=fU hi;simp only[Nv,Nn,bK,aA,aJ,bR,aq,aw,cJ,Rs.ag,e9,Rs.ai];rw[ux #[2] #[2]];simp only[Rs.ai,Rs.ag,e9];exact iU (by omega) m f
    have j:ar (pk ns a most top b)=.tuple ((bG 0 (1+mixed ns a most).toNat).map λd=>(mkE ns (a+1+7*deI d) top b).d):=by
     unfold ar pk bG;rw[N4,N4];congr 1;refine MY λk _=>?_
     simp[deI]
    rw[j];show bo (fZ cs ck ao [some (aj ns),some (.int a),some (.int most),some (.int top),some (.bool b),none])=_;simp only[fZ,aT,jF,MW,NI,Nat.reduceAdd,Nat.reduceLT,if_true,bK,aA,aJ,bR,aq,aw,cJ,Rs.ag,hm,e9,Rs.ai,aB,Ow,Ox,cq,fQ,nV,h,Dx,bx]
   ·exact absurd rfl c
  ·exact absurd rfl c
end RS
namespace RS
open PySem PySem.Spec PyProof.Rows L2
section
theorem Ak{k:Nat}{G:Ds->Sr}(F:Fun K x qual st f fd)(S:dk N ps (aE st))(c:∀i∈O,ps.length<=i)
  (body:∀(cdv:Value)(A:Around)(outer:List Env)(s:Shared)(H:Hp)(E:XK),cm k (A.deeper (envOfC qual (aE st) s.heap.objs.size f cdv))->PBD (dF (CXW P w) P w K mg base N qual (aE st) f cdv A outer s H E) E O (cf st) G)
  (e:∀ds,ds.length=ps.length->gf ds≠.no->bo (G #[7])=gf ds):gU P w K mg base (CXW P w) (k+1) f fd ps (spD K ps.length gf):=by
 refine ml F S (λvs H Q E h=>?_) (λcdv A outer s H vs Q E g h=>?_)
 ·obtain⟨A,ds,b,hi,hl,o⟩:=h;rw[hi.length,hl]
 ·obtain⟨A0,ds,b,hi,hl,o⟩:=h;refine⟨_,body cdv A outer s H E g,H,A0,[],_,bX.start b hi hl c,?_⟩;have a:=e ds hl (λz=>by rw[z]at o;exact o);cases q:G #[7] with
  |rt d=>rw[q]at a;rw[<-a]at o;exact λv H' s' hv=>o v H' s' hv
  |nx δ=>rw[q]at a;rw[<-a]at o;exact λA' σ H' j=>o .non H' j.same is_none
  |rz C=>rw[q]at a;rw[<-a]at o;exact λH' s'=>o H' s'
  |bk δ=>rw[q]at a;rw[<-a]at o;exact o.elim
  |ct δ=>rw[q]at a;rw[<-a]at o;exact o.elim
  |no=>rw[q]at a;rw[<-a]at o;exact o.elim
theorem B6{b:Array (Option Value)}{kV e:Value}(X:K.In h)(G:h.Ns mainGlobals mg)
  (g:∀(kV doc pm:Value)(an:Option Addr)(cdv ct:Value)(us:List Value),us.length=ps.length->bindArgs (W.fnOf x x (fH st) (cf st) (aE st) .none kV doc pm an cdv ct) ⟨us,[]⟩=pure (ps.zip us))
  (a:W.nsIn K mainGlobals x=some (some (.ref f)))
  (l:K.lookup f=some ⟨oc,od,.func (W.fnOf x x (fH st) (cf st) (aE st) .none kV e pm an cd ct),b⟩)
  (c:W.codeIn K cd x=true) (k:W.keepIn K (.ref f)=true):bQ K mg x st ps :=
 have F:=xM (st:=st) l c k
 ⟨f,_,F,F.binds g,W.mg_of X G a⟩
theorem AB(X:K.In h)(G:h.Ns mainGlobals mg)(a:W.nsIn K mainGlobals x=some (some (.ref C)))
 (e:W.excIn K C [.type "ValueError",.type "Exception",.type "BaseException",.type "object"] "ValueError.__new__"=true):rR K mg x C:=⟨W.mg_of X G a,e⟩
theorem Hb{n:Int}{t:_}(X:K.In h)(G:h.Ns mainGlobals mg)(a:W.nsIn K mainGlobals x=some (some (.int n t))):∃t,mg x=some (.int n t):=⟨t,W.mg_of X G a⟩
end
def f9(n:Nat):Gf
 |[s]=>(match fB s with
  |some ns=>if ns.length<=n then .ok (.bool true) else .no
  |none=>.no)
 |_=>.no
theorem KR{l:W.OpenLaw}{k:Nat}{d:DefRec}{K:Params->W.Frag}
  (hn:l.most=some n) (i:n<=sizeLine) (j:d.params.defaults=[]) (y:cm k callerA)
  (A:∀(w:World)(h:Heap),YP w h->(K w.params).In h)
  (B:∀(kV doc pm:Value)(an:Option Addr)(cdv ct:Value)(us:List Value),us.length=1->bindArgs (W.fnOf d.name d.name (fH st) (cf st) (aE st) .none kV doc pm an cdv ct) ⟨us,[]⟩=pure ([x].zip us))
  (F:∀(w:World)(mg:Str->Option Value)(h:Heap),(K w.params).In h->h.Ns mainGlobals mg->
   bQ (K w.params) mg d.name st [x]/\∀f fd,Fun (K w.params) d.name d.name st f fd->∀base:Heap,(K w.params).In base->base.Ns mainGlobals mg->L2.oU mg base->gU l.prog w (K w.params) mg base (CXW l.prog w) k f fd [x] (spD (K w.params) 1 (f9 n)))
  (o:∀(w:World)(h:Heap)(c:List Str)(g:ExcName->Option Value)(mg C:Str->Option Value),PyProof.Rows.Top q c g mg C h->(K w.params).In h->L2.mY (K w.params) h:=by exact λ_ _ _ _ _ _ _ _=>L2.tabsIn_nil rfl) :
  W.WalkO q loose XP YP l.row.toRowW d [] (λf vs=>PySem.call f vs) :=
 L2.zH (n:=n) (k:=k) (x:=x) (CX:=λw=>CXW l.prog w) (sp:=λw=>spD (K w.params) 1 (f9 n)) hn i j y A
  (λw mg D h X G p=>by obtain⟨⟨f,fd,t,b,m⟩,E⟩:=F w mg h X G;have e:=p.symm.trans m;cases e;refine⟨fd,λs u=>?_,E D fd t⟩;obtain⟨oc,od,kV,doc,pm,an,cdv,ct,osl,rfl,lk,hcd⟩:=t.ex;exact .of_eq (B kV doc pm an cdv ct [u] rfl))
  (λw H a ns hl hO I=>by
   refine⟨[],[aj ns],?_,?_,rfl,?_⟩
   ·exact Ls.nil
   ·rw[AA];exact⟨_,[],rfl,Bu I,rfl⟩
   ·have J:f9 n [aj ns]=.ok (.bool true):=by unfold f9;simp[fR,hl]
    rw[J];intro v H' _ hv;rw[AA]at hv;unfold Is at hv;exact hv)
  (λw H s e s' r=>(by obtain⟨_,_,_,_,_,_,z,_⟩:=r;exact z)) o
end RS
set_option maxHeartbeats 4000000
namespace L2
open PySem PySem.Spec PyProof.Rows
variable {ge:Ds->Rs PyData}
def GO(K:W.Frag)(x:Str):Prop:=∃f oc od fd a c P o vs,W.nsIn K mainGlobals x=some (some (.ref f))/\K.lookup f=some ⟨oc,od,.func fd,a⟩/\fd.code=.ref c/\K.lookup c=some o/\o.data=.fields vs/\vs[11]?=some (.ref P)/\W.codeHdIn K c P=true
section
theorem iO.ofL{k:Nat}{G:Ds->Sr}(F:Fun K x x st f fd)(S:dk N ps (aE st))(b:Binds K fd ps [])(m:mg x=some (.ref f))(B:∀i∈O,ps.length<=i)
  (D:x∈mq) (hm:∀g,W.nsIn K mainGlobals x=some (some (.ref g))->mg x=some (.ref g)) (I:GO K x) (hB:oU mg base) (hK:K.In base) (J:∀(L:Addr)(cdv:Value),(envOfC x (aE st) L f cdv).qual++"<lambda>"=x++".<locals>.<lambda>")
  (body:∀(cdv:Value)(A:Around)(outer:List Env)(s:Shared)(H:Hp)(E:XK),cm k (A.deeper (envOfC x (aE st) s.heap.objs.size f cdv))->∀c l,CF (dF (CXW P w) P w K mg base N x (aE st) f cdv A outer s H E) c l->PBD (dF (CXW P w) P w K mg base N x (aE st) f cdv A outer s H E) E O (cf st) G)
  (M:∀ds,ds.length=ps.length->gf ds≠.no->bo (G #[7])=gf ds):iO P w K mg base (k+1) x ps.length gf:=by
 obtain⟨oc,od,kV,doc,pm,an,cdv,ct,osl,rfl,n,p⟩:=F.ex;obtain⟨j,oc',od',fd',sl',c,l,o,vs,t,u,R,T,U,X,Y⟩:=I;have Z:j=f:=by have:=hm j t;rw[m]at this;cases this;rfl
 subst Z;rw[n]at u;have r:cdv=.ref c:=by cases u;exact R
 subst r;obtain⟨bm,ob,b1,b2,b3,b4,b5,b6,b7⟩:=hB;refine⟨j,_,ps,Dq n p S (λvs H Q E h=>?_) (λA outer s H vs' Q E hr h=>?_),m,F.kp,b⟩
 ·obtain⟨A,ds,y,hi,hl,o⟩:=h;rw[hi.length,hl]
 ·obtain⟨A0,ds,y,hi,hl,e⟩:=h;refine⟨_,body (.ref c) A outer s H E hr c l ⟨?_,rfl,W.codeHd_of_K hK Y,bm,ob,b1,b2,b3,b4,b5,b6,b7⟩,H,A0,[],_,bX.start y hi hl B,?_⟩
  ·exact⟨x,D,j,_,_,_,_,c,t,n,rfl,⟨o,vs,T,U,X⟩,J _ _⟩
  ·have a:=M ds hl (λz=>by rw[z]at e;exact e);cases q:G #[7] with
   |rt d=>rw[q]at a;rw[<-a]at e;exact λv H' s' hv=>e v H' s' hv
   |nx δ=>rw[q]at a;rw[<-a]at e;exact λA' σ H' R'=>e .non H' R'.same is_none
   |rz C=>rw[q]at a;rw[<-a]at e;exact λH' s'=>e H' s'
   |bk δ=>rw[q]at a;rw[<-a]at e;exact e.elim
   |ct δ=>rw[q]at a;rw[<-a]at e;exact e.elim
   |no=>rw[q]at a;rw[<-a]at e;exact e.elim
end
def fO(cond:Ds->Rs Bool)(elt:Ds->Rs PyData)(tgt:PyData->Option Ds)(δ δ2:Ds):List PyData->Rs #[5]
 |[]=>.ok []
 |d::r=>match tgt d with
  |none=>.no
  |some own=>(cond (δ2++own)).calm.bind λb=>if b=true then (elt (δ++own)).calm.bind λx=>(fO cond elt tgt δ δ2 r).bind λxs=>.ok (x::xs) else fO cond elt tgt δ δ2 r
def nz(n0:Nat)(src:Ds->Rs #[5])(cond:Ds->Rs Bool)(elt:Ds->Rs PyData)(tgt:PyData->Option Ds):Ds->Ds->Rs #[5]:=λδ δ2=>if δ.length=n0 then (src δ).bind λds=>if ds.length<=1000000 then fO cond elt tgt δ δ2 ds else .no else .no
theorem FA{E:XK}{g:TG}{tt:TT}(hT:TgD K n0 own.length tgt g)(htt:∀σ H Q,cD K E0 cond σ H Q->tt σ H Q){Q:VK}{S:List Addr}{δ2:Ds}(R:dR K H A δ σ)(O:dR K H S δ2 σ)(G:∀a∈S,a∈A)(o:Gp K E A H (nz n0 gi cond ge tgt δ δ2) Q) :
  tLC own.length (iD K E gi) g tt (eD K E0 ge) σ H Q:=by
 unfold nz at o;by_cases hn0:δ.length=n0
 case neg=>rw[if_neg hn0]at o;exact o.elim
 rw[if_pos hn0]at o;have hσ:σ.length=n0:=by rw[<-R.len];exact hn0
 refine⟨A,δ,R,?_⟩;cases q:gi δ with
 |no=>rw[q]at o;exact o
 |rz C=>rw[q]at o;exact o
 |ok ds =>
  rw[q]at o;have o:Gp K E A H (if ds.length<=1000000 then fO cond ge tgt δ δ2 ds else .no) Q:=o;by_cases hz:ds.length<=1000000
  case neg=>rw[if_neg hz]at o;exact o.elim
  rw[if_pos hz]at o;intro J H1 P hJ D I;have R1:=R.same P;have nD:D∉A:=R1.ls.new I;cases qo:fO cond ge tgt δ δ2 ds with
  |rz C =>
   exfalso;have:∀l,fO cond ge tgt δ δ2 l≠.rz C:=by
    intro l
    induction l with
    |nil=>intro z;cases z
    |cons d r ih =>
     intro z;unfold fO at z;split at z
     ·cases z
     ·rename_i s _;cases c1:cond (δ2++s) with
      |ok b =>
       simp only[c1,Rs.cQ,Rs.ag]at z;split at z
       ·cases t:ge (δ++s) with
        |ok x =>
         simp only[t,Rs.cQ,Rs.ag]at z;cases w:fO cond ge tgt δ δ2 r with
         |ok l=>simp only[w,Rs.ag]at z;cases z
         |rz C'=>simp only[w,Rs.fi]at z;cases z;exact ih w
         |no=>simp only[w,Rs.bD]at z;cases z
        |rz C'=>simp only[t,Rs.calm,Rs.bD]at z;cases z
        |no=>simp only[t,Rs.calm,Rs.bD]at z;cases z
       ·exact ih z
      |rz C'=>simp only[c1,Rs.calm,Rs.bD]at z;cases z
      |no=>simp only[c1,Rs.calm,Rs.bD]at z;cases z
   exact this ds qo
  |no=>rw[qo]at o;exact o.elim
  |ok out =>
   rw[qo]at o;have base:ax (del H1 A) (del (upd H1 D (.lst [])) (D::A)):=λb o e=>by obtain⟨z,e⟩:=bj e;have nb:b≠D:=aK e I;rw[aP (by simp[nb,z]),aC nb];exact e
   refine⟨λi m ys H'=>m=ds.length-i/\i<=ds.length/\ax H1 H'/\H' D=some (.lst ys)/\ys.length<=i/\∃T rest,fO cond ge tgt δ δ2 (ds.drop i)=.ok rest/\out=T++rest/\Iss K (del H' (D::A)) T ys,
    ⟨ds.length,by simp,NC _,bH I,aH,My _,[],out,qo,rfl,c8⟩,?_⟩
   rintro i m ys H' ⟨rfl,hi,B,hl,hy,T,rest,c1,t,w⟩
   refine⟨hl,?_⟩;have sG:ax (del H1 A) H':=az.trans B;have U:∀b∈D::A,(del H1 A) b=none:=λb L=>by
    rcases M8.mp L with z|z
    ·rw[z,aP nD];exact I
    ·exact hZ z
   obtain⟨jg,js,jy⟩:=hJ H' (D::A) sG (λb L=>by
    rcases M8.mp L with z|z
    ·exact⟨_,by rw[z];exact hl,rfl⟩
    ·exact (R1.ls.same B) b z) U
   by_cases hlt:i<ds.length
   ·refine .inr ⟨jg i hlt,λx H2 σ' X y=>?_⟩;obtain⟨s2,d,ed,hd⟩:=jy i x H2 hlt y;have edr:ds.drop i=d::ds.drop (i+1):=by
     rw[NP hlt];have:ds[i]=d:=by have:=M1 hlt;rw[this]at ed;exact Option.some.inj ed
     rw[this]
    rw[edr]at c1;unfold fO at c1;cases et:tgt d with
    |none=>rw[et]at c1;cases c1
    |some ow =>
     rw[et]at c1;have l2:H2 D=some (.lst ys):=s2 _ _ hl;have f:Ls H2 (D::A):=λb L=>by
      rcases M8.mp L with z|z
      ·exact⟨_,by rw[z];exact l2,rfl⟩
      ·exact (R1.ls.same (B.trans s2)) b z
     obtain⟨Y,hgo⟩:=hT d x σ σ' H2 (D::A) (λh H2=>tt h H2 λb H3 =>
      if b=true then eD K E0 ge h H3 λv Z=>Z D=some (.lst ys)/\ys.length<sizeLine/\(∃c,h=σ++c/\c.length=own.length)/\∃m',m' < ds.length-i/\_
      else (∃c,h=σ++c/\c.length=own.length)/\∃m',m' < ds.length-i/\_) ow hσ X f hd et
     refine hgo λvs j F=>?_
     have sAll:ax (del H1 A) (del H2 (D::A)):=mD (sG.trans s2) U;have RE:dR K H2 (D::A) (δ++ow) (σ++vs):=by
      refine⟨f,by rw[MN,MN,R.len,j,Y],λk e n=>?_⟩;by_cases hk:k<δ.length
      ·rw[N5 hk]at n;obtain⟨u,e1,M⟩:=R1.get k e n;exact⟨u,by rw[N5 (by rw[<-R.len];exact hk)];exact e1,M.same sAll⟩
      ·rw[N6 (by omega)]at n;obtain⟨u,e1,M⟩:=F _ e n;exact⟨u,by rw[N6 (by rw[<-R.len];omega),<-R.len];exact e1,M⟩
     have RE2:dR K H2 (D::S) (δ2++ow) (σ++vs):=by
      have hsub:ax (del H2 (D::A)) (del H2 (D::S)):=λb u p=>by
       obtain⟨q1,q2⟩:=bj p;rw[aP (λz=>q1 (by
        rcases M8.mp z with z|z
        ·rw[z];exact M7
        ·exact M3 _ (G b z)))];exact q2
      have Rf1:=O.same (P.trans (B.trans s2));have nD2:D∉S:=λz=>nD (G D z)
      have hD0:H D=none:=P.free I;refine⟨λb L=>?_,by rw[MN,MN,O.len,j,Y],λk e n=>?_⟩
      ·rcases M8.mp L with z|z
       ·exact f b (by rw[z];exact M7)
       ·exact f b (M3 _ (G b z))
      ·by_cases hk:k<δ2.length
       ·rw[N5 hk]at n;obtain⟨u,e1,M⟩:=O.get k e n;refine⟨u,by rw[N5 (by rw[<-O.len];exact hk)];exact e1,M.same λb u p=>?_⟩;obtain⟨q1,q2⟩:=bj p;have nb:b≠D:=λz=>by rw[z,hD0]at q2;cases q2
        rw[aP (by simp[nb,q1])];exact (P.trans (B.trans s2)) _ _ q2
       ·rw[N6 (by omega)]at n;obtain⟨u,e1,M⟩:=F _ e n;exact⟨u,by rw[N6 (by rw[<-O.len];omega),<-O.len];exact e1,M.same hsub⟩
     have bad:∀r:Rs Bool,r=.rz 0->r.calm=.no:=λr e=>by rw[e];rfl
     refine htt _ _ _ (cD.run RE2 (λb p H3 N R3f=>?_) (λC p=>?_) (λp=>?_))
     ·simp only[p,Rs.cQ,Rs.ag]at c1;cases b with
      |true =>
       simp only[if_true]at c1;refine eD.run (RE.same N) (λxd ex v Z s4 R4 hv=>?_) (λC ex=>?_) (λex=>?_)
       ·simp only[ex,Rs.cQ,Rs.ag]at c1;cases cr:fO cond ge tgt δ δ2 (ds.drop (i+1)) with
        |ok rs =>
         simp only[cr,Rs.ag]at c1;cases c1;have l4:Z D=some (.lst ys):=s4 _ _ (N _ _ l2);have dU:del (upd Z D (.lst (ys++[v]))) (D::A)=del Z (D::A):=kR (M7);refine⟨l4,by rw[sizeLine_eq];omega,⟨vs,rfl,j⟩,ds.length-(i+1),by omega,rfl,hlt,?_,aH,by simp;omega,T++[xd],rs,cr,by rw[t];simp,?_⟩
         ·exact ax.put (((B.trans s2).trans N).trans s4) I
         ·rw[dU];exact (w.same (ax.del (s2.trans (N.trans s4)))).append (jt hv)
        |rz C=>simp only[cr,Rs.fi]at c1;cases c1
        |no=>simp only[cr,Rs.bD]at c1;cases c1
       ·simp only[ex,Rs.calm,Rs.bD]at c1;cases c1
       ·simp only[ex,Rs.calm,Rs.bD]at c1;cases c1
      |false =>simp only[N2,if_false]at c1;exact⟨⟨vs,rfl,j⟩,ds.length-(i+1),by omega,rfl,hlt,(B.trans s2).trans N,N _ _ l2,by omega,T,rest,c1,t,w.same (ax.del (s2.trans N))⟩
     ·simp only[p,Rs.calm,Rs.bD]at c1;cases c1
     ·simp only[p,Rs.calm,Rs.bD]at c1;cases c1
   ·have e:i=ds.length:=by omega
    subst e;rw[OR]at c1;cases c1;rw[Nr]at t;subst t;exact .inl ⟨js,o D ys H' (P.free I) (P.trans B) hl w⟩
def rF(O:List Nat)(i n0:Nat)(a:Ds->Rs #[5])(cond:Ds->Rs Bool)(ge:Ds->Rs PyData)(tgt:PyData->Option Ds):Ds->Sr:=λδ=>if i<δ.length then ofR (nz n0 a cond ge tgt (mask O δ) δ) λds=>.nx (δ.set i (some (.list ds))) else .no
section
variable {E:XK}
theorem C8{b:Ds->Rs #[5]}{g:TG}(hc:X.calm=true)(m:X.N.Nodup)(hi:PID X E tg iter b)
  (n:TgD X.K n0 (fW tg).length tgt g) (r:∀C s2 H2 fp,PG (bk X tg scope C s2 H2 fp) tg g) (j:∀C s2 H2 fp,PIf (bk X tg scope C s2 H2 fp) ifs cond) (t:∀C s2 H2 fp,PD (bk X tg scope C s2 H2 fp) E0 elt ge) (u:i∉O)
  (c:X.N[i]?=some x) (v:Loc X.env.scope x) (e:swapsWith (.ListComp elt [⟨tg,iter,ifs,0⟩] scope pos) (some (.Name x pos')) spos.line X.env=pure true)
  (hB:JI X tg scope=true) (w:∀x,foldedSetIterable iter X.env x=pure x) (y:X.fn x=true\/X.env.scope.names.lookup x=some .local) :
  PSD X E O (.Assign [.Name x pos'] (.ListComp elt [⟨tg,iter,ifs,0⟩] scope pos) spos) (rF O i n0 b cond ge tgt) :=
 PS.imp (qt (own:=fW tg) (te:=eD X.K E0 ge) hc m c v e hi r (λC s2 H2 fp=>(j C s2 H2 fp).pts) (λC s2 H2 fp=>t C s2 H2 fp) hB w y) λD σ H f=>by
  obtain⟨H0,A0,A,δ,R,o⟩:=f;unfold rF at o;split at o
  ·rename_i hl;have l:=R.part;refine FA n (PIf.tt (j 0 X.s₀ X.H₀ [])) l R.full (λa ha=>ML _ ha) ?_;cases q:nz n0 b cond ge tgt (mask O δ) δ with
   |ok ds =>rw[q]at o;intro p xs H' hn s z h;exact o A _ H' ((R.step s).set u hl (ky (by rw[aP (l.ls.new hn)];exact z) (h.same nP)))
   |rz C=>rw[q]at o;exact λH' s'=>o H' (R.same.trans s')
   |no=>rw[q]at o;exact o
  ·exact o.elim
end
theorem iZ.of{m:Str}{k:Nat}{G:Ds->Sr}(F:Fun K m qual st f fd)(S:dk N ps (aE st))(b:Binds K fd ps [])(cl:Cls K C)(hm:Meth K C m f)(a:∀i∈O,ps.length<=i)
  (body:∀(cdv:Value)(A:Around)(outer:List Env)(s:Shared)(H:Hp)(E:XK),cm k (A.deeper (envOfC qual (aE st) s.heap.objs.size f cdv))->PBD (dF (CXW P w) P w K mg base N qual (aE st) f cdv A outer s H E) E O (cf st) G)
  (c:∀ds,ds.length=ps.length->gf ds≠.no->bo (G #[7])=gf ds):iZ P w K mg base (k+1) C m ps.length gf :=
 ⟨f,fd,ps,cl,hm,RS.Ak F S a body c,b⟩
def sj(xs ys:List PyData):List PyData:=List.zipWith (λa b=>PyData.tuple [a,b]) xs ys
theorem EX{es:List PyData}(h1:Iss K G ds xs)(h2:Iss K G es ys)(hl:ys.length=xs.length)(c:∀H1,ax G H1->SqT K H1 a xs)(f:∀H1,ax G H1->SqL K H1 b ys):zu K (Itz K a b xs.length) (sj ds es) G:=λH1 B s m hB=>by
 have l1:=h1.length;have l2:=h2.length;have n:(sj ds es).length=xs.length:=by unfold sj;rw[List.length_zipWith];omega
 rw[n];refine⟨λi hi=>⟨hi,xs,ys,c H1 s,f H1 s,rfl,hl⟩,⟨rfl,xs,ys,c H1 s,f H1 s,rfl,hl⟩,λi x H2 hi y=>?_⟩;obtain⟨t,p,r,rfl,g,rfl,u,v⟩:=y;obtain⟨d,e,hd⟩:=h1.get (u xs (c H1 s));obtain⟨d',w,h⟩:=h2.get (v ys (f H1 s));refine⟨bH g,.tuple [d,d'],by unfold sj;rw[List.getElem?_zipWith,e,w],?_⟩;have A:t∉B:=m.new g;have j:ax G (del (upd H1 t (.tup [p,r])) B):=λb o q=>by have l:=s b o q;have C:b≠t:=aK l g;rw[aP (λz=>by rw[hB b z]at q;cases q),aC C];exact l
 exact iS (by rw[aP A];exact aH) (cM (hd.same j) (jt (h.same j)))
section
variable {E:XK}{a b:Expr}
def HJ:List PyData->Rs #[5]
 |[.tuple xs,.list ys]=>if ys.length=xs.length then .ok (sj xs ys) else .no
 |_=>.no
def GH(g:Ds->Rs #[5]):Ds->Rs #[5]:=λδ=>(g δ).bind HJ
theorem Fp(hm:X.mg "zip"=none)(ha:PAD X E [a,b] gs)(l:Gl X "zip")(m:starEach [a,b] X.env=[(false,eval a X.env),(false,eval b X.env)])(c:starEach [b] X.env=[(false,eval b X.env)]) :
  PID X E (.Tuple elts x1 tp) (.Call (.Name "zip" p) [a,b] [] pos) (GH gs):=(Ij l hm ha.1 m c).imp λσ H R ⟨A,δ,Rp,o⟩=>vq Rp o λds vs H1 e s1 R1 h1 o=>by
 unfold HJ at o;split at o
 ·split at o
  ·rename_i hl;obtain⟨v,u,rfl,h,h'⟩:=D8 h1;obtain⟨p,xs,rfl,f,g⟩:=h.ofTup;obtain⟨q,ys,rfl,i,j⟩:=h'.ofLst;have l1:=g.length;have l2:=j.length;exact⟨p,q,xs,ys,rfl,SqT.of (az _ _ f),SqL.of (az _ _ i),by omega,o _ H1 (ax.refl _) (EX g j (by omega) (λH2 s2=>SqT.of (s2 _ _ f)) λH2 s2=>SqL.of (s2 _ _ i))⟩
  ·exact o.elim
 ·exact o.elim
end
end L2
namespace RS
open PySem L2
abbrev JN:List Str:=["number", "parts", "rank", "row"]
abbrev JT:List (Str×Int):=[("job",0),("part",0),("spent",0)]
def fI(cs:Cs):Ds->Sr :=
 (ay (aN [] 2 (g2 dIx (ae 0) #[1]))
  (ay (aN [] 3 (g2 dIx (ae 0) (gC (.int 2))))
  (ay (aN [] 4 (g2 eM #[1] (ae 3)))
  (ay (cA [] (bh (ae 1)) (aU 5) (ay (aN [] 6 (gF gr (af (ae 4) (af (g2 eM (ae 5) (ae 3)) ah))))
  (ay (sIf (gT (g2 dGt (ae 6) (ae 5))) #[16] aV)
  (aN [] 4 (g2 aW (ae 6) (ae 2))))))
  (bf (gC (.bool true)))))))
def lV(cs:Cs)(aO bY:Gf):Ds->Sr :=
 (ay (sIf (cOr (gA (gT (g1 (lu "list") (ae 1)))) (gT (g2 dGt (gF bS (af (ae 1) ah)) (gC (.int 60))))) #[16] aV)
  (bf (A3 (gF pw (af (gL (aX 2 (bh (ae 1)) bJ (au aO (af (ae 2) (af #[1] (af (gC (.int 9999)) ah)))) aG)) ah)) (au bY #[21]))))
def eG(cs:Cs)(dG bt:Gf):Ds->Sr :=
 (ay (lg (au bt (af (ae 0) ah)))
  (ay (sIf (cOr (gA (gT (g1 (lu "list") (ae 1)))) (gT (g2 dNe (gF bS (af (ae 1) ah)) (gF bS (af (ae 0) ah))))) (jh cs.NoComings (af (gC (.str "comings are a list of one list for each errand")) ah)) aV)
  (ay (sIf (gA (gT (gF pw (af (gL (aX 2 (GH #[21]) bJ (au dG (af (ae 2) (af (ae 3) ah))) kA)) ah)))) (jh cs.NoComings (af (gC (.str "an errand can not come so")) ah)) aV)
  (bf (gL (aX 2 (bh (ae 1)) bJ (gF xo #[28]) aG))))))
def dW(cs:Cs):Ds->Sr :=
 (bf (g2 dEq (g1 (bc cs.Jobs "job") (ae 0)) (gF bS (af (g1 (bc cs.Jobs "row") (ae 0)) ah))))
def fc(cs:Cs):Ds->Sr :=
 (bf (gIf (gT (g2 dEq (g1 (bc cs.Jobs "spent") (ae 0)) #[1])) (g2 dIx (g2 dIx (g1 (bc cs.Jobs "parts") (ae 0)) (g1 (bc cs.Jobs "part") (ae 0))) #[0]) (gC .none)))
def gB(cs:Cs):Ds->Sr :=
 (bf (gIf (gT (g2 dGt (g1 (bc cs.Jobs "spent") (ae 0)) #[1])) (g2 dIx (g2 dIx (g1 (bc cs.Jobs "parts") (ae 0)) (g1 (bc cs.Jobs "part") (ae 0))) #[0]) (gC .none)))
def kB(cs:Cs)(aS:Gf):Ds->Sr :=
 (ay (sIf (gT (g1 ju (ae 1))) (bf (gC .none)) aV)
  (ay (cA [] (bh (ae 0)) (aU 2) (sIf (gT (g2 dEq (bw cs.Jobs "held" aS (ae 2) ah) (ae 1))) (bf (ae 2)) aV))
  (bf (gC .none))))
def gW(cs:Cs)(aL bM:Gf):Ds->Sr :=
 (ay (oF 1)
  (ay (cA [1] (bh (ae 0)) (aU 2) (ay (aN [1] 3 (au bM (af (ae 0) (af (bw cs.Jobs "wanted" aL (ae 2) ah) ah))))
  (sIf (gT (g1 eE (ae 3))) (lA 1 (g1 (bc cs.Jobs "number") (ae 3)) (gF iW (af (g1 (bc cs.Jobs "rank") (ae 2)) (af (iI (ae 1) (g1 (bc cs.Jobs "number") (ae 3)) (g1 (bc cs.Jobs "rank") (ae 3))) ah)))) aV)))
  (bf (ae 1))))
def b0(cs:Cs)(aS:Gf):Ds->Sr :=
 (ay (aN [] 2 (bw cs.Jobs "held" aS (ae 0) ah))
  (ay (sIf (gT (g1 ju (ae 2))) (bf (dS (af (g1 (bc cs.Jobs "rank") (ae 0)) (af #[0] ah)))) aV)
  (bf (dS (af (gF iW (af (g1 (bc cs.Jobs "rank") (ae 0)) (af (g2 dIx (ae 1) (ae 2)) ah))) (af #[1] ah))))))
def dZ(cs:Cs):Ds->Sr :=
 (bf (A3 (g2 dLt (g1 (bc cs.Jobs "job") (ae 0)) (gF bS (af (g1 (bc cs.Jobs "row") (ae 0)) ah))) (g2 dLe (g2 dIx (g1 (bc cs.Jobs "row") (ae 0)) (g1 (bc cs.Jobs "job") (ae 0))) (ae 1))))
def zE(cs:Cs)(bu eU aY bt:Gf):Ds->Sr :=
 (ay (lg (au bt (af (ae 0) ah)))
  (ay (lg (au aY #[21]))
  (bf (au eU (af (ae 0) (af (ae 1) (af (au bu (af (ae 0) #[28])) (af (ae 3) ah))))))))
def dC(cs:Cs)(ao:Gf):Ds->Sr :=
 (ay (aN [6] 4 (au ao (af (ae 0) (af (ae 1) (af (g2 Ct (gC (.int 10)) (gC (.int 9))) ah)))))
  (ay (aN [6] 5 (g2 eM (g2 ff (ae 4) (g2 aW (g2 dIx (ae 2) #[1]) (gC (.int 2)))) (g2 dIx (ae 2) (gC (.int 2)))))
  (ay (eu [6] 6 ah)
  (ay (aN [6] 7 #[1])
  (ay (λδ=>cE (iN (gT (g2 dLt (g2 aW (ae 5) (g2 dIx (ae 2) (gC (.int 2)))) (ae 3))) (gT (g2 dLt (gF bS (af (ae 6) ah)) (gC (.int 60))))) (ay (aN [6] 8 (g2 ff #[17] (gC (.int 2147483647))))
  (ay (aN [6] 9 (gF gr (af #[1] (af (g2 aW (ae 5) (g2 ff (g2 jN (ae 8) (gC (.int 7))) (g2 aW (g2 dIx (ae 2) (gC (.int 2))) #[0]))) ah))))
  (ay (sIf (gT (g2 dNe (ae 6) (mL ah))) (kl 9 (gF gr (af (ae 9) (af (g2 aW (g2 dIx (ae 6) (g1 jV #[0])) #[0]) ah)))) aV)
  (ay (ik [6] 6 (ae 9))
  (ay (aN [6] 5 (g2 aW (ae 5) (g2 dIx (ae 2) #[1])))
  (ay (sIf (gT (g2 dEq (g2 ff (g2 jN (ae 8) (gC (.int 61))) #[15]) #[1])) (aN [6] 5 (g2 aW (ae 5) (g2 ff (g2 jN (ae 8) (gC (.int 997))) (g2 dIx (ae 2) #[1])))) aV)
  (aN [6] 7 (g2 aW (ae 7) #[0])))))))) 1000000 δ)
  (bf (ae 6)))))))
def fe(cs:Cs)(br:Gf):Ds->Sr :=
 (bf (gL (aX 4 (fh (af (gF bS #[28]) ah)) bJ (au br (af (ae 0) (af (g2 aW (ae 1) (ae 4)) (af (g2 dIx (ae 2) (ae 4)) (af (ae 3) ah))))) aG)))
def jx(cs:Cs)(aR aZ cU aQ:Gf)(a:List (Str×PyData)->Option (List (Str×PyData)))(as:List Addr):Ds->Sr :=
 (ay (eu [6] 6 ah)
  (ay (λδ=>cE (gA (gT (gF pw (af (gL (aX 9 (bh (ae 5)) bJ (bw cs.Jobs "are_done" aZ (ae 9) ah) aG)) ah)))) (ay (rF [6] 7 9 (bh (ae 5)) (gT (bw cs.Jobs "is_there" aQ (ae 9) (af (gF bS (af (ae 6) ah)) ah))) (ae 9) aG)
  (sIf (gT (g2 dEq (gF bS (af (ae 7) ah)) #[1])) (ik [6] 6 (gC .none)) (ay (aN [6] 8 (au cU (af (ae 7) (af (ae 4) (af (ae 3) ah)))))
  (ay (ik [6] 6 (dS (af (g1 (bc cs.Jobs "number") (ae 8)) (af (g1 (bc cs.Jobs "job") (ae 8)) ah))))
  (lI as cs.Jobs "go_on" 8 a))))) 1000000 δ)
  (bf (ae 6))))
def gY(cs:Cs)(as:List Addr):Ds->Sr :=
 (ay (fj as cs.Jobs 0 "spent" #[0])
  (ay (sIf (gT (g2 dEq (g1 (bc cs.Jobs "spent") (ae 0)) (g2 dIx (g2 dIx (g1 (bc cs.Jobs "parts") (ae 0)) (g1 (bc cs.Jobs "part") (ae 0))) #[1]))) (ay (mI as cs.Jobs 0 "spent" #[1])
  (fj as cs.Jobs 0 "part" #[0])) aV)
  (sIf (gT (g2 dEq (g1 (bc cs.Jobs "part") (ae 0)) (gF bS (af (g1 (bc cs.Jobs "parts") (ae 0)) ah)))) (ay (mI as cs.Jobs 0 "part" #[1])
  (fj as cs.Jobs 0 "job" #[0])) aV)))
def j7(cs:Cs)(cG aL bM bV:Gf):Ds->Sr :=
 (ay (sIf (gT (g2 dEq (ae 2) (gC (.str "high")))) (bf (jo [1] (ae 0) (au bV #[21]))) aV)
  (ay (aN [] 3 (gL (aX 5 (bh (ae 0)) (gT (g1 ju (au bM (af (ae 0) (af (bw cs.Jobs "wanted" aL (ae 5) ah) ah))))) (ae 5) aG)))
  (ay (aN [] 4 (gIf (gT (g2 dEq (ae 2) (gC (.str "asked")))) (au cG (af (ae 0) ah)) (gC (bF []))))
  (bf (jo [4] (ae 3) (iI (ae 1) (g1 (bc cs.Jobs "number") (ae 0)) (g1 (bc cs.Jobs "rank") (ae 0))))))))
end RS
set_option maxHeartbeats 1000000
namespace RS
open PySem L2
def cH:Gf
 |[d,.int t]=>if vW d then .ok (.bool ((deE d).has t)) else .no
 |_=>.no
theorem kJ{e:Er}{t:Int}(h:e.Sh):cH [e.d,.int t]=.ok (.bool (e.has t)):=by unfold cH;simp[pH h,Ap]
theorem xf(t:Int):∀ps:List #[25],inD (.int t) ((ps.map aI).map λd=>bg (cL d).2)=ps.any λp=>p.2==some t
 |[]=>rfl
 |p::r=>by
  have h1:eqV (toV (bg p.2)) (.int t)=(p.2==some t):=by
   rcases hp:p.2 with _|z
   ·rfl
   ·show (z==t)=(some z==some t)
    simp
  have:=xf t r;unfold inD inV at this ⊢;rw[M5,M5,M5,NS,NS,this,qO];show (eqV (toV (bg p.2)) (.int t)||_)=_;rw[h1]
theorem Bd(ps:List #[25]):((ps.map aI).map λd=>bg (cL d).2).all gm=true:=by rw[MX];intro d hd;obtain⟨n,_,rfl⟩:=MM.mp hd;cases (cL n).2 <;> rfl
theorem JJ{f:PyData->Int->Rs PyData}(h:(match ds with|[a,.int x1]=>f a x1|_=>.no)≠.no):∃a x1,ds=[a,.int x1]/\f a x1≠.no:=by
 rcases ds with _|⟨a,_|⟨x1,_|⟨y,ys⟩⟩⟩
 ·exact absurd rfl h
 ·exact absurd rfl h
 ·skip
  cases x1 with
  |int x1 =>exact⟨_,_,rfl,h⟩
  |_=>exact absurd rfl h
 ·first|exact absurd rfl h|(cases x1 <;> exact absurd rfl h)
theorem yq(cs:Cs):LLq (jm cs) 2 0 cH:=by
 intro ds hl a;obtain⟨d,t,f,c⟩:=JJ a;clear a;subst f;have a:=c;clear c
 ·skip
  split at a
  ·rename_i hd;obtain⟨e1,sh⟩:=vV hd;rw[<-e1];generalize deE d=e at sh;rw[kJ sh];have hc:aX 2 (bh (g2 dIx (ae 0) #[15])) bJ (g2 dIx (ae 2) #[0]) aG [some e.d,some (.int t)]=.ok ((e.parts.map aI).map λd=>bg (cL d).2) :=
    ej rfl (by simp[vi]) (by have:=sh.pn;simp;omega) λd b=>by obtain⟨p,hp,rfl⟩:=MM.mp b;simp[DP,qO]
   have hi:pz false (.int t) (.list ((e.parts.map aI).map λd=>bg (cL d).2))=some (.bool (e.has t)):=by show (if (gm (.int t)&&_)=true then some (PyData.bool (if false=true then _ else inD _ _)) else none)=_;rw[Bd,xf];rfl
   show bo (jm cs [some e.d,some (.int t)])=_;simp only[jm,cq,bR,aq,aw,nV,hc,Rs.ag,hi,Rs.ai,aB,bx]
  ·exact absurd rfl a
def eo:Gf
 |[d,r,.int t]=>if oN d&&dQ (dJ d).length r then .ok (bg (bq (dJ d) (de r) t)) else .no
 |_=>.no
theorem mn{t:Int}(h1:es.length<=100)(h:∀e∈es,e.Sh)(a:cN es.length rs):eo [ar es,ak rs,.int t]=.ok (bg (bq es rs t)):=by unfold eo;simp[mH h1 h,jw,fP a,kI]
theorem oR(es:List Er)(a:∀e∈es,e.Sh)(R:PyData)(t:Int):∀(rs:List Int)(k:Nat)(x3 x4:Option PyData),(∀m∈rs,0<=m/\m<es.length) ->
   (∃i,hts es rs k t=some i/\forL (cn [3,4]) (sIf (gT (au cH (af (g2 dIx (ae 0) (ae 4)) #[28]))) (bf (ae 3)) aV) ((rs.map PyData.int).mapIdx λi d=>.tuple [.int ((k+i:Nat):Int),d]) [some (ar es),some R,some (.int t),x3,x4]=.rt (.int i))
  \/(hts es rs k t=none/\∃δ,forL (cn [3,4]) (sIf (gT (au cH (af (g2 dIx (ae 0) (ae 4)) #[28]))) (bf (ae 3)) aV) ((rs.map PyData.int).mapIdx λi d=>.tuple [.int ((k+i:Nat):Int),d]) [some (ar es),some R,some (.int t),x3,x4]=.nx δ)
 |[],k,x3,x4,_=>.inr ⟨rfl,_,rfl⟩
 |m::r,k,x3,x4,hm=>by
   have b:=hm m M7;have a2:atI (es.map Er.d) m=some (bZ es m).d:=iz b.1 b.2;have f:=kJ (t:=t) (a _ (dX b.1 b.2));rw[M5,OU];unfold forL;have e1:cn [3,4] (PyData.tuple [.int ((k+0:Nat):Int),.int m]) [some (ar es),some R,some (.int t),x3,x4]=some [some (ar es),some R,some (.int t),some (.int (k:Int)),some (.int m)]:=rfl;rw[e1];simp only[cK,dE,bK,aA,aJ,bR,aq,aw,Rs.ag,ar,zF,a2,Rs.ai,f,bB,aB,cq,fX];unfold hts;cases hh:(bZ es m).has t with
   |true=>exact .inl ⟨k,rfl,rfl⟩
   |false =>
    simp only[N2,if_false];have c:=oR es a R t r (k+1) (some (.int (k:Int))) (some (.int m)) (λx g=>hm x (M3 _ g));rw[show ((k+1:Nat):Int)=(k:Int)+1 by omega]at c;have h:(λ(i:Nat)(d:PyData)=>PyData.tuple [.int ((k+(i+1):Nat):Int),d])=λi d=>.tuple [.int ((k+1+i:Nat):Int),d]:=by funext i d;rw[show k+(i+1)=k+1+i by omega]
    rw[h];exact c
theorem uY{f:PyData->PyData->Int->Rs PyData}(h:(match ds with|[a,x1,.int x2]=>f a x1 x2|_=>.no)≠.no):∃a x1 x2,ds=[a,x1,.int x2]/\f a x1 x2≠.no:=by
 rcases ds with _|⟨a,_|⟨x1,_|⟨x2,_|⟨y,ys⟩⟩⟩⟩
 ·exact absurd rfl h
 ·exact absurd rfl h
 ·exact absurd rfl h
 ·skip
  cases x2 with
  |int x2 =>exact⟨_,_,_,rfl,h⟩
  |_=>exact absurd rfl h
 ·first|exact absurd rfl h|(cases x2 <;> exact absurd rfl h)
theorem ES(cs:Cs):LLq (mM cs cH) 3 2 eo:=by
 intro ds hl a;obtain⟨d,r,t,h,f⟩:=uY a;clear a;subst h;have a:=f;clear f
 ·skip
  split at a
  ·rename_i hc;simp only[M9]at hc;obtain⟨c1,j⟩:=hc;obtain⟨e1,hlen,c⟩:=uE c1;obtain⟨e2,g⟩:=kx j;rw[<-e1,<-e2];generalize dJ d=es at *;generalize de r=rs at *;rw[mn hlen c g];have loop:=oR es c (ak rs) t rs 0 none none g.rng;show bo (mM cs cH [some (ar es),some (ak rs),some (.int t),none,none])=_;have src:fw (af (ae 1) ah) [some (ar es),some (ak rs),some (.int t),none,none]=.ok ((rs.map PyData.int).mapIdx λi d=>.tuple [.int ((0+i:Nat):Int),d]):=by simp only[pK,aA,aJ,aq,aw,Rs.ag,ak,uh,fD,Nl]
   simp only[mM];rw[aT,jj,gp,src,aB];unfold bq;rcases loop with⟨i,b,e⟩|⟨b,δ,e⟩
   ·rw[e];have b:hts es rs 0 t=some i:=b;rw[b];rfl
   ·rw[e];have b:hts es rs 0 t=none:=b;rw[b];rfl
  ·exact absurd rfl a
def av(es:List Er)(rs:List Int):PyData:=.list ((List.range 4).map λ(t:Nat)=>bg (bq es rs t))
def aR:Gf
 |[d,r]=>if oN d&&dQ (dJ d).length r then .ok (av (dJ d) (de r)) else .no
 |_=>.no
theorem fM(h1:es.length<=100)(h:∀e∈es,e.Sh)(a:cN es.length rs):aR [ar es,ak rs]=.ok (av es rs):=by unfold aR;simp[mH h1 h,jw,fP a,kI]
theorem Ig{f:PyData->PyData->Rs PyData}(h:(match ds with|[a,x1]=>f a x1|_=>.no)≠.no):∃a x1,ds=[a,x1]/\f a x1≠.no:=by
 rcases ds with _|⟨a,_|⟨x1,_|⟨y,ys⟩⟩⟩
 ·exact absurd rfl h
 ·exact absurd rfl h
 ·skip
  exact⟨_,_,rfl,h⟩
 ·exact absurd rfl h
theorem uj(cs:Cs):LLq (gR cs eo) 2 0 aR:=by
 intro ds hl a;obtain⟨d,r,g,e⟩:=Ig a;clear a;subst g;have a:=e;clear e
 ·skip
  split at a
  ·rename_i hc;simp only[M9]at hc;obtain⟨c1,h⟩:=hc;obtain⟨e1,hlen,b⟩:=uE c1;obtain⟨e2,f⟩:=kx h;rw[<-e1,<-e2];generalize dJ d=es at *;generalize de r=rs at *;rw[fM hlen b f];have j:∀t:Int,eo [ar es,ak rs,.int t]=.ok (bg (bq es rs t)):=λt=>mn hlen b f
   have c:aX 2 (fh (af (gC (.int 4)) ah)) bJ (au eo (af (ae 0) (af (ae 1) #[28]))) aG [some (ar es),some (ak rs)]=.ok ((bG 0 (4:Int).toNat).map λx=>bg (bq es rs (deI x))) :=
    ej rfl (by simp only[l5,aA,aJ,cJ,Rs.ag];exact jK #[2] #[2]) (by rw[dg];decide) λx l=>by obtain⟨i,hi⟩:=List.getElem?_of_mem l;obtain⟨_,rfl⟩:=fU hi;simp only[Nv,Nn,bK,aA,aJ,aq,aw,Rs.ag,j];rfl
   have hd:av es rs=.list ((bG 0 (4:Int).toNat).map λx=>bg (bq es rs (deI x))):=by
    unfold av bG;rw[N4];congr 1
    try exact MY λk _=>by simp[deI]
   rw[hd];show bo (gR cs eo [some (ar es),some (ak rs)])=_;simp only[gR,cq,nV,c,Rs.ag,aB,bx]
  ·exact absurd rfl a
def eC(ns:List Int)(a:Int)(many:Nat):Nat->List Int×List Int
 |0=>((List.range many).map λ(i:Nat)=>(i:Int),[])
 |i+1=>((eC ns a many i).1.eraseIdx (mixed ns (a+(i:Int)) ((eC ns a many i).1.length:Int)).toNat,(eC ns a many i).2++[(eC ns a many i).1.getD (mixed ns (a+(i:Int)) ((eC ns a many i).1.length:Int)).toNat 0])
def pE(ns:List Int)(a:Int)(many:Nat):List Int:=(eC ns a many many).2
theorem pP{α:Type}:∀(l:List α)(j:Nat)(h:j<l.length),(l[j]::l.eraseIdx j).Perm l
 |[],j,h=>by simp at h
 |x::r,0,h=>by simp
 |x::r,j+1,h=>by
  simp only[List.getElem_cons_succ,List.eraseIdx_cons_succ];have h':j<r.length:=by simpa using h
  exact (List.Perm.swap _ _ _).trans ((pP r j h').cons x)
theorem tR{α β:Type}(f:α->β):∀(l:List α)(j:Nat),(l.map f).eraseIdx j=(l.eraseIdx j).map f
 |[],j=>by simp
 |x::r,0=>by simp
 |x::r,j+1=>by simp[tR f r j]
theorem qL(ns:List Int)(a:Int)(many:Nat):∀i,i<=many->(eC ns a many i).1.length=many-i/\(eC ns a many i).2.length=i/\((eC ns a many i).1++(eC ns a many i).2).Perm ((List.range many).map λ(i:Nat)=>(i:Int))
 |0,_=>⟨by simp[eC],rfl,by simp[eC]⟩
 |i+1,h=>by
  obtain⟨h1,h2,h3⟩:=qL ns a many i (by omega);simp only[eC];generalize (eC ns a many i).1=L at *;generalize (eC ns a many i).2=M at *;have hL:0<(L.length:Int):=by omega
  have m0:=c7 ns (a+(i:Int)) hL;have m1:=dw ns (a+(i:Int)) hL;generalize mixed ns (a+(i:Int)) (L.length:Int)=z at *;have b:z.toNat<L.length:=by omega
  refine⟨by rw[List.length_eraseIdx_of_lt b];omega,by simp[h2],?_⟩;refine List.Perm.trans ?_ h3;rw[MT,M1 b,OQ];have p1:(L[z.toNat]::L.eraseIdx z.toNat).Perm L:=pP L z.toNat b;have p2:(L.eraseIdx z.toNat++(M++[L[z.toNat]])).Perm ((L[z.toNat]::L.eraseIdx z.toNat)++M):=by rw[<-O4];exact (List.perm_append_singleton _ _)
  exact p2.trans (p1.append_right M)
theorem yx(ns:List Int)(a:Int)(many:Nat):cN many (pE ns a many):=by
 obtain⟨h1,h2,h3⟩:=qL ns a many many (My _);unfold pE;have e:(eC ns a many many).1=[]:=O9.mp (by omega);rw[e,Nn]at h3;refine⟨h2,λr b=>?_,h3.nodup_iff.mpr ?_⟩
 ·obtain⟨k,c,rfl⟩:=MM.mp (h3.mem_iff.mp b);have:=NV.mp c;omega
 ·exact (List.nodup_range).map (f:=λ(i:Nat)=>(i:Int)) λx y h=>by intro q;have q:(x:Int)=(y:Int):=q;exact h (by omega)
def cj:Gf
 |[s,.int a,.int many]=>(match fB s with
  |some ns=>if 0<=a/\0<=many/\many<=100 then .ok (ak (pE ns a many.toNat)) else .no
  |none=>.no)
 |_=>.no
theorem jT{a:Int}(h1:0<=a)(h2:0<=many)(h3:many<=100):cj [aj ns,.int a,.int many]=.ok (ak (pE ns a many.toNat)):=by unfold cj;simp[fR,h1,h2,h3]
theorem BB(ns:List Int)(a:Int)(n i:Nat)(L M:List Int)(ha:0<=a)(hL:0<(L.length:Int))(hL2:L.length<=100)(hM:M.length<=100) :
   jE 4 3 (au ao #[34]) [some (aj ns),some (.int a),some (.int (n:Int)),some (.list (L.map .int)),some (.list (M.map .int)),some (.int (0+(i:Int)))]
  =.nx [some (aj ns),some (.int a),some (.int (n:Int)),some (.list ((L.eraseIdx (mixed ns (a+(i:Int)) (L.length:Int)).toNat).map .int)),some (.list ((M++[L.getD (mixed ns (a+(i:Int)) (L.length:Int)).toNat 0]).map .int)),some (.int (0+(i:Int)))]:=by
 have b:=cW (ns:=ns) (k:=a+(0+(i:Int))) (many:=(L.length:Int)) (by omega) hL;have g:=c7 ns (a+(i:Int)) hL;have m1:=dw ns (a+(i:Int)) hL;rw[show a+(0+(i:Int))=a+(i:Int) by omega]at b;generalize mixed ns (a+(i:Int)) (L.length:Int)=z at *;have f:z.toNat<L.length:=by omega
 have h:au ao #[34] [some (aj ns),some (.int a),some (.int (n:Int)),some (.list (L.map .int)),some (.list (M.map .int)),some (.int (0+(i:Int)))]=.ok (.int z):=by simp only[bK,aA,aJ,bR,fQ,aq,aw,Rs.ag,e9,Rs.ai,lN,M6];rw[show a+(0+(i:Int))=a+(i:Int) by omega];exact b
 have c:ixN (L.map PyData.int).length z=some z.toNat:=by unfold ixN;rw[if_pos g,if_pos (by rw[M6];omega)]
 have e:(L.map PyData.int)[z.toNat]?=some (.int (L.getD z.toNat 0)):=by rw[MP,M1 f,MT,M1 f];rfl
 unfold jE;simp only[NT,NU,h,aB];rw[if_pos (by refine⟨by omega,by omega,?_⟩;rw[M6];omega)];simp only[c,e,Ow,Ox,Nk,M5,Nw];rw[tR]
theorem BF(ns:List Int)(a:Int)(n i:Nat)(ha:0<=a)(hi:i<n)(hn:n<=100) :
   jE 4 3 (au ao #[34]) [some (aj ns),some (.int a),some (.int (n:Int)),some (.list ((eC ns a n i).1.map .int)),some (.list ((eC ns a n i).2.map .int)),some (.int (0+(i:Int)))]
  =.nx [some (aj ns),some (.int a),some (.int (n:Int)),some (.list ((eC ns a n (i+1)).1.map .int)),some (.list ((eC ns a n (i+1)).2.map .int)),some (.int (0+(i:Int)))]:=by
 obtain⟨h1,h2,h3⟩:=qL ns a n i (by omega);simp only[eC];exact BB ns a n i _ _ ha (by omega) (by omega) (by omega)
theorem rk1(ns:List Int)(a:Int)(n:Nat)(hm2:(n:Int)<=100):eu [3,4] 3 (gLR #[28]) [some (aj ns),some (.int a),some (.int (n:Int)),none,none,none]=.nx [some (aj ns),some (.int a),some (.int (n:Int)),some (.list ((eC ns a n 0).1.map .int)),none,none]:=by
 have b:gLR #[28] (mask [3,4] [some (aj ns),some (.int a),some (.int (n:Int)),none,none,none])=.ok (bG 0 n):=by simp only[Ly,aA,aJ,aM (show 2∉[3,4] by decide),aq,aw,Rs.ag];unfold uT;simp only;rw[if_pos (by omega),N7]
 have c:(eC ns a n 0).1.map PyData.int=bG 0 n:=by
  simp only[eC,bG,N4];refine MY λk _=>?_
  simp
 rw[c];unfold eu;rw[b,if_pos (by simp)];simp only[aB,Ow,Ox]
theorem rk2(ns:List Int)(a:Int)(n:Nat):eu [3,4] 4 ah [some (aj ns),some (.int a),some (.int (n:Int)),some (.list ((eC ns a n 0).1.map .int)),none,none]=.nx [some (aj ns),some (.int a),some (.int (n:Int)),some (.list ((eC ns a n 0).1.map .int)),some (.list ((eC ns a n 0).2.map .int)),none]:=by unfold eu;rw[if_pos (by simp)];simp only[aJ,aB,Ow,Ox];rfl
theorem rk3(ns:List Int)(a:Int)(n:Nat)(hm2:(n:Int)<=100):fh #[28] (mask [3,4] [some (aj ns),some (.int a),some (.int (n:Int)),some (.list ((eC ns a n 0).1.map .int)),some (.list ((eC ns a n 0).2.map .int)),none])=.ok (bG 0 n):=by have hv:af (ae 2) ah (mask [3,4] [some (aj ns),some (.int a),some (.int (n:Int)),some (.list ((eC ns a n 0).1.map .int)),some (.list ((eC ns a n 0).2.map .int)),none])=.ok [.int (n:Int)]:=rfl;have b:=jK (j:=(n:Int)) (Ob n) (by omega);rw[N7]at b;rw[l5,hv,Rs.ag,b]
theorem wm(cs:Cs):LLq (iH cs ao) 3 3 cj:=by
 intro ds hl b;obtain⟨s,a,many,l,j⟩:=pB b;clear b;subst l;have b:=j;clear j
 ·skip
  split at b
  ·rename_i ns m;have es:=iG m;subst es;split at b
   ·rename_i hc;obtain⟨ha,hm,c⟩:=hc;rw[jT ha hm c];obtain⟨n,rfl⟩:∃n:Nat,many=(n:Int):=⟨many.toNat,by omega⟩
    rw[N7];show bo (iH cs ao [some (aj ns),some (.int a),some (.int (n:Int)),none,none,none])=_;have o:=rk1 ns a n c;have s2:=rk2 ns a n;have src:=rk3 ns a n c;obtain⟨δ',e,x5,f⟩:=jz (β:=Unit) (tgt:=aU 5) (body:=jE 4 3 (au ao #[34]))
     (λi δ=>∃x5,δ=[some (aj ns),some (.int a),some (.int (n:Int)),some (.list ((eC ns a n i).1.map .int)),some (.list ((eC ns a n i).2.map .int)),x5])
     (bG 0 n) 0 (λi d δ hi g=>by obtain⟨x5,p⟩:=g;subst p;rw[Nl]at *;obtain⟨h,rfl⟩:=fU hi;refine⟨[some (aj ns),some (.int a),some (.int (n:Int)),some (.list ((eC ns a n i).1.map .int)),some (.list ((eC ns a n i).2.map .int)),some (.int (0+(i:Int)))],_,rfl,?_,some (.int (0+(i:Int))),rfl⟩;exact BF ns a n i ha h (by omega)) [some (aj ns),some (.int a),some (.int (n:Int)),some (.list ((eC ns a n 0).1.map .int)),some (.list ((eC ns a n 0).2.map .int)),none] ⟨none,rfl⟩
    subst f;rw[Nl,dg]at e;simp only[iH];rw[aT,o];simp only;rw[aT,s2];simp only;rw[aT,jj,src,aB,e];simp only;simp only[cq,fQ,aA,aJ,aq,aw,Rs.ag,Dx,Rs.ai,aB,bx];rfl
   ·exact absurd rfl b
  ·exact absurd rfl b
def hvM(every late:Int):Int->List Int->Bool
 |_,[]=>true
 |m,c::r=>if c<(if c-late>m then c-late else m) then false else hvM every late ((if c-late>m then c-late else m)+every) r
def hvE(e:Er)(ns:List Int):Bool:=hvM e.every e.late (0-e.late) ns
def bY:Gf
 |[d,.list xs]=>if vW d then (match gP xs with|some ns=>.ok (.bool (hvE (deE d) ns))|none=>.no) else .no
 |_=>.no
theorem ie{e:Er}(h:e.Sh):bY [e.d,.list #[20]]=.ok (.bool (hvE e ns)):=by unfold bY;simp only[pH h,if_true,ft,Ap]
def hvB:Ds->Sr:=(ay (aN [] 6 (gF gr (af (ae 4) (af (g2 eM (ae 5) (ae 3)) ah))))
 (ay (sIf (gT (g2 dGt (ae 6) (ae 5))) #[16] aV)
 (aN [] 4 (g2 aW (ae 6) (ae 2)))))
theorem zW(E L:PyData)(every late:Int):∀(ns:List Int)(m:Int)(x5 x6:Option PyData),
   (hvM every late m ns=true/\∃δ,forL (aU 5) hvB #[20] [some E,some L,some (.int every),some (.int late),some (.int m),x5,x6]=.nx δ)
  \/(hvM every late m ns=false/\forL (aU 5) hvB #[20] [some E,some L,some (.int every),some (.int late),some (.int m),x5,x6]=.rt (.bool false))
 |[],m,x5,x6=>.inl ⟨rfl,_,rfl⟩
 |c::r,m,x5,x6=>by
   have h1:aU 5 (.int c) [some E,some L,some (.int every),some (.int late),some (.int m),x5,x6]=some [some E,some L,some (.int every),some (.int late),some (.int m),some (.int c),x6]:=rfl;rw[M5];unfold forL;rw[h1];unfold hvM;by_cases hc:c<(if c-late>m then c-late else m)
   ·have a:hvB [some E,some L,some (.int every),some (.int late),some (.int m),some (.int c),x6]=.rt (.bool false):=by simp[hvB,hc]
    refine .inr ⟨if_pos hc,?_⟩;simp only[a]
   ·have a:hvB [some E,some L,some (.int every),some (.int late),some (.int m),some (.int c),x6]=.nx [some E,some L,some (.int every),some (.int late),some (.int ((if c-late>m then c-late else m)+every)),some (.int c),some (.int (if c-late>m then c-late else m))]:=by simp[hvB,hc]
    rw[if_neg hc];simp only[a];exact zW E L every late r _ _ _
theorem Cy{f:PyData->List PyData->Rs PyData}(h:(match ds with|[a,.list x1]=>f a x1|_=>.no)≠.no):∃a x1,ds=[a,.list x1]/\f a x1≠.no:=by
 rcases ds with _|⟨a,_|⟨x1,_|⟨y,ys⟩⟩⟩
 ·exact absurd rfl h
 ·exact absurd rfl h
 ·skip
  cases x1 with
  |list x1 =>exact⟨_,_,rfl,h⟩
  |_=>exact absurd rfl h
 ·first|exact absurd rfl h|(cases x1 <;> exact absurd rfl h)
theorem pT(cs:Cs):LLq (fI cs) 2 5 bY:=by
 intro ds hl a;obtain⟨d,xs,g,f⟩:=Cy a;clear a;subst g;have a:=f;clear f
 ·skip
  split at a
  ·rename_i hd;split at a
   ·rename_i ns h;have b:=fk h;subst b;obtain⟨e1,sh⟩:=vV hd;rw[<-e1,ie sh];generalize deE d=e at *;show bo (fI cs [some e.d,some (.list #[20]),none,none,none,none,none])=_;unfold fI;have a0:dIx e.d (.int 0)=some (.int e.every):=rfl;have a2:dIx e.d (.int 2)=some (.int e.late):=rfl;simp only[aT,jF,bR,aq,aw,cJ,Rs.ag,a0,a2,Rs.ai,aB,oE];have i:=zW e.d (.list #[20]) e.every e.late ns (0-e.late) none none;have j:cA [] (bh (ae 1)) (aU 5) hvB [some e.d,some (.list #[20]),some (.int e.every),some (.int e.late),some (.int (0-e.late)),none,none]=forL (aU 5) hvB #[20] [some e.d,some (.list #[20]),some (.int e.every),some (.int e.late),some (.int (0-e.late)),none,none]:=rfl;show bo (match cA [] (bh (ae 1)) (aU 5) hvB [some e.d,some (.list #[20]),some (.int e.every),some (.int e.late),some (.int (0-e.late)),none,none] with|.nx c=>bf (gC (.bool true)) c|r=>r)=_;rw[j];rcases i with⟨h1,δ,h2⟩|⟨h1,h2⟩
    ·rw[h2];show Rs.ok _=_;unfold hvE;rw[h1]
    ·rw[h2];show Rs.ok _=_;unfold hvE;rw[h1]
   ·exact absurd rfl a
  ·exact absurd rfl a
structure rG(ns:List Int):Prop where
 few:ns.length<=60
 lo:∀c∈ns,0<=c
 hi:∀c∈ns,c<=9999
def qc(ns:List Int):Bool:=decide (ns.length<=60)&&ns.all λc=>decide (0<=c)&&decide (c<=9999)
theorem sV:qc ns=true↔rG ns:=by
 unfold qc;rw[M9,decide_eq_true_eq,MX];constructor
 ·rintro⟨h1,h2⟩
  refine⟨h1,λc hc=>?_,λc hc=>?_⟩
  ·have:=h2 c hc;rw[M9,decide_eq_true_eq,decide_eq_true_eq]at this;exact this.1
  ·have:=h2 c hc;rw[M9,decide_eq_true_eq,decide_eq_true_eq]at this;exact this.2
 ·rintro⟨h1,h2,h3⟩
  refine⟨h1,λc hc=>?_⟩;rw[M9,decide_eq_true_eq,decide_eq_true_eq];exact⟨h2 c hc,h3 c hc⟩
def dG:Gf
 |[d,.list xs]=>if vW d then (match gP xs with|some ns=>if qc ns then .ok (.bool (hvE (deE d) ns)) else .no|none=>.no) else .no
 |_=>.no
theorem mh{e:Er}(h:e.Sh)(a:rG ns):dG [e.d,.list #[20]]=.ok (.bool (hvE e ns)):=by unfold dG;simp only[pH h,if_true,ft,Ap,sV.mpr a]
theorem jW(ns:List Int):aF (.list #[20])=true:=by
 induction ns with
 |nil=>rfl
 |cons a r ih =>
  have:aF (.list (PyData.int a::r.map PyData.int))=aF (.list (r.map PyData.int)):=by simp[aF,df]
  rw[M5,this];exact ih
theorem DE(cs:Cs):LLq (lV cs aO bY) 2 0 dG:=by
 intro ds hl a;obtain⟨d,xs,i,g⟩:=Cy a;clear a;subst i;have a:=g;clear g
 ·skip
  split at a
  ·rename_i hd;split at a
   ·rename_i ns j;split at a
    ·rename_i l;have f:=fk j;subst f;obtain⟨e1,sh⟩:=vV hd;have R:=sV.mp l;rw[<-e1,mh sh R];generalize deE d=e at *;show bo (lV cs aO bY [some e.d,some (.list #[20])])=_;have m:lu "list" (.list #[20])=some (.bool true):=by unfold lu;rw[if_pos (jW ns)];rfl
     have hc:aX 2 (bh (ae 1)) bJ (au aO (af (ae 2) (af #[1] (af (gC (.int 9999)) ah)))) aG [some e.d,some (.list #[20])]=.ok (#[20].map λd=>.bool (isWhole d 0 9999)) :=
      ej rfl rfl (by have:=R.few;rw[M6];omega) λd b=>by obtain⟨c,hc,rfl⟩:=MM.mp b;simp only[bK,aA,aJ,Nv,Nn,aq,aw,cJ,Rs.ag];exact vF rfl
     have h:=i9 (λd=>isWhole d 0 9999) #[20];have ha:(ns.map PyData.int).all (λd=>isWhole d 0 9999)=true:=by rw[MX];intro d b;obtain⟨c,hc,rfl⟩:=MM.mp b;have h1:=R.lo c hc;have h2:=R.hi c hc;simp[isWhole,h1,h2]
     rw[ha]at h;have hn:¬ ((60:Int)<(#[20].length:Int)):=by have:=R.few;rw[M6];omega
     unfold lV;simp only[aT,cK,Ao,rC,dE,gH,bR,fQ,aA,aJ,aq,aw,cJ,Rs.ag,m,Rs.ai,bB,lN,GB,Bool.not_true,N2,if_false,decide_eq_false hn,aB,fX,cq,xW,nV,hc,h,bK,ie sh,if_true,bx]
    ·exact absurd rfl a
   ·exact absurd rfl a
  ·exact absurd rfl a
inductive Fa2 {α β:Type} (R:α->β->Prop):List α->List β->Prop where
 |nil:Fa2 R [] []
 |cons {a:α} {b:β} {l:List α} {m:List β} (h:R a b) (t:Fa2 R l m):Fa2 R (a::l) (b::m)
theorem DD(es:List Er)(t:Int):∀(rs:List Int)(k:Int)(j:Nat),(∃h,hts es rs k t=some h/\h<=k+j)↔∃m∈rs.take (j+1),(bZ es m).has t=true
 |[],k,j=>by simp[hts]
 |r::rs,k,j=>by
  unfold hts;rw[O8];by_cases hr:(bZ es r).has t=true
  ·rw[if_pos hr];exact⟨λ_=>⟨r,M7,hr⟩,λ_=>⟨k,rfl,by omega⟩⟩
  ·rw[if_neg hr];cases j with
   |zero =>
    have lo:∀(rs:List Int)(k:Int) h,hts es rs k t=some h->k<=h:=by
     intro rs
     induction rs with
     |nil=>intro k h e;cases e
     |cons a l c =>
      intro k h e;unfold hts at e;split at e
      ·cases e;exact NN _
      ·have:=c _ _ e;omega
    constructor
    ·rintro⟨h,e,hl⟩
     have:=lo rs (k+1) h e;omega
    ·rintro⟨m,hm,b⟩
     simp at hm;subst hm;exact absurd b hr
   |succ j =>
    have c:=DD es t rs (k+1) j;constructor
    ·rintro⟨h,e,hl⟩
     obtain⟨m,hm,b⟩:=c.mp ⟨h,e,by omega⟩;exact⟨m,M3 _ hm,b⟩
    ·rintro⟨m,hm,b⟩
     rcases M8.mp hm with z|z
     ·rw[z]at b;exact absurd b hr
     ·obtain⟨h,e,hl⟩:=c.mpr ⟨m,z,b⟩;exact⟨h,e,by omega⟩
section
variable {A B:List Int}{x y:Int}
end
theorem tY{n:Int}(h:n∈rs):rs[placeOf rs n]?=some n:=by have lt:=qS h;rw[M1 lt];have a:(rs[placeOf rs n]==n)=true:=List.findIdx_getElem (p:=(·==n)) (xs:=rs) (w:=lt);rw[beq_iff_eq.mp a]
section
variable {ot:List Int}{n:Int}
end
theorem oa:∀{ds:List PyData},(∀d∈ds,aF d=true)->df ds=true
 |[],_=>by unfold df;rfl
 |d::r,h=>by unfold df;rw[h d M7,oa λe a=>h e (M3 _ a)];rfl
theorem ib(h:∀d∈ds,aF d=true):aF (.tuple ds)=true:=by unfold aF;exact oa h
theorem fo(h:∀d∈ds,aF d=true):aF (.list ds)=true:=by unfold aF;exact oa h
theorem hU(i:Int):aF (.int i)=true:=by unfold aF;rfl
theorem sP(o:Option Int):aF (bg o)=true:=by cases o <;> (unfold bg aF;rfl)
theorem yc(p:Int×Option Int):aF (aI p)=true:=ib λd hd=>by
 rcases M8.mp hd with rfl|hd
 ·exact hU _
 ·cases MR.mp hd;exact sP _
theorem D3(e:Er):aF e.d=true:=ib λd hd=>by
 rcases M8.mp hd with rfl|hd
 ·exact hU _
 ·rcases M8.mp hd with rfl|hd
  ·exact hU _
  ·rcases M8.mp hd with rfl|hd
   ·exact hU _
   ·cases MR.mp hd;exact ib λd hd=>by obtain⟨p,_,rfl⟩:=MM.mp hd;exact yc p
theorem sM(es:List Er):aF (ar es)=true:=ib λd hd=>by obtain⟨p,_,rfl⟩:=MM.mp hd;exact D3 p
theorem lP(rs:List Int):∀d∈rs.map PyData.int,aF d=true:=λd hd=>by obtain⟨p,_,rfl⟩:=MM.mp hd;exact hU p
theorem qQ(rs:List Int):aF (ak rs)=true:=ib (lP rs)
end RS
namespace RS
open PySem PySem.Spec PyProof.Rows L2
section
theorem vA{xs:List α}{k:Int}{v:α}(a:0<=k)(h:xs[k.toNat]?=some v):atI xs k=some v:=by
 have:=pC h
 rwa[O7 a]at this
theorem depthAll_ints:∀ns:List Int,PyData.depthAll #[20]<=1
 |[]=>by simp[PyData.depthAll]
 |n::r=>by have:=depthAll_ints r;simp only[M5,PyData.depthAll,PyData.depth];omega
theorem oC:∀ns:List Int,PyData.canLayAll0 #[20]=true
 |[]=>by simp[PyData.canLayAll0]
 |n::r=>by simp[PyData.canLayAll0,PyData.canLay0,oC r]
theorem shaped_ints(ns:List Int):SeqAt.shaped (.list #[20])=true:=by
 have:=depthAll_ints ns;have h2:(PyData.list #[20]).depth<=64:=by simp only[PyData.depth];omega
 simp[SeqAt.shaped,PyData.canLay0,oC,h2]
theorem xY:SeqAt.shaped (.list [])=true:=shaped_ints []
theorem Cd:∀ns:List Int,PyData.eqv (.list #[20]) (.list [])=decide (ns=[])
 |[]=>by simp[PyData.eqv,PyData.eqvAll]
 |_::_=>by simp[PyData.eqv,PyData.eqvAll]
def C9(K:W.Frag):Sp:=λvs H Q _=>∃(a:Addr)(ns:List Int)(k:Int),vs=[.ref a,.int k]/\SqL K H a (ns.map V.int)/\0<=k/\∀H',ax H H'->Q (.int (cellAt ns k)) H'
def HD(K:W.Frag):Sp:=λvs H Q _=>∃(a:Addr)(ns:List Int)(k many:Int),vs=[.ref a,.int k,.int many]/\SqL K H a (ns.map V.int)/\0<=k/\0<many/\∀H',ax H H'->Q (.int (mixed ns k many)) H'
theorem Gn(ds:List PyData)(hl:ds.length=3)(b:ao ds≠.no):∃d,ao ds=.ok d/\gm d=true/\∀vs H Q,Iss K H ds vs->(∀v H',ax H H'->IsD K H' d v->Q v H')->HD K vs H Q E0:=by
 obtain⟨s,k,many,e,c⟩:=pB b;clear b;subst e;have b:=c;clear c
 ·skip
  split at b
  ·rename_i ns f;have es:=iG f;subst es;split at b
   ·rename_i hc;refine⟨_,cW hc.1 hc.2,rfl,λvs H Q hi g=>?_⟩;obtain⟨v0,r0,rfl,h,v1,r1,rfl,h1,v2,r2,rfl,h2,rfl⟩:=hi;obtain⟨a,rfl,i⟩:=h.ofScript;rw[h1.ofInt,h2.ofInt];exact⟨a,ns,k,many,rfl,i,hc.1,hc.2,λH' s'=>g _ _ s' ur⟩
   ·exact absurd rfl b
  ·exact absurd rfl b
end
end RS
namespace RS
open PySem L2
def okIn(d r:PyData):Bool:=dD d&&dQ (dJ d).length r
def okN(d r:PyData)(n:Int):Bool:=okIn d r&&decide (0<=n)&&decide (n<(dJ d).length)
section
variable {n:Int}
theorem G8(h1:1<=es.length)(h2:es.length<=6)(h:∀e∈es,e.Ok)(a:cN es.length rs):okIn (ar es) (ak rs)=true:=by unfold okIn;rw[mS h1 h2 h,jw,fP a];rfl
theorem Iv(h1:1<=es.length)(h2:es.length<=6)(h:∀e∈es,e.Ok)(a:cN es.length rs)(n0:0<=n)(n1:n<es.length):okN (ar es) (ak rs) n=true:=by unfold okN;rw[G8 h1 h2 h a,jw];simp[n0,n1]
end
theorem oA{cond:Ds->Rs Bool}{elt:Ds->Rs PyData}{δ:Ds}{p:PyData->Bool}:∀(ds:List PyData),(∀d∈ds,cond (δ++[some d])=.ok (p d)/\elt (δ++[some d])=.ok d)->eI cond elt aG δ ds=.ok (ds.filter p)
 |[],_=>rfl
 |d::r,h=>by
  obtain⟨h1,h2⟩:=h d M7;have a:=oA r λe b=>h e (M3 _ b)
  unfold eI;cases hp:p d with
  |true=>simp only[aG,h1,hp,Rs.cQ,Rs.ag,if_true,h2,a,Nd]
  |false=>simp only[aG,h1,hp,Rs.cQ,Rs.ag,if_false,N2,a,Nd]
theorem jn{elt:Ds->Rs PyData}{p:PyData->Bool}(hn:δ.length=n0)(a:src δ=.ok ds)(hl:ds.length<=1000000)(h:∀d∈ds,cond (δ++[some d])=.ok (p d)/\elt (δ++[some d])=.ok d) :
  aX n0 src cond elt aG δ=.ok (ds.filter p):=by
 unfold aX;rw[if_pos hn,a];simp only[Rs.ag,if_pos hl];exact oA ds h
theorem EC(ns:List Int)(a top:Int)(ha:0<=a)(g:0<top)(b:top<=58):∃es rs,pk ns a 4 top true=es/\1<=es.length/\es.length<=4/\(∀e∈es,e.Ok)/\cN es.length rs/\bE [aj ns,.int a,.int 4,.int top,.bool true]=.ok (ar es)/\cj [aj ns,.int 0,.int (es.length:Int)]=.ok (ak rs):=by have hl:=EJ ns a 4 top true #[2];have hok:=Fw ns a 4 top true g b;have f:bE [aj ns,.int a,.int 4,.int top,.bool true]=.ok (ar (pk ns a 4 top true)):=iJ ha #[2] #[2] g b;generalize pk ns a 4 top true=es at *;have c:=jT (ns:=ns) (a:=0) (many:=(es.length:Int)) #[2] (by omega) (by omega);rw[N7]at c;exact⟨es,_,rfl,hl.1,by omega,hok,yx ns 0 es.length,f,c⟩
theorem KP(es:List Er):bS [ar es]=some (.int (es.length:Int)):=by unfold ar;rw[rJ,M6]
theorem lawT_of{G:Ds->Sr}{k:Nat}(h:∀ns:List Int,G (some (aj ns)::List.replicate k none)=.rt (.bool true)):∀ds,ds.length=1->f9 n ds≠.no->bo (G (ds.map some++List.replicate k none))=f9 n ds:=by
 intro ds hl a
 match ds,hl with
 |[s],_ =>
  unfold f9 at a ⊢;simp only at a ⊢;split at a
  ·rename_i ns b;have es:=iG b;subst es;split at a
   ·rename_i hc;simp only[fR,if_pos hc];show bo (G (some (aj ns)::List.replicate k none))=_;rw[h];rfl
   ·exact absurd rfl a
  ·exact absurd rfl a
def bz(cs:Cs):Gf
 |[.tuple es,x]=>if aF x then (if isWhole x 0 ((es.length:Int)-1) then .ok x else .rz cs.NoErrand) else .no
 |_=>.no
theorem nY(cs:Cs):LLq (eZ cs aO) 2 0 (bz cs):=by
 intro ds hl a;obtain⟨es,x,c,b⟩:=DR a;clear a;subst c;have a:=b;clear b;unfold bz
 ·skip
  split at a
  ·rename_i hd;simp only[hd,if_true];cases e:isWhole x 0 ((es.length:Int)-1) with
   |true=>simp[eZ,hd,e]
   |false=>simp[eZ,hd,e]
  ·exact absurd rfl a
theorem BN{d r:PyData}{n:Int}(h:okN d r n=true):∃es rs,d=ar es/\r=ak rs/\dJ d=es/\de r=rs/\1<=es.length/\es.length<=6/\(∀e∈es,e.Ok)/\cN es.length rs/\0<=n/\n<es.length:=by unfold okN okIn at h;simp only[M9,decide_eq_true_eq]at h;obtain⟨⟨⟨c1,a⟩,n0⟩,n1⟩:=h;obtain⟨e1,l1,l6,hok⟩:=xQ c1;obtain⟨e2,b⟩:=kx a;exact⟨dJ d,de r,e1.symm,e2.symm,rfl,rfl,l1,l6,hok,b,n0,n1⟩
theorem iR(cs:Cs)(h1:1<=es.length)(h2:es.length<=6)(h:∀e∈es,e.Ok):bt cs [ar es]=.ok (ar es):=by unfold bt;simp[sM,mS h1 h2 h]
theorem gO(cs:Cs)(h2:es.length<=6)(a:cN es.length rs):aY cs [ar es,ak rs]=.ok (ak rs):=by unfold ar aY;simp only[M6,qQ,fP a,OD,if_true];rw[if_pos (by simp;omega)]
theorem ki{n:Int}(cs:Cs)(n0:0<=n)(n1:n<es.length):bz cs [ar es,.int n]=.ok (.int n):=by unfold ar bz;simp only[hU,if_true,M6,isWhole];rw[if_pos (by simp;omega)]
def bW:Gf
 |[d,r,.int n]=>if okN d r n then .ok .none else .no
 |_=>.no
theorem ix{n:Int}(h1:1<=es.length)(h2:es.length<=6)(h:∀e∈es,e.Ok)(a:cN es.length rs)(n0:0<=n)(n1:n<es.length):bW [ar es,ak rs,.int n]=.ok .none:=by unfold bW;simp only[Iv h1 h2 h a n0 n1,if_true]
theorem sq(cs:Cs):LLq (fV cs (bz cs) (aY cs) (bt cs)) 3 0 bW:=by
 intro ds hl a;obtain⟨d,r,n,e,b⟩:=uY a;clear a;subst e;have a:=b;clear b
 ·skip
  split at a
  ·rename_i hc;obtain⟨es,rs,rfl,rfl,_,_,l1,l6,hok,c,n0,n1⟩:=BN hc;rw[ix l1 l6 hok c n0 n1];show bo (fV cs (bz cs) (aY cs) (bt cs) [some (ar es),some (ak rs),some (.int n)])=_;simp[fV,iR cs l1 l6 hok,gO cs l6 c,ki cs n0 n1]
  ·exact absurd rfl a
noncomputable def dH(r:List Int):PyData:=.list (r.map PyData.int)
def cmD(rows:List (List Int)):PyData:=.list (rows.map dH)
inductive Cms:List Er->List (List Int)->Prop
 |nil:Cms [] []
 |cons {e:Er} {r:List Int} {es:List Er} {rows:List (List Int)}:rG r->hvE e r=true->Cms es rows->Cms (e::es) (r::rows)
theorem Cms.len(h:Cms es rows):rows.length=es.length:=by
 induction h with
 |nil=>rfl
 |cons _ _ _ ih=>simp[ih]
theorem Cms.qc(h:Cms es rows):∀r∈rows,rG r:=by
 induction h with
 |nil=>intro r a;cases a
 |cons a _ _ ih =>
  intro b h';rcases M8.mp h' with rfl|h'
  ·exact a
  ·exact ih b h'
structure yt(es:List Er):Prop where
 l1:1<=es.length
 l6:es.length<=6
 ok:∀e∈es,e.Ok
open Classical in
def bu(cs:Cs):Gf:=λds=>if ∃es rows,yt es/\Cms es rows/\ds=[ar es,cmD rows] then .ok (ds.getD 1 .none) else .no
theorem fL(h:yt es)(c:Cms es rows):bu cs [ar es,cmD rows]=.ok (cmD rows):=by unfold bu;rw[if_pos ⟨es,rows,h,c,rfl⟩];rfl
theorem Ez{δ:Ds}(f:δ.length=2):∀{es:List Er}{rows:List (List Int)},Cms es rows->(∀e∈es,e.Sh)->eI bJ (au dG (af (ae 2) (af (ae 3) ah))) kA δ (sj (es.map Er.d) (rows.map dH))=.ok (rows.map λ_=>.bool true)
 |_,_,.nil,_=>rfl
 |_,_,.cons (e:=e) (r:=r) (es:=es) (rows:=rows) hr hv c,hs=>by
  obtain⟨a,b,rfl⟩:∃a b,δ=[a,b]:=by
   match δ,f with
   |[a,b],_=>exact⟨a,b,rfl⟩
  have g:=Ez f c λx h=>hs x (M3 _ h)
  show eI _ _ _ _ (PyData.tuple [e.d,dH r]::sj (es.map Er.d) (rows.map dH))=_;unfold eI;rw[show kA (PyData.tuple [e.d,dH r])=some [some e.d,some (dH r)] from rfl];have i:au dG (af (ae 2) (af (ae 3) ah)) ([a,b]++[some e.d,some (dH r)])=.ok (.bool true):=by simp only[bK,aA,aJ,Nv,Nn,aq,aw,Rs.ag];rw[show dH r=.list (r.map PyData.int) from rfl,mh (hs e M7) hr,hv]
  simp only[bJ,Rs.cQ,Rs.ag,if_true,i,g,M5]
theorem qZ(rows:List (List Int)):aF (cmD rows)=true:=by
 unfold cmD
 induction rows with
 |nil=>rfl
 |cons a r ih =>
  have h1:=jW a;have:aF (.list (dH a::r.map dH))=(aF (dH a)&&aF (.list (r.map dH))):=by simp[aF,df]
  rw[M5,this,ih];simp only[Oa];exact h1
theorem l8(cs:Cs):LLq (eG cs dG (bt cs)) 2 0 (bu cs):=by
 intro ds hl a;by_cases h:∃es rows,yt es/\Cms es rows/\ds=[ar es,cmD rows]
 ·obtain⟨es,rows,ok,c,rfl⟩:=h;rw[fL ok c];have k1:=iR cs ok.l1 ok.l6 ok.ok;have j:lu "list" (cmD rows)=some (.bool true):=by unfold lu;rw[if_pos (qZ rows)];rfl
  have hn:dNe (.int ((rows.map dH).length:Int)) (.int ((es.map Er.d).length:Int))=some (.bool false):=by have:=c.len;rw[M6,M6,this,HC];simp
  have l:aX 2 (GH #[21]) bJ (au dG (af (ae 2) (af (ae 3) ah))) kA [some (ar es),some (cmD rows)]=.ok (rows.map λ_=>.bool true):=by
   unfold aX;rw[if_pos (show [some (ar es),some (cmD rows)].length=2 from rfl)];have m:GH #[21] [some (ar es),some (cmD rows)]=.ok (sj (es.map Er.d) (rows.map dH)):=by show (if (rows.map dH).length=(es.map Er.d).length then Rs.ok (sj (es.map Er.d) (rows.map dH)) else Rs.no)=_;exact if_pos (by rw[M6,M6];exact c.len)
   rw[m];simp only[Rs.ag];rw[if_pos (by unfold sj;rw[List.length_zipWith,M6,M6];have:=ok.l6;omega)];exact Ez rfl c λe n=>(ok.ok e n).sh
  have i:=i9 (λ_:List Int=>true) rows;have ha:rows.all (λ_=>true)=true:=by rw[MX];intros;rfl
  rw[ha]at i;have b:aX 2 (bh (ae 1)) bJ (gF xo #[28]) aG [some (ar es),some (cmD rows)]=.ok ((rows.map dH).map id) :=
   ej rfl rfl (by have:=c.len;have:=ok.l6;rw[M6];omega) λd f=>by obtain⟨r,hr,rfl⟩:=MM.mp f;rfl
  show bo (eG cs dG (bt cs) [some (ar es),some (cmD rows)])=_;unfold eG;have g:bS [cmD rows]=some (.int ((rows.map dH).length:Int)):=rfl;have hle:bS [ar es]=some (.int ((es.map Er.d).length:Int)):=rfl;simp only[aT,u5,bK,aA,aJ,aq,aw,Rs.ag,k1,aB,cK,Ao,rC,dE,gH,bR,fQ,j,Rs.ai,bB,g,hle,hn,Bool.not_true,N2,if_false,fX,nV,l,i,cq,b,NA,bx];rfl
 ·exfalso;apply a;unfold bu;rw[if_neg h]
structure Jb where
 num:Int
 parts:List #[25]
 rank:Int
 row:List Int
 job:Nat
 part:Nat
 spent:Nat
variable {p q:Addr×Jb}{s:List Jb×List PyData}{j:Jb}{ts:List (Addr×Jb)}{js:List Jb}{key:Jb->PyData}
def Jb.fds(j:Jb):List (Str×PyData):=[("number",.int j.num),("parts",.tuple (j.parts.map aI)),("rank",.int j.rank),("row",dH j.row),("job",.int j.job),("part",.int j.part),("spent",.int j.spent)]
def Jb.d(C a:Addr)(j:Jb):PyData:=cB C a j.fds
theorem lq{f:Str}{r:List (Str×PyData)}(h:("@":Str)≠f):bc C f (cB C a r)=iA f (r.map λp=>(.str p.1,p.2)):=by show (if ("":Str)=""/\(C:Int)=(C:Int) then (if ("@":Str)=f then some (PyData.int (a:Int)) else iA f (r.map λp=>(.str p.1,p.2))) else none)=_;rw[if_pos ⟨rfl,rfl⟩,if_neg h]
section
theorem xJ:bc C "number" (j.d C a)=some (.int j.num):=by unfold Jb.d;rw[lq #[2]];rfl
theorem l9:bc C "parts" (j.d C a)=some (.tuple (j.parts.map aI)):=by unfold Jb.d;rw[lq #[2]];rfl
theorem pG:bc C "rank" (j.d C a)=some (.int j.rank):=by unfold Jb.d;rw[lq #[2]];rfl
theorem xF:bc C "row" (j.d C a)=some (dH j.row):=by unfold Jb.d;rw[lq #[2]];rfl
theorem uH:bc C "job" (j.d C a)=some (.int j.job):=by unfold Jb.d;rw[lq #[2]];rfl
theorem pO:bc C "part" (j.d C a)=some (.int j.part):=by unfold Jb.d;rw[lq #[2]];rfl
theorem kM:bc C "spent" (j.d C a)=some (.int j.spent):=by unfold Jb.d;rw[lq #[2]];rfl
end
def gfG(n k:Nat)(G:Ds->Sr):Gf:=λds=>if ds.length=n then bo (G (ds.map some++List.replicate k none)) else .no
theorem gy{k:Nat}{G:Ds->Sr}:∀ds,ds.length=n->gfG n k G ds≠.no->bo (G (ds.map some++List.replicate k none))=gfG n k G ds:=by intro ds hl _;unfold gfG;rw[if_pos hl]
def aZ(cs:Cs):Gf:=gfG 1 0 (dW cs)
def aL(cs:Cs):Gf:=gfG 1 0 (fc cs)
def aS(cs:Cs):Gf:=gfG 1 0 (gB cs)
def aQ(cs:Cs):Gf:=gfG 2 0 (dZ cs)
theorem vQ:aZ cs [j.d cs.Jobs a]=.ok (.bool ((j.job:Int)==(j.row.length:Int))):=by
 have hl:bS [dH j.row]=some (.int (j.row.length:Int)):=by unfold dH;rw[lN,M6]
 show bo (dW cs [some (j.d cs.Jobs a)])=_;unfold dW;simp only[cq,bR,gH,aq,Rs.ag,uH,xF,Rs.ai,fQ,aA,aJ,hl,je,aB,bx]
def Jb.tool(j:Jb):Option Int:=(j.parts[j.part]?.map (·.2)).getD none
theorem ui{p:Int×Option Int}(h:j.parts[j.part]?=some p):dIx (.tuple (j.parts.map aI)) (.int (j.part:Int))=some (aI p):=by rw[zF];exact pC (by rw[MP,h];rfl)
theorem part1(p:Int×Option Int):dIx (aI p) (.int 1)=some (bg p.2):=rfl
theorem sv(h:j.part<j.parts.length):aL cs [j.d cs.Jobs a]=.ok (bg (if j.spent=0 then j.tool else none)):=by
 show bo (fc cs [some (j.d cs.Jobs a)])=_;unfold fc;have b:j.parts[j.part]?=some j.parts[j.part]:=M1 h;have c:j.tool=j.parts[j.part].2:=by unfold Jb.tool;rw[b];rfl
 by_cases z:j.spent=0
 ·have e:((j.spent:Int)==0)=true:=by rw[z];rfl
  rw[if_pos z,c];simp only[cq,gIf,dE,bR,gH,aq,cJ,Rs.ag,kM,l9,pO,Rs.ai,je,e,bB,if_true,ui b,part1,aB,bx]
 ·have e:((j.spent:Int)==0)=false:=by rw[beq_eq_false_iff_ne];omega
  rw[if_neg z];simp only[cq,gIf,dE,bR,gH,aq,cJ,Rs.ag,kM,Rs.ai,je,e,bB,N2,if_false,aB,bx];rfl
theorem zU(h:j.part<j.parts.length):aS cs [j.d cs.Jobs a]=.ok (bg (if j.spent=0 then none else j.tool)):=by
 show bo (gB cs [some (j.d cs.Jobs a)])=_;unfold gB;have b:j.parts[j.part]?=some j.parts[j.part]:=M1 h;have c:j.tool=j.parts[j.part].2:=by unfold Jb.tool;rw[b];rfl
 by_cases z:j.spent=0
 ·have e:decide ((0:Int)<(j.spent:Int))=false:=by rw[z];rfl
  rw[if_pos z];simp only[cq,gIf,dE,bR,gH,aq,cJ,Rs.ag,kM,Rs.ai,GB,e,bB,N2,if_false,aB,bx];rfl
 ·have e:decide ((0:Int)<(j.spent:Int))=true:=by rw[decide_eq_true_eq];omega
  rw[if_neg z,c];simp only[cq,gIf,dE,bR,gH,aq,cJ,Rs.ag,kM,l9,pO,Rs.ai,GB,e,bB,if_true,ui b,part1,aB,bx]
def Jb.there(j:Jb)(t:Int):Bool:=match j.row[j.job]? with
 |some c=>decide (c<=t)
 |none=>false
theorem wL{t:Int}(h:j.job<=j.row.length):aQ cs [j.d cs.Jobs a,.int t]=.ok (.bool (j.there t)):=by
 have hl:bS [dH j.row]=some (.int (j.row.length:Int)):=by unfold dH;rw[lN,M6]
 show bo (dZ cs [some (j.d cs.Jobs a),some (.int t)])=_;unfold dZ Jb.there;by_cases z:j.job<j.row.length
 ·have b:j.row[j.job]?=some j.row[j.job]:=M1 z;have e:decide ((j.job:Int)<(j.row.length:Int))=true:=by rw[decide_eq_true_eq];omega
  have c:dIx (dH j.row) (.int (j.job:Int))=some (.int j.row[j.job]):=by show atI (j.row.map PyData.int) _=_;exact pC (by rw[MP,b];rfl)
  rw[b];simp only[cq,xW,bR,gH,aq,aw,Rs.ag,uH,xF,Rs.ai,fQ,aA,aJ,hl,Ej,e,bB,if_true,c,Ma,aB,bx]
 ·have b:j.row[j.job]?=none:=Ny (by omega);have e:decide ((j.job:Int)<(j.row.length:Int))=false:=by rw[decide_eq_false_iff_not];omega
  rw[b];simp only[cq,xW,bR,gH,aq,aw,Rs.ag,uH,xF,Rs.ai,fQ,aA,aJ,hl,Ej,e,bB,N2,if_false,aB,bx]
noncomputable def jD(C:Addr)(p:Addr×Jb):PyData:=p.2.d C p.1
def Jb.held(j:Jb):Option Int:=if j.spent=0 then none else j.tool
def Jb.wanted(j:Jb):Option Int:=if j.spent=0 then j.tool else none
def holdsT(t:Int)(p:Addr×Jb):Bool:=p.2.held==some t
theorem eq_none_int(x:Int):dEq .none (.int x)=some (.bool false):=by
 have h:SeqAt.shaped (.int x)=true:=by simp[SeqAt.shaped,PyData.canLay0,PyData.depth]
 unfold dEq;rw[h];simp[aF,PyData.eqv]
 first|done|rfl|decide
theorem Eu(o:Option Int)(t:Int):dEq (bg o) (.int t)=some (.bool (o==some t)):=by
 cases o with
 |none=>exact eq_none_int t
 |some i=>rw[show bg (some i)=.int i from rfl,je];simp
theorem uM{m:Str}(h1:("@":Str)≠m)(h:jQ m (j.fds.map λp=>(.str p.1,p.2))=true):isC C m (j.d C a)=true:=by
 show (decide (("":Str)="")&&decide ((C:Int)=(C:Int))&&jQ m ((.str "@",.int (a:Int))::(j.fds.map λp=>(.str p.1,p.2))))=true;have:jQ m ((.str "@",.int (a:Int))::(j.fds.map λp=>(PyData.str p.1,p.2)))=true:=by unfold jQ;simp only[h,Oa];simpa using h1
 rw[this];simp
theorem wc:isC C "held" (j.d C a)=true:=uM #[2] rfl
theorem qz:isC C "wanted" (j.d C a)=true:=uM #[2] rfl
theorem uw:isC C "are_done" (j.d C a)=true:=uM #[2] rfl
theorem uQ:isC C "is_there" (j.d C a)=true:=uM #[2] rfl
def bM(cs:Cs):Gf:=gfG 2 1 (kB cs (aS cs))
def kK(C:Addr)(ts:List (Addr×Jb))(tool:Option Int):PyData:=match tool with
 |none=>.none
 |some t=>match ts.find? (holdsT t) with
  |none=>.none
  |some p=>jD C p
theorem oM{cs:Cs}{t:Int}{X:PyData}:∀(ts:List (Addr×Jb))(x2:Option PyData),(∀p∈ts,p.2.part<p.2.parts.length) ->
   (∃p,ts.find? (holdsT t)=some p/\forL (aU 2) (sIf (gT (g2 dEq (bw cs.Jobs "held" (aS cs) (ae 2) ah) (ae 1))) (bf (ae 2)) aV) (ts.map (jD cs.Jobs)) [some X,some (.int t),x2]=.rt #[22])
  \/(ts.find? (holdsT t)=none/\∃δ,forL (aU 2) (sIf (gT (g2 dEq (bw cs.Jobs "held" (aS cs) (ae 2) ah) (ae 1))) (bf (ae 2)) aV) (ts.map (jD cs.Jobs)) [some X,some (.int t),x2]=.nx δ)
 |[],x2,_=>.inr ⟨rfl,_,rfl⟩
 |p::r,x2,h=>by
   have h1:aU 2 #[22] [some X,some (.int t),x2]=some [some X,some (.int t),some #[22]]:=rfl;have hm:bw cs.Jobs "held" (aS cs) (ae 2) ah [some X,some (.int t),some #[22]]=.ok (bg p.2.held):=by unfold bw;simp only[aq,aw,Rs.ag];rw[if_pos (show isC cs.Jobs "held" #[22]=true from wc)];simp only[aJ,Rs.ag];exact zU (h p M7)
   have hc:gT (g2 dEq (bw cs.Jobs "held" (aS cs) (ae 2) ah) (ae 1)) [some X,some (.int t),some #[22]]=.ok (holdsT t p):=by simp only[dE,bR,hm,aq,aw,Rs.ag,Eu,Rs.ai,bB];rfl
   rw[M5];unfold forL;rw[h1];cases z:holdsT t p with
   |true =>refine .inl ⟨p,by rw[List.find?_cons_of_pos z],?_⟩;simp only[cK,hc,z,aB,if_true,cq,aq,aw]
   |false =>simp only[cK,hc,z,aB,N2,if_false,fX];rw[List.find?_cons_of_neg (by rw[z];exact MQ)];exact oM r _ λq a=>h q (M3 _ a)
theorem tQ{tool:Option Int}(h:∀p∈ts,p.2.part<p.2.parts.length):bM cs [.list (ts.map (jD cs.Jobs)),bg tool]=.ok (kK cs.Jobs ts tool):=by
 show bo (kB cs (aS cs) [some #[3],some (bg tool),none])=_;unfold kB kK;cases tool with
 |none=>rfl
 |some t =>
  have hn:gT (g1 ju (ae 1)) [some #[3],some (.int t),none]=.ok false:=rfl;show bo (ay (sIf (gT (g1 ju (ae 1))) (bf (gC .none)) aV) (ay (cA [] (bh (ae 0)) (aU 2) (sIf (gT (g2 dEq (bw cs.Jobs "held" (aS cs) (ae 2) ah) (ae 1))) (bf (ae 2)) aV)) (bf (gC .none))) [some #[3],some (.int t),none])=_;have a:cA [] (bh (ae 0)) (aU 2) (sIf (gT (g2 dEq (bw cs.Jobs "held" (aS cs) (ae 2) ah) (ae 1))) (bf (ae 2)) aV) [some #[3],some (.int t),none]=forL (aU 2) (sIf (gT (g2 dEq (bw cs.Jobs "held" (aS cs) (ae 2) ah) (ae 1))) (bf (ae 2)) aV) (ts.map (jD cs.Jobs)) [some #[3],some (.int t),none]:=rfl;simp only[aT,cK,hn,aB,N2,if_false,fX,a];rcases oM (cs:=cs) (t:=t) (X:=.list (ts.map (jD cs.Jobs))) ts none h with⟨p,f1,f2⟩|⟨f1,δ,f2⟩
  ·rw[f1,f2];rfl
  ·rw[f1,f2];rfl
def cG(cs:Cs):Gf:=gfG 1 3 (gW cs (aL cs) (bM cs))
theorem G2:eE (jD C q)=some (.bool true):=rfl
def lrB(cs:Cs):Ds->Sr:=(ay (aN [1] 3 (au (bM cs) (af (ae 0) (af (bw cs.Jobs "wanted" (aL cs) (ae 2) ah) ah))))
 (sIf (gT (g1 eE (ae 3))) (lA 1 (g1 (bc cs.Jobs "number") (ae 3)) (gF iW (af (g1 (bc cs.Jobs "rank") (ae 2)) (af (iI (ae 1) (g1 (bc cs.Jobs "number") (ae 3)) (g1 (bc cs.Jobs "rank") (ae 3))) ah)))) aV))
theorem Hr(l:List (Int×Int))(k v:Int):(nN l k v).length<=l.length+1:=by unfold nN;split <;> simp
def bV(cs:Cs):Gf:=gfG 2 1 (b0 cs (aS cs))
theorem sE{x y:Option PyData}(h:p.2.part<p.2.parts.length):bw cs.Jobs "held" (aS cs) (ae 0) ah [some #[22],x,y]=.ok (bg p.2.held):=by unfold bw;simp only[aq,Rs.ag];rw[if_pos (show isC cs.Jobs "held" #[22]=true from wc)];simp only[aJ,Rs.ag];exact zU h
theorem B9(h:ts≠[]):∃p∈ts,kK C ts p.2.wanted=.none:=by
 by_cases z:∃p∈ts,p.2.spent≠0
 ·obtain⟨p,a,b⟩:=z;refine⟨p,a,?_⟩;unfold Jb.wanted;rw[if_neg b];rfl
 ·have c:∀p∈ts,p.2.spent=0:=λp a=>by
   by_cases q:p.2.spent=0
   ·exact q
   ·exact absurd ⟨p,a,q⟩ z
  obtain⟨p,r,rfl⟩:=Oj h;refine⟨p,M7,?_⟩;unfold kK;cases p.2.wanted with
  |none=>rfl
  |some t =>
   have:(p::r).find? (holdsT t)=none:=by rw[Oy];intro q e;unfold holdsT Jb.held;rw[if_pos (c q e)];exact MQ
   simp only[this]
def cU(cs:Cs):Gf:=gfG 3 2 (j7 cs (cG cs) (aL cs) (bM cs) (bV cs))
theorem eq_str{s t:Str}(h1:SeqAt.shaped (.str s)=true)(h2:SeqAt.shaped (.str t)=true):dEq (.str s) (.str t)=some (.bool (s==t)):=by unfold dEq;rw[h1,h2];simp[aF,PyData.eqv]
def Dm(cs:Cs)(δ:Ds)(d:PyData):Bool:=match au (bM cs) (af (ae 0) (af (bw cs.Jobs "wanted" (aL cs) (ae 5) ah) ah)) (δ++[some d]) with
 |.ok x=>fA x
 |_=>false
theorem Ad{x1 x2 x3 x4:Option PyData}(h:∀p∈ts,p.2.part<p.2.parts.length)(a:q∈ts) :
  au (bM cs) (af (ae 0) (af (bw cs.Jobs "wanted" (aL cs) (ae 5) ah) ah)) [some #[3],x1,x2,x3,x4,some (jD cs.Jobs q)]=.ok (kK cs.Jobs ts q.2.wanted):=by
 have h2:bw cs.Jobs "wanted" (aL cs) (ae 5) ah [some #[3],x1,x2,x3,x4,some (jD cs.Jobs q)]=.ok (bg q.2.wanted):=by unfold bw;simp only[aq,aw,Rs.ag];rw[if_pos (show isC cs.Jobs "wanted" (jD cs.Jobs q)=true from qz)];simp only[aJ,Rs.ag];exact sv (h q a)
 simp only[bK,aA,aJ,aq,h2,Rs.ag];exact tQ h
structure uC(s:Str):Prop where
 sh:SeqAt.shaped (.str s)=true
theorem GK:SeqAt.shaped (.str "high")=true:=by decide +kernel
theorem wd:SeqAt.shaped (.str "asked")=true:=by decide +kernel
theorem vh(ps:List #[25]):aF (.tuple (ps.map aI))=true:=by
 induction ps with
 |nil=>rfl
 |cons a r ih =>
  have h1:aF (aI a)=true:=by obtain⟨x,o⟩:=a;cases o <;> rfl
  have:aF (.tuple (aI a::r.map aI))=(aF (aI a)&&aF (.tuple (r.map aI))):=by simp[aF,df]
  rw[M5,this,h1,ih];rfl
theorem Jb.flat(j:Jb):gM j.fds=true:=by have h1:=vh j.parts;have h2:aF (dH j.row)=true:=jW j.row;unfold gM Jb.fds;simp only[M5,Nw,lE,h1,h2,Oa,OD];rfl
theorem lZ:oZ [a] C 0 [some (j.d C a)]=some (a,j.fds):=by
 unfold oZ;have h1:gZ [some (j.d C a)]=true:=by unfold gZ Jb.d;simp only[Oi,List.all_nil,Oa,wY];exact j.flat
 show (match objOf (j.d C a) with|some (c,b,fds)=>if c=C/\b∈[a]/\gZ [some (j.d C a)]=true/\gM fds=true/\fds.length<1000 then some (b,fds) else none|none=>none)=_;unfold Jb.d at *;rw[sL];exact if_pos ⟨rfl,MR.mpr rfl,h1,j.flat,show 7<1000 by decide⟩
theorem kh{fds:List (Str×PyData)}(b:gM fds=true):lC a nd [some (cB C a fds)]=[some nd]:=by show [some (fK a nd (cB C a fds))]=_;unfold cB fK;refine congrArg (λx=>[some x]) (if_pos ?_);unfold kC;unfold gM at b;simp[b]
section
theorem tD:fj [a] C 0 "spent" #[0] [some (j.d C a)]=.nx [some (Jb.d C a { j with spent:=j.spent+1 })]:=by unfold fj;rw[lZ];show Sr.nx (lC a (cB C a (qe "spent" (.int ((j.spent:Int)+1)) j.fds)) [some (cB C a j.fds)])=_;rw[kh j.flat];rfl
theorem EK:fj [a] C 0 "part" #[0] [some (j.d C a)]=.nx [some (Jb.d C a { j with part:=j.part+1 })]:=by unfold fj;rw[lZ];show Sr.nx (lC a (cB C a (qe "part" (.int ((j.part:Int)+1)) j.fds)) [some (cB C a j.fds)])=_;rw[kh j.flat];rfl
theorem Fx:fj [a] C 0 "job" #[0] [some (j.d C a)]=.nx [some (Jb.d C a { j with job:=j.job+1 })]:=by unfold fj;rw[lZ];show Sr.nx (lC a (cB C a (qe "job" (.int ((j.job:Int)+1)) j.fds)) [some (cB C a j.fds)])=_;rw[kh j.flat];rfl
theorem BU:mI [a] C 0 "spent" #[1] [some (j.d C a)]=.nx [some (Jb.d C a { j with spent:=0 })]:=by unfold mI;rw[lZ];show Sr.nx (lC a (cB C a (qe "spent" (.int 0) j.fds)) [some (cB C a j.fds)])=_;rw[kh j.flat];rfl
theorem CY:mI [a] C 0 "part" #[1] [some (j.d C a)]=.nx [some (Jb.d C a { j with part:=0 })]:=by unfold mI;rw[lZ];show Sr.nx (lC a (cB C a (qe "part" (.int 0) j.fds)) [some (cB C a j.fds)])=_;rw[kh j.flat];rfl
end
def Jb.step1(j:Jb)(n:Int):Jb:=if (j.spent:Int)+1=n then { j with spent:=0,part:=j.part+1 } else { j with spent:=j.spent+1 }
def Jb.step2(j:Jb):Jb:=if j.part=j.parts.length then { j with part:=0,job:=j.job+1 } else j
def Jb.len(j:Jb):Int:=(j.parts[j.part]?.map (·.1)).getD 0
def Jb.next(j:Jb):Jb:=(j.step1 j.len).step2
theorem Fj(h:j.part<j.parts.length):gY cs [a] [some (j.d cs.Jobs a)]=.nx [some (j.next.d cs.Jobs a)]:=by
 have b:j.parts[j.part]?=some j.parts[j.part]:=M1 h;have hn:j.len=j.parts[j.part].1:=by unfold Jb.len;rw[b];rfl
 have second:∀k:Jb,sIf (gT (g2 dEq (g1 (bc cs.Jobs "part") (ae 0)) (gF bS (af (g1 (bc cs.Jobs "parts") (ae 0)) ah)))) (ay (mI [a] cs.Jobs 0 "part" #[1]) (fj [a] cs.Jobs 0 "job" #[0])) aV [some (k.d cs.Jobs a)]=.nx [some (k.step2.d cs.Jobs a)]:=by
  intro k;have hc:gT (g2 dEq (g1 (bc cs.Jobs "part") (ae 0)) (gF bS (af (g1 (bc cs.Jobs "parts") (ae 0)) ah))) [some (k.d cs.Jobs a)]=.ok ((k.part:Int)==(k.parts.length:Int)):=by simp only[dE,bR,gH,fQ,aA,aJ,aq,Rs.ag,pO,l9,Rs.ai,rJ,M6,je,bB]
  unfold Jb.step2;by_cases z:k.part=k.parts.length
  ·have e:((k.part:Int)==(k.parts.length:Int))=true:=by rw[z];exact beq_self_eq_true _
   rw[if_pos z];simp only[cK,hc,e,aB,if_true,aT,CY,Fx]
  ·have e:((k.part:Int)==(k.parts.length:Int))=false:=by rw[beq_eq_false_iff_ne];omega
   rw[if_neg z];simp only[cK,hc,e,aB,N2,if_false,fX]
 have hc:gT (g2 dEq (g1 (bc cs.Jobs "spent") (ae 0)) (g2 dIx (g2 dIx (g1 (bc cs.Jobs "parts") (ae 0)) (g1 (bc cs.Jobs "part") (ae 0))) #[1])) [some (Jb.d cs.Jobs a { j with spent:=j.spent+1 })]=.ok (((j.spent:Int)+1)==j.len):=by have q:=ui (j:={ j with spent:=j.spent+1 }) b;have c:dIx (aI j.parts[j.part]) (.int 0)=some (.int j.parts[j.part].1):=rfl;simp only[dE,bR,gH,aq,cJ,Rs.ag,kM,l9,pO,Rs.ai,q,c,je,bB,hn];rfl
 unfold gY Jb.next Jb.step1;by_cases z:(j.spent:Int)+1=j.len
 ·have e:(((j.spent:Int)+1)==j.len)=true:=by rw[z];exact beq_self_eq_true _
  rw[if_pos z];simp only[aT,tD];rw[cK,hc];simp only[e,aB,if_true,aT,BU,EK];exact second _
 ·have e:(((j.spent:Int)+1)==j.len)=false:=by rw[beq_eq_false_iff_ne];exact z
  rw[if_neg z];simp only[aT,tD];rw[cK,hc];simp only[e,aB,N2,if_false,fX];exact second _
theorem Cr{a b:Option Int}(h:bg a=bg b):a=b:=by cases a <;> cases b <;> first|rfl|(injection h with h;rw[h])|cases h
theorem BL{p q:Int×Option Int}(h:aI p=aI q):p=q:=by
 obtain⟨a,o⟩:=p;obtain⟨b,u⟩:=q;unfold aI at h;injection h with h
 injection h with h1 h2
 injection h1 with h1
 injection h2 with h2 _
 have h3:=Cr h2;exact Prod.ext h1 h3
theorem pY{α β:Type}{f:α->β}(c:∀x y,f x=f y->x=y):∀{l m:List α},l.map f=m.map f->l=m
 |[],[],_=>rfl
 |[],_::_,h=>by cases h
 |_::_,[],h=>by cases h
 |a::l,b::m,h=>by
  rw[M5,M5]at h;injection h with h1 h2
  rw[c a b h1,pY c h2]
theorem GZ{k:Jb}(h:j.fds=k.fds):j=k:=by
 obtain⟨a1,a2,a3,a4,a,b,c⟩:=j;obtain⟨b1,b2,b3,b4,e,f,g⟩:=k;unfold Jb.fds dH at h;simp only[List.cons.injEq,Prod.mk.injEq,true_and,and_true,PyData.int.injEq,PyData.tuple.injEq,PyData.list.injEq]at h;obtain⟨h1,h2,h3,i,h5,h6,h7⟩:=h;have e2:=pY (λx y=>BL) h2;have l:=pY (λx y(q:PyData.int x=PyData.int y)=>by injection q) i;have m:a=e:=by omega
 have n:b=f:=by omega
 have o:c=g:=by omega
 subst h1 h3 e2 l m n o;rfl
open Classical in
def gu:List (Str×PyData)->Option (List (Str×PyData)):=λfds=>if h:∃j:Jb,j.part<j.parts.length/\fds=j.fds then some (Classical.choose h).next.fds else none
theorem HS(h:j.part<j.parts.length):gu j.fds=some j.next.fds:=by
 have a:∃k:Jb,k.part<k.parts.length/\j.fds=k.fds:=⟨j,h,rfl⟩
 unfold gu;rw[dif_pos a];have:=GZ (Classical.choose_spec a).2;rw[<-this]
theorem ED(cs:Cs):∀a fds b,gM fds=true->fds.length<1000->gu fds=some b->∃δ,gY cs [a] (some (cB cs.Jobs a fds)::List.replicate 0 none)=.nx δ/\δ[0]?=some (some (cB cs.Jobs a b)):=by
 intro a fds b _ _ e;by_cases hx:∃k:Jb,k.part<k.parts.length/\fds=k.fds
 ·obtain⟨k,c,rfl⟩:=hx;rw[HS c]at e;cases e;exact⟨_,Fj c,rfl⟩
 ·unfold gu at e;rw[dif_neg hx]at e;cases e
instance:Inhabited Jb:=⟨⟨0,[],0,[],0,0,0⟩⟩
def kn(ks:List PyData):Nat:=bst (λi j=>ltD (ks.getD i .none) (ks.getD j .none)) (ks.length-1)
def i7(key:Jb->PyData)(js:List Jb):Jb:=js.getD (kn (js.map key)) default
theorem qP{C:Addr}{g:PyData->Rs PyData}{key:Jb->PyData}:∀{ts:List (Addr×Jb)},(∀p∈ts,g (jD C p)=.ok (key p.2))->allR g (ts.map (jD C))=.ok ((ts.map (·.2)).map key)
 |[],_=>rfl
 |p::r,h=>by
  have a:=qP (ts:=r) λx b=>h x (M3 _ b)
  rw[M5];unfold allR;rw[h p M7,Rs.ag,a,Rs.ag];rfl
theorem lY(hd:ga δ=.ok (.list (ts.map (jD C))))(o:ts≠[])(f:∀p∈ts,gb (some (jD C p)::vB cap δ)=.ok (key p.2))
  (hK:(∀p∈ts,∃n:Int,key p.2=.int n)\/(∀p∈ts,∃a b:Int,key p.2=.tuple [.int a,.int b])):∃q∈ts,q.2=i7 key (ts.map (·.2))/\jo cap ga gb δ=.ok (jD C q):=by
 have hlen:0<ts.length:=NL.mpr o;have e:=qP (C:=C) (g:=λx=>gb (some x::vB cap δ)) (key:=key) f;have q:keysOk ((ts.map (·.2)).map key)=true:=by
  unfold keysOk;rw[OG];rcases hK with hK|hK
  ·refine .inl (MX.mpr λk f=>?_);obtain⟨j,h,rfl⟩:=MM.mp f;obtain⟨p,l,rfl⟩:=MM.mp h;obtain⟨n,hn⟩:=hK p l;rw[hn];rfl
  ·refine .inr (MX.mpr λk f=>?_);obtain⟨j,h,rfl⟩:=MM.mp f;obtain⟨p,l,rfl⟩:=MM.mp h;obtain⟨a,b,hn⟩:=hK p l;rw[hn];rfl
 have hb:=vE (λi j=>ltD (((ts.map (·.2)).map key).getD i .none) (((ts.map (·.2)).map key).getD j .none)) (ts.length-1);have m:kn ((ts.map (·.2)).map key)=bst (λi j=>ltD (((ts.map (·.2)).map key).getD i .none) (((ts.map (·.2)).map key).getD j .none)) (ts.length-1):=by unfold kn;rw[M6,M6]
 have c:kn ((ts.map (·.2)).map key)<ts.length:=by rw[m];omega
 refine⟨ts[kn ((ts.map (·.2)).map key)],Na c,?_,?_⟩
 ·unfold i7;rw[MT,MP,M1 c];rfl
 ·unfold jo;rw[hd];simp only[Rs.ag,M6,if_pos hlen,e];show (if keysOk _=true then Rs.eF _ else Rs.no)=_;rw[if_pos q,<-m,MP,M1 c];rfl
def iB(js:List Jb)(tool:Option Int):Option Jb:=tool.bind λt=>js.find? λj=>j.held==some t
theorem zT{tool:Option Int}:(iB (ts.map (·.2)) tool=none/\kK C ts tool=.none)\/∃q∈ts,iB (ts.map (·.2)) tool=some q.2/\kK C ts tool=jD C q:=by
 unfold iB kK;cases tool with
 |none=>exact .inl ⟨rfl,rfl⟩
 |some t =>
  have hm:(ts.map (·.2)).find? (λj=>j.held==some t)=(ts.find? (holdsT t)).map (·.2):=by rw[List.find?_map];rfl
  simp only[Og,hm];cases h:ts.find? (holdsT t) with
  |none=>exact .inl ⟨rfl,rfl⟩
  |some p=>exact .inr ⟨p,List.mem_of_find?_eq_some h,rfl,rfl⟩
def iE(js:List Jb)(l:List (Int×Int))(j:Jb):List (Int×Int):=match iB js j.wanted with
 |none=>l
 |some o=>nN l o.num (if (cz l o.num).getD o.rank<j.rank then (cz l o.num).getD o.rank else j.rank)
def ip(js:List Jb):List (Int×Int):=js.foldl (iE js) []
theorem EN(h:∀p∈ts,p.2.part<p.2.parts.length)(c:p∈ts)(hl:l.length<1000000)(x3:Option PyData) :
  ∃x,lrB cs [some #[3],some (bF l),some #[22],x3]=.nx [some #[3],some (bF (iE (ts.map (·.2)) l p.2)),some #[22],x]:=by
 have hm:au (bM cs) (af (ae 0) (af (bw cs.Jobs "wanted" (aL cs) (ae 2) ah) ah)) [some #[3],none,some #[22],x3]=.ok (kK cs.Jobs ts p.2.wanted):=by
  have h2:bw cs.Jobs "wanted" (aL cs) (ae 2) ah [some #[3],none,some #[22],x3]=.ok (bg p.2.wanted):=by unfold bw;simp only[aq,aw,Rs.ag];rw[if_pos (show isC cs.Jobs "wanted" #[22]=true from qz)];simp only[aJ,Rs.ag];exact sv (h p c)
  simp only[bK,aA,aJ,aq,h2,Rs.ag];exact tQ h
 have a:aN [1] 3 (au (bM cs) (af (ae 0) (af (bw cs.Jobs "wanted" (aL cs) (ae 2) ah) ah))) [some #[3],some (bF l),some #[22],x3]=.nx [some #[3],some (bF l),some #[22],some (kK cs.Jobs ts p.2.wanted)]:=by show (if 3<4 then ofR (au (bM cs) (af (ae 0) (af (bw cs.Jobs "wanted" (aL cs) (ae 2) ah) ah)) [some #[3],none,some #[22],x3]) _ else _)=_;rw[if_pos #[2],hm];rfl
 unfold lrB iE;simp only[aT,a];rcases zT (C:=cs.Jobs) (ts:=ts) (tool:=p.2.wanted) with⟨b,e⟩|⟨q,hq,b,e⟩
 ·rw[e,b];exact⟨_,rfl⟩
 ·rw[e,b];simp only[cK,dE,gH,aq,aw,Rs.ag,G2,Rs.ai,bB,aB,if_true];have f1:bc cs.Jobs "number" (jD cs.Jobs q)=some (.int q.2.num):=xJ;have f2:bc cs.Jobs "rank" (jD cs.Jobs q)=some (.int q.2.rank):=pG;have f:bc cs.Jobs "rank" #[22]=some (.int p.2.rank):=pG;refine⟨some (jD cs.Jobs q),?_⟩;unfold lA;simp only[NT,NU,iT,fQ,aA,aJ,gH,aq,aw,Rs.ag,f1,f2,f,Rs.ai,iI,yS,aB,if_pos hl];rfl
theorem AI(js:List Jb)(l:List (Int×Int))(j:Jb):(iE js l j).length<=l.length+1:=by
 unfold iE;split
 ·exact Oc _
 ·exact Hr _ _ _
theorem vR{cs:Cs}{ts:List (Addr×Jb)}(h:∀p∈ts,p.2.part<p.2.parts.length):∀(us:List (Addr×Jb))(l:List (Int×Int))(x2 x3:Option PyData),(∀p∈us,p∈ts)->l.length+us.length<1000000 ->
  ∃a b,forL (aU 2) (lrB cs) (us.map (jD cs.Jobs)) [some #[3],some (bF l),x2,x3]=.nx [some #[3],some (bF ((us.map (·.2)).foldl (iE (ts.map (·.2))) l)),a,b]
 |[],l,x2,x3,_,_=>⟨x2,x3,rfl⟩
 |p::r,l,x2,x3,hu,hl=>by have h1:aU 2 #[22] [some #[3],some (bF l),x2,x3]=some [some #[3],some (bF l),some #[22],x3]:=rfl;rw[MW]at hl;obtain⟨x,e1⟩:=EN (cs:=cs) h (hu p M7) (l:=l) (by omega) x3;have hl1:=AI (ts.map (·.2)) l p.2;rw[M5];unfold forL;rw[h1];simp only[e1];exact vR h r _ _ _ (λq c=>hu q (M3 _ c)) (by omega)
theorem E4(h:∀p∈ts,p.2.part<p.2.parts.length)(hl:ts.length<=1000):cG cs [.list (ts.map (jD cs.Jobs))]=.ok (bF (ip (ts.map (·.2)))):=by obtain⟨y2,y3,e⟩:=vR (cs:=cs) h ts [] none none (λp a=>a) (by rw[NI];omega);show bo (gW cs (aL cs) (bM cs) [some #[3],none,none,none])=_;have b:oF 1 [some #[3],none,none,none]=.nx [some #[3],some (bF []),none,none]:=rfl;have c:cA [1] (bh (ae 0)) (aU 2) (lrB cs) [some #[3],some (bF []),none,none]=forL (aU 2) (lrB cs) (ts.map (jD cs.Jobs)) [some #[3],some (bF []),none,none]:=rfl;show bo (ay (oF 1) (ay (cA [1] (bh (ae 0)) (aU 2) (lrB cs)) (bf (ae 1))) [some #[3],none,none,none])=_;simp only[aT,b,c,e];rfl
def k6(tops:PyData)(t:Int):Int:=match dIx tops (.int t) with
 |some (.int n)=>n
 |_=>0
def mJ(tops:PyData)(j:Jb):PyData:=match j.held with
 |none=>.tuple [.int j.rank,.int 1]
 |some t=>.tuple [.int (if k6 tops t<j.rank then k6 tops t else j.rank),.int 0]
theorem E5(h:p.2.part<p.2.parts.length)(c:∀t,p.2.held=some t->∃n:Int,dIx tops (.int t)=some (.int n)):bV cs [jD cs.Jobs p,tops]=.ok (mJ tops p.2):=by
 have b:bc cs.Jobs "rank" #[22]=some (.int p.2.rank):=pG;unfold mJ;cases z:p.2.held with
 |none =>
  show bo (b0 cs (aS cs) [some #[22],some tops,none])=_;unfold b0;have hm:=sE (cs:=cs) (p:=p) (x:=some tops) (y:=none) h;rw[z]at hm;have a:aN [] 2 (bw cs.Jobs "held" (aS cs) (ae 0) ah) [some #[22],some tops,none]=.nx [some #[22],some tops,some .none]:=by rw[jF,hm];rfl
  simp only[aT,a,cK,dE,gH,aq,aw,Rs.ag,Dg,D6,Rs.ai,bB,aB,if_true,cq,jB,aA,aJ,b,cJ,bx]
 |some t =>
  obtain⟨n,hn⟩:=c t z;have e:k6 tops t=n:=by unfold k6;rw[hn]
  show bo (b0 cs (aS cs) [some #[22],some tops,none])=_;unfold b0;have hm:=sE (cs:=cs) (p:=p) (x:=some tops) (y:=none) h;rw[z]at hm;have a:aN [] 2 (bw cs.Jobs "held" (aS cs) (ae 0) ah) [some #[22],some tops,none]=.nx [some #[22],some tops,some (.int t)]:=by rw[jF,hm];rfl
  simp only[aT,a,cK,dE,gH,bR,aq,aw,Rs.ag,Dg,BM,Rs.ai,bB,aB,N2,if_false,fX,cq,jB,aA,aJ,b,hn,fQ,yS,cJ,bx,e]
def fq(js:List Jb)(j:Jb):Bool:=(iB js j.wanted).isNone
def Br(l:List (Int×Int))(j:Jb):PyData:=.int ((cz l j.num).getD j.rank)
def cu(tops:PyData)(len:Str)(js:List Jb):Jb:=if (len==("high":Str))=true then i7 (mJ tops) js else i7 (Br (if (len==("asked":Str))=true then ip js else [])) (js.filter (fq js))
theorem vH{tool:Option Int}:fA (kK C ts tool)=(iB (ts.map (·.2)) tool).isNone:=by
 rcases zT (C:=C) (ts:=ts) (tool:=tool) with⟨a,e⟩|⟨q,_,a,e⟩
 ·rw[e,a];rfl
 ·rw[e,a];rfl
theorem qI(h:ts≠[]):ts.filter (λp=>fq (ts.map (·.2)) p.2)≠[]:=by obtain⟨p,b,e⟩:=B9 h (C:=0);refine O0 (a:=p) (N3.mpr ⟨b,?_⟩);unfold fq;rw[<-vH (C:=0),e];rfl
theorem mG{C:Addr}{ts:List (Addr×Jb)}{f:PyData->Bool}{g:Jb->Bool}:∀{us:List (Addr×Jb)},(∀p∈us,f (jD C p)=g p.2)->(us.map (jD C)).filter f=(us.filter λp=>g p.2).map (jD C)
 |[],_=>rfl
 |p::r,h=>by
  have a:=mG (ts:=ts) (us:=r) λx b=>h x (M3 _ b)
  rw[M5,Nd,Nd,h p M7,a];cases g p.2 <;> rfl
theorem Bg{len:Str}(j:ts≠[])(hl:ts.length<=1000)(h:∀p∈ts,p.2.part<p.2.parts.length)(r:∀p∈ts,∀t,p.2.held=some t->∃n:Int,dIx tops (.int t)=some (.int n))(m:uC len) :
  ∃q∈ts,q.2=cu tops len (ts.map (·.2))/\cU cs [.list (ts.map (jD cs.Jobs)),tops,.str len]=.ok (jD cs.Jobs q):=by
 have o:gT (g2 dEq (ae 2) (gC (.str "high"))) [some #[3],some tops,some (.str len),none,none]=.ok (len=="high"):=by simp only[dE,bR,aq,aw,cJ,Rs.ag,eq_str m.sh GK,Rs.ai,bB]
 show ∃q∈ts,q.2=_/\bo (j7 cs (cG cs) (aL cs) (bM cs) (bV cs) [some #[3],some tops,some (.str len),none,none])=.ok _;unfold j7 cu;cases z:(len==("high":Str)) with
 |true =>
  obtain⟨q,i,e2,e⟩:=lY (C:=cs.Jobs) (cap:=[1]) (ga:=ae 0) (gb:=au (bV cs) #[21]) (δ:=[some #[3],some tops,some (.str len),none,none]) (key:=mJ tops) rfl j (λp a=>E5 (h p a) (r p a)) (.inr λp a=>by unfold mJ;cases p.2.held <;> exact⟨_,_,rfl⟩)
  refine⟨q,i,by rw[if_pos rfl];exact e2,?_⟩;simp only[aT,cK,o,z,aB,if_true,cq,e,bx]
 |false =>
  have hc:aX 5 (bh (ae 0)) (gT (g1 ju (au (bM cs) (af (ae 0) (af (bw cs.Jobs "wanted" (aL cs) (ae 5) ah) ah))))) (ae 5) aG [some #[3],some tops,some (.str len),none,none]=.ok ((ts.filter λp=>fq (ts.map (·.2)) p.2).map (jD cs.Jobs)):=by
   rw[<-mG (ts:=ts) (f:=Dm cs [some #[3],some tops,some (.str len),none,none]) (λp a=>by have g:=Ad (cs:=cs) (x1:=some tops) (x2:=some (.str len)) (x3:=none) (x4:=none) h a;unfold Dm;simp only[Nv,Nn,g];exact vH)]
   refine jn rfl rfl (by rw[M6];omega) λd hd=>?_
   obtain⟨p,a,rfl⟩:=MM.mp hd;refine⟨?_,rfl⟩;have g:=Ad (cs:=cs) (x1:=some tops) (x2:=some (.str len)) (x3:=none) (x4:=none) h a;unfold Dm;simp only[Nv,Nn,g];simp only[dE,gH,g,Rs.ag,Dg,Rs.ai,bB]
  have hn:=qI j;have s:(ts.map (·.2)).filter (fq (ts.map (·.2)))=(ts.filter λp=>fq (ts.map (·.2)) p.2).map (·.2):=by rw[List.filter_map];rfl
  have c:∀p∈ts.filter (λp=>fq (ts.map (·.2)) p.2),p∈ts:=λp a=>(N3.mp a).1
  rw[s];generalize (ts.filter λp=>fq (ts.map (·.2)) p.2)=fr at hc hn c;have b:gIf (gT (g2 dEq (ae 2) (gC (.str "asked")))) (au (cG cs) (af (ae 0) ah)) (gC (bF [])) [some #[3],some tops,some (.str len),some (.list (fr.map (jD cs.Jobs))),none]=.ok (bF (if (len==("asked":Str))=true then ip (ts.map (·.2)) else [])):=by
   have u:gT (g2 dEq (ae 2) (gC (.str "asked"))) [some #[3],some tops,some (.str len),some (.list (fr.map (jD cs.Jobs))),none]=.ok (len=="asked"):=by simp only[dE,bR,aq,aw,cJ,Rs.ag,eq_str m.sh wd,Rs.ai,bB]
   unfold gIf;rw[u];simp only[Rs.ag];cases (len==("asked":Str)) with
   |true=>simp only[if_true,bK,aA,aJ,aq,Rs.ag,E4 h hl]
   |false=>simp
  generalize (if (len==("asked":Str))=true then ip (ts.map (·.2)) else [])=l at b;obtain⟨q,i,e2,e⟩:=lY (C:=cs.Jobs) (cap:=[4]) (ga:=ae 3) (gb:=iI (ae 1) (g1 (bc cs.Jobs "number") (ae 0)) (g1 (bc cs.Jobs "rank") (ae 0))) (δ:=[some #[3],some tops,some (.str len),some (.list (fr.map (jD cs.Jobs))),some (bF l)]) (key:=Br l) rfl hn (λp a=>by have f1:bc cs.Jobs "number" #[22]=some (.int p.2.num):=xJ;have f2:bc cs.Jobs "rank" #[22]=some (.int p.2.rank):=pG;show iI (ae 1) (g1 (bc cs.Jobs "number") (ae 0)) (g1 (bc cs.Jobs "rank") (ae 0)) [some #[22],some (bF l)]=_;unfold iI;simp only[aq,aw,Rs.ag,iT,gH,f1,f2,Rs.ai];rfl) (.inl λp a=>⟨_,rfl⟩)
  refine⟨q,c q i,by rw[if_neg MQ];exact e2,?_⟩;have v:aN [] 3 (gL (aX 5 (bh (ae 0)) (gT (g1 ju (au (bM cs) (af (ae 0) (af (bw cs.Jobs "wanted" (aL cs) (ae 5) ah) ah))))) (ae 5) aG)) [some #[3],some tops,some (.str len),none,none]=.nx [some #[3],some tops,some (.str len),some (.list (fr.map (jD cs.Jobs))),none]:=by rw[jF,nV,hc];rfl
  have w:aN [] 4 (gIf (gT (g2 dEq (ae 2) (gC (.str "asked")))) (au (cG cs) (af (ae 0) ah)) (gC (bF []))) [some #[3],some tops,some (.str len),some (.list (fr.map (jD cs.Jobs))),none]=.nx [some #[3],some tops,some (.str len),some (.list (fr.map (jD cs.Jobs))),some (bF l)]:=by rw[jF,b];rfl
  simp only[aT,cK,o,z,aB,N2,if_false,fX,v,w,cq,e,bx]
theorem vT:fK a nd (jD C p)=if p.1=a then nd else jD C p:=by
 have b:=p.2.flat;have c:kC ((PyData.str "",PyData.int (C:Int))::(PyData.str "@",PyData.int (p.1:Int))::p.2.fds.map λx=>(PyData.str x.1,x.2))=some (p.1:Int):=by unfold kC;unfold gM at b;simp[b]
 unfold jD Jb.d cB fK;rw[c];by_cases z:p.1=a
 ·rw[if_pos z,if_pos (by rw[z])]
 ·have f:¬ (some (p.1:Int)=some (a:Int)):=λe=>z (Int.ofNat.inj (Option.some.inj e))
  rw[if_neg z,if_neg f]
theorem zy{C a:Addr}{j:Jb}:∀ts:List (Addr×Jb),jP a (jD C (a,j)) (ts.map (jD C))=(ts.map λp=>if p.1=a then (a,j) else p).map (jD C)
 |[]=>rfl
 |p::r=>by
  rw[M5,M5,M5];unfold jP;rw[zy r,vT];by_cases z:p.1=a
  ·rw[if_pos z,if_pos z]
  ·rw[if_neg z,if_neg z]
theorem AL:fK a (jD C (a,j)) (.list (ts.map (jD C)))=.list ((ts.map λp=>if p.1=a then (a,j) else p).map (jD C)):=by unfold fK;rw[zy]
mutual
theorem om{a:Addr}{nd:PyData}:∀d:PyData,aF d=true->fK a nd d=d
 |.none,_=>by unfold fK;rfl
 |.bool _,_=>by unfold fK;rfl
 |.int _,_=>by unfold fK;rfl
 |.str _,_=>by unfold fK;rfl
 |.list ds,h=>by unfold fK;rw[u7 ds (by simpa[aF] using h)]
 |.tuple ds,h=>by unfold fK;rw[u7 ds (by simpa[aF] using h)]
 |.dict _,h=>by simp[aF]at h
theorem u7{a:Addr}{nd:PyData}:∀ds:List PyData,df ds=true->jP a nd ds=ds
 |[],_=>by unfold jP;rfl
 |d::r,h=>by unfold df at h;rw[M9]at h;unfold jP;rw[om d h.1,u7 r h.2]
end
theorem qr{C:Addr}{elt:Ds->Rs PyData}{δ:Ds}{k:Jb->PyData}:∀(ts:List (Addr×Jb)),(∀p∈ts,elt (δ++[some (jD C p)])=.ok (k p.2))->eI bJ elt aG δ (ts.map (jD C))=.ok ((ts.map (·.2)).map k)
 |[],_=>rfl
 |p::r,h=>by
  have a:=qr r λe b=>h e (M3 _ b)
  rw[M5];unfold eI;simp only[aG,bJ,Rs.cQ,Rs.ag,if_true,h p M7];rw[a];rfl
def Jb.done(j:Jb):Bool:=(j.job:Int)==(j.row.length:Int)
def rnD(C:Addr)(E R W tops:PyData)(len:Str)(qs:List (Addr×Jb))(told:List PyData)(x7 x8:Option PyData):Ds:=[some E,some R,some W,some (.str len),some tops,some (.list (qs.map (jD C))),some (.list told),x7,x8]
section
variable {E R W:PyData}{len:Str}{qs:List (Addr×Jb)}{x7 x8:Option PyData}
theorem cond_of(hl:qs.length<=1000):gA (gT (gF pw (af (gL (aX 9 (bh (ae 5)) bJ (bw cs.Jobs "are_done" (aZ cs) (ae 9) ah) aG)) ah))) #[13]=.ok (!((qs.map (·.2)).all Jb.done)):=by
 have hc:aX 9 (bh (ae 5)) bJ (bw cs.Jobs "are_done" (aZ cs) (ae 9) ah) aG #[13]=.ok ((qs.map (·.2)).map λj=>.bool j.done):=by
  unfold aX;rw[if_pos (show #[13].length=9 from rfl)];rw[show bh (ae 5) #[13]=.ok (qs.map (jD cs.Jobs)) from rfl];simp only[Rs.ag];rw[if_pos (by rw[M6];omega)];refine qr qs λp hp=>?_
  show bw cs.Jobs "are_done" (aZ cs) (ae 9) ah [some E,some R,some W,some (.str len),some tops,some (.list (qs.map (jD cs.Jobs))),some (.list told),x7,x8,some #[22]]=_;unfold bw;simp only[aq,aw,Rs.ag];rw[if_pos (show isC cs.Jobs "are_done" #[22]=true from uw)];simp only[aJ,Rs.ag];exact vQ
 have a:=i9 Jb.done (qs.map (·.2));simp only[rC,dE,fQ,aA,aJ,nV,hc,Rs.ag,a,Rs.ai,bB]
def cT(told:List PyData)(p:Addr×Jb):Bool:=p.2.there (told.length:Int)
theorem pe(h:∀p∈qs,p.2.job<=p.2.row.length){x6:Option PyData}:∀(us:List (Addr×Jb)),(∀p∈us,p∈qs) ->
  fO (gT (bw cs.Jobs "is_there" (aQ cs) (ae 9) (af (gF bS (af (ae 6) ah)) ah))) (ae 9) aG [some E,some R,some W,some (.str len),some tops,some (.list (qs.map (jD cs.Jobs))),x6,x7,x8] #[13] (us.map (jD cs.Jobs))=.ok ((us.filter (cT told)).map (jD cs.Jobs))
 |[],_=>rfl
 |p::r,hu=>by
  have a:=pe h (x6:=x6) r λq b=>hu q (M3 _ b)
  have hc:gT (bw cs.Jobs "is_there" (aQ cs) (ae 9) (af (gF bS (af (ae 6) ah)) ah)) (rnD cs.Jobs E R W tops len qs told x7 x8++[some #[22]])=.ok (cT told p):=by show gT (bw cs.Jobs "is_there" (aQ cs) (ae 9) (af (gF bS (af (ae 6) ah)) ah)) [some E,some R,some W,some (.str len),some tops,some (.list (qs.map (jD cs.Jobs))),some (.list told),x7,x8,some #[22]]=_;rw[dE];unfold bw;simp only[aq,aw,Rs.ag];rw[if_pos (show isC cs.Jobs "is_there" #[22]=true from uQ)];simp only[aA,aJ,fQ,aq,aw,lN,Rs.ai,Rs.ag];rw[show aQ cs [jD cs.Jobs p,.int (told.length:Int)]=_ from wL (h p (hu p M7))];rfl
  rw[M5];unfold fO;rw[show aG #[22]=some [some #[22]] from rfl];simp only[hc,Rs.cQ,Rs.ag];rw[Nd];cases cT told p with
  |true =>simp only[if_true];rw[show ae 9 ([some E,some R,some W,some (.str len),some tops,some (.list (qs.map (jD cs.Jobs))),x6,x7,x8]++[some #[22]])=.ok #[22] from rfl];simp only[Rs.cQ,Rs.ag,a];rfl
  |false=>simp only[N2,if_false,a]
end
mutual
theorem kW:∀d:PyData,aF d=true->objs d=true
 |.none,_=>by unfold objs;rfl
 |.bool _,_=>by unfold objs;rfl
 |.int _,_=>by unfold objs;rfl
 |.str _,_=>by unfold objs;rfl
 |.list ds,h=>by unfold objs;exact p7 ds (by simpa[aF] using h)
 |.tuple ds,h=>by unfold objs;exact p7 ds (by simpa[aF] using h)
 |.dict _,h=>by simp[aF]at h
theorem p7:∀ds:List PyData,df ds=true->kq ds=true
 |[],_=>by unfold kq;rfl
 |d::r,h=>by unfold df at h;rw[M9]at h;unfold kq;rw[kW d h.1,p7 r h.2];rfl
end
theorem zX:objs (jD C p)=true:=by unfold jD Jb.d;rw[wY];exact p.2.flat
theorem uf{C:Addr}:∀ts:List (Addr×Jb),kq (ts.map (jD C))=true
 |[]=>by unfold kq;rfl
 |p::r=>by rw[M5];unfold kq;rw[zX,uf r];rfl
theorem yR:objs (.list (ts.map (jD C)))=true:=by unfold objs;exact uf ts
section
variable {E R W:PyData}{len:Str}{qs:List (Addr×Jb)}
structure NoD(E R W tops:PyData)(told:List PyData):Prop where
 e:aF E=true
 r:aF R=true
 w:aF W=true
 t:aF tops=true
 o:aF (.list told)=true
theorem BK(n:NoD E R W tops told)(ha:q.1∈as):oZ as cs.Jobs 8 #[32]=some (q.1,q.2.fds):=by
 have h1:gZ #[32]=true:=by
  unfold gZ rnD;have b:objs (.str len)=true:=by unfold objs;rfl
  simp only[Oi,List.all_nil,Oa,kW _ n.e,kW _ n.r,kW _ n.w,kW _ n.t,kW _ n.o,b,yR,zX,Bool.and_self]
 show (match objOf (jD cs.Jobs q) with|some (c,a,fds)=>if c=cs.Jobs/\a∈as/\gZ #[32]=true/\gM fds=true/\fds.length<1000 then some (a,fds) else none|none=>none)=_;rw[show objOf (jD cs.Jobs q)=some (cs.Jobs,q.1,q.2.fds) from sL _ _ _];exact if_pos ⟨rfl,ha,h1,q.2.flat,show 7<1000 by decide⟩
end
def vb(a:Addr)(j:Jb)(qs:List (Addr×Jb)):List (Addr×Jb):=qs.map λp=>if p.1=a then (a,j) else p
section
variable {E R W:PyData}{len:Str}{qs:List (Addr×Jb)}
theorem Iu(n:NoD E R W tops told):lC q.1 (jD cs.Jobs (q.1,j)) #[32]=rnD cs.Jobs E R W tops len (vb q.1 j qs) told (some (.list ((vb q.1 j ts).map (jD cs.Jobs)))) (some (jD cs.Jobs (q.1,j))):=by
 have a:fK q.1 (jD cs.Jobs (q.1,j)) (.str len)=.str len:=by unfold fK;rfl
 have b:fK q.1 (jD cs.Jobs (q.1,j)) (jD cs.Jobs q)=jD cs.Jobs (q.1,j):=by rw[vT,if_pos rfl]
 unfold lC rnD vb;simp only[M5,Nw,NQ,om _ n.e,om _ n.r,om _ n.w,om _ n.t,om _ n.o,a,AL,b]
theorem Fq(n:NoD E R W tops told)(ha:q.1∈as)(a:q.2.part<q.2.parts.length):lI as cs.Jobs "go_on" 8 gu #[32]=.nx (rnD cs.Jobs E R W tops len (vb q.1 q.2.next qs) told (some (.list ((vb q.1 q.2.next ts).map (jD cs.Jobs)))) (some (jD cs.Jobs (q.1,q.2.next)))):=by unfold lI;rw[BK n ha];have b:oS "go_on" q.2.fds=none:=rfl;simp only[b,if_true,HS a];exact congrArg Sr.nx (Iu (cs:=cs) (len:=len) (qs:=qs) (ts:=ts) (q:=q) (j:=q.2.next) n)
end
section
variable {E R W:PyData}{len:Str}{qs:List (Addr×Jb)}{x7 x8:Option PyData}
theorem D4(hl:qs.length<=1000)(h:∀p∈qs,p.2.job<=p.2.row.length):rF [6] 7 9 (bh (ae 5)) (gT (bw cs.Jobs "is_there" (aQ cs) (ae 9) (af (gF bS (af (ae 6) ah)) ah))) (ae 9) aG #[13]=.nx (rnD cs.Jobs E R W tops len qs told (some #[11]) x8):=by
 have hm:mask [6] #[13]=[some E,some R,some W,some (.str len),some tops,some (.list (qs.map (jD cs.Jobs))),none,x7,x8]:=rfl;have hc:nz 9 (bh (ae 5)) (gT (bw cs.Jobs "is_there" (aQ cs) (ae 9) (af (gF bS (af (ae 6) ah)) ah))) (ae 9) aG (mask [6] #[13]) #[13]=.ok ((qs.filter (cT told)).map (jD cs.Jobs)):=by rw[hm];unfold nz;rw[if_pos (show [some E,some R,some W,some (.str len),some tops,some (.list (qs.map (jD cs.Jobs))),none,x7,x8].length=9 from rfl)];rw[show bh (ae 5) [some E,some R,some W,some (.str len),some tops,some (.list (qs.map (jD cs.Jobs))),none,x7,x8]=.ok (qs.map (jD cs.Jobs)) from rfl];simp only[Rs.ag];rw[if_pos (by rw[M6];omega)];exact pe h qs λp a=>a
 unfold rF;rw[if_pos (show 7<(rnD cs.Jobs E R W tops len qs told x7 x8).length from (by decide:7<9)),hc];rfl
end
noncomputable def cx(told:List PyData)(js:List Jb):List Jb:=js.filter λj=>j.there (told.length:Int)
def eO(b:Jb)(js:List Jb):List Jb:=js.map λj=>if j.num=b.num then b.next else j
def cX(b:Jb):PyData:=.tuple [.int b.num,.int (b.job:Int)]
def dh(tops:PyData)(len:Str)(s:List Jb×List PyData):List Jb×List PyData :=
 if cx s.2 s.1=[] then (s.1,s.2++[.none]) else (eO (cu tops len (cx s.2 s.1)) s.1,s.2++[cX (cu tops len (cx s.2 s.1))])
structure QOk(as:List Addr)(qs:List (Addr×Jb)):Prop where
 few:qs.length<=1000
 pl:qs.map (·.1)=as
 nda:as.Nodup
 ndn:(qs.map (·.2.num)).Nodup
 pt:∀p∈qs,p.2.part<p.2.parts.length
 jb:∀p∈qs,p.2.job<=p.2.row.length
theorem kT{α β:Type}{f:α->β}:∀{l:List α},(l.map f).Nodup->∀x∈l,∀y∈l,f x=f y->x=y
 |[],_,x,b,_,_,_=>by cases b
 |a::r,h,x,b,y,c,e=>by
  rw[M5,Nc]at h;rcases M8.mp b with rfl|b
  ·rcases M8.mp c with rfl|c
   ·rfl
   ·exact (h.1 (MM.mpr ⟨y,by assumption,e.symm⟩)).elim
  ·rcases M8.mp c with rfl|c
   ·exact (h.1 (MM.mpr ⟨x,by assumption,e⟩)).elim
   ·exact kT h.2 x b y c e
def rnB(cs:Cs)(as:List Addr):Ds->Sr:=(ay (rF [6] 7 9 (bh (ae 5)) (gT (bw cs.Jobs "is_there" (aQ cs) (ae 9) (af (gF bS (af (ae 6) ah)) ah))) (ae 9) aG)
 (sIf (gT (g2 dEq (gF bS (af (ae 7) ah)) #[1])) (ik [6] 6 (gC .none)) (ay (aN [6] 8 (au (cU cs) (af (ae 7) (af (ae 4) (af (ae 3) ah)))))
 (ay (ik [6] 6 (dS (af (g1 (bc cs.Jobs "number") (ae 8)) (af (g1 (bc cs.Jobs "job") (ae 8)) ah))))
 (lI as cs.Jobs "go_on" 8 gu)))))
section
variable {E R W:PyData}{len:Str}{qs:List (Addr×Jb)}
theorem xn:(qs.filter (cT told)).map (·.2)=cx told (qs.map (·.2)):=by unfold cx;rw[List.filter_map];rfl
theorem Gm(K:QOk as qs)(a:q∈qs)(c:j=q.2.next):(vb q.1 j qs).map (·.2)=eO q.2 (qs.map (·.2)):=by
 unfold vb eO;rw[N4,N4];refine MY λp b=>?_
 show (if p.1=q.1 then (q.1,j) else p).2=if p.2.num=q.2.num then q.2.next else p.2
 by_cases z:p.1=q.1
 ·have:p=q:=kT (f:=(·.1)) (by rw[K.pl];exact K.nda) p b q a z;rw[if_pos z,if_pos (by rw[this]),c]
 ·have:p.2.num≠q.2.num:=λe=>z (by rw[kT (f:=λx:Addr×Jb=>x.2.num) K.ndn p b q a e])
  rw[if_neg z,if_neg this]
theorem Hu:(vb a j qs).map (·.1)=qs.map (·.1):=by
 unfold vb;rw[N4];refine MY λp hp=>?_
 show (if p.1=a then (a,j) else p).1=p.1;by_cases z:p.1=a
 ·rw[if_pos z,z]
 ·rw[if_neg z]
theorem FP(K:QOk as qs)(n:NoD E R W tops told)(m:uC len)(s:∀p∈qs,∀t,p.2.held=some t->∃n:Int,dIx tops (.int t)=some (.int n))(hl:told.length<1000000)(x7 x8:Option PyData) :
  ∃b u v,rnB cs as #[13]=.nx (rnD cs.Jobs E R W tops len b (dh tops len (qs.map (·.2),told)).2 u v)/\b.map (·.1)=qs.map (·.1)/\b.map (·.2)=(dh tops len (qs.map (·.2),told)).1:=by
 have f:=D4 (cs:=cs) (E:=E) (R:=R) (W:=W) (tops:=tops) (len:=len) (told:=told) (x7:=x7) (x8:=x8) K.few K.jb;have hc:gT (g2 dEq (gF bS (af (ae 7) ah)) #[1]) (rnD cs.Jobs E R W tops len qs told (some #[11]) x8)=.ok (((qs.filter (cT told)).length:Int)==0):=by unfold rnD;simp only[dE,bR,fQ,aA,aJ,aq,aw,cJ,Rs.ag,lN,M6,Rs.ai,je,bB]
 unfold rnB dh;simp only[aT,f];have c:=xn (qs:=qs) (told:=told);by_cases z:qs.filter (cT told)=[]
 ·have h:(((qs.filter (cT told)).length:Int)==0)=true:=by rw[z];rfl
  have i:cx told (qs.map (·.2))=[]:=by rw[<-c,z];rfl
  rw[if_pos i,cK,hc];simp only[h,aB,if_true];refine⟨qs,some #[11],x8,?_,rfl,rfl⟩;show (if told.length<1000000 then Sr.nx _ else Sr.no)=_;rw[if_pos hl];rfl
 ·have h:(((qs.filter (cT told)).length:Int)==0)=false:=by rw[beq_eq_false_iff_ne];have:=NL.mpr z;omega
  have i:¬ cx told (qs.map (·.2))=[]:=λe=>z (by rw[<-c]at e;exact List.map_eq_nil_iff.mp e)
  have a:∀p∈qs.filter (cT told),p∈qs:=λp g=>(N3.mp g).1
  obtain⟨q,j,e2,e⟩:=Bg (cs:=cs) (tops:=tops) z (Nq (Oe _ _) K.few) (λp g=>K.pt p (a p g)) (λp g=>s p (a p g)) m;rw[c]at e2;rw[if_neg i,cK,hc];simp only[h,aB,N2,if_false];have x:aN [6] 8 (au (cU cs) (af (ae 7) (af (ae 4) (af (ae 3) ah)))) (rnD cs.Jobs E R W tops len qs told (some #[11]) x8)=.nx (rnD cs.Jobs E R W tops len qs told (some #[11]) (some (jD cs.Jobs q))):=by have l:au (cU cs) (af (ae 7) (af (ae 4) (af (ae 3) ah))) (mask [6] (rnD cs.Jobs E R W tops len qs told (some #[11]) x8))=.ok (jD cs.Jobs q):=e;unfold aN;rw[if_pos (show 8<(rnD cs.Jobs E R W tops len qs told (some #[11]) x8).length from (by decide:8<9)),l];rfl
  have f1:bc cs.Jobs "number" (jD cs.Jobs q)=some (.int q.2.num):=xJ;have f2:bc cs.Jobs "job" (jD cs.Jobs q)=some (.int (q.2.job:Int)):=uH;have y:ik [6] 6 (dS (af (g1 (bc cs.Jobs "number") (ae 8)) (af (g1 (bc cs.Jobs "job") (ae 8)) ah))) (rnD cs.Jobs E R W tops len qs told (some #[11]) (some (jD cs.Jobs q)))=.nx (rnD cs.Jobs E R W tops len qs (told++[cX q.2]) (some #[11]) (some (jD cs.Jobs q))):=by
   have l:dS (af (g1 (bc cs.Jobs "number") (ae 8)) (af (g1 (bc cs.Jobs "job") (ae 8)) ah)) (mask [6] (rnD cs.Jobs E R W tops len qs told (some #[11]) (some (jD cs.Jobs q))))=.ok (cX q.2):=by show dS _ [some E,some R,some W,some (.str len),some tops,some (.list (qs.map (jD cs.Jobs))),none,some #[11],some (jD cs.Jobs q)]=_;simp only[jB,aA,aJ,gH,aq,aw,Rs.ag,f1,f2,Rs.ai];rfl
   show ofR (dS _ (mask [6] _)) (λd=>if told.length<1000000 then Sr.nx _ else Sr.no)=_;rw[l];show (if told.length<1000000 then Sr.nx _ else Sr.no)=_;rw[if_pos hl];rfl
  have n':NoD E R W tops (told++[cX q.2]):=⟨n.e,n.r,n.w,n.t,by
   have h1:=n.o;refine fo λd hd=>?_
   rcases Nb.mp hd with hd|hd
   ·exact jM (by simpa[aF] using h1) d hd
   ·rw[MR.mp hd];rfl⟩
  have ha:q.1∈as:=by rw[<-K.pl];exact MM.mpr ⟨q,a q j,rfl⟩
  have A:=Fq (cs:=cs) (len:=len) (qs:=qs) (ts:=qs.filter (cT told)) n' ha (K.pt q (a q j));simp only[aT,x,y,A];rw[<-e2];exact⟨_,_,_,rfl,Hu,Gm K (a q j) rfl⟩
end
structure JOk(tops:PyData)(j:Jb):Prop where
 pt:j.part<j.parts.length
 jb:j.job<=j.row.length
 ln:∀p∈j.parts,1<=p.1
 sp:(j.spent:Int)<j.len
 tl:∀p∈j.parts,∀t,p.2=some t->∃n:Int,dIx tops (.int t)=some (.int n)
theorem JOk.held(h:JOk tops j):∀t,j.held=some t->∃n:Int,dIx tops (.int t)=some (.int n):=by
 intro t e;have hpt:=h.pt;have a:j.parts[j.part]?=some j.parts[j.part]:=M1 h.pt;unfold Jb.held Jb.tool at e;rw[a]at e;by_cases z:j.spent=0
 ·rw[if_pos z]at e;cases e
 ·rw[if_neg z]at e;exact h.tl _ (Na h.pt) t e
theorem len_pos{tops:PyData}(h:∀p∈j.parts,1<=p.1)(a:j.part<j.parts.length):1<=j.len:=by unfold Jb.len;rw[M1 a];exact h _ (Na a)
theorem Ff(h:JOk tops j)(c:j.job<j.row.length):JOk tops j.next:=by
 have a:0<j.parts.length:=Nat.lt_of_le_of_lt (NC _) h.pt;have hsp:=h.sp;unfold Jb.next Jb.step1;by_cases z:(j.spent:Int)+1=j.len
 ·rw[if_pos z];unfold Jb.step2;by_cases y:j.part+1=j.parts.length
  ·rw[if_pos (show ({ j with spent:=0,part:=j.part+1 }:Jb).part=({ j with spent:=0,part:=j.part+1 }:Jb).parts.length from y)];refine⟨a,c,h.ln,?_,h.tl⟩;have:=len_pos (tops:=tops) (j:={ j with spent:=0,part:=0,job:=j.job+1 }) h.ln a;show (0:Int)<_;exact OK #[2] this
  ·rw[if_neg (show ¬ ({ j with spent:=0,part:=j.part+1 }:Jb).part=({ j with spent:=0,part:=j.part+1 }:Jb).parts.length from y)];have b:j.part+1<j.parts.length:=by have:=h.pt;omega
   refine⟨b,h.jb,h.ln,?_,h.tl⟩;have:=len_pos (tops:=tops) (j:={ j with spent:=0,part:=j.part+1 }) h.ln b;show (0:Int)<_;exact OK #[2] this
 ·rw[if_neg z];unfold Jb.step2;rw[if_neg (show ¬ ({ j with spent:=j.spent+1 }:Jb).part=({ j with spent:=j.spent+1 }:Jb).parts.length from MV h.pt)];refine⟨h.pt,h.jb,h.ln,?_,h.tl⟩;show ((j.spent+1:Nat):Int)<j.len;omega
theorem n5(h:js≠[]):i7 key js∈js:=by
 have hl:0<js.length:=NL.mpr h;have hb:=vE (λi j=>ltD ((js.map key).getD i .none) ((js.map key).getD j .none)) (js.length-1);have a:kn (js.map key)<js.length:=by unfold kn;rw[M6];omega
 unfold i7;rw[MT,M1 a];exact Na a
theorem fT{len:Str}(h:js≠[]):cu tops len js∈js:=by
 unfold cu;split
 ·exact n5 h
 ·have hn:=qI (ts:=js.map λj=>((0:Addr),j)) (by simpa using h);have hm:(js.map λj=>((0:Addr),j)).map (·.2)=js:=by rw[N4];exact NA js
  rw[hm]at hn;have a:js.filter (fq js)≠[]:=by
   obtain⟨p,r,e⟩:=Oj hn;have b:p∈(js.map λj=>((0:Addr),j)).filter (λp=>fq js p.2):=by rw[e];exact M7
   obtain⟨h1,h2⟩:=N3.mp b;obtain⟨j,c,rfl⟩:=MM.mp h1;exact O0 (N3.mpr ⟨c,h2⟩)
  exact (N3.mp (n5 a)).1
theorem rn{t:Int}(h:j.there t=true):j.job<j.row.length:=by
 unfold Jb.there at h;by_cases z:j.job<j.row.length
 ·exact z
 ·rw[Ny (by omega)]at h;cases h
theorem wx(j:Jb):j.next.num=j.num:=by unfold Jb.next Jb.step1 Jb.step2;split <;> split <;> rfl
structure yG(tops:PyData)(js:List Jb):Prop where
 ok:∀j∈js,JOk tops j
 nd:(js.map (·.num)).Nodup
theorem BQ{b:Jb}:(eO b js).map (·.num)=js.map (·.num):=by
 unfold eO;rw[N4];refine MY λj hj=>?_
 show (if j.num=b.num then b.next else j).num=j.num;by_cases z:j.num=b.num
 ·rw[if_pos z,wx,z]
 ·rw[if_neg z]
theorem vk{len:Str}(h:yG tops js):yG tops (dh tops len (js,told)).1:=by
 unfold dh;by_cases z:cx told js=[]
 ·rw[if_pos z];exact h
 ·rw[if_neg z];have a:=fT (tops:=tops) (len:=len) z;obtain⟨hm,b⟩:=N3.mp a;refine⟨λj c=>?_,by rw[BQ];exact h.nd⟩;obtain⟨k,e,rfl⟩:=MM.mp c;by_cases y:k.num=(cu tops len (cx told js)).num
  ·simp only[y,if_true];exact Ff (h.ok _ hm) (rn b)
  ·simp only[if_neg y];exact h.ok k e
def uo(tops:PyData)(len:Str):Nat->List Jb×List PyData->Option #[5]
 |0,_=>none
 |n+1,s=>if s.1.all Jb.done=true then some s.2 else uo tops len n (dh tops len s)
def rnC(cs:Cs):Ds->Rs Bool:=gA (gT (gF pw (af (gL (aX 9 (bh (ae 5)) bJ (bw cs.Jobs "are_done" (aZ cs) (ae 9) ah) aG)) ah)))
theorem v8{len:Str}:(dh tops len s).2.length=s.2.length+1:=by unfold dh;split <;> simp
theorem yv{len:Str}(h:aF (.list s.2)=true):aF (.list (dh tops len s).2)=true:=by
 have h1:∀d∈s.2,aF d=true:=jM (by simpa[aF] using h);refine fo λd hd=>?_
 unfold dh at hd;split at hd
 ·rcases Nb.mp hd with hd|hd
  ·exact h1 d hd
  ·rw[MR.mp hd];rfl
 ·rcases Nb.mp hd with hd|hd
  ·exact h1 d hd
  ·rw[MR.mp hd];rfl
section
variable {E R W:PyData}{len:Str}
theorem JH{qs:List (Addr×Jb)}(hl:qs.length<=1000)(a:qs.map (·.1)=as)(nd:as.Nodup)(h:yG tops (qs.map (·.2))):QOk as qs:=by
 have hm:∀p∈qs,JOk tops p.2:=λp a=>h.ok _ (MM.mpr ⟨p,a,rfl⟩)
 refine⟨hl,a,nd,?_,λp a=>(hm p a).pt,λp a=>(hm p a).jb⟩;have:=h.nd;rw[N4]at this;exact this
theorem xC(i:uC len)(nd:as.Nodup):∀(n:Nat)(qs:List (Addr×Jb))(told t:List PyData)(x7 x8:Option PyData),qs.length<=1000->qs.map (·.1)=as->yG tops (qs.map (·.2))->NoD E R W tops told->told.length+n<=1000000->uo tops len n (qs.map (·.2),told)=some t ->
  ∃a c f,cE (rnC cs) (rnB cs as) n #[13]=.nx (rnD cs.Jobs E R W tops len a t c f)
 |0,_,_,_,_,_,_,_,_,_,_,h=>by cases h
 |n+1,qs,told,t,x7,x8,hl,b,hj,no,hn,h=>by
  have K:=JH hl b nd hj;have hc:rnC cs #[13]=.ok (!((qs.map (·.2)).all Jb.done)):=cond_of hl;unfold uo at h;unfold cE;rw[hc];simp only[aB];cases z:(qs.map (·.2)).all Jb.done with
  |true =>rw[if_pos z]at h;cases h;simp only[Bool.not_true,N2,if_false];exact⟨qs,x7,x8,rfl⟩
  |false =>
   rw[if_neg (by rw[z];exact MQ)]at h;simp only[Bool.not_false,if_true];obtain⟨a,c,f,e,f1,f2⟩:=FP (cs:=cs) K no i (λp b=>(hj.ok _ (MM.mpr ⟨p,b,rfl⟩)).held) (by omega) x7 x8;rw[e];have g:a.length<=1000:=by have:=congrArg List.length f1;rw[M6,M6]at this;omega
   refine xC i nd n a _ t c f g (by rw[f1];exact b) (by rw[f2];exact vk hj) ⟨no.e,no.r,no.w,no.t,yv (s:=(qs.map (·.2),told)) no.o⟩ (by rw[v8];show told.length+1+n<=_;omega) ?_;rw[f2];exact h
end
noncomputable def bT(ps:List #[25]):Int:=(ps.map (·.1)).sum
theorem eW(p:Int×Option Int)(r:List #[25]):bT (p::r)=p.1+bT r:=by unfold bT;rw[M5,Nf]
def Jb.work(j:Jb):Int:=bT j.parts
def Jb.cur(j:Jb):Int:=bT (j.parts.take j.part)+j.spent
def Jb.tot(j:Jb):Int:=j.job*j.work+j.cur
theorem kS:∀{ps:List #[25]}{k:Nat}(h:k<ps.length),bT (ps.take (k+1))=bT (ps.take k)+ps[k].1
 |[],k,h=>by cases h
 |p::r,0,_=>by rw[O8,List.take_zero,eW];show p.1+bT []=bT []+p.1;omega
 |p::r,k+1,h=>by
  have a:k<r.length:=by simpa using h
  have b:=kS (ps:=r) (k:=k) a;rw[O8,O8,eW,eW,b];show p.1+(bT (r.take k)+r[k].1)=p.1+bT (r.take k)+r[k].1;omega
theorem rB(h:JOk tops j):j.next.tot=j.tot+1:=by
 have hpt:=h.pt;have hlen:j.len=j.parts[j.part].1:=by unfold Jb.len;rw[M1 h.pt];rfl
 have ht:=kS h.pt;unfold Jb.next Jb.step1;by_cases z:(j.spent:Int)+1=j.len
 ·rw[if_pos z];unfold Jb.step2;by_cases y:j.part+1=j.parts.length
  ·rw[if_pos (show ({ j with spent:=0,part:=j.part+1 }:Jb).part=({ j with spent:=0,part:=j.part+1 }:Jb).parts.length from y)];have hw:bT (j.parts.take (j.part+1))=bT j.parts:=by rw[y,OT]
   show ((j.job+1:Nat):Int)*bT j.parts+(bT (j.parts.take 0)+((0:Nat):Int))=(j.job:Int)*bT j.parts+(bT (j.parts.take j.part)+(j.spent:Int))+1;have a:bT (j.parts.take 0)=0:=rfl;have e1:((j.job+1:Nat):Int)*bT j.parts=(j.job:Int)*bT j.parts+bT j.parts:=by rw[Int.natCast_add,Int.add_mul];simp
   rw[a,e1];omega
  ·rw[if_neg (show ¬ ({ j with spent:=0,part:=j.part+1 }:Jb).part=({ j with spent:=0,part:=j.part+1 }:Jb).parts.length from y)];show (j.job:Int)*bT j.parts+(bT (j.parts.take (j.part+1))+((0:Nat):Int))=(j.job:Int)*bT j.parts+(bT (j.parts.take j.part)+(j.spent:Int))+1;omega
 ·rw[if_neg z];unfold Jb.step2;rw[if_neg (show ¬ ({ j with spent:=j.spent+1 }:Jb).part=({ j with spent:=j.spent+1 }:Jb).parts.length from MV h.pt)];show (j.job:Int)*bT j.parts+(bT (j.parts.take j.part)+((j.spent+1:Nat):Int))=(j.job:Int)*bT j.parts+(bT (j.parts.take j.part)+(j.spent:Int))+1;omega
theorem oY:∀(a b:List #[25]),bT (a++b)=bT a+bT b
 |[],b=>by show bT b=0+bT b;omega
 |p::r,b=>by rw[Nv,eW,eW,oY r b];omega
theorem jA:∀{ps:List #[25]},(∀p∈ps,1<=p.1)->0<=bT ps
 |[],_=>NN 0
 |p::r,h=>by
  have:=h p M7;have ih:=jA (ps:=r) λq a=>h q (M3 _ a)
  rw[eW];omega
theorem uq{ps:List #[25]}(h:∀p∈ps,1<=p.1)(k:Nat):bT (ps.take k)<=bT ps:=by
 have e:=oY (ps.take k) (ps.drop k);rw[List.take_append_drop]at e;have:=jA (ps:=ps.drop k) λq a=>h q (Nt a)
 omega
theorem oQ(h:JOk tops j):0<=j.cur/\j.cur<j.work:=by
 have hpt:=h.pt;have hlen:j.len=j.parts[j.part].1:=by unfold Jb.len;rw[M1 h.pt];rfl
 have ht:=kS h.pt;have h1:=uq h.ln (j.part+1);have h2:=jA (ps:=j.parts.take j.part) λq a=>h.ln q (O6 a)
 have h3:=h.sp;unfold Jb.cur Jb.work;omega
theorem ym(h:JOk tops j){k:Nat}(hj:j.job<k):j.tot<(k:Int)*j.work:=by obtain⟨c0,c1⟩:=oQ h;have:=Nu (a:=(j.job:Int)+1) (b:=(k:Int)) (c:=j.work) (by omega) (by omega);rw[Int.add_mul,Int.one_mul]at this;unfold Jb.tot;omega
theorem i5(j:Jb):j.next.row=j.row:=by unfold Jb.next Jb.step1 Jb.step2;split <;> split <;> rfl
theorem jr(j:Jb):j.next.parts=j.parts:=by unfold Jb.next Jb.step1 Jb.step2;split <;> split <;> rfl
def Jb.left(j:Jb):Nat:=((j.row.length:Int)*j.work-j.tot).toNat
theorem tF(j:Jb):j.next.work=j.work:=by unfold Jb.work;rw[jr]
theorem AF(h:JOk tops j)(a:j.job<j.row.length):j.next.left+1=j.left:=by have h1:=rB h;have h2:=ym h a;unfold Jb.left;rw[i5,tF,h1];omega
theorem Aa{b:Jb}:∀{r:List Jb},(∀k∈r,k.num≠b.num)->eO b r=r
 |[],_=>rfl
 |k::t,h=>by show (if k.num=b.num then b.next else k)::eO b t=_;rw[if_neg (h k M7),Aa λx a=>h x (M3 _ a)]
theorem oy{b:Jb}{r:List Jb}(nd:((j::r).map (·.num)).Nodup)(a:b∈j::r):(j=b/\eO b (j::r)=b.next::r)\/(j.num≠b.num/\b∈r/\eO b (j::r)=j::eO b r):=by
 rw[M5,Nc]at nd;have e:eO b (j::r)=(if j.num=b.num then b.next else j)::eO b r:=rfl;by_cases z:j.num=b.num
 ·left;have c:j=b:=by
   rcases M8.mp a with h|h
   ·exact h.symm
   ·exact (nd.1 (MM.mpr ⟨b,h,z.symm⟩)).elim
  refine⟨c,?_⟩;rw[e,if_pos z,Aa λk f q=>nd.1 (MM.mpr ⟨k,f,q.trans z.symm⟩)]
 ·right;refine⟨z,?_,by rw[e,if_neg z]⟩;rcases M8.mp a with h|h
  ·exact (z (by rw[h])).elim
  ·exact h
theorem vN{f:Jb->Nat}{b:Jb}:∀{js:List Jb},(js.map (·.num)).Nodup->b∈js->f b.next+1=f b->((eO b js).map f).sum+1=(js.map f).sum
 |[],_,a,_=>by cases a
 |j::r,nd,a,hf=>by
  rcases oy nd a with⟨g,e⟩|⟨_,c,e⟩
  ·rw[e,M5,M5,Nf,Nf,g];omega
  ·rw[M5,Nc]at nd;have:=vN nd.2 c hf;rw[e,M5,M5,Nf,Nf];omega
def zv(js:List Jb):Nat:=(js.map Jb.left).sum
theorem lR{b k:Jb}(hb:b∈js)(a:k∈eO b js):k∈js\/k=b.next:=by
 obtain⟨j,c,rfl⟩:=MM.mp a;by_cases z:j.num=b.num
 ·right;exact if_pos z
 ·left;rw[if_neg z];exact c
theorem kN{len:Str}(z:cx told js=[]):dh tops len (js,told)=(js,told++[.none]):=by unfold dh;exact if_pos z
theorem oq{len:Str}(z:cx told js≠[]):∃b,b∈js/\b.there (told.length:Int)=true/\dh tops len (js,told)=(eO b js,told++[cX b]):=by obtain⟨hm,a⟩:=N3.mp (fT (tops:=tops) (len:=len) z);refine⟨_,hm,a,?_⟩;unfold dh;exact if_neg z
theorem HA(h:JOk tops j)(hd:j.done=false):j.job<j.row.length:=by have:=h.jb;unfold Jb.done at hd;rw[beq_eq_false_iff_ne]at hd;omega
theorem p9{tops:PyData}{len:Str}{B:Nat}:∀(n:Nat)(js:List Jb)(told:List PyData),yG tops js->(∀j∈js,∀c∈j.row,c<(B:Int))->zv js+(B-told.length)<n->∃t,uo tops len n (js,told)=some t
 |0,_,_,_,_,hn=>by omega
 |n+1,js,told,h,hr,hn=>by
  unfold uo;by_cases z:js.all Jb.done=true
  ·exact⟨told,if_pos z⟩
  ·rw[if_neg (show ¬ ((js,told).1.all Jb.done=true) from z)];by_cases y:cx told js=[]
   ·rw[kN y];refine p9 n js _ h hr ?_;rw[MX]at z;obtain⟨j,o⟩:=Classical.not_forall.mp z;obtain⟨hm,hd⟩:=Classical.not_imp.mp o;have a:=HA (h.ok j hm) (Bool.eq_false_iff.mpr hd);have hc:=hr j hm _ (Na a);have g:¬ j.there (told.length:Int)=true:=λe=>by have:j∈cx told js:=N3.mpr ⟨hm,e⟩;rw[y]at this;cases this
    unfold Jb.there at g;rw[M1 a]at g;simp only[decide_eq_true_eq]at g;rw[MN,Nj];omega
   ·obtain⟨b,l,g,e⟩:=oq (tops:=tops) (len:=len) y;have i:=vk (len:=len) (told:=told) h;rw[e]at i ⊢;have hs:=vN (f:=Jb.left) h.nd l (AF (h.ok _ l) (rn g));refine p9 (B:=B) n _ _ i (λk m=>?_) ?_
    ·rcases lR l m with m|rfl
     ·exact hr k m
     ·rw[i5];exact hr b l
    ·rw[MN,Nj];unfold zv at hn ⊢;omega
def i6(r:List Int)(t:Int):Nat:=(r.filter λc=>decide (c<=t)).length
theorem fN(a:Int)(s:List Int)(t:Int):i6 (a::s) t=(if a<=t then 1 else 0)+i6 s t:=by
 unfold i6;rw[Nd];by_cases z:a<=t
 ·rw[if_pos (decide_eq_true z),if_pos z,MW];omega
 ·rw[if_neg (by simpa using z),if_neg z];omega
theorem wt(r:List Int)(t:Int):i6 r t<=r.length:=Oe _ _
theorem tH{t u:Int}(h:t<=u):∀r:List Int,i6 r t<=i6 r u
 |[]=>My _
 |a::s=>by
  have ih:=tH h s;rw[fN,fN];by_cases z:a<=t
  ·rw[if_pos z,if_pos (by omega)];omega
  ·rw[if_neg z];omega
theorem sy{t:Int}:∀{r:List Int},(∀c∈r,t<c)->i6 r t=0
 |[],_=>rfl
 |a::s,h=>by have:=h a M7;rw[fN,if_neg (by omega),sy λc hc=>h c (M3 _ hc)]
theorem uR{t:Int}:∀{r:List Int}{k:Nat}(b:k<r.length),r.Pairwise (· < ·)->t<r[k]->i6 r t<=k
 |[],_,b,_,_=>by cases b
 |a::s,0,_,hp,h=>by rw[Oz]at hp;have h:t<a:=h;have:=hp.1;rw[fN,if_neg (by omega),sy λc hc=>Int.lt_trans h (this c hc)];exact My _
 |a::s,k+1,b,hp,h=>by
  rw[Oz]at hp;have e:k<s.length:=by simpa using b
  have ih:=uR e hp.2 (show t<s[k] from h);rw[fN];split <;> omega
theorem uN{t:Int}:∀{r:List Int}{k:Nat}(c:k<r.length),r.Pairwise (· < ·)->r[k]<=t->k<i6 r t
 |[],_,c,_,_=>by cases c
 |a::s,0,_,hp,h=>by have h:a<=t:=h;rw[fN,if_pos h];omega
 |a::s,k+1,c,hp,h=>by
  rw[Oz]at hp;have b:k<s.length:=by simpa using c
  have h:s[k]<=t:=h;have ih:=uN b hp.2 h;have:=hp.1 _ (Na b);rw[fN,if_pos (by omega)];omega
def gQ(t:Int)(j:Jb):Int:=(i6 j.row t:Int)*j.work-j.tot
structure IvJ(tops:PyData)(t:Int)(js:List Jb):Prop where
 ok:yG tops js
 srt:∀j∈js,j.row.Pairwise (· < ·)
 low:∀j∈js,0<=gQ t j
theorem xT{t:Int}(h:JOk tops j)(c:j.row.Pairwise (· < ·))(b:j.there t=true):0<gQ t j:=by have a:=rn b;unfold Jb.there at b;rw[M1 a]at b;have:=ym h (uN a c (of_decide_eq_true b));unfold gQ;omega
theorem CG{t:Int}(h:JOk tops j)(f:j.row.Pairwise (· < ·))(hl:0<=gQ t j)(e:j.there t=false):gQ t j=0:=by
 have hc:i6 j.row t<=j.job:=by
  by_cases z:j.job<j.row.length
  ·unfold Jb.there at e;rw[M1 z]at e;have:=of_decide_eq_false e;exact uR z f (by omega)
  ·have:=wt j.row t;omega
 obtain⟨c0,c1⟩:=oQ h;have:=Nu (a:=(i6 j.row t:Int)) (b:=(j.job:Int)) (c:=j.work) (by omega) (by omega);unfold gQ Jb.tot at hl ⊢;omega
theorem ig{α:Type}(f:α->Int):∀{l:List α},(∀x∈l,f x=0)->(l.map f).sum=0
 |[],_=>rfl
 |a::r,h=>by rw[M5,Nf,h a M7,ig f λx b=>h x (M3 _ b)];rfl
theorem nX{t u:Int}(e:t<=u)(h:JOk tops j):gQ t j<=gQ u j:=by have h1:=tH e j.row;have h2:=oQ h;have:=Nu (a:=(i6 j.row t:Int)) (b:=(i6 j.row u:Int)) (c:=j.work) (by omega) (by omega);unfold gQ;omega
theorem G5{len:Str}(h:IvJ tops (told.length:Int) js):IvJ tops ((dh tops len (js,told)).2.length:Int) (dh tops len (js,told)).1:=by
 have c:=vk (len:=len) (told:=told) h.ok;by_cases z:cx told js=[]
 ·rw[kN z]at c ⊢;refine⟨c,h.srt,λj a=>?_⟩;have:=h.low j a;have:=nX (u:=(((told++[PyData.none]).length:Nat):Int)) (t:=(told.length:Int)) (by rw[MN];omega) (h.ok.ok j a);show 0<=gQ (((told++[PyData.none]).length:Nat):Int) j;omega
 ·obtain⟨b,f,g,e⟩:=oq (tops:=tops) (len:=len) z;rw[e]at c ⊢;refine⟨c,λj a=>?_,λj a=>?_⟩
  ·rcases lR f a with a|rfl
   ·exact h.srt j a
   ·rw[i5];exact h.srt b f
  ·show 0<=gQ (((told++[cX b]).length:Nat):Int) j;rcases lR f a with a|rfl
   ·have:=h.low j a;have:=nX (u:=(((told++[cX b]).length:Nat):Int)) (t:=(told.length:Int)) (by rw[MN];omega) (h.ok.ok j a);omega
   ·have h2:=xT (h.ok.ok b f) (h.srt b f) g;have h3:=nX (u:=(((told++[cX b]).length:Nat):Int)) (t:=(told.length:Int)) (by rw[MN];omega) (h.ok.ok b f);have i:=rB (h.ok.ok b f);unfold gQ at h2 h3 ⊢;rw[i5,tF,i];omega
theorem Hi(h:JOk tops j):j.tot / j.work=(j.job:Int):=by obtain⟨c0,c1⟩:=oQ h;unfold Jb.tot;rw[Int.add_comm,Int.add_mul_ediv_right _ _ (by omega),Int.ediv_eq_zero_of_lt c0 c1];omega
def gj(j:Jb):Int×List #[25]×List Int:=(j.num,j.parts,j.row)
theorem tq{b:Jb}:∀{js:List Jb},(js.map (·.num)).Nodup->b∈js->(eO b js).map gj=js.map gj
 |[],_,a=>by cases a
 |j::r,nd,a=>by
  rcases oy nd a with⟨f,e⟩|⟨_,c,e⟩
  ·rw[e,M5,M5,f];unfold gj;rw[wx,jr,i5]
  ·rw[M5,Nc]at nd;rw[e,M5,M5,tq nd.2 c]
theorem cC{g:Ds->Rs PyData}{d:PyData}(hi:i<δ.length)(a:g (mask O δ)=.ok d):aN O i g δ=.nx (δ.set i (some d)):=by unfold aN;rw[if_pos hi,a];rfl
def mkJ(es:List Er)(rs:List Int)(k:Nat)(row:List Int):Jb:=⟨(k:Int),(bZ es (k:Int)).parts,(placeOf rs (k:Int):Int),row,0,0,0⟩
def startJ(es:List Er)(rs:List Int)(rows:List (List Int)):List Jb:=rows.mapIdx (mkJ es rs)
section
theorem kQ(i:Nat):(startJ es rs rows)[i]?=(rows[i]?).map (mkJ es rs i):=O5
theorem ee(h:j∈startJ es rs rows):∃(k:Nat)(row:List Int),k<rows.length/\row∈rows/\rows[k]?=some row/\j=mkJ es rs k row:=by obtain⟨k,b⟩:=O1.mp h;rw[kQ]at b;obtain⟨row,a,e⟩:=NX.mp b;exact⟨k,row,(N0.mp a).1,Nm a,a,e.symm⟩
theorem hV:(startJ es rs rows).length=rows.length:=List.length_mapIdx
theorem yo:(startJ es rs rows).map (·.num)=(List.range rows.length).map λ(k:Nat)=>(k:Int) :=
 Oh (by simp[startJ]) (λi h1 h2=>by simp[startJ,mkJ])
theorem Fi(n:Nat):((List.range n).map λ(k:Nat)=>(k:Int)).Nodup:=List.Pairwise.map _ (λa b h e=>h (by omega)) List.nodup_range
theorem m8(k:Nat)(row:List Int):(mkJ es rs k row).tot=0:=by show ((0:Nat):Int)*_+(bT (List.take 0 _)+((0:Nat):Int))=0;rw[List.take_zero];have:bT []=0:=rfl;rw[this];simp
end
theorem vt:∀{ps:List #[25]},(∀p∈ps,p.1<=20)->bT ps<=20*(ps.length:Int)
 |[],_=>NN 0
 |p::r,h=>by
  have:=h p M7;have ih:=vt (ps:=r) λq a=>h q (M3 _ a)
  rw[eW,MW];omega
theorem Ac{α:Type}(f:α->Nat){c:Nat}:∀{l:List α},(∀x∈l,f x<=c)->(l.map f).sum<=l.length*c
 |[],_=>NC _
 |a::r,h=>by
  have h1:=h a M7;have ih:=Ac f (l:=r) λx b=>h x (M3 _ b)
  rw[M5,Nf,MW,Nat.add_mul];omega
theorem jk{t n:Int}(t0:0<=t)(t3:t<=3)(h:bq es rs t=some n):dIx (av es rs) (.int t)=some (.int n):=by
 obtain⟨m,rfl⟩:∃m:Nat,t=(m:Int):=⟨t.toNat,by omega⟩
 show atI ((List.range 4).map λ(t:Nat)=>bg (bq es rs t)) (m:Int)=_;refine pC ?_;rw[MP,NM (by omega),NQ,h];rfl
theorem rP(es:List Er)(rs:List Int):aF (av es rs)=true:=fo λd hd=>by obtain⟨t,_,rfl⟩:=MM.mp hd;exact sP _
structure Ran(es:List Er)(rs:List Int)(rows:List (List Int))(len:Str):Prop where
 eok:yt es
 rok:cN es.length rs
 ln:rows.length=es.length
 le:uC len
def lU(es:List Er)(rs:List Int)(rows:List (List Int))(len:Str):Option #[5]:=uo (av es rs) len 1000000 (startJ es rs rows,[])
section
variable {len:Str}
theorem mw(h:yt es)(f:cN es.length rs)(hl:rows.length=es.length):yG (av es rs) #[19]:=by
 refine⟨λj g=>?_,by rw[yo];exact Fi _⟩;obtain⟨k,row,hk,_,_,rfl⟩:=ee g;have c:(0:Int)<=(k:Int):=by omega
 have h1:(k:Int)<es.length:=by omega
 have ok:=h.ok _ (dX c h1);have a:0<(bZ es (k:Int)).parts.length:=NL.mpr ok.p1;refine⟨a,NC _,λp b=>(ok.pl p b).1,?_,λp b u e=>?_⟩
 ·have:=len_pos (tops:=.none) (j:=mkJ es rs k row) (λp b=>(ok.pl p b).1) a;show (0:Int)<_;exact OK #[2] this
 ·obtain⟨i,l⟩:=(ok.pl p b).2.2 u e;have m:(bZ es (k:Int)).has u=true:=by unfold Er.has;rw[NG];exact⟨p,b,by rw[e];exact beq_self_eq_true _⟩
  obtain⟨n,hn⟩:=mP es u rs 0 (k:Int) (f.mem c h1) m;exact⟨n,jk i l hn⟩
theorem Cc(R:Ran es rs rows len)(C:Cms es rows):∃t,lU es rs rows len=some t:=by
 have a:=C.qc;refine p9 (B:=10000) 1000000 _ [] (mw R.eok R.rok R.ln) (λj b c hc=>?_) ?_
 ·obtain⟨k,row,_,hm,_,rfl⟩:=ee b;have:=(a row hm).hi c hc;omega
 ·have f:zv #[19]<=(startJ es rs rows).length*4800:=Ac Jb.left λj b=>by
   obtain⟨k,row,hk,hm,_,rfl⟩:=ee b;have ok:=R.eok.ok _ (dX (n:=(k:Int)) (by omega) (by have:=R.ln;omega));have h1:=vt λp e=>(ok.pl p e).2.1
   have h2:=ok.p2;have h3:=(a row hm).few;have g:=jA λp e=>(ok.pl p e).1
   unfold Jb.left;rw[m8];have h5:((mkJ es rs k row).row.length:Int)*(mkJ es rs k row).work<=60*80:=Int.mul_le_mul (by show (row.length:Int)<=60;omega) (by show bT (bZ es (k:Int)).parts<=80;omega) g #[2];omega
  rw[hV]at f;have h6:=R.eok.l6;have h7:=R.ln;show zv #[19]+(10000-0)<1000000;have h8:rows.length*4800<=6*4800:=Nat.mul_le_mul_right _ (by omega);omega
end
def fsJ(j:Jb):List PyData:=[.int j.num,.tuple (j.parts.map aI),.int j.rank,dH j.row]
theorem yj(h:∀j∈js,j.job=0/\j.part=0/\j.spent=0):k9 C JN JT as (js.map fsJ)=(as.zip js).map (jD C):=by
 unfold k9;rw[List.zip_map_right,N4];refine MY λp c=>?_
 obtain⟨h1,h2,h3⟩:=h p.2 (Oo (a:=p.1) (b:=p.2) c).2;show cB C p.1 (JN.zip (fsJ p.2)++tlD JT)=cB C p.1 p.2.fds;unfold Jb.fds;rw[h1,h2,h3];rfl
section
variable {len:Str}
theorem Ft(R:Ran es rs rows len)(c:lU es rs rows len=some t)(hl:as.length=rows.length)(nd:as.Nodup) :
  jx cs aR (aZ cs) (cU cs) (aQ cs) gu as [some (ar es),some (ak rs),some (cmD rows),some (.str len),some (av es rs),some (.list ((as.zip #[19]).map (jD cs.Jobs))),none,none,none]=.rt (.list t):=by
 have b:(as.zip #[19]).map (·.1)=as:=List.map_fst_zip (by rw[hV,hl];exact My _);have a:(as.zip #[19]).map (·.2)=startJ es rs rows:=List.map_snd_zip (by rw[hV,hl];exact My _);obtain⟨qs',y7,y8,e⟩:=xC (cs:=cs) (E:=ar es) (R:=ak rs) (W:=cmD rows) (tops:=av es rs) (len:=len) (as:=as) R.le nd 1000000 (as.zip #[19]) [] t none none
  (by rw[List.length_zip,hV];have:=R.eok.l6;have:=R.ln;omega) b (by rw[a];exact mw R.eok R.rok R.ln) ⟨sM es,qQ rs,qZ rows,rP es rs,fo λd hd=>by cases hd⟩ (by rw[NI];omega) (by rw[a];exact c)
 have f:eu [6] 6 ah [some (ar es),some (ak rs),some (cmD rows),some (.str len),some (av es rs),some (.list ((as.zip #[19]).map (jD cs.Jobs))),none,none,none]=.nx (rnD cs.Jobs (ar es) (ak rs) (cmD rows) (av es rs) len (as.zip #[19]) [] none none):=rfl;show ay (eu [6] 6 ah) (ay (λδ=>cE (rnC cs) (rnB cs as) 1000000 δ) (bf (ae 6))) _=_;rw[aT,f];show (match cE (rnC cs) (rnB cs as) 1000000 (rnD cs.Jobs (ar es) (ak rs) (cmD rows) (av es rs) len (as.zip #[19]) [] none none) with
  |.nx δ'=>bf (ae 6) δ'
  |r=>r)=_
 rw[e];rfl
end
def DJ:PyData->List Int
 |.list xs=>(gP xs).getD []
 |_=>[]
def D0:PyData->List (List Int)
 |.list l=>l.map DJ
 |_=>[]
theorem EG(rows:List (List Int)):D0 (cmD rows)=rows:=by
 show (rows.map dH).map DJ=rows;rw[N4];have:∀r∈rows,(DJ∘dH) r=id r:=λr _=>by show (gP (r.map PyData.int)).getD []=r;rw[ft];rfl
 rw[MY this,NA]
def lenOf:PyData->Str
 |.str s=>s
 |_=>""
def El(d r c l:PyData):PyData:=match lU (dJ d) (de r) (D0 c) (lenOf l) with
 |some t=>.list t
 |none=>.none
theorem va{len:Str}(a:lU es rs rows len=some t):El (ar es) (ak rs) (cmD rows) (.str len)=.list t:=by unfold El;rw[jw,kI,EG,show lenOf (.str len)=len from rfl,a]
def atD(δ:Ds)(i:Nat):PyData:=((δ[i]?).getD none).getD .none
open Classical in
def lG:Ds->Sr:=λδ=>if ∃es rs rows len t,Ran es rs rows len/\lU es rs rows len=some t/\δ=[some (ar es),some (ak rs),some (cmD rows),some (.str len),some (av es rs),none,none,none,none] then .rt (El (atD δ 0) (atD δ 1) (atD δ 2) (atD δ 3)) else .no
theorem HE{len:Str}(R:Ran es rs rows len)(a:lU es rs rows len=some t):lG [some (ar es),some (ak rs),some (cmD rows),some (.str len),some (av es rs),none,none,none,none]=.rt (.list t):=by unfold lG;rw[if_pos ⟨es,rs,rows,len,t,R,a,rfl⟩];exact congrArg Sr.rt (va a)
theorem Gs(cs:Cs):∀δ,lG δ≠.no->∃d ds a,lG δ=.rt d/\5<δ.length/\δ.length=9/\(fw #[28]) (mask [6] δ)=.ok ds/\ds.length<=1000000/\a.length=ds.length/\(∀(i:Nat) d,ds[i]?=some d->∃f fs,kA d=some f/\a[i]?=some fs/\(af (ae 9) (af (g2 dIx (g2 dIx (ae 0) (ae 9)) #[15]) (af (nK (ae 1) (ae 9)) (af (ae 10) ah)))) (mask [6] δ++f)=.ok fs/\fs.length=JN.length) /\
   ∀as:List Addr,as.length=ds.length->as.Nodup->jx cs aR (aZ cs) (cU cs) (aQ cs) gu as (δ.set 5 (some (.list (k9 cs.Jobs JN JT as a))))=.rt d:=by
 intro δ b;by_cases hx:∃es rs rows len t,Ran es rs rows len/\lU es rs rows len=some t/\δ=[some (ar es),some (ak rs),some (cmD rows),some (.str len),some (av es rs),none,none,none,none]
 ·obtain⟨es,rs,rows,len,t,R,g,rfl⟩:=hx;have hln:=R.ln;refine⟨.list t,fD (rows.map dH),#[19].map fsJ,HE R g,(by decide:5<9),rfl,rfl,?_,?_,?_,?_⟩
  ·rw[iV,M6];have:=R.eok.l6;omega
  ·rw[iV,M6,M6,hV]
  ·intro i d hd;unfold fD at hd;rw[O5,MP]at hd;cases q:rows[i]? with
   |none=>rw[q]at hd;cases hd
   |some row =>
    rw[q]at hd;have e:some (PyData.tuple [.int (i:Int),dH row])=some d:=hd;cases e;have hi:=(N0.mp q).1;have h:(0:Int)<=(i:Int):=by omega
    have h1:(i:Int)<es.length:=by omega
    refine⟨[some (.int (i:Int)),some (dH row)],fsJ (mkJ es rs i row),rfl,?_,?_,rfl⟩
    ·rw[MP,kQ,q];rfl
    ·have a1:dIx (ar es) (.int (i:Int))=some (bZ es (i:Int)).d:=iz h h1;have a2:=vi (bZ es (i:Int));have l:=kj (R.rok.mem h h1);show (af (ae 9) (af (g2 dIx (g2 dIx (ae 0) (ae 9)) #[15]) (af (nK (ae 1) (ae 9)) (af (ae 10) ah)))) [some (ar es),some (ak rs),some (cmD rows),some (.str len),some (av es rs),none,none,none,none,some (.int (i:Int)),some (dH row)]=_;simp only[aA,aJ,bR,aq,aw,cJ,yN,Rs.ag,a1,a2,Rs.ai,ak,l];rfl
  ·intro as c nd;rw[iV,M6]at c;rw[yj λj m=>by obtain⟨k,row,_,_,_,rfl⟩:=ee m;exact⟨rfl,rfl,rfl⟩];exact Ft R g c nd
 ·unfold lG at b;rw[if_neg hx]at b;exact absurd rfl b
open Classical in
def eU(cs:Cs):Gf:=λds=>if ∃es rs rows len t,Ran es rs rows len/\lU es rs rows len=some t/\ds=[ar es,ak rs,cmD rows,.str len] then .ok (El (ds.getD 0 .none) (ds.getD 1 .none) (ds.getD 2 .none) (ds.getD 3 .none)) else .no
theorem mR{len:Str}(R:Ran es rs rows len)(a:lU es rs rows len=some t):eU cs [ar es,ak rs,cmD rows,.str len]=.ok (.list t):=by unfold eU;rw[if_pos ⟨es,rs,rows,len,t,R,a,rfl⟩];exact congrArg Rs.ok (va a)
theorem Ex(cs:Cs):∀ds,ds.length=4->eU cs ds≠.no->bo (ay (aN [6] 4 (au aR #[21])) lG (ds.map some++List.replicate 5 none))=eU cs ds:=by
 intro ds hl a;by_cases hx:∃es rs rows len t,Ran es rs rows len/\lU es rs rows len=some t/\ds=[ar es,ak rs,cmD rows,.str len]
 ·obtain⟨es,rs,rows,len,t,R,b,rfl⟩:=hx;rw[mR R b];have c:=fM (es:=es) (rs:=rs) (by have:=R.eok.l6;omega) (λe f=>(R.eok.ok e f).sh) R.rok;have g:aN [6] 4 (au aR #[21]) [some (ar es),some (ak rs),some (cmD rows),some (.str len),none,none,none,none,none]=.nx [some (ar es),some (ak rs),some (cmD rows),some (.str len),some (av es rs),none,none,none,none]:=by have h:au aR #[21] (mask [6] [some (ar es),some (ak rs),some (cmD rows),some (.str len),none,none,none,none,none])=.ok (av es rs):=c;exact cC (by decide:4<9) h
  show bo (ay (aN [6] 4 (au aR #[21])) lG [some (ar es),some (ak rs),some (cmD rows),some (.str len),none,none,none,none,none])=_;rw[aT,g];simp only;rw[HE R b];rfl
 ·exfalso;apply a;unfold eU;rw[if_neg hx]
open Classical in
def iQ(cs:Cs):Gf:=λds=>if ∃es rs rows len t,Ran es rs rows len/\Cms es rows/\lU es rs rows len=some t/\ds=[ar es,ak rs,cmD rows,.str len] then .ok (El (ds.getD 0 .none) (ds.getD 1 .none) (ds.getD 2 .none) (ds.getD 3 .none)) else .no
theorem ud{len:Str}(R:Ran es rs rows len)(C:Cms es rows)(a:lU es rs rows len=some t):iQ cs [ar es,ak rs,cmD rows,.str len]=.ok (.list t):=by unfold iQ;rw[if_pos ⟨es,rs,rows,len,t,R,C,a,rfl⟩];exact congrArg Rs.ok (va a)
theorem LP(cs:Cs):LLq (zE cs (bu cs) (eU cs) (aY cs) (bt cs)) 4 0 (iQ cs):=by
 intro ds hl a;by_cases hx:∃es rs rows len t,Ran es rs rows len/\Cms es rows/\lU es rs rows len=some t/\ds=[ar es,ak rs,cmD rows,.str len]
 ·obtain⟨es,rs,rows,len,t,R,C,b,rfl⟩:=hx;rw[ud R C b];have k1:=iR cs R.eok.l1 R.eok.l6 R.eok.ok;have k2:=gO cs R.eok.l6 R.rok;have k3:=fL (cs:=cs) R.eok C;have c:=mR (cs:=cs) R b;show bo (zE cs (bu cs) (eU cs) (aY cs) (bt cs) [some (ar es),some (ak rs),some (cmD rows),some (.str len)])=_;unfold zE;simp only[aT,u5,bK,aA,aJ,aq,aw,Rs.ag,k1,k2,k3,c,aB,cq,bx]
 ·exfalso;apply a;unfold iQ;rw[if_neg hx]
end RS
variable {js:List RS.Jb}
namespace L2
open PySem PySem.Spec PyProof.Rows
end L2
namespace RS
open PySem L2
variable {tgt:PyData->Ds->Option Ds}{r a:Int}{j:Jb}{B:Nat}{e:Er}
theorem xx:∀a b:List Int,PyData.eqvAll (a.map PyData.int) (b.map PyData.int)=decide (a=b)
 |[],[]=>by simp[PyData.eqvAll]
 |[],_::_=>by simp[PyData.eqvAll]
 |_::_,[]=>by simp[PyData.eqvAll]
 |x::a,y::b=>by
  have h:(x==y)=decide (x=y):=by by_cases z:x=y <;> simp[z]
  simp[PyData.eqvAll,PyData.eqv,xx a b,h]
theorem Hd(a b:List Int):dNe (.list (a.map PyData.int)) (.list (b.map PyData.int))=some (.bool (!decide (a=b))):=by unfold dNe;rw[fo (lP a),fo (lP b),shaped_ints,shaped_ints];simp[PyData.eqv,xx]
def hvS(every late m:Int)(row:List Int):Int:=row.foldl (λm c=>(if c-late>m then c-late else m)+every) m
theorem Aq(every late:Int):∀(row:List Int)(m c:Int),hvM every late m row=true->¬ c<(if c-late>hvS every late m row then c-late else hvS every late m row)->hvM every late m (row++[c])=true
 |[],m,c,_,h=>by show (if c<(if c-late>m then c-late else m) then false else true)=true;exact if_neg h
 |a::r,m,c,h1,h=>by
  rw[Nv];unfold hvM at h1 ⊢;by_cases z:a<(if a-late>m then a-late else m)
  ·rw[if_pos z]at h1;cases h1
  ·rw[if_neg z]at h1 ⊢;exact Aq every late r _ c h1 h
structure CrI(every late span:Int)(made:List Int)(moment:Int):Prop where
 lo:-late<=moment
 hv:hvM every late (0-late) made=true
 ea:hvS every late (0-late) made<=moment
 la:∀c,made.getLast?=some c->c+1<=moment+late
 c0:∀c∈made,0<=c
 c1:∀c∈made,c<span
theorem G9{every late moment c:Int}{made:List Int}(h:CrI every late span made moment)(hs:moment+late<span)(e:0<=c)(h1:moment<=c)(h2:c<=moment+late)(he:1<=every)(hl:0<=late)(hx:moment+every<=a):CrI every late span (made++[c]) a:=by
 have b:=h.ea;have hlo:=h.lo;refine⟨by omega,Aq every late made _ c h.hv (by split <;> omega),?_,λd hd=>?_,λd hd=>?_,λd hd=>?_⟩
 ·unfold hvS at b ⊢;rw[List.foldl_append];show (if c-late>List.foldl _ _ made then c-late else List.foldl _ _ made)+every<=a;split <;> omega
 ·rw[List.getLast?_concat]at hd;cases hd;omega
 ·rcases Nb.mp hd with hd|hd
  ·exact h.c0 d hd
  ·rw[MR.mp hd];exact e
 ·rcases Nb.mp hd with hd|hd
  ·exact h.c1 d hd
  ·rw[MR.mp hd];omega
theorem DF{every late:Int}{moment:Int}(h:-late<=moment):CrI every late span [] moment:=⟨h,rfl,by show 0-late<=moment;omega,λc hc=>(by cases hc),λc hc=>(by cases hc),λc hc=>(by cases hc)⟩
theorem tI{every late:Int}(hl:late<every)(f:0<=late):∀(row:List Int)(m:Int),hvM every late m row=true->(∀c∈row,m<=c)/\row.Pairwise (· < ·)
 |[],_,_=>⟨λc hc=>(by cases hc),List.Pairwise.nil⟩
 |a::r,m,h=>by
  unfold hvM at h;by_cases z:a<(if a-late>m then a-late else m)
  ·rw[if_pos z]at h;cases h
  ·rw[if_neg z]at h;obtain⟨h1,h2⟩:=tI hl f r _ h;have hm:m<=a:=by split at z <;> omega
   have b:∀c∈r,a<c:=λc hc=>by have:=h1 c hc;split at this <;> omega
   refine⟨λc hc=>?_,Oz.mpr ⟨b,h2⟩⟩;rcases M8.mp hc with e|hc
   ·rw[e];exact hm
   ·have:=b c hc;omega
theorem vj{g:Ds->Rs PyData}{d:PyData}(hi:i<δ.length)(a:g δ=.ok d)(hn:eK d=true):kl i g δ=.nx (δ.set i (some d)):=by unfold kl;rw[if_pos hi,a,aB,if_pos hn]
theorem LI(k:Int):fE (.int 104729) (.int k)=some (.int (104729*k)):=ux #[2] #[2]
theorem LA(k:Int):fE (.int 7919) (.int k)=some (.int (7919*k)):=ux #[2] #[2]
theorem Lx(a:Int):fE (.int a) (.int 48271)=some (.int (a*48271)):=Ep #[2] #[2]
theorem Lh(a:Int):ff (.int a) (.int 2147483647)=some (.int (a % 2147483647)):=by rw[sI,if_pos #[2]]
theorem Lw{k:Int}(h0:0<=k)(h1:k<=60):fE (.int a) (.int k)=some (.int (a*k)):=Ep (by omega) (by omega)
theorem ER{seed k:Int}(a:ae 4 δ=.ok (.int seed))(b:ae 7 δ=.ok (.int k))(c:0<=k)(h1:k<=60) :
  ∃e:Int,g2 ff #[17] (gC (.int 2147483647)) δ=.ok (.int e):=by
 generalize hA:(seed+104729*k*k+7919*k)*48271 % 2147483647=A;refine⟨A,?_⟩;rw[bR,bR,bR,bR,bR,bR,bR];rw[a,b];simp only[cJ,Rs.ag,LI,Lw c h1,LA,Lx,Lh,e9,Rs.ai,hA]
def crC:Ds->Rs Bool:=(iN (gT (g2 dLt (g2 aW (ae 5) (g2 dIx (ae 2) (gC (.int 2)))) (ae 3))) (gT (g2 dLt (gF bS (af (ae 6) ah)) (gC (.int 60)))))
def crB:Ds->Sr:=(ay (aN [6] 8 (g2 ff #[17] (gC (.int 2147483647))))
 (ay (aN [6] 9 (gF gr (af #[1] (af (g2 aW (ae 5) (g2 ff (g2 jN (ae 8) (gC (.int 7))) (g2 aW (g2 dIx (ae 2) (gC (.int 2))) #[0]))) ah))))
 (ay (sIf (gT (g2 dNe (ae 6) (mL ah))) (kl 9 (gF gr (af (ae 9) (af (g2 aW (g2 dIx (ae 6) (g1 jV #[0])) #[0]) ah)))) aV)
 (ay (ik [6] 6 (ae 9))
 (ay (aN [6] 5 (g2 aW (ae 5) (g2 dIx (ae 2) #[1])))
 (ay (sIf (gT (g2 dEq (g2 ff (g2 jN (ae 8) (gC (.int 61))) #[15]) #[1])) (aN [6] 5 (g2 aW (ae 5) (g2 ff (g2 jN (ae 8) (gC (.int 997))) (g2 dIx (ae 2) #[1])))) aV)
 (aN [6] 7 (g2 aW (ae 7) #[0]))))))))
section
variable {S A:PyData}{seed moment:Int}{made:List Int}
def crD(e:Er)(S A:PyData)(span seed moment:Int)(made:List Int)(k:Int)(x8 a:Option PyData):Ds:=[some S,some A,some e.d,some (.int span),some (.int seed),some (.int moment),some (.list (made.map PyData.int)),some (.int k),x8,a]
theorem KQ(e:Er):dIx e.d (.int 0)=some (.int e.every):=rfl
theorem Ks(e:Er):dIx e.d (.int 2)=some (.int e.late):=rfl
theorem zM{k:Int}{x8 a:Option PyData}:crC (crD e S A span seed moment made k x8 a)=.ok (decide (moment+e.late<span)&&decide (made.length<60)):=by
 have hl:decide (((made.map PyData.int).length:Int)<60)=decide (made.length<60):=by rw[M6];exact decide_eq_decide.mpr (by omega)
 unfold crC crD;simp only[qV,dE,bR,fQ,aA,aJ,aq,aw,cJ,Rs.ag,Ks,e9,Ej,lN,Rs.ai,bB,hl];cases decide (moment+e.late<span) <;> simp
theorem GJ(ok:e.Ok)(h:CrI e.every e.late span made moment)(B:moment+e.late<span)(hm:made.length<60)(x8 i:Option PyData) :
  ∃c b C D,crB (crD e S A span seed moment made (made.length:Int) x8 i)=.nx (crD e S A span seed b (made++[c]) ((made++[c]).length:Int) C D)/\CrI e.every e.late span (made++[c]) b:=by
 have e1:=ok.e1;have e2:=ok.e2;have l1:=ok.l1;have l2:=ok.l2;have hlo:=h.lo;obtain⟨a,n⟩:=ER (δ:=mask [6] (crD e S A span seed moment made (made.length:Int) x8 i)) (seed:=seed) (k:=(made.length:Int)) rfl rfl (by omega) (by omega);have E:aN [6] 8 (g2 ff #[17] (gC (.int 2147483647))) (crD e S A span seed moment made (made.length:Int) x8 i)=.nx (crD e S A span seed moment made (made.length:Int) (some (.int a)) i):=cC (by decide:8<10) n
 -- the first reckoning of the coming
 have F:0<=a / 7 % (e.late+1)/\a / 7 % (e.late+1)<e.late+1:=⟨NR _ (by omega),NZ _ (by omega)⟩
 have G:jN (.int a) (.int 7)=some (.int (a / 7)):=by rw[zG,if_pos #[2]]
 have y:ff (.int (a / 7)) (.int (e.late+1))=some (.int (a / 7 % (e.late+1))):=by rw[sI,if_pos (by omega)]
 generalize a / 7 % (e.late+1)=q at F y;have o:∃c:Int,aN [6] 9 (gF gr (af #[1] (af (g2 aW (ae 5) (g2 ff (g2 jN (ae 8) (gC (.int 7))) (g2 aW (g2 dIx (ae 2) (gC (.int 2))) #[0]))) ah))) (crD e S A span seed moment made (made.length:Int) (some (.int a)) i)=.nx (crD e S A span seed moment made (made.length:Int) (some (.int a)) (some (.int c)))/\0<=c/\moment<=c/\c<=moment+e.late:=by refine⟨if moment+q>0 then moment+q else 0,?_,by split <;> omega,by split <;> omega,by split <;> omega⟩;refine cC (by decide:9<10) ?_;show gF gr _ [some S,some A,some e.d,some (.int span),some (.int seed),some (.int moment),none,some (.int (made.length:Int)),some (.int a),i]=_;simp only[fQ,aA,aJ,bR,aq,aw,cJ,Rs.ag,Ks,G,e9,y,Rs.ai,Cb]
 obtain⟨c,o,c0,c1,H⟩:=o
 -- behind the one ahead
 have f:∃c':Int,sIf (gT (g2 dNe (ae 6) (mL ah))) (kl 9 (gF gr (af (ae 9) (af (g2 aW (g2 dIx (ae 6) (g1 jV #[0])) #[0]) ah)))) aV (crD e S A span seed moment made (made.length:Int) (some (.int a)) (some (.int c)))=.nx (crD e S A span seed moment made (made.length:Int) (some (.int a)) (some (.int c')))/\0<=c'/\moment<=c'/\c'<=moment+e.late:=by
  have p:dNe (.list (made.map PyData.int)) (.list [])=some (.bool (!decide (made=[]))):=Hd made [];unfold crD;rw[cK];simp only[dE,bR,aq,aw,yK,aJ,Rs.ag,p,Rs.ai,bB,aB];cases hk:made.getLast? with
  |none =>have r:made=[]:=Ot.mp hk;rw[r];exact⟨c,rfl,c0,c1,H⟩
  |some l =>
   have r:made≠[]:=λz=>by rw[z]at hk;cases hk
   have hla:=h.la l hk;have s:dIx (.list (made.map PyData.int)) (.int (-1))=some (.int l):=by rw[CI,kO,ON,hk];rfl
   rw[decide_eq_false r];simp only[Bool.not_false,if_true];refine⟨if l+1>c then l+1 else c,?_,by split <;> omega,by split <;> omega,by split <;> omega⟩;refine vj (by decide:9<10) ?_ rfl;simp only[fQ,aA,aJ,bR,gH,aq,aw,cJ,CU,Rs.ag,s,e9,Rs.ai,Cb]
 obtain⟨c',f,t,u,v⟩:=f;have I:ik [6] 6 (ae 9) (crD e S A span seed moment made (made.length:Int) (some (.int a)) (some (.int c')))=.nx (crD e S A span seed moment (made++[c']) (made.length:Int) (some (.int a)) (some (.int c'))):=by show (if (made.map PyData.int).length<1000000 then Sr.nx _ else Sr.no)=_;rw[if_pos (by rw[M6];omega)];unfold crD;rw[Nk];rfl
 have J:aN [6] 5 (g2 aW (ae 5) (g2 dIx (ae 2) #[1])) (crD e S A span seed moment (made++[c']) (made.length:Int) (some (.int a)) (some (.int c')))=.nx (crD e S A span seed (moment+e.every) (made++[c']) (made.length:Int) (some (.int a)) (some (.int c'))):=cC (by decide:5<10) rfl;have g:∃j,sIf (gT (g2 dEq (g2 ff (g2 jN (ae 8) (gC (.int 61))) #[15]) #[1])) (aN [6] 5 (g2 aW (ae 5) (g2 ff (g2 jN (ae 8) (gC (.int 997))) (g2 dIx (ae 2) #[1])))) aV (crD e S A span seed (moment+e.every) (made++[c']) (made.length:Int) (some (.int a)) (some (.int c')))=.nx (crD e S A span seed j (made++[c']) (made.length:Int) (some (.int a)) (some (.int c')))/\moment+e.every<=j:=by
  have w:jN (.int a) (.int 61)=some (.int (a / 61)):=by rw[zG,if_pos #[2]]
  have K:ff (.int (a / 61)) (.int 3)=some (.int (a / 61 % 3)):=by rw[sI,if_pos #[2]]
  have m:jN (.int a) (.int 997)=some (.int (a / 997)):=by rw[zG,if_pos #[2]]
  have L:ff (.int (a / 997)) (.int e.every)=some (.int (a / 997 % e.every)):=by rw[sI,if_pos (by omega)]
  have hx:0<=a / 997 % e.every:=NR _ (by omega);have hc:gT (g2 dEq (g2 ff (g2 jN (ae 8) (gC (.int 61))) #[15]) #[1]) (crD e S A span seed (moment+e.every) (made++[c']) (made.length:Int) (some (.int a)) (some (.int c')))=.ok (a / 61 % 3==0):=by unfold crD;simp only[dE,bR,aq,aw,cJ,Rs.ag,w,K,Rs.ai,je,bB]
  rw[cK,hc,aB];cases (a / 61 % 3==0) with
  |false=>exact⟨_,rfl,NN _⟩
  |true =>rw[if_pos rfl];refine⟨moment+e.every+a / 997 % e.every,cC (by decide:5<10) ?_,by omega⟩;show g2 aW _ _ [some S,some A,some e.d,some (.int span),some (.int seed),some (.int (moment+e.every)),none,some (.int (made.length:Int)),some (.int a),some (.int c')]=_;simp only[bR,aq,aw,cJ,Rs.ag,KQ,m,L,e9,Rs.ai]
 obtain⟨j,g,x⟩:=g;have M:aN [6] 7 (g2 aW (ae 7) #[0]) (crD e S A span seed j (made++[c']) (made.length:Int) (some (.int a)) (some (.int c')))=.nx (crD e S A span seed j (made++[c']) ((made++[c']).length:Int) (some (.int a)) (some (.int c'))):=by
  have hl:((made++[c']).length:Int)=(made.length:Int)+1:=by rw[MN,Nj];omega
  rw[hl];exact cC (by decide:7<10) rfl
 refine⟨c',j,some (.int a),some (.int c'),?_,G9 h B t u v (by omega) l1 x⟩;unfold crB;rw[aT,E];simp only;rw[aT,o];simp only;rw[aT,f];simp only;rw[aT,I];simp only;rw[aT,J];simp only;rw[aT,g];simp only;rw[M]
end
theorem qf{c:Ds->Rs Bool}{b:Ds->Sr}{I:Nat->Ds->Prop}{J:Ds->Prop}(h:∀k δ,I k δ->(c δ=.ok false/\J δ)\/(c δ=.ok true/\∃f,f < k/\∃a,b δ=.nx a/\I f a)):∀(n k:Nat)(δ:Ds),I k δ->k<n->∃a,cE c b n δ=.nx a/\J a
 |0,_,_,_,hn=>by cases hn
 |n+1,k,δ,i,hn=>by
  unfold cE;rcases h k δ i with⟨e,j⟩|⟨e,f,g,a,e2,i'⟩
  ·rw[e,aB,if_neg MQ];exact⟨δ,rfl,j⟩
  ·rw[e,aB,if_pos rfl,e2];exact qf h n f a i' (MZ g (Nat.le_of_lt_succ hn))
section
variable {S A:PyData}{seed moment:Int}{made:List Int}
theorem Gq(ok:e.Ok)(h:CrI e.every e.late span made moment)(hl:made.length<=60)(hn:60<n)(x8 g:Option PyData) :
  ∃a f i j,cE crC crB n (crD e S A span seed moment made (made.length:Int) x8 g)=.nx (crD e S A span seed f a (a.length:Int) i j)/\CrI e.every e.late span a f/\a.length<=60:=by
 obtain⟨δ',e1,a,f,i,j,rfl,h1,h2⟩:=qf (c:=crC) (b:=crB) (I:=λk δ=>∃made moment x8 g,δ=crD e S A span seed moment made (made.length:Int) x8 g/\CrI e.every e.late span made moment/\made.length<=60/\k=60-made.length)
  (J:=λδ=>∃a f i j,δ=crD e S A span seed f a (a.length:Int) i j/\CrI e.every e.late span a f/\a.length<=60) (λk δ l=>by
   obtain⟨made,moment,x8,g,hd,h,hl,hk⟩:=l;subst hd;by_cases z:moment+e.late<span/\made.length<60
   ·right;refine⟨by rw[zM,decide_eq_true z.1,decide_eq_true z.2];rfl,?_⟩;obtain⟨c,m,i,j,o,h'⟩:=GJ (S:=S) (A:=A) (seed:=seed) ok h z.1 z.2 x8 g;have hl2:(made++[c]).length=made.length+1:=by rw[MN,Nj]
    exact⟨60-(made++[c]).length,by omega,_,o,made++[c],m,i,j,rfl,h',by omega,rfl⟩
   ·left;refine⟨?_,made,moment,x8,g,rfl,h,hl⟩;rw[zM];refine congrArg Rs.ok (Bool.eq_false_iff.mpr ?_);rw[Ne,M9,decide_eq_true_eq,decide_eq_true_eq];exact z) n (60-made.length) _ ⟨made,moment,x8,g,rfl,h,hl,rfl⟩ (by omega)
 exact⟨a,f,i,j,e1,h1,h2⟩
end
def br(cs:Cs):Gf:=gfG 4 6 (dC cs ao)
theorem nr(cs:Cs):LLq (dC cs ao) 4 6 (br cs):=gy
theorem rX(ok:e.Ok)(ha:0<=a)(hs:span<=10000):∃row,br cs [aj ns,.int a,e.d,.int span]=.ok (dH row)/\rG row/\hvE e row=true:=by
 have e1:=ok.e1;have e2:=ok.e2;have b:Ct (.int 10) (.int 9)=some (.int 1000000000):=rfl;have f:=cW (ns:=ns) (k:=a) (many:=1000000000) ha #[2];have g:ff (.int (mixed ns a 1000000000)) (.int (e.every+2))=some (.int (mixed ns a 1000000000 % (e.every+2))):=by rw[sI,if_pos (by omega)]
 have hm0:0<=mixed ns a 1000000000 % (e.every+2):=NR _ (by omega);generalize mixed ns a 1000000000=seed at *;generalize seed % (e.every+2)=m0 at *;obtain⟨row,m',y8,y9,i,hc,hl⟩:=Gq (e:=e) (S:=aj ns) (A:=.int a) (span:=span) (seed:=seed) (made:=[]) (moment:=m0-e.late) ok (DF (by omega)) #[2] (n:=1000000) #[2] none none;refine⟨row,?_,⟨hl,hc.c0,λc h=>by have:=hc.c1 c h;omega⟩,hc.hv⟩;have j:aN [6] 4 (au ao (af (ae 0) (af (ae 1) (af (g2 Ct (gC (.int 10)) (gC (.int 9))) ah)))) [some (aj ns),some (.int a),some e.d,some (.int span),none,none,none,none,none,none]=.nx [some (aj ns),some (.int a),some e.d,some (.int span),some (.int seed),none,none,none,none,none]:=by refine cC (by decide:4<10) ?_;show au ao _ [some (aj ns),some (.int a),some e.d,some (.int span),none,none,none,none,none,none]=_;simp only[bK,aA,aJ,bR,aq,aw,cJ,Rs.ag,b,Rs.ai,f]
 have l:aN [6] 5 (g2 eM (g2 ff (ae 4) (g2 aW (g2 dIx (ae 2) #[1]) (gC (.int 2)))) (g2 dIx (ae 2) (gC (.int 2)))) [some (aj ns),some (.int a),some e.d,some (.int span),some (.int seed),none,none,none,none,none]=.nx [some (aj ns),some (.int a),some e.d,some (.int span),some (.int seed),some (.int (m0-e.late)),none,none,none,none]:=by refine cC (by decide:5<10) ?_;show g2 eM _ _ [some (aj ns),some (.int a),some e.d,some (.int span),some (.int seed),none,none,none,none,none]=_;simp only[bR,aq,aw,cJ,Rs.ag,KQ,Ks,e9,g,oE,Rs.ai]
 have m:eu [6] 6 ah [some (aj ns),some (.int a),some e.d,some (.int span),some (.int seed),some (.int (m0-e.late)),none,none,none,none]=.nx [some (aj ns),some (.int a),some e.d,some (.int span),some (.int seed),some (.int (m0-e.late)),some (.list []),none,none,none]:=rfl;have o:aN [6] 7 #[1] [some (aj ns),some (.int a),some e.d,some (.int span),some (.int seed),some (.int (m0-e.late)),some (.list []),none,none,none]=.nx (crD e (aj ns) (.int a) span seed (m0-e.late) [] (([]:List Int).length:Int) none none):=cC (by decide:7<10) rfl;show bo (dC cs ao [some (aj ns),some (.int a),some e.d,some (.int span),none,none,none,none,none,none])=_;have p:dC cs ao=ay (aN [6] 4 (au ao (af (ae 0) (af (ae 1) (af (g2 Ct (gC (.int 10)) (gC (.int 9))) ah)))))
  (ay (aN [6] 5 (g2 eM (g2 ff (ae 4) (g2 aW (g2 dIx (ae 2) #[1]) (gC (.int 2)))) (g2 dIx (ae 2) (gC (.int 2)))))
  (ay (eu [6] 6 ah) (ay (aN [6] 7 #[1]) (ay (λδ=>cE crC crB 1000000 δ) (bf (ae 6)))))):=rfl
 rw[p];rw[aT,j];simp only;rw[aT,l];simp only;rw[aT,m];simp only;rw[aT,o];simp only;rw[aT,i];rfl
def cp(cs:Cs):Gf:=gfG 4 0 (fe cs (br cs))
theorem rQ(cs:Cs):LLq (fe cs (br cs)) 4 0 (cp cs):=gy
theorem CW:∀{es:List Er}{rows:List (List Int)},rows.length=es.length->(∀(i:Nat)(h:i<es.length)(h':i<rows.length),rG rows[i]/\hvE es[i] rows[i]=true)->Cms es rows
 |[],[],_,_=>.nil
 |[],_::_,h,_=>by cases h
 |_::_,[],h,_=>by cases h
 |e::es,r::rows,h,k=>by have k0:=k 0 (Nat.succ_pos _) (Nat.succ_pos _);refine .cons k0.1 k0.2 (CW (by simpa using h) λi h1 h2=>?_);exact k (i+1) (Nat.succ_lt_succ h1) (Nat.succ_lt_succ h2)
theorem J7(l6:es.length<=6){a x1:Option PyData}{r:Ds}:fh (af (gF bS #[28]) ah) (a::x1::some (ar es)::r)=.ok (bG 0 es.length):=by
 have b:=jK (j:=(es.length:Int)) (by omega) (by omega);rw[N7]at b;have hv:(af (gF bS #[28]) ah) (a::x1::some (ar es)::r)=.ok [.int (es.length:Int)]:=by simp only[aA,aJ,fQ,aq,aw,Rs.ag,KP,Rs.ai]
 rw[l5,hv,Rs.ag,b]
theorem xP(h:yt es)(ha:0<=a)(g:span<=10000):∃rows,cp cs [aj ns,.int a,ar es,.int span]=.ok (cmD rows)/\Cms es rows:=by
 have j:∀i:Nat,∃row,i<es.length->br cs [aj ns,.int (a+(i:Int)),(bZ es (i:Int)).d,.int span]=.ok (dH row)/\rG row/\hvE (bZ es (i:Int)) row=true:=λi=>by
  by_cases z:i<es.length
  ·obtain⟨row,h1⟩:=rX (cs:=cs) (h.ok _ (dX (n:=(i:Int)) (by omega) (by omega))) (ns:=ns) (a:=a+(i:Int)) (span:=span) (by omega) g;exact⟨row,λ_=>h1⟩
  ·exact⟨[],λy=>(z y).elim⟩
 obtain⟨F,c⟩:=Classical.axiomOfChoice j;have l6:=h.l6;refine⟨(List.range es.length).map F,?_,CW (by simp) λi h1 h2=>?_⟩
 ·have m:aX 4 (fh (af (gF bS #[28]) ah)) bJ (au (br cs) (af (ae 0) (af (g2 aW (ae 1) (ae 4)) (af (g2 dIx (ae 2) (ae 4)) (af (ae 3) ah))))) aG [some (aj ns),some (.int a),some (ar es),some (.int span)]=.ok ((bG 0 es.length).map λd=>dH (F (deI d).toNat)):=by
   refine ej rfl ?_ (by rw[dg];omega) λd hd=>?_
   ·exact J7 l6
   ·obtain⟨k,f,rfl⟩:=MM.mp hd;have b:=NV.mp f;have hn:(0:Int)+(k:Int)=(k:Int):=by omega
    have hd2:(deI (.int (k:Int))).toNat=k:=N7 k;have a2:dIx (ar es) (.int (k:Int))=some (bZ es (k:Int)).d:=iz (by omega) (by omega);rw[hn,hd2];simp only[Nv,Nn,bK,aA,aJ,bR,aq,aw,Rs.ag,e9,a2,Rs.ai,(c k b).1]
  show bo (fe cs (br cs) [some (aj ns),some (.int a),some (ar es),some (.int span)])=_;unfold fe;simp only[cq,nV,m,Rs.ag,aB,bx];unfold cmD bG;rw[N4,N4];refine congrArg (λl=>Rs.ok (PyData.list l)) (MY λk f=>?_);show dH (F (deI (.int (0+(k:Int)))).toNat)=dH (F k);rw[show (0:Int)+(k:Int)=(k:Int) by omega,show (deI (.int (k:Int))).toNat=k from N7 k]
 ·have e:=qu (es:=es) (n:=(i:Int)) (by omega) (by omega);rw[N7,M1 h1]at e;have o:es[i]=bZ es (i:Int):=Option.some.inj e;have:=(c i h1).2;rw[List.getElem_map,List.getElem_range,o];exact this
theorem lS{xs:List α}{k:Nat}{v:α}(h:xs[k]?=some v):atI xs (k:Int)=some v:=vA (Ob k) (by rw[N7];exact h)
structure Sx(js:List Jb):Prop where
 num:∀(i:Nat)(h:i<js.length),js[i].num=(i:Int)
 row:∀j∈js,j.row.length<=1000
 wk:∀j∈js,j.work<=1000
section
variable {S E R D:PyData}
theorem cR{f:PyData->PyData->Option PyData}{a b:Ds->Rs PyData}{x y z:PyData}(ha:a δ=.ok x)(c:b δ=.ok y)(e:f x y=some z):g2 f a b δ=.ok z:=by rw[bR,ha,Rs.ag,c,Rs.ag,e];rfl
end
def pU(k:Nat)(l:List PyData):List PyData:=l.mapIdx λi d=>.tuple [.int ((k+i:Nat):Int),d]
theorem d8{body:Ds->Sr}{d:PyData}{r:List PyData}{δ1 δ2:Ds}(h1:tgt d δ=some δ1)(h2:body δ1=.nx δ2):forL tgt body (d::r) δ=forL tgt body r δ2:=by rw[forL,h1];simp only[h2]
theorem xV(k:Nat)(d:PyData)(r:List PyData):pU k (d::r)=.tuple [.int (k:Int),d]::pU (k+1) r:=by
 unfold pU;rw[OU];have a:(λ(i:Nat)(d:PyData)=>PyData.tuple [.int ((k+(i+1):Nat):Int),d])=λi d=>.tuple [.int ((k+1+i:Nat):Int),d]:=by funext i d;rw[show k+(i+1)=k+1+i by omega]
 rw[a];rfl
theorem wD{ks:List Jb}(h:ks.map gj=js.map gj):ks.length=js.length:=by
 have:=congrArg List.length h
 rwa[M6,M6]at this
theorem zJ{ks:List Jb}(h:ks.map gj=js.map gj)(s:Sx js):Sx ks:=by
 have hl:=wD h;have hm:∀k∈ks,∃j∈js,gj j=gj k:=λk a=>by have:gj k∈ks.map gj:=MM.mpr ⟨k,a,rfl⟩;rw[h]at this;exact MM.mp this
 refine⟨λi hi=>?_,λk a=>?_,λk a=>?_⟩
 ·have e:(ks.map gj)[i]?=(js.map gj)[i]?:=by rw[h]
  rw[MP,MP,M1 hi,M1 (hl▸hi)]at e;have e2:gj ks[i]=gj (js[i]'(hl▸hi)):=Option.some.inj e;have:=congrArg (·.1) e2;exact this.trans (s.num i (hl▸hi))
 ·obtain⟨j,b,e⟩:=hm k a;have e2:j.row=k.row:=congrArg (·.2.2) e;rw[<-e2];exact s.row j b
 ·obtain⟨j,b,e⟩:=hm k a;have e2:j.parts=k.parts:=congrArg (·.2.1) e;have:=s.wk j b;unfold Jb.work at this ⊢;rw[<-e2];exact this
theorem uI{lt:Nat->Nat->Bool}(a:∀i,lt i i=false)(b:∀i j k,lt i j=true->lt j k=true->lt i k=true):∀(n i:Nat),i<=n->lt i (bst lt n)=false
 |0,i,h=>by
  have:i=0:=by omega
  rw[this];exact a 0
 |n+1,i,h=>by
  unfold bst;cases q:lt (n+1) (bst lt n) with
  |true =>
   rw[if_pos rfl];by_cases z:i=n+1
   ·rw[z];exact a _
   ·have c:=uI a b n i (by omega);cases y:lt i (n+1) with
    |false=>rfl
    |true=>rw[b _ _ _ y q]at c;cases c
  |false =>
   rw[if_neg MQ];by_cases z:i=n+1
   ·rw[z];exact q
   ·exact uI a b n i (by omega)
theorem HZ(d:PyData):ltD d d=false:=by
 have h:∀l:List Int,HT.lexLt l l=false:=λl=>by
  induction l with
  |nil=>rfl
  |cons a r ih=>show (if a=a then HT.lexLt r r else _)=false;rw[if_pos rfl,ih]
 unfold ltD;split
 ·rename_i e1 e2;rw[e1]at e2;cases e2;exact h _
 ·rfl
theorem C1:∀a b c:List Int,HT.lexLt a b=true->HT.lexLt b c=true->HT.lexLt a c=true
 |[],[],_,h,_=>by cases h
 |[],_::_,[],_,h=>by cases h
 |[],_::_,_::_,_,_=>rfl
 |_::_,[],_,h,_=>by cases h
 |_::_,_::_,[],_,h=>by cases h
 |x::a,y::b,z::c,h1,h2=>by
  have h1:(if x=y then HT.lexLt a b else decide (x<y))=true:=h1;have h2:(if y=z then HT.lexLt b c else decide (y<z))=true:=h2;show (if x=z then HT.lexLt a c else decide (x<z))=true;by_cases e1:x=y
  ·rw[if_pos e1]at h1;by_cases e2:y=z
   ·rw[if_pos e2]at h2;rw[if_pos (e1.trans e2)];exact C1 a b c h1 h2
   ·rw[if_neg e2]at h2;rw[if_neg (λq=>e2 (e1.symm.trans q)),e1];exact h2
  ·rw[if_neg e1]at h1;have l1:=of_decide_eq_true h1;by_cases e2:y=z
   ·rw[if_neg (λq=>e1 (q.trans e2.symm)),<-e2];exact h1
   ·rw[if_neg e2]at h2;have l2:=of_decide_eq_true h2;rw[if_neg (by omega)];exact decide_eq_true (by omega)
theorem Iy(a b c:PyData)(h1:ltD a b=true)(h2:ltD b c=true):ltD a c=true:=by
 unfold ltD at h1 h2 ⊢;cases ka:lr a with
 |none=>rw[ka]at h1;cases h1
 |some p =>
  cases kb:lr b with
  |none=>rw[ka,kb]at h1;cases h1
  |some q =>
   cases kc:lr c with
   |none=>rw[kb,kc]at h2;cases h2
   |some r =>rw[ka,kb]at h1;rw[kb,kc]at h2;exact C1 _ _ _ h1 h2
theorem sF{key:Jb->PyData}(c:js≠[])(e:j∈js):ltD (key j) (key (i7 key js))=false:=by
 have hl:0<js.length:=NL.mpr c;have hm:=uI (lt:=λi j=>ltD ((js.map key).getD i .none) ((js.map key).getD j .none)) (λi=>HZ _) (λi j k=>Iy _ _ _) (js.length-1);have hb:=vE (λi j=>ltD ((js.map key).getD i .none) ((js.map key).getD j .none)) (js.length-1);obtain⟨i,hi,rfl⟩:=Om e;have h1:=hm i (by omega);have b:kn (js.map key)=bst (λi j=>ltD ((js.map key).getD i .none) ((js.map key).getD j .none)) (js.length-1):=by unfold kn;rw[M6]
 have a:kn (js.map key)<js.length:=by rw[b];omega
 have e1:(js.map key).getD i .none=key js[i]:=by rw[MT,MP,M1 hi];rfl
 have e2:(js.map key).getD (kn (js.map key)) .none=key (i7 key js):=by unfold i7;rw[MT,MP,M1 a,MT,M1 a];rfl
 rw[<-b]at h1;rw[e1,e2]at h1;exact h1
theorem Fe(a b c d:Int):ltD (.tuple [.int a,.int b]) (.tuple [.int c,.int d])=if a=c then (if b=d then false else decide (b<d)) else decide (a<c):=rfl
theorem Dv(h:js≠[]):js.filter (fq js)≠[]:=by
 have hn:=qI (ts:=js.map λj=>((0:Addr),j)) (by simpa using h);have hm:(js.map λj=>((0:Addr),j)).map (·.2)=js:=by rw[N4];exact NA js
 rw[hm]at hn;obtain⟨p,r,e⟩:=Oj hn;have a:p∈(js.map λj=>((0:Addr),j)).filter (λp=>fq js p.2):=by rw[e];exact M7
 obtain⟨h1,h2⟩:=N3.mp a;obtain⟨j,b,rfl⟩:=MM.mp h1;exact O0 (N3.mpr ⟨b,h2⟩)
theorem A5(h:j.held=some T):mJ tops j=.tuple [.int (if k6 tops T<j.rank then k6 tops T else j.rank),.int 0]:=by unfold mJ;rw[h]
theorem AG(h:j.held=none):mJ tops j=.tuple [.int j.rank,.int 1]:=by unfold mJ;rw[h]
theorem Bs{len:Str}{ts:List Jb}(g:ts≠[])(c:(cu tops len ts).spent=0)(e:(cu tops len ts).tool=some T)(a:k6 tops T<=(cu tops len ts).rank):∀j∈ts,j.held≠some T:=by
 intro j h i;unfold cu at c e a;split at c
 ·rename_i z;rw[if_pos z]at e a;have hm:=sF (key:=mJ tops) g h;have l:(i7 (mJ tops) ts).held=none:=by unfold Jb.held;rw[if_pos c]
  rw[A5 i,AG l,Fe]at hm;generalize (i7 (mJ tops) ts).rank=r at *;generalize k6 tops T=u at *;by_cases q:(if u<j.rank then u else j.rank)=r
  ·rw[if_pos q]at hm;revert hm;decide
  ·rw[if_neg q]at hm;have:=of_decide_eq_false hm;split at this <;> split at q <;> omega
 ·rename_i z;rw[if_neg z]at e;have f:=(N3.mp (n5 (key:=Br (if (len==("asked":Str))=true then ip ts else [])) (Dv g))).2;generalize i7 (Br (if (len==("asked":Str))=true then ip ts else [])) (ts.filter (fq ts))=b at *;have hw:b.wanted=some T:=by unfold Jb.wanted;rw[if_pos c,e]
  unfold fq iB at f;rw[hw]at f;have hn:ts.find? (λk=>k.held==some T)=none:=Option.isNone_iff_eq_none.mp f;have:=Oy.mp hn j h;rw[i]at this;exact this (beq_self_eq_true _)
theorem oB{t:Int}(e:IvJ tops t js)(f:j∈js)(hs:j.spent≠0):j.there t=true:=by
 cases ht:j.there t with
 |true=>rfl
 |false =>
  have h:=e.ok.ok j f;have hl:=e.low j f;have hc:i6 j.row t<=j.job:=by
   by_cases z:j.job<j.row.length
   ·unfold Jb.there at ht;rw[M1 z]at ht;have:=of_decide_eq_false ht;exact uR z (e.srt j f) (by omega)
   ·have:=wt j.row t;omega
  obtain⟨c0,c1⟩:=oQ h;have:=Nu (a:=(i6 j.row t:Int)) (b:=(j.job:Int)) (c:=j.work) (by omega) (by omega);have h2:=jA (ps:=j.parts.take j.part) λq g=>h.ln q (O6 g)
  unfold gQ Jb.tot Jb.cur at hl;omega
theorem tV(h:JOk tops j)(e:j.next.held=some T):j.tool=some T:=by
 unfold Jb.next Jb.step1 at e;by_cases z:(j.spent:Int)+1=j.len
 ·rw[if_pos z]at e;unfold Jb.step2 at e;split at e
  ·unfold Jb.held at e;rw[if_pos rfl]at e;cases e
  ·unfold Jb.held at e;rw[if_pos rfl]at e;cases e
 ·rw[if_neg z]at e;unfold Jb.step2 at e;rw[if_neg (show ¬ ({ j with spent:=j.spent+1 }:Jb).part=({ j with spent:=j.spent+1 }:Jb).parts.length from MV h.pt)]at e;unfold Jb.held at e;rw[if_neg (show ¬ ({ j with spent:=j.spent+1 }:Jb).spent=0 from Nat.succ_ne_zero _)]at e;exact e
theorem iX(h:j.held=some T):j.tool=some T/\j.spent≠0:=by
 unfold Jb.held at h;by_cases z:j.spent=0
 ·rw[if_pos z]at h;cases h
 ·rw[if_neg z]at h;exact⟨h,z⟩
theorem nF(j:Jb):j.next.rank=j.rank:=by unfold Jb.next Jb.step1 Jb.step2;split <;> split <;> rfl
structure HvJ(tops:PyData)(js:List Jb):Prop where
 one:∀i∈js,∀j∈js,∀T,i.held=some T->j.held=some T->i.num=j.num
 top:∀j∈js,∀p∈j.parts,∀T,p.2=some T->k6 tops T<=j.rank
theorem mW{b k:Jb}(a:k∈eO b js):(k∈js/\k.num≠b.num)\/k=b.next:=by
 obtain⟨j,c,rfl⟩:=MM.mp a;by_cases z:j.num=b.num
 ·right;exact if_pos z
 ·left;rw[if_neg z];exact⟨c,z⟩
theorem mV(h:JOk tops j)(b:j.tool=some T):∃p∈j.parts,p.2=some T:=by have a:=h.pt;unfold Jb.tool at b;rw[M1 a]at b;exact⟨_,Na a,b⟩
theorem Bv{len:Str}(f:IvJ tops (told.length:Int) js)(hv:HvJ tops js)(z:cx told js≠[])(a:(cu tops len (cx told js)).tool=some T):∀j∈js,j.held=some T->j.num=(cu tops len (cx told js)).num:=by
 obtain⟨hm,hth⟩:=N3.mp (fT (tops:=tops) (len:=len) z);intro j b c;obtain⟨h1,h2⟩:=iX c;by_cases y:(cu tops len (cx told js)).spent=0
 ·obtain⟨p,g,e⟩:=mV (f.ok.ok _ hm) a;exact (Bs z y a (hv.top _ hm p g T e) j (N3.mpr ⟨b,oB f b h2⟩) c).elim
 ·exact hv.one j b _ hm T c (by unfold Jb.held;rw[if_neg y];exact a)
theorem F3{len:Str}(f:IvJ tops (told.length:Int) js)(hv:HvJ tops js):HvJ tops (dh tops len (js,told)).1:=by
 by_cases z:cx told js=[]
 ·rw[kN z];exact hv
 ·have e:dh tops len (js,told)=(eO (cu tops len (cx told js)) js,told++[cX (cu tops len (cx told js))]):=by unfold dh;exact if_neg z
  have hm:cu tops len (cx told js)∈js:=(N3.mp (fT (tops:=tops) (len:=len) z)).1;have a:=λT l=>Bv (len:=len) (T:=T) f hv z l
  rw[e];generalize cu tops len (cx told js)=b at *;refine⟨λi hi j c T h1 h2=>?_,λj c p g T e=>?_⟩
  ·rcases mW hi with⟨hi,m⟩|rfl
   ·rcases mW c with⟨c,h⟩|rfl
    ·exact hv.one i hi j c T h1 h2
    ·exact (m (a T (tV (f.ok.ok b hm) h2) i hi h1)).elim
   ·rcases mW c with⟨c,h⟩|rfl
    ·exact (h (a T (tV (f.ok.ok b hm) h1) j c h2)).elim
    ·rfl
  ·rcases lR hm c with c|rfl
   ·exact hv.top j c p g T e
   ·rw[jr]at g;rw[nF];exact hv.top b hm p g T e
def lawAt:List #[25]->Nat->Int->Nat×Option Int×Int
 |[],k,_=>(k,none,0)
 |p::r,k,s=>if s<p.1 then (k,p.2,s) else lawAt r (k+1) (s-p.1)
theorem lawAt_in:∀{ps:List #[25]}{k:Nat}(k0:Nat)(h:k<ps.length){s:Int},(∀p∈ps,1<=p.1)->0<=s->s<ps[k].1->lawAt ps k0 (bT (ps.take k)+s)=(k0+k,ps[k].2,s)
 |[],_,_,h,_,_,_,_=>by cases h
 |p::r,0,k0,_,s,hp,h0,h1=>by
  have h1:s<p.1:=h1;show (if bT []+s<p.1 then (k0,p.2,bT []+s) else _)=_;have e:bT []+s=s:=by show 0+s=s;omega
  rw[e,if_pos h1];rfl
 |p::r,k+1,k0,h,s,hp,h0,h1=>by
  have b:k<r.length:=by simpa using h
  have h1:s<r[k].1:=h1;have hnn:=jA (ps:=r.take k) λq a=>hp q (M3 _ (O6 a))
  have c:=lawAt_in (k0+1) b (λq a=>hp q (M3 _ a)) h0 h1;have e:bT ((p::r).take (k+1))=p.1+bT (r.take k):=by rw[O8,eW]
  show (if bT ((p::r).take (k+1))+s<p.1 then _ else lawAt r (k0+1) (bT ((p::r).take (k+1))+s-p.1))=_;rw[e,if_neg (by omega),show p.1+bT (r.take k)+s-p.1=bT (r.take k)+s by omega,c];show (k0+1+k,r[k].2,s)=(k0+(k+1),r[k].2,s)
  rw[show k0+1+k=k0+(k+1) by omega]
theorem lawAt_end:∀{ps:List #[25]}(k0:Nat),(∀p∈ps,1<=p.1)->lawAt ps k0 (bT ps)=(k0+ps.length,none,0)
 |[],k0,_=>rfl
 |p::r,k0,hp=>by
  have hnn:=jA (ps:=r) λq a=>hp q (M3 _ a)
  show (if bT (p::r)<p.1 then _ else lawAt r (k0+1) (bT (p::r)-p.1))=_;rw[eW,if_neg (by omega),show p.1+bT r-p.1=bT r by omega,lawAt_end (k0+1) λq a=>hp q (M3 _ a),MW,show k0+1+r.length=k0+(r.length+1) by omega]
section
theorem Ik(h:JOk tops j):lawAt j.parts 0 j.cur=(j.part,j.tool,(j.spent:Int)):=by
 have a:=h.pt;have hlen:j.len=j.parts[j.part].1:=by unfold Jb.len;rw[M1 a];rfl
 have b:j.tool=j.parts[j.part].2:=by unfold Jb.tool;rw[M1 a];rfl
 have hsp:=h.sp;have:=lawAt_in 0 a (s:=(j.spent:Int)) h.ln (by omega) (by omega);unfold Jb.cur;rw[this,b,Nl]
theorem Gy(h:JOk tops j):(∃to e,lawAt j.parts 0 (j.cur+1)=(j.part,to,e)/\j.part≠j.parts.length/\j.next.cur=j.cur+1/\j.next.held=j.tool) \/
  (∃to e,lawAt j.parts 0 (j.cur+1)=(j.part+1,to,e)/\j.next.held=none/\((j.part+1≠j.parts.length/\j.next.cur=j.cur+1)\/(j.part+1=j.parts.length/\j.next.cur=0))):=by
 have a:=h.pt;have hlen:j.len=j.parts[j.part].1:=by unfold Jb.len;rw[M1 a];rfl
 have hsp:=h.sp;have htk:=kS a;by_cases z:(j.spent:Int)+1=j.len
 ·right;have f:j.cur+1=bT (j.parts.take (j.part+1)):=by unfold Jb.cur;omega
  by_cases y:j.part+1=j.parts.length
  ·have e1:bT (j.parts.take (j.part+1))=bT j.parts:=by rw[y,OT]
   have b:j.next={ j with spent:=0,part:=0,job:=j.job+1 }:=by unfold Jb.next Jb.step1;rw[if_pos z];unfold Jb.step2;rw[if_pos (show ({ j with spent:=0,part:=j.part+1 }:Jb).part=({ j with spent:=0,part:=j.part+1 }:Jb).parts.length from y)]
   refine⟨none,0,?_,by rw[b];rfl,.inr ⟨y,by rw[b];rfl⟩⟩;rw[f,e1,lawAt_end 0 h.ln,y,Nl]
  ·have c:j.part+1<j.parts.length:=by omega
   have b:j.next={ j with spent:=0,part:=j.part+1 }:=by unfold Jb.next Jb.step1;rw[if_pos z];unfold Jb.step2;rw[if_neg (show ¬ ({ j with spent:=0,part:=j.part+1 }:Jb).part=({ j with spent:=0,part:=j.part+1 }:Jb).parts.length from y)]
   refine⟨j.parts[j.part+1].2,0,?_,by rw[b];rfl,.inl ⟨y,?_⟩⟩
   ·have:=lawAt_in 0 c (s:=0) h.ln (by omega) (by have:=h.ln _ (Na c);omega);rw[Nl,OH]at this;rw[f,this]
   ·rw[b];show bT (j.parts.take (j.part+1))+((0:Nat):Int)=_;rw[f];omega
 ·left;have b:j.next={ j with spent:=j.spent+1 }:=by unfold Jb.next Jb.step1;rw[if_neg z];unfold Jb.step2;rw[if_neg (show ¬ ({ j with spent:=j.spent+1 }:Jb).part=({ j with spent:=j.spent+1 }:Jb).parts.length from MV h.pt)]
  refine⟨j.parts[j.part].2,(j.spent:Int)+1,?_,MV a,?_,?_⟩
  ·have:=lawAt_in 0 a (s:=(j.spent:Int)+1) h.ln (by omega) (by omega);rw[Nl]at this;unfold Jb.cur;rw[Int.add_assoc,this]
  ·rw[b];show bT (j.parts.take j.part)+((j.spent+1:Nat):Int)=bT (j.parts.take j.part)+(j.spent:Int)+1;omega
  ·rw[b];unfold Jb.held;rw[if_neg (show ¬ ({ j with spent:=j.spent+1 }:Jb).spent=0 from Nat.succ_ne_zero _)];rfl
end
theorem eX{f:Gf}{a:Ds->Rs #[5]}{d:PyData}(ha:a δ=.ok ds)(b:f ds=.ok d):au f a δ=.ok d:=by rw[bK,ha,Rs.ag,b]
theorem bI{a b:Ds->Sr}{c:Ds}(h:a δ=.nx c):ay a b δ=b c:=by rw[aT,h]
theorem jq{body:Ds->Sr}(h:src (mask O δ)=.ok ds):cA O src tgt body δ=forL tgt body ds δ:=by rw[jj,h,aB]
theorem uA{g:Ds->Rs #[5]}(hi:i<δ.length)(a:g (mask O δ)=.ok ds):eu O i g δ=.nx (δ.set i (some (.list ds))):=by unfold eu;rw[if_pos hi,a,aB]
theorem Cms.sorted(h:Cms es rows)(ok:∀e∈es,e.Ok):∀r∈rows,r.Pairwise (· < ·):=by
 induction h with
 |nil=>intro r a;cases a
 |cons a hv _ ih =>
  intro b h';rcases M8.mp h' with rfl|h'
  ·have o:=ok _ M7;exact (tI o.l3 o.l1 _ _ hv).2
  ·exact ih (λe c=>ok e (M3 _ c)) b h'
section
variable {len:Str}
theorem DT(h:i<(startJ es rs rows).length):∃row,#[19][i]=mkJ es rs i row:=by
 have e:=kQ (es:=es) (rs:=rs) (rows:=rows) i;rw[M1 h]at e;cases q:rows[i]? with
 |none=>rw[q]at e;cases e
 |some row=>rw[q]at e;exact⟨row,Option.some.inj e⟩
theorem EL(R:Ran es rs rows len)(C:Cms es rows):IvJ (av es rs) ((([]:List PyData).length:Nat):Int) #[19]:=by
 refine⟨mw R.eok R.rok R.ln,λj a=>?_,λj a=>?_⟩
 ·obtain⟨k,row,_,hm,_,rfl⟩:=ee a;exact C.sorted R.eok.ok row hm
 ·have hw:=oQ ((mw R.eok R.rok R.ln).ok j a);obtain⟨k,row,_,hm,_,rfl⟩:=ee a;unfold gQ;rw[m8];have:=Int.mul_nonneg (Ob (i6 (mkJ es rs k row).row ((([]:List PyData).length:Nat):Int))) (show 0<=(mkJ es rs k row).work by omega);omega
theorem EY(R:Ran es rs rows len)(C:Cms es rows):Sx #[19]:=by
 refine⟨λi hi=>?_,λj a=>?_,λj a=>?_⟩
 ·obtain⟨row,e⟩:=DT hi;rw[e];rfl
 ·obtain⟨k,row,_,hm,_,rfl⟩:=ee a;have:=(C.qc row hm).few;show row.length<=1000;omega
 ·obtain⟨k,row,hk,hm,_,rfl⟩:=ee a;have ok:=R.eok.ok _ (dX (n:=(k:Int)) (by omega) (by have:=R.ln;omega));have h1:=vt λp b=>(ok.pl p b).2.1
  have h2:=ok.p2;show bT (bZ es (k:Int)).parts<=1000;omega
end
structure Er.Wk(e:Er):Prop where
 sh:e.Sh
 e2:e.every<=60
 l1:0<=e.late
 p2:e.parts.length<=4
 pl:∀p∈e.parts,1<=p.1/\p.1<=1000000
 p1:e.parts≠[]
theorem Er.Ok.wk(h:e.Ok):e.Wk:=⟨h.sh,h.e2,h.l1,h.p2,λp a=>by have:=h.pl p a;exact⟨this.1,by omega⟩,h.p1⟩
def wkB(e:Er):Bool:=decide (e.every<=60)&&decide (0<=e.late)&&decide (e.parts.length<=4)&&e.parts.all (λp=>decide (1<=p.1))&&decide (e.parts≠[])
theorem JW(h:e.Wk):wkB e=true:=by unfold wkB;simp only[M9,decide_eq_true_eq,MX];exact⟨⟨⟨⟨h.e2,h.l1⟩,h.p2⟩,λp a=>(h.pl p a).1⟩,h.p1⟩
theorem Jp(h:wkB e=true)(g:e.Sh):e.Wk:=by unfold wkB at h;simp only[M9,decide_eq_true_eq,MX]at h;obtain⟨⟨⟨⟨a,b⟩,c⟩,d⟩,f⟩:=h;exact⟨g,a,b,c,λp i=>⟨d p i,(g.pl p i).2.1⟩,f⟩
def xj(d:PyData):Bool:=oN d&&decide (1<=(dJ d).length)&&decide ((dJ d).length<=6)&&(dJ d).all wkB
theorem Ci(h1:1<=es.length)(h2:es.length<=6)(h:∀e∈es,e.Wk):xj (ar es)=true:=by unfold xj;rw[mH (by omega) λe a=>(h e a).sh,jw];simp only[M9,decide_eq_true_eq,MX];exact⟨⟨⟨trivial,h1⟩,h2⟩,λe a=>JW (h e a)⟩
theorem Jr{d:PyData}(h:xj d=true):ar (dJ d)=d/\1<=(dJ d).length/\(dJ d).length<=6/\∀e∈dJ d,e.Wk:=by unfold xj at h;simp only[M9,decide_eq_true_eq,MX]at h;obtain⟨⟨⟨a,b⟩,c⟩,f⟩:=h;obtain⟨e1,_,i⟩:=uE a;exact⟨e1,b,c,λe g=>Jp (f e g) (i e g)⟩
def okW(d r:PyData)(n:Int):Bool:=xj d&&dQ (dJ d).length r&&decide (0<=n)&&decide (n<(dJ d).length)
theorem Kt{n:Int}(h1:1<=es.length)(h2:es.length<=6)(h:∀e∈es,e.Wk)(a:cN es.length rs)(n0:0<=n)(n1:n<es.length):okW (ar es) (ak rs) n=true:=by unfold okW;rw[Ci h1 h2 h,jw,fP a];simp only[M9,decide_eq_true_eq];exact⟨⟨⟨trivial,trivial⟩,n0⟩,n1⟩
theorem BW{d r:PyData}{n:Int}(h:okW d r n=true):∃es rs,d=ar es/\r=ak rs/\dJ d=es/\de r=rs/\1<=es.length/\es.length<=6/\(∀e∈es,e.Wk)/\cN es.length rs/\0<=n/\n<es.length:=by unfold okW at h;simp only[M9,decide_eq_true_eq]at h;obtain⟨⟨⟨c1,a⟩,n0⟩,n1⟩:=h;obtain⟨e1,l1,l6,hok⟩:=Jr c1;obtain⟨e2,b⟩:=kx a;exact⟨dJ d,de r,e1.symm,e2.symm,rfl,rfl,l1,l6,hok,b,n0,n1⟩
def stJ(tops:PyData)(len:Str)(js:List Jb):Nat->List Jb×List PyData
 |0=>(js,[])
 |i+1=>dh tops len #[30]
section
variable {len:Str}
theorem fG:∀i,#[30].2.length=i
 |0=>rfl
 |i+1=>by show (dh tops len _).2.length=_;rw[v8,fG i]
theorem qb{b:Jb}:∀{js:List Jb},(js.map (·.num)).Nodup->b∈js->(eO b js).map (·.rank)=js.map (·.rank)
 |[],_,a=>(nomatch a)
 |j::r,nd,a=>by
  rcases oy nd a with⟨f,e⟩|⟨_,c,e⟩
  ·rw[e,M5,M5,f,nF]
  ·rw[M5,Nc]at nd;rw[e,M5,M5,qb nd.2 c]
theorem oz(a:IvJ tops 0 js)(hv:HvJ tops js):∀i:Nat,IvJ tops (i:Int) #[30].1/\HvJ tops #[30].1/\(stJ tops len js i).1.map gj=js.map gj/\(stJ tops len js i).1.map (·.rank)=js.map (·.rank)
 |0=>⟨a,hv,rfl,rfl⟩
 |i+1=>by
  obtain⟨h1,h2,h3,g⟩:=oz a hv i;have hl:=fG (tops:=tops) (len:=len) (js:=js) i;have h1:IvJ tops (#[30].2.length:Int) #[30].1:=by rw[hl];exact h1
  have q:=G5 (len:=len) h1;have c:=F3 (len:=len) h1 h2;have e:dh tops len (#[30].1,#[30].2)=stJ tops len js (i+1):=rfl;rw[e]at q c;rw[fG]at q;refine⟨q,c,?_,?_⟩
  all_goals
   rw[<-e];by_cases z:cx #[30].2 #[30].1=[]
   ·rw[kN z];assumption
   ·obtain⟨b,f,_,e2⟩:=oq (tops:=tops) (len:=len) z;rw[e2]
    first|exact (tq h1.ok.nd f).trans h3|exact (qb h1.ok.nd f).trans g
end
structure Trc(tops:PyData)(n:Nat)(q:Nat->Nat->Jb)(who:Nat->Option Nat):Prop where
 lt:∀{i m:Nat},who i=some m->m<n
 on:∀{i m},who i=some m->q m (i+1)=(q m i).next
 off:∀{i m},m<n->who i≠some m->q m (i+1)=q m i
 ok:∀{m} i,m<n->JOk tops (q m i)
 thr:∀{i m:Nat},who i=some m->(q m i).there (i:Int)=true
 idl:∀{i m:Nat},who i=none->m<n->(q m i).there (i:Int)=false
 srt:∀{m} i,m<n->(q m i).row.Pairwise (· < ·)
 low:∀{m:Nat}(i:Nat),m<n->0<=gQ (i:Int) (q m i)
 spt:∀{m:Nat}(i:Nat),m<n->(q m i).spent≠0->(q m i).there (i:Int)=true
 tp:∀{m:Nat}(i:Nat){T:Int},m<n->(q m i).held=some T->k6 tops T<=(q m i).rank
 num:∀{m:Nat}(i:Nat),m<n->(q m i).num=(m:Int)
section
variable {q:Nat->Nat->Jb}{who:Nat->Option Nat}
theorem Trc.stay(R:Trc tops n q who)(hm:m<n):∀i,(q m i).parts=(q m 0).parts/\(q m i).row=(q m 0).row/\(q m i).rank=(q m 0).rank
 |0=>⟨rfl,rfl,rfl⟩
 |i+1=>by
  have h:=R.stay hm i;by_cases w:who i=some m
  ·rw[R.on w,jr,i5,nF];exact h
  ·rw[R.off hm w];exact h
theorem Trc.tot1(R:Trc tops n q who)(hm:m<n):(q m (i+1)).tot=(q m i).tot+(if who i=some m then 1 else 0):=by
 by_cases w:who i=some m
 ·rw[R.on w,if_pos w,rB (R.ok i hm)]
 ·rw[R.off hm w,if_neg w];omega
theorem Trc.mono(R:Trc tops n q who)(hm:m<n){j:Nat}(h:i<=j):(q m i).tot<=(q m j).tot:=by
 induction h with
 |refl=>exact NN _
 |step _ ih=>rw[R.tot1 hm];split <;> omega
theorem Trc.wk(R:Trc tops n q who)(hm:m<n)(i:Nat):(q m i).work=(q m 0).work:=by unfold Jb.work;rw[(R.stay hm i).1]
theorem Trc.wpos(R:Trc tops n q who)(hm:m<n)(i:Nat):0<(q m i).work:=by have:=oQ (R.ok i hm);omega
theorem Trc.job_tot(R:Trc tops n q who)(hm:m<n)(i:Nat):((q m i).job:Int)=(q m i).tot / (q m 0).work:=by rw[<-R.wk hm i];exact (Hi (R.ok i hm)).symm
theorem Trc.left(R:Trc tops n q who)(hm:m<n)(h:(q m i).tot<(i6 (q m 0).row (i:Int):Int)*(q m 0).work):(q m i).there (i:Int)=true:=by
 by_cases t:(q m i).there (i:Int)=true
 ·exact t
 ·have t:(q m i).there (i:Int)=false:=by simpa using t
  have:=CG (R.ok i hm) (R.srt i hm) (R.low i hm) t;unfold gQ at this;rw[R.wk hm,(R.stay hm i).2.1]at this;omega
end
def qJ(tops:PyData)(len:Str)(js:List Jb)(m i:Nat):Jb:=(stJ tops len js i).1.getD m default
def thA(tops:PyData)(len:Str)(js:List Jb)(i:Nat):List Jb:=cx #[30].2 #[30].1
open Classical in
def rA(tops:PyData)(len:Str)(js:List Jb)(i:Nat):Option Nat:=if thA tops len js i=[] then none else some (cu tops len (thA tops len js i)).num.toNat
section
variable {len:Str}
theorem ia(h:m<(stJ tops len js i).1.length):qJ tops len js m i=(stJ tops len js i).1[m]:=by unfold qJ;rw[MT,M1 h];rfl
theorem nh(a:IvJ tops 0 js)(hv:HvJ tops js)(i:Nat):(stJ tops len js i).1.length=js.length:=wD (oz a hv i).2.2.1
theorem nG(h:j∈thA tops len js i):j∈(stJ tops len js i).1/\j.there (i:Int)=true:=by have:=N3.mp h;rw[fG]at this;exact this
theorem i4(b:IvJ tops 0 js)(hv:HvJ tops js)(c:Sx js)(h:rA tops len js i=some m):m<js.length/\thA tops len js i≠[]/\qJ tops len js m i=cu tops len (thA tops len js i):=by
 unfold rA at h;split at h
 ·cases h
 ·rename_i z;have hm:=(nG (fT (tops:=tops) (len:=len) z)).1;obtain⟨k,a,e⟩:=Om hm;have hn:=(zJ (oz b hv i).2.2.1 c).num k a;rw[e]at hn;have:m=k:=by injection h with h;omega
  subst this;exact⟨by rw[<-nh b hv i];exact a,z,by rw[ia a,e]⟩
theorem zP(i:Nat):(stJ tops len js (i+1)).1=if thA tops len js i=[] then #[30].1 else eO (cu tops len (thA tops len js i)) #[30].1:=by show (dh tops len #[30]).1=_;unfold dh thA;split <;> rfl
theorem E8{T:Nat}(h:i<T):(stJ tops len js T).2[i]?=some (if thA tops len js i=[] then .none else cX (cu tops len (thA tops len js i))):=by
 induction h with
 |refl =>show (dh tops len #[30]).2[i]?=_;unfold dh thA;split <;> (show (_++[_])[i]?=_;rw[N6 (by rw[fG];omega),fG,Nat.sub_self];rfl)
 |step a ih =>
  rename_i T;have hl:=fG (tops:=tops) (len:=len) (js:=js) T;have:(stJ tops len js (T+1)).2[i]?=(stJ tops len js T).2[i]?:=by show (dh tops len (stJ tops len js T)).2[i]?=_;unfold dh;have a:i<T:=a;split <;> (show (_++[_])[i]?=_;rw[N5 (by omega)])
  rw[this,ih]
theorem CP(a:IvJ tops 0 js)(hv:HvJ tops js)(c:Sx js):Trc tops js.length (qJ tops len js) (rA tops len js):=by
 have inv:=λi=>oz (len:=len) a hv i
 have f:=λi=>nh (len:=len) a hv i
 have mem:∀{m} i,m<js.length->qJ tops len js m i∈(stJ tops len js i).1:=λ{m} i h=>by
  have hm:m<(stJ tops len js i).1.length:=by rw[f];exact h
  rw[ia hm];exact Na hm
 have num:∀{m} i,m<js.length->(qJ tops len js m i).num=(m:Int):=λ{m} i h=>by
  have hm:m<(stJ tops len js i).1.length:=by rw[f];exact h
  rw[ia hm];exact (zJ (inv i).2.2.1 c).num m hm
 have iv':∀i,IvJ tops (#[30].2.length:Int) #[30].1:=λi=>by rw[fG];exact (inv i).1
 refine⟨λh=>(i4 a hv c h).1,λ{i m} h=>?_,λ{i m} hm h=>?_,λ{m} i h=>(inv i).1.ok.ok _ (mem i h),λ{i m} h=>?_,λ{i m} h hm=>?_,λ{m} i h=>(inv i).1.srt _ (mem i h),λ{m} i h=>(inv i).1.low _ (mem i h),λ{m} i h hs=>oB (inv i).1 (mem i h) hs,λ{m} i {T} h ht=>?_,λ{m} i h=>num i h⟩
 ·obtain⟨hm,z,e⟩:=i4 a hv c h;have h1:m<(stJ tops len js (i+1)).1.length:=by rw[f];exact hm
  have b:m<(stJ tops len js i).1.length:=by rw[f];exact hm
  have e1:qJ tops len js m (i+1)=(eO (cu tops len (thA tops len js i)) #[30].1).getD m default:=by unfold qJ;rw[zP,if_neg z]
  rw[e1,<-e];unfold eO;rw[MT,MP,M1 b,<-ia b];simp
 ·unfold qJ;rw[zP];split
  ·rfl
  ·rename_i z;have b:m<(stJ tops len js i).1.length:=by rw[f];exact hm
   have hn:=num i hm;rw[ia b]at hn;have hw:rA tops len js i=some (cu tops len (thA tops len js i)).num.toNat:=by unfold rA;rw[if_neg z]
   have hw':=i4 a hv c hw;have g:¬ #[30].1[m].num=(cu tops len (thA tops len js i)).num:=λe=>h (by rw[hw,<-e,hn];rfl)
   unfold eO;rw[MT,MP,M1 b,MT,M1 b];simp[g]
 ·obtain⟨hm,z,e⟩:=i4 a hv c h;rw[e];exact (nG (fT z)).2
 ·unfold rA at h;split at h
  ·rename_i z;by_cases t:(qJ tops len js m i).there (i:Int)=true
   ·have:qJ tops len js m i∈thA tops len js i:=N3.mpr ⟨mem i hm,by rw[fG];exact t⟩;rw[z]at this;cases this
   ·simpa using t
  ·cases h
 ·obtain⟨h1,h2⟩:=iX ht;obtain⟨p,j,e⟩:=mV ((inv i).1.ok.ok _ (mem i h)) h1;exact (inv i).2.1.top _ (mem i h) p j T e
end
section
variable {q:Nat->Nat->Jb}{who:Nat->Option Nat}
end
theorem lT{α:Type}{f g:α->Int}:∀{l:List α},(∀x∈l,f x<=g x)->(l.map f).sum<=(l.map g).sum
 |[],_=>by simp
 |x::r,h=>by
  rw[M5,M5,Nf,Nf];have:=h x M7;have:=lT (l:=r) λy a=>h y (M3 _ a)
  omega
theorem Ar{α:Type}{f:α->Int}{P:α->Prop}{H:Int}(c:0<=H):∀{l:List α},l.Nodup->(∀x∈l,f x=0\/(P x/\f x<=H))->(∀x∈l,∀y∈l,P x->P y->x=y)->(l.map f).sum<=H
 |[],_,_,_=>by simpa using c
 |x::r,nd,h,u=>by
  rw[M5,Nf];have b:=Nc.mp nd;rcases h x M7 with e|⟨g,hx⟩
  ·have:=Ar c (l:=r) b.2 (λy a=>h y (M3 _ a)) (λy a z i=>u y (M3 _ a) z (M3 _ i));omega
  ·have:(r.map f).sum=0:=ig f λy a=>by
    rcases h y (M3 _ a) with e|⟨j,_⟩
    ·exact e
    ·have:=u x M7 y (M3 _ a) g j;subst this;exact (b.1 a).elim
   omega
theorem zK{m:Nat}:∀{l:List Int},l.Nodup->(∀x∈l,0<=x)->(m:Int)∈l->(l.map λx=>if m=x.toNat then (1:Int) else 0).sum=1
 |[],_,_,h=>(nomatch h)
 |x::r,nd,hp,h=>by
  rw[M5,Nf];have a:=Nc.mp nd;have hx:=hp x M7;by_cases e:m=x.toNat
  ·have:(r.map λx=>if m=x.toNat then (1:Int) else 0).sum=0:=ig _ λy b=>by
    rw[if_neg];intro z;have:=hp y (M3 _ b);have:y=x:=by omega
    subst this;exact a.1 b
   rw[if_pos e];omega
  ·rw[if_neg e];have:(m:Int)∈r:=by
    rcases M8.mp h with z|z
    ·exact absurd (by omega:m=x.toNat) e
    ·exact z
   have:=zK a.2 (λy b=>hp y (M3 _ b)) this;omega
section
variable {q:Nat->Nat->Jb}{who:Nat->Option Nat}
end
section
variable {q:Nat->Nat->Jb}{who:Nat->Option Nat}
theorem Trc.passed(R:Trc tops n q who)(hm:m<n){v:Int}:∀(d:Nat),(q m B).tot<v->v<=(q m (B+d)).tot->∃t,B<=t/\t<B+d/\who t=some m/\(q m t).tot=v-1
 |0,h1,h2=>by rw[Nat.add_zero]at h2;omega
 |d+1,h1,h2=>by
  by_cases h:v<=(q m (B+d)).tot
  ·obtain⟨t,a1,a2,a⟩:=R.passed hm d h1 h;exact⟨t,a1,by omega,a⟩
  ·have:=R.tot1 (i:=B+d) hm;have h2:v<=(q m (B+d+1)).tot:=h2;by_cases w:who (B+d)=some m
   ·rw[if_pos w]at this;exact⟨B+d,by omega,by omega,w,by omega⟩
   ·rw[if_neg w]at this;omega
end
theorem CS{len:Str}(R:Ran es rs rows len):HvJ (av es rs) #[19]:=by
 refine⟨λi hi j f T h1 h2=>?_,λj f p g T e=>?_⟩
 ·obtain⟨k,row,_,_,_,rfl⟩:=ee hi;cases h1
 ·obtain⟨k,row,hk,_,_,rfl⟩:=ee f;have hln:=R.ln;have h:(0:Int)<=(k:Int):=by omega
  have h1:(k:Int)<es.length:=by omega
  have ok:=R.eok.ok _ (dX h h1);obtain⟨l,m⟩:=(ok.pl p g).2.2 T e;have o:(bZ es (k:Int)).has T=true:=by unfold Er.has;rw[NG];exact⟨p,g,by rw[e];exact beq_self_eq_true _⟩
  have hm:=R.rok.mem h h1;have a:=qS hm;have b:rs[placeOf rs (k:Int)]?=some (k:Int):=by have:=List.findIdx_getElem (xs:=rs) (p:=(·==(k:Int))) (w:=a);rw[M1 a];exact congrArg some (eq_of_beq this)
  have c:(k:Int)∈rs.take (placeOf rs (k:Int)+1):=by rw[List.take_succ,b];exact ML _ M7
  obtain⟨n,hn,hle⟩:=(DD es T rs 0 (placeOf rs (k:Int))).mpr ⟨(k:Int),c,o⟩;have:k6 (av es rs) T=n:=by unfold k6;rw[jk l m hn]
  rw[this];show n<=(placeOf rs (k:Int):Int);omega
def hdD(C:Addr)(m k t l:Int):PyData:=xG C [("number",.int m),("part",.int k),("tool",.int t),("times",.int l)]
def km(C:Addr)(es:List Er)(rs:List Int)(pl m k:Int)(p:Int×Option Int):List PyData:=match p.2 with
 |some t=>(match bq es rs t with
  |some h=>if h<=pl then [hdD C m k t (p.1-1)] else []
  |none=>[])
 |none=>[]
def hdM(C:Addr)(es:List Er)(rs:List Int)(pl m:Int):Nat->List #[25]->List PyData
 |_,[]=>[]
 |k,p::r=>km C es rs pl m k p++hdM C es rs pl m (k+1) r
def jU(C:Addr)(es:List Er)(rs:List Int)(pl:Int):List Int->List PyData
 |[]=>[]
 |m::r=>hdM C es rs pl m 0 (bZ es m).parts++jU C es rs pl r
theorem tj(C:Addr)(es:List Er)(rs:List Int)(pl m k:Int)(p:Int×Option Int):(km C es rs pl m k p).length<=1:=by
 unfold km;split
 ·split
  ·split <;> simp
  ·simp
 ·simp
theorem uG(C:Addr)(es:List Er)(rs:List Int)(pl m:Int):∀(ps:List #[25])(k:Nat),(hdM C es rs pl m k ps).length<=ps.length
 |[],_=>by simp[hdM]
 |p::r,k=>by have h1:=tj C es rs pl m k p;have h2:=uG C es rs pl m r (k+1);unfold hdM;rw[MN,MW];omega
abbrev B7(cs:Cs):Ds->Sr:=ik [5] 5 (au (sY cs.Holding ["number", "part", "tool", "times"]) (af (ae 6) (af (ae 7) (af (g2 dIx (ae 8) #[0]) (af (g2 eM (g2 dIx (ae 8) #[1]) #[0]) ah)))))
abbrev lM(cs:Cs):Ds->Sr:=sIf (iN (gT (g1 eE (g2 dIx (ae 8) #[0]))) (gT (g2 dLe (g2 dIx (ae 4) (g2 dIx (ae 8) #[0])) (ae 3)))) (B7 cs) aV
theorem F6(cs:Cs)(es:List Er)(rs:List Int)(E R n:PyData)(pl:Nat)(m:Int)(a:List PyData)(c:∀t:Int,0<=t->t<=3->atI a t=some (bg (bq es rs t)))(p:Int×Option Int)(k:Nat)(acc:List PyData)(hl:acc.length<1000000)(h:∀t,p.2=some t->0<=t/\t<=3/\∃h,bq es rs t=some h) :
  lM cs [some E,some R,some n,some (.int pl),some (.list a),some (.list acc),some (.int m),some (.int k),some (aI p)]
   =.nx [some E,some R,some n,some (.int pl),some (.list a),some (.list (acc++km cs.Holding es rs pl m k p)),some (.int m),some (.int k),some (aI p)]:=by
 obtain⟨l,o⟩:=p;cases o with
 |none=>simp[lM,DP,bg,km]
 |some t =>
  obtain⟨i,h3,e,g⟩:=h t rfl;have ha:=c t i h3;rw[g]at ha;have e1:dIx (aI (l,some t)) (.int 1)=some (.int t):=rfl;have j:dIx (aI (l,some t)) (.int 0)=some (.int l):=rfl;have b:dIx (.list a) (.int t)=some (.int e):=ha;have add:B7 cs [some E,some R,some n,some (.int pl),some (.list a),some (.list acc),some (.int m),some (.int k),some (aI (l,some t))]=.nx [some E,some R,some n,some (.int pl),some (.list a),some (.list (acc++[hdD cs.Holding m k t (l-1)])),some (.int m),some (.int k),some (aI (l,some t))]:=by unfold B7 ik;simp only[NT,NU];simp only[bK,aA,aJ,bR,aM (show 6∉[5] by decide),aM (show 7∉[5] by decide),aM (show 8∉[5] by decide),aq,aw,cJ,Rs.ag,e1,j,oE,Rs.ai];have hm:sY cs.Holding ["number", "part", "tool", "times"] [.int m,.int (k:Int),.int t,.int (l-1)]=.ok (hdD cs.Holding m k t (l-1)):=rfl;rw[hm,aB,if_pos hl];rfl
  have f:km cs.Holding es rs pl m k (l,some t)=if e<=(pl:Int) then [hdD cs.Holding m k t (l-1)] else []:=by unfold km;simp only[g]
  rw[f];by_cases hle:e<=(pl:Int)
  · rw[if_pos hle,<-add];simp[lM,e1,b,hle]
  · rw[if_neg hle,Nr];simp[lM,e1,b,hle]
theorem wI(cs:Cs)(es:List Er)(rs:List Int)(E R n:PyData)(pl:Nat)(m:Int)(a:List PyData)(b:∀t:Int,0<=t->t<=3->atI a t=some (bg (bq es rs t))):∀(ps:List #[25])(k:Nat)(acc:List PyData)(x7 x8:Option PyData),acc.length+ps.length<1000000->(∀p∈ps,∀t,p.2=some t->0<=t/\t<=3/\∃h,bq es rs t=some h) ->
  ∃c f,forL (cn [7,8]) (lM cs) ((ps.map aI).mapIdx λi d=>.tuple [.int ((k+i:Nat):Int),d])
    [some E,some R,some n,some (.int pl),some (.list a),some (.list acc),some (.int m),x7,x8]
   =.nx [some E,some R,some n,some (.int pl),some (.list a),some (.list (acc++hdM cs.Holding es rs pl m k ps)),some (.int m),c,f]
 |[],k,acc,x7,x8,_,_=>⟨x7,x8,by simp[forL,hdM]⟩
 |p::r,k,acc,x7,x8,hz,h=>by
  have hz':acc.length+(r.length+1)<1000000:=hz;have hl1:=tj cs.Holding es rs pl m k p;obtain⟨c,f,e⟩:=wI cs es rs E R n pl m a b r (k+1) (acc++km cs.Holding es rs pl m k p) (some (.int (k:Int))) (some (aI p)) (by rw[MN];omega) (λq g=>h q (M3 _ g));refine⟨c,f,?_⟩;rw[M5,OU];unfold forL;have e1:cn [7,8] (PyData.tuple [.int ((k+0:Nat):Int),aI p]) [some E,some R,some n,some (.int pl),some (.list a),some (.list acc),some (.int m),x7,x8]=some [some E,some R,some n,some (.int pl),some (.list a),some (.list acc),some (.int m),some (.int (k:Int)),some (aI p)]:=rfl;rw[e1];simp only[F6 cs es rs E R n pl m a b p k acc (by omega) (h p M7)];have j:(λ(i:Nat)(d:PyData)=>PyData.tuple [.int ((k+(i+1):Nat):Int),d])=λi d=>.tuple [.int ((k+1+i:Nat):Int),d]:=by funext i d;rw[show k+(i+1)=k+1+i by omega]
  rw[j,e];rw[show hdM cs.Holding es rs pl m k (p::r)=km cs.Holding es rs pl m k p++hdM cs.Holding es rs pl m (k+1) r from rfl,O4]
theorem wo{es:List Er}{rs:List Int}(cs:Cs)(f:∀e∈es,e.Sh)(v:cN es.length rs)(n:PyData)(pl:Nat):∀(ms:List Int)(acc:List PyData)(x6 x7 x8:Option PyData),acc.length+1000*ms.length<1000000->(∀m∈ms,m∈rs) ->
  ∃o q s,forL (aU 6) (cA [5] (fw (af #[6] ah)) (cn [7,8]) (lM cs)) (ms.map PyData.int)
    [some (ar es),some (ak rs),some n,some (.int pl),some (av es rs),some (.list acc),x6,x7,x8]
   =.nx [some (ar es),some (ak rs),some n,some (.int pl),some (av es rs),some (.list (acc++jU cs.Holding es rs pl ms)),o,q,s]
 |[],acc,x6,x7,x8,_,_=>⟨x6,x7,x8,by simp[forL,jU]⟩
 |m::r,acc,x6,x7,x8,hz,h=>by
  have hz':acc.length+1000*(r.length+1)<1000000:=hz;have hm:=h m M7;have g:=v.rng m hm;have j:=f _ (dX g.1 (by omega));have hpn:=j.pn;have hml:=uG cs.Holding es rs pl m (bZ es m).parts 0;obtain⟨w,y,e1⟩:=wI cs es rs (ar es) (ak rs) n pl m ((List.range 4).map λ(t:Nat)=>bg (bq es rs t)) (λt a b=>yi a b) (bZ es m).parts 0 acc x7 x8 (by omega) λp z t l=>by obtain⟨_,_,c⟩:=j.pl p z;have:=c t l;exact⟨this.1,this.2,mP es t rs 0 m hm (Io z l)⟩
  obtain⟨o,q,s,e2⟩:=wo cs f v n pl r (acc++hdM cs.Holding es rs pl m 0 (bZ es m).parts) (some (.int m)) w y (by rw[MN];omega) λx A=>h x (M3 _ A)
  refine⟨o,q,s,?_⟩;rw[M5];unfold forL;have a2:atI (es.map Er.d) m=some (bZ es m).d:=iz g.1 (by omega);have src:fw (af #[6] ah) (mask [5] [some (ar es),some (ak rs),some n,some (.int pl),some (av es rs),some (.list acc),some (.int m),x7,x8])=.ok (((bZ es m).parts.map aI).mapIdx λi d=>.tuple [.int ((0+i:Nat):Int),d]):=by simp only[pK,aA,aJ,bR,aM (show 0∉[5] by decide),aM (show 6∉[5] by decide),aq,aw,cJ,Rs.ag,ar,zF,a2,Rs.ai,vi,uh,fD,Nl]
  have l:aU 6 (.int m) [some (ar es),some (ak rs),some n,some (.int pl),some (av es rs),some (.list acc),x6,x7,x8]=some [some (ar es),some (ak rs),some n,some (.int pl),some (av es rs),some (.list acc),some (.int m),x7,x8]:=rfl;have u:forL (cn [7,8]) (lM cs) (((bZ es m).parts.map aI).mapIdx λi d=>.tuple [.int ((0+i:Nat):Int),d]) [some (ar es),some (ak rs),some n,some (.int pl),some (av es rs),some (.list acc),some (.int m),x7,x8]=.nx [some (ar es),some (ak rs),some n,some (.int pl),some (av es rs),some (.list (acc++hdM cs.Holding es rs pl m 0 (bZ es m).parts)),some (.int m),w,y]:=e1;rw[l];simp only[jj,src,aB,u,e2];rw[show jU cs.Holding es rs pl (m::r)=hdM cs.Holding es rs pl m 0 (bZ es m).parts++jU cs.Holding es rs pl r from rfl,O4]
def cF(cs:Cs):Gf
 |[d,r,.int n]=>if okW d r n then .ok (.list (jU cs.Holding (dJ d) (de r) (placeOf (de r) n) ((de r).drop (placeOf (de r) n+1)))) else .no
 |_=>.no
theorem ke{n:Int}(cs:Cs)(h1:1<=es.length)(h2:es.length<=6)(h:∀e∈es,e.Wk)(a:cN es.length rs)(n0:0<=n)(n1:n<es.length):cF cs [ar es,ak rs,.int n]=.ok (.list (jU cs.Holding es rs #[8] (rs.drop (placeOf rs n+1)))):=by unfold cF;simp only[Kt h1 h2 h a n0 n1,if_true,jw,kI]
theorem xE(cs:Cs):LLq (jL cs aR) 3 6 (cF cs):=by
 intro ds hl a;obtain⟨d,r,n,i,h⟩:=uY a;clear a;subst i;have a:=h;clear h
 ·skip
  split at a
  ·rename_i hc;obtain⟨es,rs,rfl,rfl,_,_,l1,l6,hok,b,n0,n1⟩:=BW hc;rw[ke cs l1 l6 hok b n0 n1];have c:∀e∈es,e.Sh:=λe j=>(hok e j).sh
   have f:=b.mem n0 (by omega);have g:=kj f;have l:=fM (by omega) c b;have hrl:=b.len;obtain⟨y6,y7,y8,e⟩:=wo cs c b (.int n) #[8] (rs.drop (placeOf rs n+1)) [] none none none (by rw[NW];simp;omega) (λm hm=>Nt hm);have src:bh #[29] (mask [5] [some (ar es),some (ak rs),some (.int n),some (.int #[8]),some (av es rs),some (.list []),none,none,none])=.ok ((rs.drop (placeOf rs n+1)).map PyData.int):=by simp only[nA,kF,mr,kP,bR,aM (show 1∉[5] by decide),aM (show 3∉[5] by decide),aq,aw,cJ,Rs.ag,e9,Rs.ai,mE,ak,yY,yl];rw[show (placeOf rs n:Int)+1=((placeOf rs n+1:Nat):Int) by omega,pQ,OL]
   have o:aN [5] 3 (nK (ae 1) (ae 2)) [some (ar es),some (ak rs),some (.int n),none,none,none,none,none,none]=.nx [some (ar es),some (ak rs),some (.int n),some (.int #[8]),none,none,none,none,none]:=by rw[jX,if_pos (by simp)];simp only[yN,aM (show 1∉[5] by decide),aM (show 2∉[5] by decide),aq,aw,Rs.ag,ak,g,Rs.ai,aB];rfl
   have s2:aN [5] 4 (au aR #[21]) [some (ar es),some (ak rs),some (.int n),some (.int #[8]),none,none,none,none,none]=.nx [some (ar es),some (ak rs),some (.int n),some (.int #[8]),some (av es rs),none,none,none,none]:=by rw[jX,if_pos (by simp)];simp only[bK,aA,aJ,aM (show 0∉[5] by decide),aM (show 1∉[5] by decide),aq,aw,Rs.ag,l,aB];rfl
   have p:eu [5] 5 ah [some (ar es),some (ak rs),some (.int n),some (.int #[8]),some (av es rs),none,none,none,none]=.nx [some (ar es),some (ak rs),some (.int n),some (.int #[8]),some (av es rs),some (.list []),none,none,none]:=rfl;show bo (jL cs aR [some (ar es),some (ak rs),some (.int n),none,none,none,none,none,none])=_;simp only[jL];rw[aT,o];simp only;rw[aT,s2];simp only;rw[aT,p];simp only;rw[aT,jj,src,aB,e];rfl
  ·exact absurd rfl a
theorem Dr(C:Addr)(m k t l:Int):bc C "times" (hdD C m k t l)=some (.int l):=by
 have n1:¬ (("number":Str)="times"):=by decide +kernel
 have n2:¬ (("part":Str)="times"):=by decide +kernel
 have a:¬ (("tool":Str)="times"):=by decide +kernel
 simp only[hdD,xG,M5,Nw,bc,and_self,if_true,iA,n1,n2,a,if_false]
theorem t9(C:Addr)(es:List Er)(rs:List Int)(pl:Int)(b:Nat):∀(ms:List Int),(∀m∈ms,(bZ es m).parts.length<=b)->(jU C es rs pl ms).length<=b*ms.length
 |[],_=>by simp[jU]
 |m::r,h=>by
  have h1:=h m M7;have h2:=uG C es rs pl m (bZ es m).parts 0;have h3:=t9 C es rs pl b r λx a=>h x (M3 _ a)
  unfold jU;rw[MN,MW,Nat.mul_succ];omega
structure Top(f:Int->Int)(T:Int):Prop where
 fix:f T=T
 one:1<=T
 low:∀s,1<=s->s<T->¬ f s<=s
section
variable {E Rr N h:PyData}{f:Int->Int}{most:Int}
end
theorem zD{tops:PyData}{len:Str}{js:List Jb}{out:List PyData}:∀(n k:Nat),uo tops len n (stJ tops len js k)=some out->∃T,k<=T/\T<k+n/\out=(stJ tops len js T).2/\(stJ tops len js T).1.all Jb.done=true
 |0,k,h=>by cases h
 |n+1,k,h=>by
  unfold uo at h;split at h
  ·rename_i hd;cases h;exact⟨k,My _,by omega,rfl,hd⟩
  ·obtain⟨T,h1,h2,h3,a⟩:=zD n (k+1) h;exact⟨T,by omega,by omega,h3,a⟩
section
variable {len:Str}
end
section
variable {q:Nat->Nat->Jb}{who:Nat->Option Nat}
theorem Trc.was(R:Trc tops n q who)(hm:m<n)(a:(q m 0).spent=0):∀{c:Nat},(q m c).spent≠0->∃u,u<c/\who u=some m/\(q m u).job=(q m c).job/\(q m u).part=(q m c).part
 |0,h=>(h a).elim
 |c+1,h=>by
  by_cases w:who c=some m
  ·have nx:=R.on w;rw[nx]at h ⊢;have:(q m c).next.job=(q m c).job/\(q m c).next.part=(q m c).part:=by
    unfold Jb.next Jb.step1 at h ⊢;split at h
    ·exfalso;apply h;unfold Jb.step2;split <;> rfl
    ·rename_i z;rw[if_neg z];unfold Jb.step2;rw[if_neg (by have:=(R.ok c hm).pt;simp only;omega)];exact⟨rfl,rfl⟩
   exact⟨c,by omega,w,this.1.symm,this.2.symm⟩
  ·have nx:=R.off hm w;rw[nx]at h ⊢;obtain⟨u,h1,h2⟩:=R.was hm a h;exact⟨u,by omega,h2⟩
theorem Trc.job_at(R:Trc tops n q who){T:Nat}(f:∀m,m<n->(q m 0).tot=0)(g:∀m,m<n->(q m T).job=(q m T).row.length){a:Nat}(ha:a<n){k:Nat}(hk:k<(q a 0).row.length):∃i,i<T/\who i=some a/\(q a i).job=k:=by
 have wp:=R.wpos ha 0;have h1:((k:Int)+1)*(q a 0).work<=(q a T).tot:=by have e:(q a T).tot=((q a T).job:Int)*(q a T).work+(q a T).cur:=rfl;have cb:=oQ (R.ok T ha);rw[R.wk ha T,g a ha,(R.stay ha T).2.1]at e;have:=Nu (a:=(k:Int)+1) (b:=((q a 0).row.length:Int)) (c:=(q a 0).work) (by omega) (by omega);omega
 have hkn:0<=(k:Int)*(q a 0).work:=Int.mul_nonneg (by omega) (by omega);have h2:(k:Int)*(q a 0).work+1<=(q a T).tot:=by rw[Int.add_mul]at h1;omega
 obtain⟨i,_,hi,w,e⟩:=R.passed ha (B:=0) (v:=(k:Int)*(q a 0).work+1) T (by rw[f a ha];omega) (by rw[Nl];exact h2);rw[Nl]at hi;refine⟨i,hi,w,?_⟩;have:=R.job_tot ha i;rw[e,show (k:Int)*(q a 0).work+1-1=(k:Int)*(q a 0).work by omega,Int.mul_ediv_cancel _ (by omega)]at this;omega
theorem Trc.there_till(R:Trc tops n q who){a:Nat}(ha:a<n){k:Nat}(e:k<(q a 0).row.length){j:Nat}(hj:(q a j).job=k){t:Nat}(h1:(q a 0).row[k]<=(t:Int))(h2:t<=j):(q a t).there (t:Int)=true:=by refine R.left ha ?_;have h3:=ym (R.ok j ha) (k:=k+1) (by omega);rw[R.wk ha j]at h3;have h4:=R.mono ha h2;have h5:k+1<=i6 (q a 0).row (t:Int):=uN e (R.srt 0 ha) h1;have:=Nu (a:=((k+1:Nat):Int)) (b:=(i6 (q a 0).row (t:Int):Int)) (c:=(q a 0).work) (by omega) (by have:=R.wpos ha 0;omega);omega
end
theorem mz(l:List (Int×Int))(k v a:Int):cz (nN l k v) a=if a=k then some v else cz l a:=by
 unfold nN;by_cases ha:(l.any λp=>decide (p.1=k))=true
 ·rw[if_pos ha];unfold cz
  induction l with
  |nil=>cases ha
  |cons p r ih =>
   rw[M5];by_cases z:p.1=k
   ·rw[if_pos z,Ng,Ng];by_cases y:a=k
    ·rw[if_pos y];have:decide (p.1=a)=true:=decide_eq_true (by rw[z,y]);simp only[this];rfl
    ·rw[if_neg y];have:decide (p.1=a)=false:=decide_eq_false λq=>y (q.symm.trans z)
     simp only[this];cases b:(r.any λp=>decide (p.1=k)) with
     |true=>rw[ih b,if_neg y]
     |false =>
      have:r.map (λp=>if p.1=k then (p.1,v) else p)=r:=by
       have h:∀q∈r,(λp:Int×Int=>if p.1=k then (p.1,v) else p) q=id q:=λq c=>if_neg λe=>by have:=List.any_eq_false.mp b q c;exact this (decide_eq_true e)
       rw[MY h,NA]
      rw[this]
   ·rw[if_neg z,Ng,Ng];have b:(r.any λp=>decide (p.1=k))=true:=by rw[NS,decide_eq_false z,Bool.false_or]at ha;exact ha
    by_cases y:p.1=a
    ·simp only[decide_eq_true y];rw[if_neg λq=>z (y.trans q)]
    ·simp only[decide_eq_false y];exact ih b
 ·rw[if_neg ha];unfold cz;rw[List.find?_append];by_cases y:a=k
  ·rw[if_pos y];have:l.find? (λp=>decide (p.1=a))=none:=Oy.mpr λp f q=>ha (NG.mpr ⟨p,f,by rw[<-y];exact q⟩)
   rw[this,y];show ((([(k,v)]:List (Int×Int)).find? λp=>decide (p.1=k))).map (·.2)=_;rw[Ng];simp
  ·rw[if_neg y];have:([(k,v)]:List (Int×Int)).find? (λp=>decide (p.1=a))=none:=by
    rw[Ng];have:decide (k=a)=false:=decide_eq_false λq=>y q.symm
    simp only[this];rfl
   rw[this,Option.or_none]
def eff(l:List (Int×Int))(j:Jb):Int:=(cz l j.num).getD j.rank
theorem nB{t:Option Int}{o:Jb}(h:iB js t=some o):o∈js/\∃T,t=some T/\o.held=some T:=by
 unfold iB at h;cases t with
 |none=>cases h
 |some T =>have h:js.find? (λj=>j.held==some T)=some o:=h;have a:=List.find?_some h;exact⟨List.mem_of_find?_eq_some h,T,rfl,eq_of_beq a⟩
section
open Classical
theorem vY(nd:(js.map (·.num)).Nodup)(l:List (Int×Int))(k:Jb){x:Jb}(a:x∈js):eff (iE js l k) x=if iB js k.wanted=some x then (if eff l x<k.rank then eff l x else k.rank) else eff l x:=by
 unfold iE;cases q:iB js k.wanted with
 |none=>rw[if_neg (λz=>by cases z)]
 |some o =>
  obtain⟨b,_⟩:=nB q;by_cases e:o.num=x.num
  ·have:o=x:=kT (f:=λy:Jb=>y.num) nd o b x a e;subst this;rw[if_pos rfl];unfold eff;rw[mz,if_pos rfl];rfl
  ·rw[if_neg (λz=>e (by cases z;rfl))];unfold eff;rw[mz,if_neg (λz=>e z.symm)]
theorem yT(nd:(js.map (·.num)).Nodup){x:Jb}(b:x∈js):∀(ks:List Jb)(l:List (Int×Int)),eff (ks.foldl (iE js) l) x<=eff l x/\∀j∈ks,iB js j.wanted=some x->eff (ks.foldl (iE js) l) x<=j.rank
 |[],l=>⟨NN _,λj h=>by cases h⟩
 |k::r,l=>by
  obtain⟨h1,h2⟩:=yT nd b r (iE js l k);have e:=vY nd l k b;rw[Nz];refine⟨?_,λj a c=>?_⟩
  ·rw[e]at h1;split at h1
   ·split at h1 <;> omega
   ·exact h1
  ·rcases M8.mp a with rfl|a
   ·rw[e,if_pos c]at h1;split at h1 <;> omega
   ·exact h2 j a c
theorem CV(nd:(js.map (·.num)).Nodup){x:Jb}(a:x∈js):∀(ks:List Jb)(l:List (Int×Int)),eff (ks.foldl (iE js) l) x=eff l x\/∃j∈ks,iB js j.wanted=some x/\eff (ks.foldl (iE js) l) x=j.rank
 |[],l=>.inl rfl
 |k::r,l=>by
  have e:=vY nd l k a;rw[Nz];rcases CV nd a r (iE js l k) with h|⟨j,b,h1,h2⟩
  ·rw[h,e];split
   ·rename_i c;split
    ·exact .inl rfl
    ·exact .inr ⟨k,M7,c,rfl⟩
   ·exact .inl rfl
  ·exact .inr ⟨j,M3 _ b,h1,h2⟩
theorem G1(nd:(js.map (·.num)).Nodup){p:Jb}(f:p∈js)(h1:p.rank<=r)(h2:r<(cu tops "asked" js).rank):∃T,(cu tops "asked" js).held=some T/\∃w∈js,w.wanted=some T/\w.rank<=r:=by
 have m:cu tops "asked" js=i7 (Br (ip js)) (js.filter (fq js)):=by unfold cu;rw[if_neg #[2],if_pos #[2]]
 have g:cu tops "asked" js∈js:=fT (O0 f);have least:∀x∈js,fq js x=true->eff (ip js) (cu tops "asked" js)<=eff (ip js) x:=λx n c=>by
  have hm:x∈js.filter (fq js):=N3.mpr ⟨n,c⟩;have:=sF (key:=Br (ip js)) (O0 hm) hm;rw[<-m]at this;have e1:∀a b:Int,ltD (.int a) (.int b)=false->b<=a:=λa b h=>by
   have h:HT.lexLt [a] [b]=false:=h;unfold HT.lexLt at h;by_cases z:a=b
   ·omega
   ·rw[if_neg z]at h;have:=of_decide_eq_false h;omega
  exact e1 _ _ this
 have i:eff (ip js) (cu tops "asked" js)<=r:=by
  cases c:fq js p with
  |true =>have:=least p f c;have:=(yT nd f js []).1;have s:eff [] p=p.rank:=rfl;unfold ip at *;omega
  |false =>
   unfold fq at c;cases q:iB js p.wanted with
   |none=>rw[q]at c;cases c
   |some o =>
    obtain⟨l,T,_,e⟩:=nB q;have hw:o.wanted=none:=by
     unfold Jb.held at e;unfold Jb.wanted;by_cases z:o.spent=0
     ·rw[if_pos z]at e;cases e
     ·exact if_neg z
    have:=least o l (by unfold fq;rw[hw];rfl);have:=(yT nd l js []).2 p f q;unfold ip at *;omega
 rcases CV nd g js [] with h|⟨j,t,c,hv⟩
 ·exfalso;have s:eff [] (cu tops "asked" js)=(cu tops "asked" js).rank:=rfl;unfold ip at i;omega
 ·obtain⟨_,T,hw,e⟩:=nB c;unfold ip at i;exact⟨T,e,j,t,hw,by omega⟩
end
def BR(tops:PyData)(n:Nat)(q:Nat->Nat->Jb)(who:Nat->Option Nat):Prop:=∀{i m p:Nat}{r:Int},who i=some m->p<n->(q p i).there (i:Int)=true->(q p i).rank<=r->r<(q m i).rank->∃T,(q m i).held=some T/\k6 tops T<=r
def JV(n:Nat)(q:Nat->Nat->Jb):Prop:=∀{i a b:Nat}{T:Int},a<n->b<n->(q a i).held=some T->(q b i).held=some T->a=b
theorem Eh(c:IvJ tops 0 js)(hv:HvJ tops js)(j:Sx js):BR tops js.length (qJ tops "asked" js) (rA tops "asked" js):=λ{i m p r} h hp t h1 h2=>by
 obtain⟨hm,z,e⟩:=i4 c hv j h;have g:p<(stJ tops "asked" js i).1.length:=by rw[nh c hv];exact hp
 have f:qJ tops "asked" js p i∈thA tops "asked" js i:=N3.mpr ⟨by rw[ia g];exact Na g,by rw[fG];exact t⟩;obtain⟨i1,i2,_,_⟩:=oz (len:="asked") c hv i;have nd:((thA tops "asked" js i).map (·.num)).Nodup:=List.Nodup.sublist (List.Sublist.map _ List.filter_sublist) i1.ok.nd;rw[e]at h2 ⊢;obtain⟨T,l,w,hw,a,hwr⟩:=G1 (tops:=tops) nd f h1 h2;refine⟨T,l,?_⟩;have b:=(nG hw).1;have n:w.tool=some T:=by
  unfold Jb.wanted at a;split at a
  ·exact a
  ·cases a
 obtain⟨q,o,e2⟩:=mV (i1.ok.ok _ b) n;have:=i2.top _ b q o T e2;omega
theorem JA{len:Str}(f:IvJ tops 0 js)(hv:HvJ tops js)(h:Sx js):JV js.length (qJ tops len js):=λ{i a b T} ha hb h1 h2=>by
 obtain⟨i1,i2,i3,_⟩:=oz (len:=len) f hv i;have g:=CP (len:=len) f hv h;have c:a<(stJ tops len js i).1.length:=by rw[nh f hv];exact ha
 have e:b<(stJ tops len js i).1.length:=by rw[nh f hv];exact hb
 rw[ia c]at h1;rw[ia e]at h2;have:=i2.one _ (Na c) _ (Na e) T h1 h2;rw[<-ia c,<-ia e,g.num i ha,g.num i hb]at this;omega
section
variable {q:Nat->Nat->Jb}{who:Nat->Option Nat}
theorem Trc.begunB(R:Trc tops n q who)(b:BR tops n q who){E:Nat}(hw:∀t,B<=t->t<E->∃p,p<n/\(q p t).there (t:Int)=true/\(q p t).rank<=r)(hm:m<n)(c:r<(q m 0).rank):∀{t:Nat},B<=t->t<E->(q m t).spent≠0->∀u,B<=u->u<=t->(q m u).job=(q m t).job/\(q m u).part=(q m t).part/\(q m u).spent≠0/\(q m u).spent<=(q m t).spent
 |0,h1,h2,hs,u,h3,h4=>by
  have:u=0:=by omega
  subst this;exact⟨rfl,rfl,hs,My _⟩
 |t+1,h1,h2,hs,u,h3,h4=>by
  by_cases e:u=t+1
  ·subst e;exact⟨rfl,rfl,hs,My _⟩
  ·by_cases w:who t=some m
   ·obtain⟨p,h,tp,i⟩:=hw t (by omega) (by omega);obtain⟨T,j,_⟩:=b w h tp i (by rw[(R.stay hm t).2.2];exact c);have f:=(iX j).2;have g:=R.begunB b hw hm c (t:=t) (by omega) (by omega) f u h3 (by omega);have nx:=R.on w;have a:(q m (t+1)).job=(q m t).job/\(q m (t+1)).part=(q m t).part/\(q m (t+1)).spent=(q m t).spent+1:=by
     rw[nx]at hs ⊢;unfold Jb.next Jb.step1 at hs ⊢;split at hs
     ·exfalso;apply hs;unfold Jb.step2;split <;> rfl
     ·rename_i z;rw[if_neg z];unfold Jb.step2;rw[if_neg (by have:=(R.ok t hm).pt;simp only;omega)];exact⟨rfl,rfl,rfl⟩
    exact⟨g.1.trans a.1.symm,g.2.1.trans a.2.1.symm,g.2.2.1,by omega⟩
   ·have nx:=R.off hm w;rw[nx]at hs ⊢;exact R.begunB b hw hm c (t:=t) (by omega) (by omega) hs u h3 (by omega)
theorem Trc.low_oneB(R:Trc tops n q who)(a:BR tops n q who)(hm:m<n)(b:r<(q m 0).rank):∀(d:Nat),(∀t,B<=t->t<B+d->∃p,p<n/\(q p t).there (t:Int)=true/\(q p t).rank<=r) ->
  (q m (B+d)).tot=(q m B).tot\/∃p∈(q m 0).parts,∃T,p.2=some T/\k6 tops T<=r/\(q m (B+d)).tot-(q m B).tot<=p.1-1/\(q m B).held=some T
 |0,_=>.inl rfl
 |d+1,hw=>by
  by_cases w:who (B+d)=some m
  ·right;obtain⟨p,h,tp,j⟩:=hw (B+d) (by omega) (by omega);obtain⟨T,l,o⟩:=a w h tp j (by rw[(R.stay hm _).2.2];exact b);obtain⟨e1,s⟩:=iX l;obtain⟨u,g,v,j4⟩:=R.begunB a (E:=B+d+1) (λt h1 h2=>hw t h1 (by omega)) hm b (t:=B+d) (by omega) (by omega) s B (My _) (by omega);have ok:=R.ok (B+d) hm;have pt:=ok.pt;have c:(q m (B+d)).parts[(q m (B+d)).part]'pt∈(q m 0).parts:=by rw[<- (R.stay hm (B+d)).1];exact Na pt
   have hl:(q m (B+d)).len=((q m (B+d)).parts[(q m (B+d)).part]'pt).1:=by unfold Jb.len;rw[M1 pt];rfl
   have f:(q m (B+d)).tool=((q m (B+d)).parts[(q m (B+d)).part]'pt).2:=by unfold Jb.tool;rw[M1 pt];rfl
   refine⟨_,c,T,by rw[<-f];exact e1,o,?_,?_⟩
   ·have h1:=R.tot1 (i:=B+d) hm;rw[if_pos w]at h1;have h2:(q m (B+d)).tot-(q m B).tot=((q m (B+d)).spent:Int)-(q m B).spent:=by unfold Jb.tot Jb.cur;rw[R.wk hm (B+d),R.wk hm B,(R.stay hm (B+d)).1,(R.stay hm B).1,u,g];omega
    have:=ok.sp;show (q m (B+d+1)).tot-(q m B).tot<=_;omega
   ·unfold Jb.held;rw[if_neg v];have:(q m B).tool=(q m (B+d)).tool:=by unfold Jb.tool;rw[g,(R.stay hm B).1,(R.stay hm (B+d)).1]
    rw[this];exact e1
  ·have h1:=R.tot1 (i:=B+d) hm;rw[if_neg w]at h1;have x:=R.low_oneB a hm b d λt h1 h2=>hw t h1 (by omega)
   show (q m (B+d+1)).tot=_\/_;rw[h1,OH];rcases x with e|⟨p,a1,T,a2,y,z,A⟩
   ·exact .inl e
   ·exact .inr ⟨p,a1,T,a2,y,by show (q m (B+d+1)).tot-_<=_;rw[h1,OH];exact z,A⟩
theorem Trc.onceB(R:Trc tops n q who)(b:BR tops n q who)(g:∀m,m<n->(q m 0).spent=0){d:Nat}(hw:∀t,B<=t->t<B+d->∃p,p<n/\(q p t).there (t:Int)=true/\(q p t).rank<=r){t:Nat}(h1:B<=t)(h2:t<B+d)(w:who t=some m)(c:r<(q m 0).rank) :
  ∃T u,m<n/\(q m t).job=(q m B).job/\(q m t).part=(q m B).part/\(q m B).held=some T/\(q m t).tool=some T/\u<B/\who u=some m/\(q m u).job=(q m B).job/\(q m u).part=(q m B).part/\(q m u).tool=some T:=by
 have hm:=R.lt w;obtain⟨p,h,tp,i⟩:=hw t h1 h2;obtain⟨T,j,htop⟩:=b w h tp i (by rw[(R.stay hm t).2.2];exact c);obtain⟨e1,l⟩:=iX j;obtain⟨o,a,e,j4⟩:=R.begunB b hw hm c h1 h2 l B (My _) h1;have tl:∀v,(q m v).part=(q m t).part->(q m v).tool=some T:=λv hv=>by rw[<-e1];unfold Jb.tool;rw[hv,(R.stay hm v).1,(R.stay hm t).1]
 obtain⟨u,u1,s,x,f⟩:=R.was hm (g m hm) e;refine⟨T,u,hm,o.symm,a.symm,?_,e1,u1,s,x,f,tl u (f.trans a)⟩;unfold Jb.held;rw[if_neg e];exact tl B a
theorem Trc.cntL(R:Trc tops n q who){ls:List Int}(nd:ls.Nodup)(j:∀x∈ls,0<=x/\x<n)(b:∀m,m<n->r<(q m 0).rank->(m:Int)∈ls){low:Nat->Bool}(c:∀t,low t=true->∃m,who t=some m/\r<(q m 0).rank):∀d,(((List.range' B d).filter low).length:Int)<=(ls.map λx=>(q x.toNat (B+d)).tot-(q x.toNat B).tot).sum
 |0=>by rw[ig (λx:Int=>(q x.toNat (B+0)).tot-(q x.toNat B).tot) λx _=>by show (q x.toNat B).tot-(q x.toNat B).tot=0;omega];exact NN 0
 |d+1=>by
  have o:(((List.range' B d).filter low).length:Int)<=(ls.map λx=>(q x.toNat (B+d)).tot-(q x.toNat B).tot).sum:=R.cntL nd j b c d;rw[List.range'_1_concat,List.filter_append,MN];cases l:low (B+d) with
  |false =>rw[List.filter_cons_of_neg (by rw[l];exact MQ),List.filter_nil,NI,Nat.add_zero];refine Ov o (lT λx h=>?_);have:=R.mono (m:=x.toNat) (by have:=j x h;omega) (show B+d<=B+(d+1) by omega);omega
  |true =>
   rw[List.filter_cons_of_pos l,List.filter_nil,Nj];obtain⟨m,hm,p⟩:=c _ l;have hit:=zK (m:=m) nd (λx h=>(j x h).1) (b m (R.lt hm) p);have add:∀(f g:Int->Int)(l:List Int),(l.map λx=>f x+g x).sum=(l.map f).sum+(l.map g).sum:=λf g l=>by
    induction l with
    |nil=>rfl
    |cons a r o=>simp only[M5,Nf,o];omega
   have e:(ls.map λx=>(q x.toNat (B+(d+1))).tot-(q x.toNat B).tot)=ls.map λx=>((q x.toNat (B+d)).tot-(q x.toNat B).tot)+(if m=x.toNat then (1:Int) else 0):=by
    refine MY λx h=>?_
    have h1:=R.tot1 (i:=B+d) (m:=x.toNat) (by have:=j x h;omega);show (q x.toNat (B+d+1)).tot-_=_;rw[h1,hm];by_cases e:m=x.toNat
    ·rw[if_pos (by rw[e]),if_pos e];omega
    ·rw[if_neg (by intro z;cases z;exact e rfl),if_neg e];omega
   rw[e,add,hit];omega
theorem Ah{f:Int->Int}{g:Int->Int}{τ:Int->Option Int}{ls:List Int}(nd:ls.Nodup)(e:∀x∈ls,0<=f x)(i:∀t,0<=g t)(h:∀x∈ls,∀t,τ x=some t->f x<=g t)(inj:∀x∈ls,∀y∈ls,∀t,τ x=some t->τ y=some t->x=y):∀ts:List Int,(ls.map λx=>match τ x with|some t=>(if t∈ts then f x else 0)|none=>0).sum<=(ts.map g).sum
 |[]=>by
  rw[ig (λx:Int=>match τ x with|some t=>(if t∈([]:List Int) then f x else 0)|none=>0) λx _=>by
   show (match τ x with|some t=>(if t∈([]:List Int) then f x else 0)|none=>0)=0;cases τ x with
   |none=>rfl
   |some t=>simp]
  exact NN 0
 |t::r=>by
  have j:=Ah nd e i h inj r;rw[M5,Nf];have add:∀(f g:Int->Int)(l:List Int),(l.map λx=>f x+g x).sum=(l.map f).sum+(l.map g).sum:=λf g l=>by
   induction l with
   |nil=>rfl
   |cons a r j=>simp only[M5,Nf,j];omega
  have h1:(ls.map λx=>if τ x=some t then f x else 0).sum<=g t:=Ar (P:=λx=>τ x=some t) (i t) nd (λx c=>by
   by_cases z:τ x=some t
   ·right;exact⟨z,by show (if τ x=some t then f x else 0)<=g t;rw[if_pos z];exact h x c t z⟩
   ·left;exact if_neg z) λx c y m a b=>inj x c y m t a b
  have h2:(ls.map λx=>match τ x with|some u=>(if u∈t::r then f x else 0)|none=>0).sum<=(ls.map λx=>(if τ x=some t then f x else 0)+(match τ x with|some u=>(if u∈r then f x else 0)|none=>0)).sum:=lT λx c=>by
   have:=e x c;cases q:τ x with
   |none=>simp
   |some u =>
    simp only[M8,Option.some.injEq];by_cases z:u=t
    ·subst z;rw[if_pos (.inl rfl),if_pos rfl];split <;> omega
    ·rw[if_neg z];by_cases y:u∈r
     ·rw[if_pos (.inr y),if_pos y];omega
     ·rw[if_neg (λw=>w.elim z y),if_neg y];omega
  rw[add]at h2;omega
end
end RS
set_option maxHeartbeats 4000000
namespace L2
open PySem PySem.Spec PyProof.Rows
theorem ug(d:Addr):Meets (Builtin.«dict.values» ⟨[.ref d],[]⟩) (λ_ R s=>(∃o,s.heap.get? d=some o/\o.ExactDict)/\(d==sysModules)=false/\R (.ok (.ret (.ref s.heap.objs.size))) { s with heap:=s.heap.push { cls:=.type "dict_values",data:=.fields #[.ref d] } }) :=
 .of_wp λprog w A R s h=>by
  obtain⟨b,g,c,tk,os⟩:=s;obtain⟨⟨o,e,f⟩,hd,h⟩:=h;obtain⟨hc,hdi,hs⟩:=f;have a:(Shared.heap ⟨b,g,c,tk,os⟩).get? d=some o:=e
  wp_walk using wpAny_loadPart a
  exact⟨_,rfl,h⟩
theorem oK:∀(l:List Int)(n:Nat),n<=l.length->preSum (λi=>l.getD i 0) n=(l.take n).sum
 |l,0,_=>by rw[List.take_zero];rfl
 |l,n+1,h=>by rw[preSum.eq_2,oK l n (by omega),List.take_succ_eq_append_getElem (by omega),List.sum_append];rw[show l.getD n 0=l[n] by rw[MT,M1 (by omega)];rfl];simp
section
variable {E:XK}{o:Expr}{go:Ds->Rs PyData}{apos:Pos}{td:TE}
structure M0(X:Cx)(o:Expr)(m:Str)(apos cpos:Pos):Prop where
 base:attributeBase o m X.env (eval o X.env)=eval o X.env
 few:((backTo cpos (starEach [] X.env)).all (λx=>!x.1)&&(backToKw cpos (keywordEach [] X.env)).all (λx=>x.1.isSome)
 &&decide (([]:List Expr).length+([]:List Keyword).length+(if ([]:List Keyword).isEmpty then 0 else 1)<30))=true
 line:(apos.endLine==cpos.line)=true
 trees:backTo cpos (starEach [] X.env)=[]
def K9(td:TE):TE:=λσ H Q=>td σ H λx H1=>∃a l,x=.ref a/\H1 a=some (dkO l)/\Q (.int (l.map (·.2)).sum) H1
theorem GI(hc:X.calm=true)(T:Gl X "sum")(hm:X.mg "sum"=none)(U:PE X o td)(m:M0 X o "values" apos cpos)(K:starEach [.Call (.Attribute o "values" apos) [] [] cpos] X.env=[(false,eval (.Call (.Attribute o "values" apos) [] [] cpos) X.env)]) :
  PE X (.Call (.Name "sum" p) [.Call (.Attribute o "values" apos) [] [] cpos] [] pos) (K9 td):=by
 intro pins s σ H Q I h;refine wpAny_Call_Name_kw (fS I T hm Ko (PyProof.Rows.callWith_builtin1 ?_ K rfl) #[2] #[2]);rw[K];show wpAny _ _ (spliced ((false,eval (.Call (.Attribute o "values" apos) [] [] cpos) X.env)::backTo pos [])) _ _ s;refine Calls.spliced_cons (wpAny_Call_method m.base m.few m.line F.plainAttrs_dict F.slot_dict_values F.type_dict_values (thn (U pins s σ H _ I h) λu f y=>?_));obtain⟨x,H1,j,W,a,l,ex,ha,Y⟩:=y;subst ex;obtain rfl:u=Value.ref a:=W;obtain⟨L,Z,_⟩:=EF j (.inl ⟨_,.inl ha⟩);refine⟨L,Z,?_⟩;rw[m.trees];refine Calls.callWith_builtin rfl (PySem.evalArgs_none ?_);obtain⟨z,hd,vs,rel,C,es,n,g1,g2,M,N,O,P⟩:=zL j.hok (.inl ha);refine call_meets F.slot_dict_values L F.entry_dict_values (F.args_dict_values_1 _) (ug a) ⟨⟨C,g1,g2⟩,hd,?_⟩;refine Calls.spliced_nil ?_;have R:a<f.heap.objs.size:=MS g1;have gv:(f.heap.push { cls:=.type "dict_values",data:=.fields #[.ref a] }).IsValuesView f.heap.objs.size a:=⟨_,MU _ rfl,rfl,rfl⟩
 have gd:Heap.DictAt (dj X.prog X.w) (f.heap.push { cls:=.type "dict_values",data:=.fields #[.ref a] }) a vs n:=⟨C,es,M4 _ g1,g2,M,N,O,P⟩
 have sz:(f.heap.push { cls:=.type "dict_values",data:=.fields #[.ref a] }).objs.size=f.heap.objs.size+1:=Heap.size_push ..;have hh:X.A.in1.handled=none:=j.ok.hd hc;have D:∀(i:Nat)(v:Value),(∃k,vs[i]?=some (k,v))->∃t,v=Value.int ((l.map (·.2)).getD i 0) t:=λi v E=>by
  obtain⟨k,G⟩:=E;have aux:∀{A:List (Key×V)}{B:List (Key×Value)},KV A B->∀(i:Nat)(b:Key×Value),B[i]?=some b->∃c,A[i]?=some c/\RelV c.2 b.2:=by
   intro A B r
   induction r with
   |nil=>intro i b h;simp at h
   |cons h1 _ ih =>
    intro i b h;cases i with
    |zero=>cases h;exact⟨_,rfl,h1.2⟩
    |succ i=>exact ih i b h
  obtain⟨c,g,rc⟩:=aux rel i _ G;rw[MP]at g;cases q:l[i]? with
  |none=>rw[q]at g;cases g
  |some p0 =>rw[q]at g;cases g;obtain⟨t,e⟩:=rc;refine⟨t,?_⟩;rw[MT,MP,q];exact e
 have hlen:vs.length=l.length:=by have:=rel.length;rw[M6]at this;omega
 refine call_sum_walkG (wpAny_pyIter_values gv gd ⟨_,[(f.heap.push { cls:=.type "dict_values",data:=.fields #[.ref a] }).objs.size,a],[(f.heap.push { cls:=.type "dict_values",data:=.fields #[.ref a] }).objs.size],vs.length,_,_,λi=>(l.map (·.2)).getD i 0,rfl,Walks.dictValues hh (f.heap.push { cls:=.type "dict_values",data:=.fields #[.ref a] }).objs.size a (by rw[sz];exact MV (Np R)) vs n,⟨⟨_,MU _ rfl,rfl,rfl⟩,⟨C,es,M4 _ (M4 _ g1),g2,M,N,O,P⟩⟩,λb S=>?_,D,λh' tk t' G=>?_⟩)
 ·simp only[M8,N1,or_false]at S;have e0:((f.heap.push { cls:=.type "dict_values",data:=.fields #[.ref a] }).push { cls:=.type "dict_valueiterator",data:=.fields #[.ref a,.int 0 0,.int (vs.length:Int) 0,.int (n:Int) 0] }).objs.size=f.heap.objs.size+2:=by rw[Heap.size_push,sz]
  show b<((f.heap.push { cls:=.type "dict_values",data:=.fields #[.ref a] }).push { cls:=.type "dict_valueiterator",data:=.fields #[.ref a,.int 0 0,.int (vs.length:Int) 0,.int (n:Int) 0] }).objs.size;rw[e0];rcases S with z|z
  ·rw[z,sz];exact NO _
  ·rw[z];exact Np (Np R)
 ·rw[hlen,oK _ _ (by rw[M6];omega),List.take_of_length_le (by rw[M6];omega)];refine⟨.int _,H1,j.kept λb J e=>G b J (λz=>?_) (M4 _ (M4 _ e)),⟨_,rfl⟩,Y⟩;simp only[MR]at z;rw[z,sz]at e;exact absurd (MS e) (Nat.not_lt.mpr (Oc _))
def xi(go:Ds->Rs PyData):Ds->Rs PyData:=λδ=>(go δ).bind λd=>match mK d with
 |some l=>.ok (.int (l.map (·.2)).sum)
 |none=>.no
theorem F7(hc:X.calm=true)(hm:X.mg "sum"=none)(f:PD X E o go)(g:Gl X "sum")(m:M0 X o "values" apos cpos)(h:starEach [.Call (.Attribute o "values" apos) [] [] cpos] X.env=[(false,eval (.Call (.Attribute o "values" apos) [] [] cpos) X.env)]) :
  PD X E (.Call (.Name "sum" p) [.Call (.Attribute o "values" apos) [] [] cpos] [] pos) (xi go):=(GI hc g hm f m h).imp λσ H Q c=>by
 obtain⟨A,δ,R,b⟩:=c;unfold xi at b;refine eD.run R (λd i v H1 j R1 h1=>?_) (λC e H' s'=>by rw[e]at b;exact b H' s') (λe=>by rw[e]at b;exact b);simp only[i,Rs.ag]at b;split at b
 ·rename_i l hl;rw[qW hl]at h1;obtain⟨a,rfl,ha⟩:=h1.ofDic;exact⟨a,l,rfl,az _ _ ha,b _ H1 j bN⟩
 ·exact b.elim
end
end L2
namespace RS
open PySem L2
def cY(cs:Cs):Ds->Sr :=
 (ay (oF 1)
  (ay (cA [1] (bh (ae 0)) (cn [2,3]) (lA 1 (ae 2) (gF gr (af (ae 3) (af (iI (ae 1) (ae 2) #[1]) ah)))))
  (bf (xi (ae 1)))))
def dY(cs:Cs)(a9 cF:Gf):Ds->Sr :=
 (ay (aN [] 3 (au cF (af (ae 0) (af (ae 1) #[28]))))
  (ay (aN [] 4 (au a9 (af (gL (aX 6 (bh (ae 3)) bJ (dS (af (g1 (bc cs.Holding "number") (ae 6)) (af (g1 (bc cs.Holding "times") (ae 6)) ah))) aG)) ah)))
  (ay (aN [] 5 (au a9 (af (gL (aX 6 (bh (ae 3)) bJ (dS (af (g1 (bc cs.Holding "tool") (ae 6)) (af (g1 (bc cs.Holding "times") (ae 6)) ah))) aG)) ah)))
  (bf (gF iW (af (ae 4) (af (ae 5) ah)))))))
def dz(cs:Cs)(bp:Gf):Ds->Sr :=
 (ay (aN [7] 3 (nK (ae 1) (ae 2)))
  (ay (aN [7] 4 (au bp #[21]))
  (ay (aN [7] 5 #[1])
  (ay (cA [7] (bh #[29]) (aU 6) (ay (eu [7] 7 #[27])
  (kl 5 (g2 aW (ae 5) (gF oG (af (g2 aW (mL (af #[1] ah)) (ae 7)) ah))))))
  (ay (aN [7] 8 #[1])
  (ay (cA [7] (fh (af (gC (.int 4)) ah)) (aU 9) (sIf (iN (gT (g1 eE (g2 dIx (ae 4) (ae 9)))) (gT (g2 dLe (g2 dIx (ae 4) (ae 9)) (ae 3)))) (ay (eu [7] 7 (af #[1] ah))
  (ay (cA [7] (bh #[29]) (aU 6) (F9 [7] 7 (gL #[18])))
  (kl 8 (g2 aW (ae 8) (gF oG (af (ae 7) ah)))))) aV))
  (bf (gF iW (af (ae 5) (af (ae 8) ah))))))))))
end RS
set_option maxHeartbeats 1000000
namespace RS
open PySem L2
variable {ps:List (Int×Int)}{x:List (Int×Int×Int)}{a:List PyData}
def mxf(a b:Int):Int:=if b>a then b else a
def mx0(l:List Int):Int:=l.foldl mxf 0
theorem tZ(l:List Int):0<=mx0 l/\(∀a∈l,a<=mx0 l)/\vo (0::l)=some (mx0 l):=by obtain⟨h1,h2⟩:=fold_max l 0;exact⟨h2 0 M7,λa ha=>h2 a (M3 _ ha),rfl⟩
def gst(l:List (Int×Int))(p:Int×Int):List (Int×Int):=nN l p.1 (if (cz l p.1).getD 0>p.2 then (cz l p.1).getD 0 else p.2)
def kG(ps:List (Int×Int))(k:Int):List Int:=(ps.filter λp=>decide (p.1=k)).map (·.2)
theorem wF(k:Int):∀(ps l:List (Int×Int)),(cz (ps.foldl gst l) k).getD 0=(kG ps k).foldl mxf ((cz l k).getD 0)
 |[],l=>rfl
 |p::r,l=>by
  rw[Nz,wF k r (gst l p)];unfold kG gst;by_cases z:p.1=k
  ·rw[Nd,if_pos (decide_eq_true z),M5,Nz,mz,if_pos z.symm,z];congr 1;unfold mxf;show (if _ then _ else _)=(if _ then _ else _)
   split <;> split <;> omega
  ·rw[mz,Nd,if_neg (show ¬ (decide (p.1=k)=true) from λe=>z (of_decide_eq_true e)),if_neg (λe=>z e.symm)]
theorem wJ(l:List (Int×Int))(k v:Int):(nN l k v).map (·.1)=if k∈l.map (·.1) then l.map (·.1) else l.map (·.1)++[k]:=by
 unfold nN;by_cases ha:(l.any λp=>decide (p.1=k))=true
 ·have a:k∈l.map (·.1):=by obtain⟨p,b,e⟩:=NG.mp ha;exact MM.mpr ⟨p,b,of_decide_eq_true e⟩
  rw[if_pos ha,if_pos a,N4];refine MY λp _=>?_
  show (if p.1=k then (p.1,v) else p).1=p.1;split <;> rfl
 ·have a:¬ k∈l.map (·.1):=λh=>by obtain⟨p,b,e⟩:=MM.mp h;exact ha (NG.mpr ⟨p,b,decide_eq_true e⟩)
  rw[if_neg ha,if_neg a,Nk];rfl
theorem v5{U:List Int}:∀(ps l:List (Int×Int)),(l.map (·.1)).Nodup->(∀p∈l,p.1∈U)->(∀p∈ps,p.1∈U)->((ps.foldl gst l).map (·.1)).Nodup/\(∀p∈ps.foldl gst l,p.1∈U)/\(ps.foldl gst l).length<=l.length+ps.length
 |[],l,h1,h2,_=>⟨h1,h2,My _⟩
 |p::r,l,h1,h2,h3=>by
  rw[Nz];have e:=wJ l p.1 (if (cz l p.1).getD 0>p.2 then (cz l p.1).getD 0 else p.2);have f:((gst l p).map (·.1)).Nodup/\∀k∈(gst l p).map (·.1),k∈U:=by
   unfold gst;rw[e];split
   ·exact⟨h1,λk f=>by obtain⟨y,g,rfl⟩:=MM.mp f;exact h2 y g⟩
   ·rename_i hn;refine⟨OB.mpr ⟨h1,by simp,λa ha b h=>?_⟩,λk f=>?_⟩
    ·cases MR.mp h;exact λz=>hn (z▸ha)
    ·rcases Nb.mp f with f|f
     ·obtain⟨y,g,rfl⟩:=MM.mp f;exact h2 y g
     ·cases MR.mp f;exact h3 p M7
  have hl:(gst l p).length<=l.length+1:=by
   have:=congrArg List.length e;rw[M6]at this;unfold gst;rw[this];split
   ·rw[M6];omega
   ·rw[MN,M6];simp
  obtain⟨a,b,c⟩:=v5 (U:=U) r (gst l p) f.1 (λy g=>f.2 _ (MM.mpr ⟨y,g,rfl⟩)) λy g=>h3 y (M3 _ g)
  exact⟨a,b,by rw[MW];omega⟩
theorem sum_add(f g:Int->Int)(l:List Int):(l.map λx=>f x+g x).sum=(l.map f).sum+(l.map g).sum:=by
 induction l with
 |nil=>rfl
 |cons a r ih=>simp only[M5,Nf,ih];omega
theorem B8{k v:Int}:∀{U:List Int},U.Nodup->k∈U->(U.map λx=>if x=k then v else 0).sum=v
 |[],_,h=>by cases h
 |x::r,nd,h=>by
  have a:=Nc.mp nd;rw[M5,Nf];by_cases z:x=k
  ·subst z;rw[if_pos rfl,ig (λy:Int=>if y=x then v else 0) λy b=>by show (if y=x then v else 0)=0;exact if_neg λe=>a.1 (by rw[<-e];exact b)];omega
  ·rw[if_neg z,B8 a.2 ((M8.mp h).resolve_left λe=>z e.symm)];omega
theorem xh{U:List Int}(b:U.Nodup):∀{l:List (Int×Int)},(l.map (·.1)).Nodup->(∀p∈l,p.1∈U)->(l.map (·.2)).sum=(U.map λk=>(cz l k).getD 0).sum
 |[],_,_=>(ig _ λ_ _=>rfl).symm
 |p::r,nd,h=>by
  rw[M5]at nd;have a:=Nc.mp nd;have c:=xh b a.2 λx f=>h x (M3 _ f)
  rw[M5,Nf,c];have e:(U.map λk=>(cz (p::r) k).getD 0)=U.map λk=>(if k=p.1 then p.2 else 0)+(cz r k).getD 0:=MY λk _=>by
   show (((p::r).find? λy=>decide (y.1=k)).map (·.2)).getD 0=_;rw[Ng];by_cases z:p.1=k
   ·have hn:cz r k=none:=by unfold cz;rw[Option.map_eq_none_iff,Oy];exact λy g e=>a.1 (MM.mpr ⟨y,g,(of_decide_eq_true e).trans z.symm⟩)
    rw[decide_eq_true z,if_pos z.symm,hn];show p.2=p.2+0;omega
   ·rw[decide_eq_false z,if_neg (λe=>z e.symm)];show (cz r k).getD 0=0+(cz r k).getD 0;omega
  rw[e,sum_add,B8 b (h p M7)]
def grt(ps:List (Int×Int)):List (Int×Int):=ps.foldl gst []
theorem Ay{U:List Int}(c:U.Nodup)(h:∀p∈ps,p.1∈U):((grt ps).map (·.2)).sum=(U.map λk=>mx0 (kG ps k)).sum:=by
 obtain⟨a,b,_⟩:=v5 (U:=U) ps [] OI (λp h=>by cases h) h;unfold grt;rw[xh c a b];congr 1;refine MY λk _=>?_
 rw[wF];rfl
def a9(cs:Cs):Gf:=gfG 1 3 (cY cs)
theorem mF(cs:Cs):LLq (cY cs) 1 3 (a9 cs):=gy
def prD(p:Int×Int):PyData:=.tuple [.int p.1,.int p.2]
def sgB:Ds->Sr:=lA 1 (ae 2) (gF gr (af (ae 3) (af (iI (ae 1) (ae 2) #[1]) ah)))
theorem Ai{P:PyData}:∀(ps l:List (Int×Int))(x2 x3:Option PyData),l.length+ps.length<=1000->∃a b,forL (cn [2,3]) sgB (ps.map prD) [some P,some (bF l),x2,x3]=.nx [some P,some (bF (ps.foldl gst l)),a,b]
 |[],l,x2,x3,_=>⟨x2,x3,rfl⟩
 |p::r,l,x2,x3,h=>by
  rw[MW]at h;have hd:iI (ae 1) (ae 2) #[1] [some P,some (bF l),some (.int p.1),some (.int p.2)]=.ok (.int ((cz l p.1).getD 0)):=by
   show (match mK (bF l) with
    |some l=>Rs.ok (PyData.int ((cz l p.1).getD 0))
    |none=>.no)=_
   rw[iT]
  have c:gF gr (af (ae 3) (af (iI (ae 1) (ae 2) #[1]) ah)) [some P,some (bF l),some (.int p.1),some (.int p.2)]=.ok (.int (if (cz l p.1).getD 0>p.2 then (cz l p.1).getD 0 else p.2)):=by rw[fQ,aA,show ae 3 [some P,some (bF l),some (.int p.1),some (.int p.2)]=.ok (.int p.2) from rfl,Rs.ag,aA,hd];rfl
  have f:sgB [some P,some (bF l),some (.int p.1),some (.int p.2)]=.nx [some P,some (bF (gst l p)),some (.int p.1),some (.int p.2)]:=by
   show (match mK (bF l) with
    |some l'=>ofR (gF gr (af (ae 3) (af (iI (ae 1) (ae 2) #[1]) ah)) [some P,some (bF l),some (.int p.1),some (.int p.2)]) λv=>ofR (Rs.ok (PyData.int p.1)) λk=>(match k,v with
     |.int k,.int v=>if l'.length<1000000 then Sr.nx [some P,some (bF (nN l' k v)),some (.int p.1),some (.int p.2)] else .no
     |_,_=>.no)
    |none=>.no)=_
   rw[iT];simp only[c,aB];rw[if_pos (by omega)];rfl
  have hl:(gst l p).length<=l.length+1:=by
   have e:=congrArg List.length (wJ l p.1 (if (cz l p.1).getD 0>p.2 then (cz l p.1).getD 0 else p.2));rw[M6]at e;unfold gst;rw[e];split
   ·rw[M6];omega
   ·rw[MN,M6];simp
  obtain⟨a,b,g⟩:=Ai (P:=P) r (gst l p) (some (.int p.1)) (some (.int p.2)) (by omega);refine⟨a,b,?_⟩;rw[M5,d8 (δ1:=[some P,some (bF l),some (.int p.1),some (.int p.2)]) rfl f];exact g
theorem HH(h:ps.length<=1000):a9 cs [.list (ps.map prD)]=.ok (.int ((grt ps).map (·.2)).sum):=by
 show bo (cY cs [some (.list (ps.map prD)),none,none,none])=_;obtain⟨a,b,e⟩:=Ai (P:=.list (ps.map prD)) ps [] none none (by simpa using h);have c:oF 1 [some (.list (ps.map prD)),none,none,none]=.nx [some (.list (ps.map prD)),some (bF []),none,none]:=rfl;have s2:cA [1] (bh (ae 0)) (cn [2,3]) sgB [some (.list (ps.map prD)),some (bF []),none,none]=.nx [some (.list (ps.map prD)),some (bF (grt ps)),a,b]:=(jq (ds:=ps.map prD) rfl).trans e;have f:xi (ae 1) [some (.list (ps.map prD)),some (bF (grt ps)),a,b]=.ok (.int ((grt ps).map (·.2)).sum):=by
  show (match mK (bF (grt ps)) with
   |some l=>Rs.ok (PyData.int (l.map λq:Int×Int=>q.2).sum)
   |none=>.no)=_
  rw[iT]
 have g:cY cs=ay (oF 1) (ay (cA [1] (bh (ae 0)) (cn [2,3]) sgB) (bf (xi (ae 1)))):=rfl;rw[g,bI c,bI s2,cq,f];rfl
def tpB(es:List Er)(rs:List Int)(pl t:Int):Bool:=match bq es rs t with
 |some h=>decide (h<=pl)
 |none=>false
def h3(es:List Er)(rs:List Int)(pl x:Int)(p:Int×Option Int):List (Int×Int×Int):=match p.2 with
 |some t=>if tpB es rs pl t=true then [(x,t,p.1-1)] else []
 |none=>[]
def hdP(es:List Er)(rs:List Int)(pl:Int)(ms:List Int):List (Int×Int×Int):=ms.flatMap λx=>(bZ es x).parts.flatMap (h3 es rs pl x)
theorem Bt(C:Addr)(m k t l:Int):bc C "number" (hdD C m k t l)=some (.int m):=by simp only[hdD,xG,M5,Nw,bc,and_self,if_true,iA]
theorem FG(C:Addr)(m k t l:Int):bc C "tool" (hdD C m k t l)=some (.int t):=by
 have n1:¬ (("number":Str)="tool"):=by decide +kernel
 have n2:¬ (("part":Str)="tool"):=by decide +kernel
 simp only[hdD,xG,M5,Nw,bc,and_self,if_true,iA,n1,n2,if_false]
def h3D(C:Addr)(d:PyData)(x:Int×Int×Int):Prop:=bc C "number" d=some (.int x.1)/\bc C "tool" d=some (.int x.2.1)/\bc C "times" d=some (.int x.2.2)
inductive l7 (C:Addr):List PyData->List (Int×Int×Int)->Prop
 |nil:l7 C [] []
 |cons {d:PyData} {x:Int×Int×Int} {ds:List PyData} {xs:List (Int×Int×Int)}:h3D C d x->l7 C ds xs->l7 C (d::ds) (x::xs)
theorem l7.app{b:List PyData}{y:List (Int×Int×Int)}(h:l7 C a x)(h':l7 C b y):l7 C (a++b) (x++y):=by
 induction h with
 |nil=>exact h'
 |cons h1 _ ih=>exact .cons h1 ih
theorem zA(C:Addr)(es:List Er)(rs:List Int)(pl m:Int):∀(ps:List #[25])(k:Nat),l7 C (hdM C es rs pl m k ps) (ps.flatMap (h3 es rs pl m))
 |[],_=>.nil
 |p::r,k=>by
  rw[NH];refine l7.app (a:=km C es rs pl m k p) ?_ (zA C es rs pl m r (k+1));unfold km h3 tpB;cases p.2 with
  |none=>exact .nil
  |some t =>
   simp only;cases bq es rs t with
   |none=>exact .nil
   |some h =>
    simp only[decide_eq_true_eq];split
    ·exact .cons ⟨Bt ..,FG ..,Dr ..⟩ .nil
    ·exact .nil
theorem sS(C:Addr)(es:List Er)(rs:List Int)(pl:Int):∀(ms:List Int),l7 C (jU C es rs pl ms) (hdP es rs pl ms)
 |[]=>.nil
 |m::r=>by unfold hdP;rw[NH];exact l7.app (zA C es rs pl m _ 0) (sS C es rs pl r)
theorem wa{f:Str}{g:Int×Int×Int->Int}(b:∀d x,h3D C d x->bc C f d=some (.int (g x))){k:Nat}(a:∀d,ae k (δ++[some d])=.ok d):∀{ds:List PyData}{xs:List (Int×Int×Int)},l7 C ds xs ->
  eI bJ (dS (af (g1 (bc C f) (ae k)) (af (g1 (bc C "times") (ae k)) ah))) aG δ ds=.ok ((xs.map λx=>(g x,x.2.2)).map prD):=by
 intro ds xs h
 induction h with
 |nil=>rfl
 |@cons d x ds xs h1 _ ih =>
  have c:dS (af (g1 (bc C f) (ae k)) (af (g1 (bc C "times") (ae k)) ah)) (δ++[some d])=.ok (prD (g x,x.2.2)):=by rw[jB,aA,gH,a,Rs.ag,b _ _ h1,Rs.ai,Rs.ag,aA,gH,a,Rs.ag,h1.2.2,Rs.ai,Rs.ag,aJ];rfl
  unfold eI;simp only[aG,bJ,Rs.cQ,Rs.ag,if_true,c,ih];rfl
def bU(cs:Cs):Gf:=gfG 3 3 (dY cs (a9 cs) (cF cs))
theorem pq(cs:Cs):LLq (dY cs (a9 cs) (cF cs)) 3 3 (bU cs):=gy
def p1(xs:List (Int×Int×Int)):List (Int×Int):=xs.map λx=>(x.1,x.2.2)
def p2(xs:List (Int×Int×Int)):List (Int×Int):=xs.map λx=>(x.2.1,x.2.2)
def v9(es:List Er)(rs:List Int)(n:Int):Int :=
 let a:=((grt (p1 (hdP es rs #[8] (rs.drop (placeOf rs n+1))))).map (·.2)).sum;let b:=((grt (p2 (hdP es rs #[8] (rs.drop (placeOf rs n+1))))).map (·.2)).sum
 if b<a then b else a
theorem l7.len(h:l7 C a x):x.length=a.length:=by
 induction h with
 |nil=>rfl
 |cons _ _ ih=>rw[MW,MW,ih]
theorem Kn{n:Int}(l1:1<=es.length)(l6:es.length<=6)(ok:∀e∈es,e.Ok)(a:cN es.length rs)(n0:0<=n)(n1:n<es.length):bU cs [ar es,ak rs,.int n]=.ok (.int (v9 es rs n)):=by
 have hok:∀e∈es,e.Wk:=λe c=>(ok e c).wk
 have f:=ke cs l1 l6 hok a n0 n1;have rel:=sS cs.Holding es rs #[8] (rs.drop (placeOf rs n+1));have hrl:=a.len;have b:∀m∈rs.drop (placeOf rs n+1),(bZ es m).Wk:=λm hm=>by have:=a.rng m (Nt hm);exact hok _ (dX this.1 (by omega))
 have hln:=t9 cs.Holding es rs #[8] 4 (rs.drop (placeOf rs n+1)) λm hm=>(b m hm).p2
 have hdl:(rs.drop (placeOf rs n+1)).length<=6:=by rw[NW];omega
 unfold v9;generalize hdP es rs #[8] (rs.drop (placeOf rs n+1))=xs at *;generalize jU cs.Holding es rs #[8] (rs.drop (placeOf rs n+1))=ds at *;have hxl:=rel.len;show bo (dY cs (a9 cs) (cF cs) [some (ar es),some (ak rs),some (.int n),none,none,none])=_;have i:aN [] 3 (au (cF cs) (af (ae 0) (af (ae 1) #[28]))) [some (ar es),some (ak rs),some (.int n),none,none,none]=.nx [some (ar es),some (ak rs),some (.int n),some (.list ds),none,none]:=cC (by decide:3<6) (eX rfl f);have s2:aN [] 4 (au (a9 cs) (af (gL (aX 6 (bh (ae 3)) bJ (dS (af (g1 (bc cs.Holding "number") (ae 6)) (af (g1 (bc cs.Holding "times") (ae 6)) ah))) aG)) ah)) [some (ar es),some (ak rs),some (.int n),some (.list ds),none,none]=.nx [some (ar es),some (ak rs),some (.int n),some (.list ds),some (.int ((grt (p1 xs)).map (·.2)).sum),none]:=by
  refine cC (by decide:4<6) (eX (ds:=[.list ((p1 xs).map prD)]) ?_ (HH (by unfold p1;rw[M6];omega)));have hc:aX 6 (bh (ae 3)) bJ (dS (af (g1 (bc cs.Holding "number") (ae 6)) (af (g1 (bc cs.Holding "times") (ae 6)) ah))) aG [some (ar es),some (ak rs),some (.int n),some (.list ds),none,none]=.ok ((p1 xs).map prD):=by refine (if_pos (show List.length [some (ar es),some (ak rs),some (.int n),some (PyData.list ds),none,none]=6 from rfl)).trans ?_;show (if ds.length<=1000000 then _ else _)=_;rw[if_pos (by omega)];exact wa (g:=λx=>x.1) (λd x h=>h.1) (λd=>rfl) rel
  rw[gp,aA,nV,hc];rfl
 have j:aN [] 5 (au (a9 cs) (af (gL (aX 6 (bh (ae 3)) bJ (dS (af (g1 (bc cs.Holding "tool") (ae 6)) (af (g1 (bc cs.Holding "times") (ae 6)) ah))) aG)) ah)) [some (ar es),some (ak rs),some (.int n),some (.list ds),some (.int ((grt (p1 xs)).map (·.2)).sum),none]=.nx [some (ar es),some (ak rs),some (.int n),some (.list ds),some (.int ((grt (p1 xs)).map (·.2)).sum),some (.int ((grt (p2 xs)).map (·.2)).sum)]:=by
  refine cC (by decide:5<6) (eX (ds:=[.list ((p2 xs).map prD)]) ?_ (HH (by unfold p2;rw[M6];omega)));have hc:aX 6 (bh (ae 3)) bJ (dS (af (g1 (bc cs.Holding "tool") (ae 6)) (af (g1 (bc cs.Holding "times") (ae 6)) ah))) aG [some (ar es),some (ak rs),some (.int n),some (.list ds),some (.int ((grt (p1 xs)).map (·.2)).sum),none]=.ok ((p2 xs).map prD):=by refine (if_pos (show List.length [some (ar es),some (ak rs),some (.int n),some (PyData.list ds),some (PyData.int ((grt (p1 xs)).map (·.2)).sum),none]=6 from rfl)).trans ?_;show (if ds.length<=1000000 then _ else _)=_;rw[if_pos (by omega)];exact wa (g:=λx=>x.2.1) (λd x h=>h.2.1) (λd=>rfl) rel
  rw[gp,aA,nV,hc];rfl
 unfold dY;rw[bI i,bI s2,bI j];rfl
def bA(cs:Cs):Gf:=gfG 3 7 (dz cs bp)
theorem nO(cs:Cs):LLq (dz cs bp) 3 7 (bA cs):=gy
def c1(es:List Er)(rs:List Int)(pl:Int)(p:Int×Option Int):Bool:=match p.2 with
 |some t=>tpB es rs pl t
 |none=>false
def s1L(es:List Er)(rs:List Int)(pl x:Int):List Int:=((bZ es x).parts.filter (c1 es rs pl)).map λp=>p.1-1
def s2L(es:List Er)(t x:Int):List Int:=((bZ es x).parts.filter λp=>p.2==some t).map λp=>p.1-1
theorem lK{cond:Ds->Rs Bool}{elt:Ds->Rs PyData}{δ:Ds}{c:Int×Option Int->Bool}:∀(ps:List #[25]),(∀p∈ps,cond (δ++[some (aI p)])=.ok (c p)/\elt (δ++[some (aI p)])=.ok (.int (p.1-1)))->eI cond elt aG δ (ps.map aI)=.ok (((ps.filter c).map λp=>p.1-1).map PyData.int)
 |[],_=>rfl
 |p::r,h=>by
  have a:=lK r λx b=>h x (M3 _ b)
  obtain⟨h1,h2⟩:=h p M7;rw[M5];unfold eI;cases hp:c p with
  |true=>simp only[aG,h1,hp,Rs.cQ,Rs.ag,if_true,h2,a,Nd];rfl
  |false=>simp only[aG,h1,hp,Rs.cQ,Rs.ag,if_false,N2,a,Nd]
def eB(es:List Er)(rs:List Int)(n:Int)(pl:Nat)(f:Int)(x6 x7 x8 a:Option PyData):Ds:=[some (ar es),some (ak rs),some (.int n),some (.int (pl:Int)),some (av es rs),some (.int f),x6,x7,x8,a]
def DX:Ds->Sr:=ay (eu [7] 7 #[27])
 (kl 5 (g2 aW (ae 5) (gF oG (af (g2 aW (mL (af #[1] ah)) (ae 7)) ah))))
def Fc:Ds->Sr:=F9 [7] 7 (gL #[18])
section
variable {n:Int}{pl:Nat}
theorem yd(a:cN es.length rs)(ok:∀e∈es,e.Ok){x:Int}(b:x∈rs){p:Int×Option Int}(c:p∈(bZ es x).parts){t:Int}(f:p.2=some t):0<=t/\t<=3/\∃h,bq es rs t=some h:=by have g:=a.rng x b;have oe:=ok _ (dX (es:=es) (n:=x) g.1 (by have:=a.len;omega));obtain⟨i,j⟩:=(oe.pl p c).2.2 t f;refine⟨i,j,mP es t rs 0 x b ?_⟩;unfold Er.has;rw[NG];exact⟨p,c,by rw[f];exact beq_self_eq_true _⟩
theorem Hy(l:cN es.length rs)(l6:es.length<=6)(ok:∀e∈es,e.Ok){x:Int}(m:x∈rs)(f:Int)(x7 x8 b:Option PyData):DX (eB es rs n pl f (some (.int x)) x7 x8 b)=.nx (eB es rs n pl (f+mx0 (s1L es rs pl x)) (some (.int x)) (some (.list ((s1L es rs pl x).map PyData.int))) x8 b):=by
 have q:=l.rng x m;have i:x<es.length:=by have:=l.len;omega
 have oe:=ok _ (dX (es:=es) (n:=x) q.1 i);have j:bh #[6] (mask [7] (eB es rs n pl f (some (.int x)) x7 x8 b))=.ok ((bZ es x).parts.map aI):=by show bh #[6] [some (ar es),some (ak rs),some (.int n),some (.int (pl:Int)),some (av es rs),some (.int f),some (.int x),none,x8,b]=_;rw[nA,cR (cR (x:=ar es) (y:=.int x) rfl rfl (iz q.1 i)) (y:=.int 3) rfl (vi _)];rfl
 have s:aX 10 (bh #[6]) (iN (gT (g1 eE (g2 dIx (ae 10) #[0]))) (gT (g2 dLe (g2 dIx (ae 4) (g2 dIx (ae 10) #[0])) (ae 3)))) (g2 eM (g2 dIx (ae 10) #[1]) #[0]) aG (mask [7] (eB es rs n pl f (some (.int x)) x7 x8 b))=.ok ((s1L es rs pl x).map PyData.int):=by
  refine (if_pos (show (mask [7] (eB es rs n pl f (some (.int x)) x7 x8 b)).length=10 from rfl)).trans ?_;rw[j,Rs.ag,if_pos (by rw[M6];have:=oe.p2;omega)];refine lK (c:=c1 es rs pl) _ λp u=>⟨?_,rfl⟩
  show iN (gT (g1 eE (g2 dIx (ae 10) #[0]))) (gT (g2 dLe (g2 dIx (ae 4) (g2 dIx (ae 10) #[0])) (ae 3))) [some (ar es),some (ak rs),some (.int n),some (.int (pl:Int)),some (av es rs),some (.int f),some (.int x),none,x8,b,some (aI p)]=_;obtain⟨a,o⟩:=p;cases o with
  |none=>rfl
  |some t =>obtain⟨v,w,h,r⟩:=yd l ok m u rfl;have hi:g2 dIx (ae 4) (g2 dIx (ae 10) #[0]) [some (ar es),some (ak rs),some (.int n),some (.int (pl:Int)),some (av es rs),some (.int f),some (.int x),none,x8,b,some (aI (a,some t))]=.ok (.int h):=cR (x:=av es rs) (y:=.int t) rfl rfl (jk v w r);rw[qV,show gT (g1 eE (g2 dIx (ae 10) #[0])) [some (ar es),some (ak rs),some (.int n),some (.int (pl:Int)),some (av es rs),some (.int f),some (.int x),none,x8,b,some (aI (a,some t))]=.ok true from rfl,Rs.ag,if_pos rfl,dE,cR (f:=dLe) hi (y:=.int (pl:Int)) rfl rfl];show Rs.ok (decide (h<=(pl:Int)))=.ok (tpB es rs pl t);unfold tpB;rw[r]
 have z:eu [7] 7 #[27] (eB es rs n pl f (some (.int x)) x7 x8 b)=.nx (eB es rs n pl f (some (.int x)) (some (.list ((s1L es rs pl x).map PyData.int))) x8 b):=uA (by show 7<10;decide) s;have hlen:(s1L es rs pl x).length<=4:=by unfold s1L;rw[M6];exact Nq (Oe _ _) oe.p2
 have g:g2 aW (ae 5) (gF oG (af (g2 aW (mL (af #[1] ah)) (ae 7)) ah)) (eB es rs n pl f (some (.int x)) (some (.list ((s1L es rs pl x).map PyData.int))) x8 b)=.ok (.int (f+mx0 (s1L es rs pl x))):=by
  refine cR (x:=.int f) (y:=.int (mx0 (s1L es rs pl x))) rfl ?_ rfl;have ga:g2 aW (mL (af #[1] ah)) (ae 7) (eB es rs n pl f (some (.int x)) (some (.list ((s1L es rs pl x).map PyData.int))) x8 b)=.ok (.list ((0::s1L es rs pl x).map PyData.int)):=by refine cR (x:=.list [.int 0]) (y:=.list ((s1L es rs pl x).map PyData.int)) rfl rfl ?_;show (if _<=1000000 then _ else _)=_;rw[if_pos (by simp;omega)];rfl
  rw[fQ,aA,ga,aJ];show Rs.eF ((gP ((0::s1L es rs pl x).map PyData.int)).bind λns=>(vo ns).map PyData.int)=_;rw[ft];show Rs.eF ((vo (0::s1L es rs pl x)).map PyData.int)=_;rw[(tZ _).2.2];rfl
 unfold DX;rw[bI z];exact vj (by show 5<10;decide) g rfl
theorem sR(g:cN es.length rs)(l6:es.length<=6)(ok:∀e∈es,e.Ok):∀(ms:List Int)(f:Int)(x6 x7 x8 a:Option PyData),(∀x∈ms,x∈rs)->∃b c,forL (aU 6) DX (ms.map PyData.int) (eB es rs n pl f x6 x7 x8 a)=.nx (eB es rs n pl (f+(ms.map λx=>mx0 (s1L es rs pl x)).sum) b c x8 a)
 |[],f,x6,x7,x8,a,_=>⟨x6,x7,by rw[Nw,Nw,List.sum_nil,OH];rfl⟩
 |x::r,f,x6,x7,x8,a,h=>by
  obtain⟨b,c,i⟩:=sR g l6 ok r (f+mx0 (s1L es rs pl x)) (some (.int x)) (some (.list ((s1L es rs pl x).map PyData.int))) x8 a λy j=>h y (M3 _ j)
  refine⟨b,c,?_⟩;rw[M5,d8 (δ1:=eB es rs n pl f (some (.int x)) x7 x8 a) rfl (Hy g l6 ok (h x M7) f x7 x8 a),i,M5,Nf,Int.add_assoc]
theorem tM(g:cN es.length rs)(l6:es.length<=6)(ok:∀e∈es,e.Ok){f t:Int}{x8:Option PyData}:∀(ms acc:List Int)(x6:Option PyData),(∀x∈ms,x∈rs)->acc.length+4*ms.length<=1000->∃i,forL (aU 6) Fc (ms.map PyData.int) (eB es rs n pl f x6 (some (.list (acc.map PyData.int))) x8 (some (.int t)))=.nx (eB es rs n pl f i (some (.list ((acc++ms.flatMap (s2L es t)).map PyData.int))) x8 (some (.int t)))
 |[],acc,x6,_,_=>⟨x6,by rw[List.flatMap_nil,Nr];rfl⟩
 |x::r,acc,x6,h,hl=>by
  rw[MW]at hl;have o:=h x M7;have m:=g.rng x o;have a:x<es.length:=by have:=g.len;omega
  have oe:=ok _ (dX (es:=es) (n:=x) m.1 a);have hlen:(s2L es t x).length<=4:=by unfold s2L;rw[M6];exact Nq (Oe _ _) oe.p2
  have b:bh #[6] [some (ar es),some (ak rs),some (.int n),some (.int (pl:Int)),some (av es rs),some (.int f),some (.int x),none,x8,some (.int t)]=.ok ((bZ es x).parts.map aI):=by rw[nA,cR (cR (x:=ar es) (y:=.int x) rfl rfl (iz m.1 a)) (y:=.int 3) rfl (vi _)];rfl
  have q:aX 10 (bh #[6]) (gT (g2 dEq (g2 dIx (ae 10) #[0]) (ae 9))) (g2 eM (g2 dIx (ae 10) #[1]) #[0]) aG [some (ar es),some (ak rs),some (.int n),some (.int (pl:Int)),some (av es rs),some (.int f),some (.int x),none,x8,some (.int t)]=.ok ((s2L es t x).map PyData.int):=by
   refine (if_pos (show List.length [some (ar es),some (ak rs),some (.int n),some (.int (pl:Int)),some (av es rs),some (.int f),some (.int x),none,x8,some (PyData.int t)]=10 from rfl)).trans ?_;rw[b,Rs.ag,if_pos (by rw[M6];have:=oe.p2;omega)];refine lK (c:=λp=>p.2==some t) _ λp hp=>⟨?_,rfl⟩
   rw[dE,cR (f:=dEq) (x:=bg p.2) (y:=.int t) rfl rfl (Eu p.2 t)];rfl
  have j:Fc (eB es rs n pl f (some (.int x)) (some (.list (acc.map PyData.int))) x8 (some (.int t)))=.nx (eB es rs n pl f (some (.int x)) (some (.list ((acc++s2L es t x).map PyData.int))) x8 (some (.int t))):=by
   have l:gL #[18] (mask [7] (eB es rs n pl f (some (.int x)) (some (.list (acc.map PyData.int))) x8 (some (.int t))))=.ok (.list ((s2L es t x).map PyData.int)):=by show gL #[18] [some (ar es),some (ak rs),some (.int n),some (.int (pl:Int)),some (av es rs),some (.int f),some (.int x),none,x8,some (.int t)]=_;rw[nV,q];rfl
   show ofR (gL #[18] (mask [7] (eB es rs n pl f (some (.int x)) (some (.list (acc.map PyData.int))) x8 (some (.int t))))) (λd=>match d with
    |.list es'=>if (acc.map PyData.int).length+es'.length<=1000000 then Sr.nx ((eB es rs n pl f (some (.int x)) (some (.list (acc.map PyData.int))) x8 (some (.int t))).set 7 (some (.list (acc.map PyData.int++es')))) else .no
    |_=>.no)=_
   rw[l,aB];show (if _ then _ else _)=_;rw[if_pos (by rw[M6,M6];omega),Nk];rfl
  obtain⟨i,s⟩:=tM g l6 ok r (acc++s2L es t x) (some (.int x)) (λy u=>h y (M3 _ u)) (by rw[MN];omega);refine⟨i,?_⟩;rw[M5,d8 (δ1:=eB es rs n pl f (some (.int x)) (some (.list (acc.map PyData.int))) x8 (some (.int t))) rfl j,s,NH,O4]
def FK:Ds->Sr:=sIf (iN (gT (g1 eE (g2 dIx (ae 4) (ae 9)))) (gT (g2 dLe (g2 dIx (ae 4) (ae 9)) (ae 3)))) (ay (eu [7] 7 (af #[1] ah))
 (ay (cA [7] (bh #[29]) (aU 6) Fc)
 (kl 8 (g2 aW (ae 8) (gF oG (af (ae 7) ah)))))) aV
theorem wB(f:Int)(x6 x8 a:Option PyData):bh #[29] [some (ar es),some (ak rs),some (.int n),some (.int (pl:Int)),some (av es rs),some (.int f),x6,none,x8,a]=.ok ((rs.drop (pl+1)).map PyData.int):=by
 have:cutD (rs.map PyData.int) (some ((pl:Int)+1)) none=(rs.drop (pl+1)).map PyData.int:=by rw[show ((pl:Int)+1)=((pl+1:Nat):Int) by omega,pQ,OL]
 unfold ak;simp only[nA,kF,mr,kP,bR,cJ,aq,aw,Rs.ag,e9,Rs.ai,mE,yY,this,yl]
theorem Lg{t:Int}(t0:0<=t)(t3:t<=3):dIx (av es rs) (.int t)=some (bg (bq es rs t)):=by
 obtain⟨m,rfl⟩:∃m:Nat,t=(m:Int):=⟨t.toNat,by omega⟩
 show atI ((List.range 4).map λ(t:Nat)=>bg (bq es rs t)) (m:Int)=_;refine lS ?_;rw[MP,NM (by omega)];rfl
theorem pM(c:cN es.length rs)(l6:es.length<=6)(ok:∀e∈es,e.Ok){t:Int}(i:0<=t)(j:t<=3)(f g:Int)(x6 x7:Option PyData):∃a l,FK (eB es rs n pl f x6 x7 (some (.int g)) (some (.int t)))=.nx (eB es rs n pl f a l (some (.int (g+if tpB es rs pl t=true then mx0 ((rs.drop (pl+1)).flatMap (s2L es t)) else 0))) (some (.int t))):=by
 have hi:=Lg (es:=es) (rs:=rs) i j;have b:g2 dIx (ae 4) (ae 9) (eB es rs n pl f x6 x7 (some (.int g)) (some (.int t)))=.ok (bg (bq es rs t)):=cR (x:=av es rs) (y:=.int t) rfl rfl hi;have hc:iN (gT (g1 eE (g2 dIx (ae 4) (ae 9)))) (gT (g2 dLe (g2 dIx (ae 4) (ae 9)) (ae 3))) (eB es rs n pl f x6 x7 (some (.int g)) (some (.int t)))=.ok (tpB es rs pl t):=by
  rw[qV,dE,gH,b];unfold tpB;cases q:bq es rs t with
  |none=>rfl
  |some h =>rw[q]at b;show (if true=true then gT (g2 dLe (g2 dIx (ae 4) (ae 9)) (ae 3)) (eB es rs n pl f x6 x7 (some (.int g)) (some (.int t))) else Rs.ok false)=_;rw[if_pos rfl,dE,cR (f:=dLe) b (y:=.int (pl:Int)) rfl rfl];rfl
 unfold FK;rw[cK,hc,aB];cases q:tpB es rs pl t with
 |false =>refine⟨x6,x7,?_⟩;rw[if_neg MQ,if_neg MQ,OH];rfl
 |true =>
  rw[if_pos rfl,if_pos rfl];have hdl:(rs.drop (pl+1)).length<=6:=by rw[NW];have:=c.len;omega
  obtain⟨a,e⟩:=tM (n:=n) (pl:=pl) c l6 ok (f:=f) (t:=t) (x8:=some (.int g)) (rs.drop (pl+1)) [0] x6 (λx m=>Nt m) (by rw[Nj];omega);refine⟨a,some (.list ((0::(rs.drop (pl+1)).flatMap (s2L es t)).map PyData.int)),?_⟩;have o:eu [7] 7 (af #[1] ah) (eB es rs n pl f x6 x7 (some (.int g)) (some (.int t)))=.nx (eB es rs n pl f x6 (some (.list (([0]:List Int).map PyData.int))) (some (.int g)) (some (.int t))):=uA (by show 7<10;decide) rfl;have s2:cA [7] (bh #[29]) (aU 6) Fc (eB es rs n pl f x6 (some (.list (([0]:List Int).map PyData.int))) (some (.int g)) (some (.int t)))=.nx (eB es rs n pl f a (some (.list ((0::(rs.drop (pl+1)).flatMap (s2L es t)).map PyData.int))) (some (.int g)) (some (.int t))):=(jq (wB f x6 (some (.int g)) (some (.int t)))).trans e;rw[bI o,bI s2];refine vj (by show 8<10;decide) (cR (x:=.int g) (y:=.int (mx0 ((rs.drop (pl+1)).flatMap (s2L es t)))) rfl ?_ rfl) rfl;show Rs.eF ((gP ((0::(rs.drop (pl+1)).flatMap (s2L es t)).map PyData.int)).bind λns=>(vo ns).map PyData.int)=_;rw[ft];show Rs.eF ((vo (0::(rs.drop (pl+1)).flatMap (s2L es t))).map PyData.int)=_;rw[(tZ _).2.2];rfl
def md(es:List Er)(rs:List Int)(pl:Nat):Int:=((rs.drop (pl+1)).map λx=>mx0 (s1L es rs pl x)).sum
def iw(es:List Er)(rs:List Int)(pl:Nat)(t:Int):Int:=if tpB es rs pl t=true then mx0 ((rs.drop (pl+1)).flatMap (s2L es t)) else 0
def eJ(es:List Er)(rs:List Int)(n:Int):Int :=
 let a:=md es rs #[8];let b:=(([0,1,2,3]:List Int).map (iw es rs #[8])).sum
 if b<a then b else a
theorem Ju(a:cN es.length rs)(l6:es.length<=6)(ok:∀e∈es,e.Ok)(n0:0<=n)(n1:n<es.length):bA cs [ar es,ak rs,.int n]=.ok (.int (eJ es rs n)):=by
 show bo (dz cs bp [some (ar es),some (ak rs),some (.int n),none,none,none,none,none,none,none])=_;have f:=a.mem n0 n1;have h:aN [7] 3 (nK (ae 1) (ae 2)) [some (ar es),some (ak rs),some (.int n),none,none,none,none,none,none,none]=.nx [some (ar es),some (ak rs),some (.int n),some (.int (placeOf rs n:Int)),none,none,none,none,none,none]:=by refine cC (by decide:3<10) ?_;show nK (ae 1) (ae 2) [some (ar es),some (ak rs),some (.int n),none,none,none,none,none,none,none]=_;unfold ak;simp only[yN,aq,aw,Rs.ag,kj f,Rs.ai]
 have s2:aN [7] 4 (au bp #[21]) [some (ar es),some (ak rs),some (.int n),some (.int (placeOf rs n:Int)),none,none,none,none,none,none]=.nx [some (ar es),some (ak rs),some (.int n),some (.int (placeOf rs n:Int)),some (av es rs),none,none,none,none,none]:=cC (by decide:4<10) (eX (ds:=[ar es,ak rs]) rfl (iy (by omega) (λe i=>(ok e i).sh) a));have j:aN [7] 5 #[1] [some (ar es),some (ak rs),some (.int n),some (.int (placeOf rs n:Int)),some (av es rs),none,none,none,none,none]=.nx (eB es rs n #[8] 0 none none none none):=cC (by decide:5<10) rfl;obtain⟨b,c,e1⟩:=sR (n:=n) (pl:=placeOf rs n) a l6 ok (rs.drop (placeOf rs n+1)) 0 none none none none λx l=>Nt l
 have m:cA [7] (bh #[29]) (aU 6) DX (eB es rs n #[8] 0 none none none none)=.nx (eB es rs n #[8] (md es rs #[8]) b c none none):=by rw[jq (wB 0 none none none),e1,OV];rfl
 have o:aN [7] 8 #[1] (eB es rs n #[8] (md es rs #[8]) b c none none)=.nx (eB es rs n #[8] (md es rs #[8]) b c (some (.int 0)) none):=cC (by show 8<10;decide) rfl;have g:fh (af (gC (.int 4)) ah) (mask [7] (eB es rs n #[8] (md es rs #[8]) b c (some (.int 0)) none))=.ok [.int 0,.int 1,.int 2,.int 3]:=by show CQ [.int 4]=_;rw[jK #[2] #[2]];rfl
 obtain⟨p,q,c0⟩:=pM (n:=n) (pl:=placeOf rs n) a l6 ok (t:=0) #[2] #[2] (md es rs #[8]) 0 b c;obtain⟨r,s,c1⟩:=pM (n:=n) (pl:=placeOf rs n) a l6 ok (t:=1) #[2] #[2] (md es rs #[8]) (0+iw es rs #[8] 0) p q;obtain⟨u,v,w⟩:=pM (n:=n) (pl:=placeOf rs n) a l6 ok (t:=2) #[2] #[2] (md es rs #[8]) (0+iw es rs #[8] 0+iw es rs #[8] 1) r s;obtain⟨y,z,A⟩:=pM (n:=n) (pl:=placeOf rs n) a l6 ok (t:=3) #[2] #[2] (md es rs #[8]) (0+iw es rs #[8] 0+iw es rs #[8] 1+iw es rs #[8] 2) u v;have B:cA [7] (fh (af (gC (.int 4)) ah)) (aU 9) FK (eB es rs n #[8] (md es rs #[8]) b c (some (.int 0)) none)=.nx (eB es rs n #[8] (md es rs #[8]) y z (some (.int (0+iw es rs #[8] 0+iw es rs #[8] 1+iw es rs #[8] 2+iw es rs #[8] 3))) (some (.int 3))):=by rw[jq g,d8 rfl c0,d8 rfl c1,d8 rfl w,d8 rfl A];rfl
 have C:dz cs bp=ay (aN [7] 3 (nK (ae 1) (ae 2))) (ay (aN [7] 4 (au bp #[21])) (ay (aN [7] 5 #[1]) (ay (cA [7] (bh #[29]) (aU 6) DX) (ay (aN [7] 8 #[1]) (ay (cA [7] (fh (af (gC (.int 4)) ah)) (aU 9) FK) (bf (gF iW (af (ae 5) (af (ae 8) ah))))))))):=rfl;rw[C,bI h,bI s2,bI j,bI m,bI o,bI B];have D:(([0,1,2,3]:List Int).map (iw es rs #[8])).sum=0+iw es rs #[8] 0+iw es rs #[8] 1+iw es rs #[8] 2+iw es rs #[8] 3:=by simp only[M5,Nw,Nf,List.sum_nil];omega
 unfold eJ;rw[D];rfl
end
theorem kU(a b:List (Int×Int))(k:Int):kG (a++b) k=kG a k++kG b k:=by unfold kG;rw[List.filter_append,Nk]
theorem EA(a b:List (Int×Int×Int)):p1 (a++b)=p1 a++p1 b:=Nk
theorem Et(a b:List (Int×Int×Int)):p2 (a++b)=p2 a++p2 b:=Nk
section
variable {pl:Int}
theorem wy(m x:Int):∀ps:List #[25],kG (p1 (ps.flatMap (h3 es rs pl m))) x=if m=x then (ps.filter (c1 es rs pl)).map (λp=>p.1-1) else []
 |[]=>by split <;> rfl
 |p::r=>by
  rw[NH,EA,kU,wy m x r,Nd];obtain⟨a,o⟩:=p;cases o with
  |none =>rw[show h3 es rs pl m (a,none)=[] from rfl,show c1 es rs pl (a,none)=false from rfl,if_neg MQ];rfl
  |some t =>
   rw[show h3 es rs pl m (a,some t)=if tpB es rs pl t=true then [(m,t,a-1)] else [] from rfl,show c1 es rs pl (a,some t)=tpB es rs pl t from rfl];cases q:tpB es rs pl t with
   |false =>rw[if_neg MQ,if_neg MQ];rfl
   |true =>
    rw[if_pos rfl,if_pos rfl];by_cases z:m=x
    ·rw[if_pos z,if_pos z];show ((([(m,a-1)]:List (Int×Int)).filter λp=>decide (p.1=x)).map (·.2))++_=_;rw[Nd,if_pos (decide_eq_true z)];rfl
    ·rw[if_neg z,if_neg z];show ((([(m,a-1)]:List (Int×Int)).filter λp=>decide (p.1=x)).map (·.2))++_=_;rw[Nd,if_neg (show ¬ (decide (m=x)=true) from λe=>z (of_decide_eq_true e))];rfl
theorem wK(m t:Int):∀ps:List #[25],kG (p2 (ps.flatMap (h3 es rs pl m))) t=if tpB es rs pl t=true then (ps.filter λp=>p.2==some t).map (λp=>p.1-1) else []
 |[]=>by split <;> rfl
 |p::r=>by
  rw[NH,Et,kU,wK m t r,Nd];obtain⟨a,o⟩:=p;cases o with
  |none =>rw[show h3 es rs pl m (a,none)=[] from rfl,if_neg (show ¬ ((none:Option Int)==some t)=true from by simp)];rfl
  |some u =>
   rw[show h3 es rs pl m (a,some u)=if tpB es rs pl u=true then [(m,u,a-1)] else [] from rfl];by_cases z:u=t
   ·subst z;rw[if_pos (show ((some u:Option Int)==some u)=true from beq_self_eq_true _)];cases q:tpB es rs pl u with
    |false=>rw[if_neg MQ,if_neg MQ,if_neg MQ];rfl
    |true =>rw[if_pos rfl,if_pos rfl,if_pos rfl];show ((([(u,a-1)]:List (Int×Int)).filter λp=>decide (p.1=u)).map (·.2))++_=_;rw[Nd,if_pos (decide_eq_true rfl)];rfl
   ·rw[if_neg (show ¬ ((some u:Option Int)==some t)=true from by simpa using z)];cases q:tpB es rs pl u with
    |false=>rw[if_neg MQ];rfl
    |true =>rw[if_pos rfl];show ((([(u,a-1)]:List (Int×Int)).filter λp=>decide (p.1=t)).map (·.2))++_=_;rw[Nd,if_neg (show ¬ (decide (u=t)=true) from λe=>z (of_decide_eq_true e))];rfl
theorem Dy(x:Int):∀ms:List Int,ms.Nodup->kG (p1 (hdP es rs pl ms)) x=if x∈ms then s1L es rs pl x else []
 |[],_=>rfl
 |m::r,nd=>by
  have a:=Nc.mp nd;have b:=Dy x r a.2;unfold hdP at b ⊢;rw[NH,EA,kU,b,wy];by_cases z:m=x
  ·subst z;rw[if_pos rfl,if_neg a.1,if_pos M7,Nr];rfl
  ·rw[if_neg z,Nn];by_cases y:x∈r
   ·rw[if_pos y,if_pos (M3 _ y)]
   ·rw[if_neg y,if_neg (λh=>(M8.mp h).elim (λe=>z e.symm) y)]
theorem EV(t:Int):∀ms:List Int,kG (p2 (hdP es rs pl ms)) t=if tpB es rs pl t=true then ms.flatMap (s2L es t) else []
 |[]=>by split <;> rfl
 |m::r=>by have a:=EV t r;unfold hdP at a ⊢;rw[NH,Et,kU,a,wK,NH];split <;> rfl
theorem Fb(c:cN es.length rs)(ok:∀e∈es,e.Ok){ms:List Int}(hm:∀x∈ms,x∈rs):∀y∈hdP es rs pl ms,y.1∈ms/\y.2.1∈([0,1,2,3]:List Int):=λy a=>by
 obtain⟨x,b,a⟩:=OW.mp a;obtain⟨p,f,a⟩:=OW.mp a;unfold h3 at a;cases q:p.2 with
 |none=>rw[q]at a;cases a
 |some t =>
  rw[q]at a;simp only at a;split at a
  ·cases MR.mp a;obtain⟨t0,t3,_⟩:=yd c ok (hm x b) f q;refine⟨b,?_⟩;have:t=0\/t=1\/t=2\/t=3:=by omega
   rcases this with e|e|e|e <;> simp[e]
  ·cases a
theorem AH(f:cN es.length rs)(ok:∀e∈es,e.Ok)(n:Int):v9 es rs n=eJ es rs n:=by
 have nd:(rs.drop (placeOf rs n+1)).Nodup:=List.Nodup.sublist (List.drop_sublist _ _) f.nd;have g:=Fb (pl:=(placeOf rs n:Int)) f ok (ms:=rs.drop (placeOf rs n+1)) λx a=>Nt a
 have e1:((grt (p1 (hdP es rs #[8] (rs.drop (placeOf rs n+1))))).map (·.2)).sum=md es rs #[8]:=by
  rw[Ay nd λp b=>by obtain⟨y,c,rfl⟩:=MM.mp b;exact (g y c).1];unfold md;congr 1;refine MY λx a=>?_
  rw[Dy x _ nd,if_pos a]
 have e2:((grt (p2 (hdP es rs #[8] (rs.drop (placeOf rs n+1))))).map (·.2)).sum=(([0,1,2,3]:List Int).map (iw es rs #[8])).sum:=by
  rw[Ay (U:=[0,1,2,3]) #[2] λp b=>by obtain⟨y,c,rfl⟩:=MM.mp b;exact (g y c).2];congr 1;refine MY λt _=>?_
  rw[EV];unfold iw;split <;> rfl
 unfold v9 eJ;rw[e1,e2]
end
end RS
set_option maxHeartbeats 4000000
namespace L2
open PySem PySem.Spec PyProof.Rows
section
variable {E:XK}{k:Expr}{gk:Ds->Rs PyData}{apos:Pos}
end
section
variable {E:XK}
def qU(tgt:PyData->Ds->Option Ds)(g:Ds->Rs PyData):Ds->Sr:=λδ=>ofR (g δ) λd=>if eK d=true then (match tgt d δ with
 |some δ'=>.nx δ'
 |none=>.no) else .no
theorem C3{tgt:PyData->Ds->Option Ds}{g:TG}(h:PD X E e ga)(i:TgS X.K O tgt g)(j:PG X tg g)(l:swapsWithSole [tg] e pos.line X.env=pure false)(hw:swappedStores [tg] e X.env=pure none)
  (h1:(assignEach [tg] X.env).map (·.2)=[assign tg X.env]):PSD X E O (.Assign [tg] e pos) (qU tgt ga):=(DC h j l hw h1).imp λD σ H a=>by
 obtain⟨H0,A0,A,δ,R,o⟩:=a;unfold qU at o;refine eD.run R.full (λd m v H1 f R1 hv=>?_) (λC b H' s'=>?_) (λb=>?_)
 ·simp only[m,aB]at o;split at o
  ·rename_i hd;cases q:tgt d δ with
   |none=>rw[q]at o;exact o.elim
   |some δ'=>rw[q]at o;exact i d v H0 A0 H1 A δ δ' σ _ (R.step f) ((hv.same az).dl (R.step f).lsA hd) q λc n=>o A c H1 n
  ·exact o.elim
 ·rw[b]at o;exact o H' (R.same.trans s')
 ·rw[b]at o;exact o
end
section
variable {E:XK}{a b:Expr}
open PySem.SeqAt in
def MF:PyData->PyData->Option PyData
 |x,.list es=>if aF x&&aF (.list es)&&shaped x&&shaped (.list es)&&es.all (λz=>noMix z x) then some (.bool (decide (countIn x es≠0))) else none
 |_,_=>none
open PySem.SeqAt in
theorem IP(a:X.A.units+65<cLine):OpR X (compareOp .NotIn) (λx y H Q=>∃d es,IsD X.K H d x/\IsD X.K H (.list es) y/\shaped d=true/\shaped (.list es)=true/\(∀z∈es,noMix z d=true)/\Q (.bl (!decide (countIn d es≠0))) H):=by intro pins s σ H x y v u Q I b c h;obtain⟨d,es,hd,e,f,g,i,q⟩:=h;obtain⟨as,j⟩:=I.reads hd b;obtain⟨bs,l⟩:=I.reads e c;exact notIn_list_dataH l j g f a i ⟨.bl _,H,I,rfl,q⟩
open PySem.SeqAt in
def uV:PyData->PyData->Option PyData
 |x,.list es=>if aF x&&aF (.list es)&&shaped x&&shaped (.list es)&&es.all (λz=>noMix z x) then some (.bool (!decide (countIn x es≠0))) else none
 |_,_=>none
open PySem.SeqAt in
theorem Hk:OpD K uV (λx y H Q=>∃d es,IsD K H d x/\IsD K H (.list es) y/\shaped d=true/\shaped (.list es)=true/\(∀z∈es,noMix z d=true)/\Q (.bl (!decide (countIn d es≠0))) H):=λd1 d2 d x y H A Q e hA h1 h2 k=>by
 unfold uV at e;split at e
 ·split at e
  ·rename_i es z;simp only[M9]at z;cases e;exact⟨d1,es,(h1.same az).isd z.1.1.1.1,(h2.same az).isd z.1.1.1.2,z.1.1.2,z.1.2,MX.mp z.2,k _ H (ax.refl H) is_bool⟩
  ·cases e
 ·cases e
theorem Gk(c:X.A.units+65<cLine)(ha:PD X E a ga)(e:PD X E b gb)(hm:behindInMarks .NotIn b=false):PCD X E (.Compare a [.NotIn] [b] pos) (gT (g2 uV ga gb)):=jI Hk ha e λh1 h2=>iF (IP c) h1 h2 hm
theorem cm.u65{k:Nat}{A:Around}(r:cm k A):A.units+65<cLine:=by have:=r.un;omega
end
end L2
namespace RS
open PySem L2
def fJ(cs:Cs)(bU bW:Gf):Ds->Sr :=
 (ay (lg (au bW (af (ae 0) (af (ae 1) #[28]))))
  (bf (au bU (af (ae 0) (af (ae 1) #[28])))))
def kH(cs:Cs):Ds->Sr :=
 (ay (cA [] (fw (af (g2 dIx (ae 0) #[15]) ah)) (cn [2,3]) (ay (sIf (gT (g2 dLt (ae 1) (g2 dIx (ae 3) #[1]))) (bf (dS (af (ae 2) (af (g2 dIx (ae 3) #[0]) (af (ae 1) ah))))) aV)
  (aN [] 1 (g2 eM (ae 1) (g2 dIx (ae 3) #[1])))))
  (bf (dS (af (gF bS (af (g2 dIx (ae 0) #[15]) ah)) (af (gC .none) (af #[1] ah))))))
def dq(cs:Cs)(dm:Gf):Ds->Sr :=
 (ay (eu [2,3] 2 (aX 8 (bh (ae 0)) bJ #[1] aG))
  (ay (eu [2,3] 3 ah)
  (ay (cA [2,3] (bh (ae 1)) (aU 4) (sIf (gT (g1 ju (ae 4))) (ik [2,3] 3 (gC .none)) (ay (qU (cn [5,6,7]) (au dm (af (g2 dIx (ae 0) (g2 dIx (ae 4) #[1])) (af (g2 dIx (ae 2) (g2 dIx (ae 4) #[1])) ah))))
  (ay (ik [2,3] 3 (dS (af (g2 dIx (ae 4) #[1]) (af (g2 dIx (ae 4) #[0]) (af (ae 5) (af (ae 6) ah))))))
  (ay (lH 2 (g2 dIx (ae 4) #[1]) (g2 aW (g2 dIx (ae 2) (g2 dIx (ae 4) #[1])) #[0]))
  (sIf (gT (g2 dEq (g2 dIx (au dm (af (g2 dIx (ae 0) (g2 dIx (ae 4) #[1])) (af (g2 dIx (ae 2) (g2 dIx (ae 4) #[1])) ah))) #[1]) (gF bS (af (g2 dIx (g2 dIx (ae 0) (g2 dIx (ae 4) #[1])) #[15]) ah)))) (lH 2 (g2 dIx (ae 4) #[1]) #[1]) aV))))))
  (bf (ae 3)))))
def fg(cs:Cs):Ds->Sr :=
 (ay (aN [] 5 #[31])
  (ay (sIf (gT (g2 dGt (gF bS (af (ae 5) ah)) (ae 4))) #[16] aV)
  (ay (cA [] (bh (ae 5)) (aU 6) (ay (sIf (cOr (gT (g1 ju (g2 dIx (ae 6) #[15]))) (gT (g2 uV (ae 6) (cy (ae 0) cw (c9 (ae 2)))))) #[16] aV)
  (cA [] (bh (ae 5)) (aU 7) (sIf (iN (cOr (gT (g2 dEq (g2 dIx (ae 7) #[1]) (g2 dIx (ae 6) #[1]))) (gT (g2 dEq (g2 dIx (ae 7) #[15]) (g2 dIx (ae 6) #[15])))) (gT (g2 dNe (ae 7) (ae 6)))) #[16] aV))))
  (bf (gC (.bool true))))))
def zR(cs:Cs)(bP bA b9 bL iQ cp cj bE:Gf):Ds->Sr :=
 (ay (aN [] 1 (au bE (af (ae 0) (af (gC (.int 12)) (af (gC (.int 4)) (af (gC (.int 28)) (af (gC (.bool true)) ah)))))))
  (ay (aN [] 2 (au cj (af (ae 0) (af #[1] (af (gF bS (af (ae 1) ah)) ah)))))
  (ay (aN [] 3 (au cp (af (ae 0) (af (gC (.int 5)) (af (ae 1) (af (gC (.int 50)) ah))))))
  (ay (aN [] 4 (au iQ (af (ae 1) (af (ae 2) (af (ae 3) (af (gC (.str "asked")) ah))))))
  (ay (aN [] 5 (au bL (af (ae 1) (af (ae 4) ah))))
  (ay (cA [] (fw #[28]) (cn [6,7]) (ay (aN [] 8 (au b9 (af (ae 1) (af (ae 2) (af (ae 7) ah)))))
  (ay (sIf (gT (g2 dNe (ae 8) (au bA (af (ae 1) (af (ae 2) (af (ae 7) ah)))))) #[16] aV)
  (cA [] (fw (af (g2 dIx (ae 3) (ae 7)) ah)) (cn [9,10]) (ay (aN [] 11 (g2 aW (g2 dIx (gL (aX 12 (fh (af (gF bS (af (ae 4) ah)) ah)) (gT (g2 dEq (g2 dIx (ae 4) (ae 12)) (dS (af (ae 7) (af (ae 9) ah))))) (ae 12) aG)) (g1 jV #[0])) #[0]))
  (sIf (gA (gT (au bP (af (ae 5) (af (cy (ae 2) (c9 (g2 aW (ae 6) #[0])) cw) (af (ae 10) (af (ae 11) (af (ae 8) ah)))))))) #[16] aV))))))
  (bf (gC (.bool true)))))))))
end RS
set_option maxHeartbeats 1000000
namespace RS
open PySem L2
variable {l:List PyData}{x:PyData}
def b9(cs:Cs):Gf:=gfG 3 0 (fJ cs (bU cs) bW)
theorem vg(cs:Cs):LLq (fJ cs (bU cs) bW) 3 0 (b9 cs):=gy
theorem Lq{n:Int}(l1:1<=es.length)(l6:es.length<=6)(ok:∀e∈es,e.Ok)(a:cN es.length rs)(n0:0<=n)(n1:n<es.length):b9 cs [ar es,ak rs,.int n]=.ok (.int (v9 es rs n)):=by have h2:=ix l1 l6 ok a n0 n1;have h3:=Kn (cs:=cs) l1 l6 ok a n0 n1;show bo (fJ cs (bU cs) bW [some (ar es),some (ak rs),some (.int n)])=_;simp only[fJ,aT,u5,bK,aA,aJ,aq,aw,Rs.ag,h2,aB,cq,h3,bx]
def dm(cs:Cs):Gf:=gfG 2 2 (kH cs)
theorem EM(cs:Cs):LLq (kH cs) 2 2 (dm cs):=gy
def A9(x:Nat×Option Int×Int):PyData:=.tuple [.int (x.1:Int),bg x.2.1,.int x.2.2]
def atB:Ds->Sr:=(ay (sIf (gT (g2 dLt (ae 1) (g2 dIx (ae 3) #[1]))) (bf (dS (af (ae 2) (af (g2 dIx (ae 3) #[0]) (af (ae 1) ah))))) aV)
 (aN [] 1 (g2 eM (ae 1) (g2 dIx (ae 3) #[1]))))
theorem CK(p:Int×Option Int):dIx (aI p) (.int 0)=some (.int p.1):=rfl
theorem Am{E:PyData}:∀(ps:List #[25])(k:Nat)(s:Int)(x2 x3:Option PyData),
  forL (cn [2,3]) atB (pU k (ps.map aI)) [some E,some (.int s),x2,x3]=.rt (A9 (lawAt ps k s)) \/
  (lawAt ps k s=(k+ps.length,none,0)/\∃a b c,forL (cn [2,3]) atB (pU k (ps.map aI)) [some E,some (.int s),x2,x3]=.nx [some E,a,b,c])
 |[],k,s,x2,x3=>.inr ⟨rfl,_,_,_,rfl⟩
 |p::r,k,s,x2,x3=>by
  rw[M5,xV];unfold forL;rw[show cn [2,3] (PyData.tuple [.int (k:Int),aI p]) [some E,some (.int s),x2,x3]=some [some E,some (.int s),some (.int (k:Int)),some (aI p)] from rfl];unfold lawAt;by_cases z:s<p.1
  ·left;rw[if_pos z];have e:atB [some E,some (.int s),some (.int (k:Int)),some (aI p)]=.rt (.tuple [.int (k:Int),bg p.2,.int s]):=by unfold atB;simp only[aT,cK,dE,bR,aq,aw,cJ,Rs.ag,CK,part1,Ej,decide_eq_true z,Rs.ai,bB,aB,if_true,cq,jB,aA,aJ]
   simp only[e];rfl
  ·rw[if_neg z];have e:atB [some E,some (.int s),some (.int (k:Int)),some (aI p)]=.nx [some E,some (.int (s-p.1)),some (.int (k:Int)),some (aI p)]:=by unfold atB;simp only[aT,cK,dE,bR,aq,aw,cJ,Rs.ag,CK,Ej,decide_eq_false z,Rs.ai,bB,aB,N2,if_false,fX,jF,oE];rfl
   simp only[e];rcases Am r (k+1) (s-p.1) (some (.int (k:Int))) (some (aI p)) with h|⟨h1,a,b,c,h2⟩
   ·exact .inl h
   ·refine .inr ⟨?_,a,b,c,h2⟩;rw[h1,MW,show k+1+r.length=k+(r.length+1) by omega]
theorem law_at_of{e:Er}{s:Int}:dm cs [e.d,.int s]=.ok (A9 (lawAt e.parts 0 s)):=by
 show bo (kH cs [some e.d,some (.int s),none,none])=_;have a:kH cs=ay (cA [] (fw (af (g2 dIx (ae 0) #[15]) ah)) (cn [2,3]) atB) (bf (dS (af (gF bS (af (g2 dIx (ae 0) #[15]) ah)) (af (gC .none) (af #[1] ah))))):=rfl;have src:fw (af (g2 dIx (ae 0) #[15]) ah) (mask [] [some e.d,some (.int s),none,none])=.ok (pU 0 (e.parts.map aI)):=by rw[gp];simp only[pK,aA,aJ,bR,aq,cJ,Rs.ag,vi,Rs.ai,uh];unfold fD pU;refine congrArg (λf=>Rs.ok ((e.parts.map aI).mapIdx f)) ?_;funext i d;rw[Nl]
 rw[a,aT,jj,src,aB];rcases Am (E:=e.d) e.parts 0 s none none with h|⟨h1,y1,y2,y3,h2⟩
 ·rw[h];rfl
 ·rw[h2,h1];simp only[cq,jB,aA,aJ,fQ,bR,aq,cJ,Rs.ag,vi,rJ,M6,Rs.ai,aB,bx];unfold A9;rw[Nl];rfl
theorem Bz(x:Nat×Option Int×Int):eK (A9 x)=true:=by obtain⟨a,b,c⟩:=x;unfold A9 bg;cases b <;> simp[eK,j9]
def p8(E D:PyData)(sp:List Int)(rw:List PyData)(x4 x5 x6 x7:Option PyData):Ds:=[some E,some D,some (.list (sp.map PyData.int)),some (.list rw),x4,x5,x6,x7]
abbrev j8:Ds->Rs PyData:=g2 dIx (ae 4) #[1]
abbrev a8(cs:Cs):Ds->Rs PyData:=au (dm cs) (af (g2 dIx (ae 0) j8) (af (g2 dIx (ae 2) j8) ah))
def b8(cs:Cs):Ds->Sr:=sIf (gT (g1 ju (ae 4))) (ik [2,3] 3 (gC .none)) (ay (qU (cn [5,6,7]) (a8 cs))
 (ay (ik [2,3] 3 (dS (af j8 (af (g2 dIx (ae 4) #[0]) (af (ae 5) (af (ae 6) ah))))))
 (ay (lH 2 j8 (g2 aW (g2 dIx (ae 2) j8) #[0]))
 (sIf (gT (g2 dEq (g2 dIx (a8 cs) #[1]) (gF bS (af (g2 dIx (g2 dIx (ae 0) j8) #[15]) ah)))) (lH 2 j8 #[1]) aV))))
section
variable {E D:PyData}{sp:List Int}{rw:List PyData}{x5 x6 x7:Option PyData}{k:Int}
theorem ET{v:Int}{g:Ds->Rs PyData}(hi:i<sp.length)(b:g (p8 E D sp rw (some (.tuple [.int (i:Int),.int k])) x5 x6 x7)=.ok (.int v)):lH 2 j8 g (p8 E D sp rw (some (.tuple [.int (i:Int),.int k])) x5 x6 x7)=.nx (p8 E D (sp.set i v) rw (some (.tuple [.int (i:Int),.int k])) x5 x6 x7):=by
 have a:ixN (sp.map PyData.int).length (i:Int)=some i:=by unfold ixN;rw[if_pos (Ob i),if_pos (by rw[M6];omega),N7]
 show ofR (g (p8 E D sp rw (some (.tuple [.int (i:Int),.int k])) x5 x6 x7)) (λd=>match ixN (sp.map PyData.int).length (i:Int) with
   |some j=>if eK d then Sr.nx _ else Sr.no
   |none=>Sr.no)=_
 rw[b,a,aB];show Sr.nx _=_;unfold p8;rw[List.map_set];rfl
end
theorem Gz{D:PyData}{b:Jb}{sp:List Int}{rw:List PyData}(hi:i<es.length)(n:sp[i]?=some b.cur)(A:JOk tops b)(B:b.parts=(bZ es (i:Int)).parts)(hn:b.num=(i:Int))(hl:rw.length<1000000)(x5 x6 x7:Option PyData) :
  ∃e f j,b8 cs (p8 (ar es) D sp rw (some (cX b)) x5 x6 x7)=.nx (p8 (ar es) D (sp.set i b.next.cur) (rw++[.tuple [.int (i:Int),.int (b.job:Int),.int (b.part:Int),bg b.tool]]) (some (cX b)) e f j):=by
 have w:cX b=.tuple [.int (i:Int),.int (b.job:Int)]:=by unfold cX;rw[hn]
 rw[w];have l:i<sp.length:=(N0.mp n).1;have a1:dIx (ar es) (.int (i:Int))=some (bZ es (i:Int)).d:=iz (by omega) (by omega);have p:∀(c:List Int)(s:Int)(a:List PyData)(e f j:Option PyData),c[i]?=some s->g2 dIx (ae 2) j8 (p8 (ar es) D c a (some (.tuple [.int (i:Int),.int (b.job:Int)])) e f j)=.ok (.int s):=λc s a e f j h =>
  cR (x:=.list (c.map PyData.int)) (y:=.int (i:Int)) rfl rfl (lS (by rw[MP,h];rfl))
 have q:∀(c:List Int)(a:List PyData)(e f j:Option PyData),g2 dIx (ae 0) j8 (p8 (ar es) D c a (some (.tuple [.int (i:Int),.int (b.job:Int)])) e f j)=.ok (bZ es (i:Int)).d:=λc a e f j =>
  cR (x:=ar es) (y:=.int (i:Int)) rfl rfl a1
 have r:∀(c:List Int)(s:Int)(a:List PyData)(e f j:Option PyData),c[i]?=some s->a8 cs (p8 (ar es) D c a (some (.tuple [.int (i:Int),.int (b.job:Int)])) e f j)=.ok (A9 (lawAt b.parts 0 s)):=λc s a e f j h=>by refine eX (ds:=[(bZ es (i:Int)).d,.int s]) ?_ (by rw[B];exact law_at_of);rw[aA,q,Rs.ag,aA,p c s a e f j h,Rs.ag,aJ];rfl
 have C:qU (cn [5,6,7]) (a8 cs) (p8 (ar es) D sp rw (some (.tuple [.int (i:Int),.int (b.job:Int)])) x5 x6 x7)=.nx (p8 (ar es) D sp rw (some (.tuple [.int (i:Int),.int (b.job:Int)])) (some (.int (b.part:Int))) (some (bg b.tool)) (some (.int (b.spent:Int)))):=by unfold qU;rw[r sp b.cur rw x5 x6 x7 n,aB,if_pos (Bz _),Ik A];rfl
 have s2:ik [2,3] 3 (dS (af j8 (af (g2 dIx (ae 4) #[0]) (af (ae 5) (af (ae 6) ah))))) (p8 (ar es) D sp rw (some (.tuple [.int (i:Int),.int (b.job:Int)])) (some (.int (b.part:Int))) (some (bg b.tool)) (some (.int (b.spent:Int)))) =
   .nx (p8 (ar es) D sp (rw++[.tuple [.int (i:Int),.int (b.job:Int),.int (b.part:Int),bg b.tool]]) (some (.tuple [.int (i:Int),.int (b.job:Int)])) (some (.int (b.part:Int))) (some (bg b.tool)) (some (.int (b.spent:Int)))):=by
  show (if rw.length<1000000 then Sr.nx _ else Sr.no)=_;rw[if_pos hl];rfl
 generalize rw++[PyData.tuple [.int (i:Int),.int (b.job:Int),.int (b.part:Int),bg b.tool]]=a at s2 ⊢;have F:=ET (E:=ar es) (D:=D) (sp:=sp) (rw:=a) (k:=(b.job:Int)) (x5:=some (.int (b.part:Int))) (x6:=some (bg b.tool)) (x7:=some (.int (b.spent:Int))) (v:=b.cur+1) (g:=g2 aW (g2 dIx (ae 2) j8) #[0]) l (cR (p sp b.cur _ _ _ _ n) (y:=.int 1) rfl rfl);have t:(sp.set i (b.cur+1))[i]?=some (b.cur+1):=Ni l;obtain⟨m,to,o,hm,u⟩:∃m to o,lawAt b.parts 0 (b.cur+1)=(m,to,o)/\((m≠b.parts.length/\b.next.cur=b.cur+1)\/(m=b.parts.length/\b.next.cur=0)):=by
  rcases Gy A with⟨to,o,h1,h2,h3,h4⟩|⟨to,o,h1,h2,h3⟩
  ·exact⟨_,to,o,h1,.inl ⟨h2,h3⟩⟩
  ·exact⟨_,to,o,h1,h3⟩
 have G:gT (g2 dEq (g2 dIx (a8 cs) #[1]) (gF bS (af (g2 dIx (g2 dIx (ae 0) j8) #[15]) ah))) (p8 (ar es) D (sp.set i (b.cur+1)) a (some (.tuple [.int (i:Int),.int (b.job:Int)])) (some (.int (b.part:Int))) (some (bg b.tool)) (some (.int (b.spent:Int))))=.ok ((m:Int)==(b.parts.length:Int)):=by have g1:g2 dIx (a8 cs) #[1] (p8 (ar es) D (sp.set i (b.cur+1)) a (some (.tuple [.int (i:Int),.int (b.job:Int)])) (some (.int (b.part:Int))) (some (bg b.tool)) (some (.int (b.spent:Int))))=.ok (.int (m:Int)):=cR (r _ _ _ _ _ _ t) (y:=.int 0) rfl (by rw[hm];rfl);have z:g2 dIx (g2 dIx (ae 0) j8) #[15] (p8 (ar es) D (sp.set i (b.cur+1)) a (some (.tuple [.int (i:Int),.int (b.job:Int)])) (some (.int (b.part:Int))) (some (bg b.tool)) (some (.int (b.spent:Int))))=.ok (.tuple ((bZ es (i:Int)).parts.map aI)):=cR (q _ _ _ _ _) (y:=.int 3) rfl (vi _);rw[dE,bR,g1,Rs.ag,fQ,aA,z,Rs.ag,aJ,Rs.ag];simp only[rJ,M6,<-B,Rs.ai,Rs.ag,je,bB]
 refine⟨some (.int (b.part:Int)),some (bg b.tool),some (.int (b.spent:Int)),?_⟩;unfold b8;rw[cK,show gT (g1 ju (ae 4)) (p8 (ar es) D sp rw (some (.tuple [.int (i:Int),.int (b.job:Int)])) x5 x6 x7)=.ok false from rfl,aB,if_neg MQ,bI C,bI s2,bI F,cK,G,aB];rcases u with⟨h1,h2⟩|⟨h1,h2⟩
 ·rw[if_neg (by rw[beq_iff_eq];omega),h2];rfl
 ·rw[if_pos (by rw[beq_iff_eq,h1]),h2,ET (v:=0) (g:=gC (.int 0)) (by rw[List.length_set];exact l) rfl,List.set_set]
def rw8(q:Nat->Nat->Jb)(who:Nat->Option Nat)(i:Nat):PyData:=match who i with
 |some m=>.tuple [.int (m:Int),.int ((q m i).job:Int),.int ((q m i).part:Int),bg (q m i).tool]
 |none=>.none
def sp8(q:Nat->Nat->Jb)(n i:Nat):List Int:=(List.range n).map λm=>(q m i).cur
theorem uU{cs:Cs}{es:List Er}{tops D:PyData}{q:Nat->Nat->Jb}{who:Nat->Option Nat}(R:Trc tops es.length q who)(c:∀m,m<es.length->(q m 0).parts=(bZ es (m:Int)).parts){t:List PyData}{T:Nat}(h:T<1000000) (f:∀i,i<T->t[i]?=some (match who i with
    |some m=>cX (q m i)
    |none=>.none)) (hl:t.length=T) :
  ∀(d i:Nat)(x4 x5 x6 x7:Option PyData),i+d=T->∃r j l n,forL (aU 4) (b8 cs) (t.drop i) (p8 (ar es) D (sp8 q es.length i) ((List.range i).map (rw8 q who)) x4 x5 x6 x7)=.nx (p8 (ar es) D (sp8 q es.length T) ((List.range T).map (rw8 q who)) r j l n)
 |0,i,x4,x5,x6,x7,e=>by
  have:i=T:=by omega
  subst this;exact⟨x4,x5,x6,x7,by rw[NY (by omega)];rfl⟩
 |d+1,i,x4,x5,x6,x7,e=>by
  have hi:i<t.length:=by omega
  have h1:=f i (by omega);rw[M1 hi]at h1;rw[NP hi,Option.some.inj h1];have o:(List.range i).map (rw8 q who)++[rw8 q who i]=(List.range (i+1)).map (rw8 q who):=by rw[List.range_succ,Nk];rfl
  cases w:who i with
  |none =>
   have a:sp8 q es.length (i+1)=sp8 q es.length i:=MY λm hm=>by rw[R.off (NV.mp hm) (by rw[w];exact λz=>by cases z)]
   have g:rw8 q who i=.none:=by unfold rw8;rw[w]
   rw[d8 (δ1:=p8 (ar es) D (sp8 q es.length i) ((List.range i).map (rw8 q who)) (some .none) x5 x6 x7) (δ2:=p8 (ar es) D (sp8 q es.length (i+1)) ((List.range (i+1)).map (rw8 q who)) (some .none) x5 x6 x7) rfl (by rw[a,<-o,g];show (if ((List.range i).map (rw8 q who)).length<1000000 then Sr.nx _ else Sr.no)=_;rw[if_pos (by rw[M6,Od];omega)];rfl)]
   exact uU R c h f hl d (i+1) _ _ _ _ (by omega)
  |some m =>
   have hm:=R.lt w;have g:rw8 q who i=.tuple [.int (m:Int),.int ((q m i).job:Int),.int ((q m i).part:Int),bg (q m i).tool]:=by unfold rw8;rw[w]
   have a:sp8 q es.length (i+1)=(sp8 q es.length i).set m (q m i).next.cur:=Oh (by simp[sp8]) λk k1 k2=>by
    have s:k<es.length:=by simpa[sp8] using k1
    rw[List.getElem_set];by_cases z:m=k
    ·subst z;rw[if_pos rfl];simp[sp8,R.on w]
    ·rw[if_neg z];simp only[sp8,List.getElem_map,List.getElem_range];rw[R.off s (by rw[w];exact λy=>z (Option.some.inj y))]
   obtain⟨j,l,n,p⟩:=Gz (cs:=cs) (es:=es) (D:=D) (b:=q m i) (sp:=sp8 q es.length i) (rw:=(List.range i).map (rw8 q who)) (i:=m) hm (by simp[sp8,hm]) (R.ok i hm) (by rw[(R.stay hm i).1];exact c m hm) (R.num i hm) (by rw[M6,Od];omega) x5 x6 x7;rw[<-a,<-g,o]at p;rw[d8 (δ1:=p8 (ar es) D (sp8 q es.length i) ((List.range i).map (rw8 q who)) (some (cX (q m i))) x5 x6 x7) rfl p];exact uU R c h f hl d (i+1) _ _ _ _ (by omega)
def bL(cs:Cs):Gf:=gfG 2 6 (dq cs (dm cs))
theorem nH(cs:Cs):LLq (dq cs (dm cs)) 2 6 (bL cs):=gy
theorem rT{q:Nat->Nat->Jb}{who:Nat->Option Nat}(l6:es.length<=6)(R:Trc tops es.length q who)(hc:∀m,m<es.length->(q m 0).cur=0)(b:∀m,m<es.length->(q m 0).parts=(bZ es (m:Int)).parts){T:Nat}(c:T<1000000) (e:∀i,i<T->t[i]?=some (match who i with
    |some m=>cX (q m i)
    |none=>.none)) (hl:t.length=T):bL cs [ar es,.list t]=.ok (.list ((List.range T).map (rw8 q who))):=by
 show bo (dq cs (dm cs) [some (ar es),some (.list t),none,none,none,none,none,none])=_;obtain⟨f,g,h,j,a⟩:=uU (cs:=cs) (D:=.list t) R b c e hl T 0 none none none none (by omega);rw[List.drop_zero]at a;have l:eu [2,3] 2 (aX 8 (bh (ae 0)) bJ #[1] aG) [some (ar es),some (.list t),none,none,none,none,none,none]=.nx [some (ar es),some (.list t),some (.list ((sp8 q es.length 0).map PyData.int)),none,none,none,none,none]:=by
  have n:aX 8 (bh (ae 0)) bJ #[1] aG (mask [2,3] [some (ar es),some (.list t),none,none,none,none,none,none])=.ok ((es.map Er.d).map λ_=>.int 0):=ej rfl rfl (by rw[M6];omega) λd _=>rfl
  refine (uA (by decide:2<8) n).trans ?_;have:((es.map Er.d).map λ_=>PyData.int 0)=(sp8 q es.length 0).map PyData.int:=Oh (by simp[sp8]) λk k1 k2=>by
   have o:k<es.length:=by simpa using k1
   simp[sp8,hc k o]
  rw[this];rfl
 have s2:eu [2,3] 3 ah [some (ar es),some (.list t),some (.list ((sp8 q es.length 0).map PyData.int)),none,none,none,none,none]=.nx (p8 (ar es) (.list t) (sp8 q es.length 0) ((List.range 0).map (rw8 q who)) none none none none):=uA (by decide:3<8) rfl;have p:cA [2,3] (bh (ae 1)) (aU 4) (b8 cs) (p8 (ar es) (.list t) (sp8 q es.length 0) ((List.range 0).map (rw8 q who)) none none none none)=.nx (p8 (ar es) (.list t) (sp8 q es.length T) ((List.range T).map (rw8 q who)) f g h j):=(jq (ds:=t) rfl).trans a;have r:dq cs (dm cs)=ay (eu [2,3] 2 (aX 8 (bh (ae 0)) bJ #[1] aG)) (ay (eu [2,3] 3 ah) (ay (cA [2,3] (bh (ae 1)) (aU 4) (b8 cs)) (bf (ae 3)))):=rfl;rw[r,bI l,bI s2,bI p];rfl
theorem F4{xs:List PyData}{c l:Nat}:cutD xs (some (c:Int)) (some (l:Int))=(xs.drop c).take (l-c):=by
 unfold cutD;have e1:HT.sIx xs.length 0 (some (c:Int))=min c xs.length:=HT.pF _ _ _;have e2:HT.sIx xs.length xs.length (some (l:Int))=min l xs.length:=HT.pF _ _ _;rw[e1,e2];by_cases h:c<=xs.length
 ·rw[Nat.min_eq_left h,List.take_eq_take_iff,NW];omega
 ·rw[show min c xs.length=xs.length by omega,NY (My _),NY (by omega)];simp
def r8(a b c:Int)(o:Option Int):PyData:=.tuple [.int a,.int b,.int c,bg o]
def Is8(d:PyData):Prop:=d=.none\/∃a b c o,d=r8 a b c o
theorem oV{d:PyData}(h:Is8 d):aF d=true/\d.depth<=2/\d.canLay0=true/\PyData.eqv d d=true/\Spec.same d d=true:=by
 rcases h with rfl|⟨a,b,c,o,rfl⟩
 ·exact⟨rfl,by simp[PyData.depth],by simp[PyData.canLay0],by simp[PyData.eqv],by simp[Spec.same]⟩
 ·unfold r8;cases o with
  |none=>exact⟨rfl,by simp[PyData.depth,PyData.depthAll,bg],by simp[PyData.canLay0,PyData.canLayAll0,bg],by simp[PyData.eqv,PyData.eqvAll,bg],by simp[Spec.same,Spec.sameAll,bg]⟩
  |some t=>exact⟨rfl,by simp[PyData.depth,PyData.depthAll,bg],by simp[PyData.canLay0,PyData.canLayAll0,bg],by simp[PyData.eqv,PyData.eqvAll,bg],by simp[Spec.same,Spec.sameAll,bg]⟩
theorem Mm{d e:PyData}(h:Is8 d)(h':Is8 e):SeqAt.noMix d e=true:=by
 rcases h with rfl|⟨a,b,c,o,rfl⟩ <;> rcases h' with rfl|⟨a',b',c',o',rfl⟩
 ·simp[SeqAt.noMix]
 ·simp[SeqAt.noMix,r8]
 ·simp[SeqAt.noMix,r8]
 ·unfold r8;cases o <;> cases o' <;> simp[SeqAt.noMix,SeqAt.noMixAll,bg]
theorem Cq:∀{l:List PyData},(∀d∈l,d.depth<=2)->PyData.depthAll l<=2
 |[],_=>by simp[PyData.depthAll]
 |a::r,h=>by
  have h1:=h a M7;have h2:=Cq λd hd=>h d (M3 _ hd)
  simp only[PyData.depthAll];omega
theorem LM:∀{l:List PyData},(∀d∈l,d.canLay0=true)->PyData.canLayAll0 l=true
 |[],_=>by simp[PyData.canLayAll0]
 |a::r,h=>by simp[PyData.canLayAll0,h a M7,LM λd hd=>h d (M3 _ hd)]
theorem Mf(h:∀d∈t,Is8 d):aF (.list t)=true/\SeqAt.shaped (.list t)=true:=by
 have h1:=Cq λd hd=>(oV (h d hd)).2.1
 have h2:(PyData.list t).depth<=64:=by simp only[PyData.depth];omega
 have h3:=LM λd hd=>(oV (h d hd)).2.2.1
 exact⟨fo λd hd=>(oV (h d hd)).1,by simp[SeqAt.shaped,PyData.canLay0,h3,h2]⟩
theorem HW{d:PyData}(h:Is8 d):SeqAt.shaped d=true:=by obtain⟨_,h1,h2,_⟩:=oV h;unfold SeqAt.shaped;rw[h2,decide_eq_true (by omega)];rfl
theorem Mp(a:Spec.same x x=true):∀{l:List PyData},x∈l->Spec.countIn x l≠0:=by
 have pos:∀l:List PyData,0<=Spec.countIn x l:=λl=>by
  induction l with
  |nil=>simp[Spec.countIn]
  |cons y r ih=>simp only[Spec.countIn];split <;> omega
 intro l h
 induction l with
 |nil=>cases h
 |cons y r ih =>
  simp only[Spec.countIn];have:=pos r;rcases M8.mp h with rfl|h
  ·rw[if_pos a];omega
  ·have:=ih h;split <;> omega
theorem ne8(a:Is8 x):dNe x x=some (.bool false):=by unfold dNe;rw[(oV a).1,HW a,(oV a).2.2.2.1];rfl
theorem inT(x:Int)(ss:List Int):pz false (.int x) (ak ss)=some (.bool (decide (x∈ss))):=by
 show (if (gm (.int x)&&_)=true then some (PyData.bool (if false=true then _ else inD _ _)) else none)=_;rw[tm];have:∀l:List Int,inV (toV (.int x)) ((l.map PyData.int).map toV)=decide (x∈l):=λl=>by
  induction l with
  |nil=>rfl
  |cons y r ih =>
   rw[M5,M5];show (eqV (.int y) (.int x)||inV _ _)=_;rw[ih,show eqV (.int y) (.int x)=(y==x) from rfl];by_cases z:y=x
   ·subst z;simp
   ·simp[z,Ne.symm z]
 unfold inD;rw[this];rfl
def B1(a:List Int):PyData->Bool
 |.tuple (.int m::_)=>decide (m∈a)
 |_=>false
theorem xa{d:PyData}(h:d∈fD l):∃(i:Nat)(x:PyData),l[i]?=some x/\d=.tuple [.int (i:Int),x]:=by
 obtain⟨i,hi,e⟩:=Om h;have hl:i<l.length:=by rw[iV]at hi;exact hi
 refine⟨i,l[i],M1 hl,?_⟩;rw[<-e];simp[fD]
theorem j6{P:Ds->Prop}{tgt:PyData->Ds->Option Ds}{body:Ds->Sr}:∀{ds:List PyData},(∀d∈ds,∀δ,P δ->∃δ1 δ2,tgt d δ=some δ1/\body δ1=.nx δ2/\P δ2)->∀δ,P δ->∃a,forL tgt body ds δ=.nx a/\P a
 |[],_,δ,h=>⟨δ,rfl,h⟩
 |d::r,hs,δ,h=>by obtain⟨δ1,δ2,e1,e2,h2⟩:=hs d M7 δ h;rw[d8 e1 e2];exact j6 (λd' hd=>hs d' (M3 _ hd)) δ2 h2
def mj(a k:Int):PyData->Bool
 |.tuple [.int x,.int y]=>x==a&&y==k
 |_=>false
theorem FX{d:PyData}(h:d=.none\/∃b,d=cX b)(a k:Int):dEq d (.tuple [.int a,.int k])=some (.bool (mj a k d)):=by
 rcases h with rfl|⟨b,rfl⟩
 ·simp[dEq,aF,df,SeqAt.shaped,PyData.canLay0,PyData.canLayAll0,PyData.depth,PyData.depthAll,PyData.eqv,PyData.eqvAll,mj]
 ·unfold cX;simp[dEq,aF,df,SeqAt.shaped,PyData.canLay0,PyData.canLayAll0,PyData.depth,PyData.depthAll,PyData.eqv,PyData.eqvAll,mj]
theorem lF(a:cN n rs){m:Int}(c:0<=m)(e:m<n){p:Nat}:m∈rs.drop (p+1)↔p<placeOf rs m:=by
 have hm:=a.mem c e;have b:=tY hm;constructor
 ·intro h;obtain⟨i,hi⟩:=O1.mp h;rw[List.getElem?_drop]at hi;obtain⟨h1,e1⟩:=N0.mp hi;obtain⟨h2,e2⟩:=N0.mp b;have:=(OP a.nd (i:=p+1+i) (j:=placeOf rs m) (h₀:=h1) (h₁:=h2)).mp (by rw[e1,e2]);omega
 ·intro h;rw[O1];refine⟨placeOf rs m-(p+1),?_⟩;rw[List.getElem?_drop,show p+1+(placeOf rs m-(p+1))=placeOf rs m by omega];exact b
def w8(S E R C D W:PyData)(x6 x7 x8 c a b:Option PyData):Ds:=[some S,some E,some R,some C,some D,some W,x6,x7,x8,c,a,b]
def t8:Ds->Rs PyData:=g2 aW (g2 dIx (gL (aX 12 (fh (af (gF bS (af (ae 4) ah)) ah)) (gT (g2 dEq (g2 dIx (ae 4) (ae 12)) (dS (af (ae 7) (af (ae 9) ah))))) (ae 12) aG)) (g1 jV #[0])) #[0]
theorem K8{S E R C W:PyData}(hl:t.length<1000000)(o:∀d∈t,d=.none\/∃b,d=cX b){a k:Nat}(hi:t[i]?=some (.tuple [.int (a:Int),.int (k:Int)]))(x6 x8 c f:Option PyData) :
  ∃j,t[j]?=some (.tuple [.int (a:Int),.int (k:Int)])/\t8 (w8 S E R C (.list t) W x6 (some (.int (a:Int))) x8 (some (.int (k:Int))) c f)=.ok (.int ((j+1:Nat):Int)):=by
 generalize hp:(λd:PyData=>match d with
  |.int j=>mj (a:Int) (k:Int) (t[j.toNat]?.getD .none)
  |_=>false)=p
 have r:aX 12 (fh (af (gF bS (af (ae 4) ah)) ah)) (gT (g2 dEq (g2 dIx (ae 4) (ae 12)) (dS (af (ae 7) (af (ae 9) ah))))) (ae 12) aG (w8 S E R C (.list t) W x6 (some (.int (a:Int))) x8 (some (.int (k:Int))) c f)=.ok ((bG 0 t.length).filter p):=by
  refine jn rfl ?_ (by rw[dg];omega) λd hd=>⟨?_,rfl⟩
  ·have e1:(af (gF bS (af (ae 4) ah)) ah) (w8 S E R C (.list t) W x6 (some (.int (a:Int))) x8 (some (.int (k:Int))) c f)=.ok [.int (t.length:Int)]:=rfl;unfold fh;rw[e1,Rs.ag,jK (by omega) (by omega),N7]
  ·obtain⟨j,h,rfl⟩:∃j:Nat,j<t.length/\d=.int (j:Int):=by obtain⟨m,hm⟩:=O1.mp hd;obtain⟨h1,h2⟩:=fU hm;exact⟨m,h1,by rw[h2,OV]⟩
   have g:=M1 h;have e2:=FX (o _ (Na h)) (a:Int) (k:Int);have s:g2 dEq (g2 dIx (ae 4) (ae 12)) (dS (af (ae 7) (af (ae 9) ah))) (w8 S E R C (.list t) W x6 (some (.int (a:Int))) x8 (some (.int (k:Int))) c f++[some (.int (j:Int))])=_ :=
    cR (cR (x:=.list t) (y:=.int (j:Int)) rfl rfl (lS g)) (y:=.tuple [.int (a:Int),.int (k:Int)]) rfl e2
   rw[dE,s,<-hp];show Rs.ok _=Rs.ok (mj (a:Int) (k:Int) (t[((j:Nat):Int).toNat]?.getD .none));rw[N7,g];rfl
 have l:(bG 0 t.length).filter p≠[]:=by
  have n:=(N0.mp hi).1;refine O0 (a:=.int (i:Int)) (N3.mpr ⟨?_,?_⟩)
  ·unfold bG;exact MM.mpr ⟨i,NV.mpr n,by rw[OV]⟩
  ·rw[<-hp];show mj (a:Int) (k:Int) (t[((i:Nat):Int).toNat]?.getD .none)=true;rw[N7,hi];simp[mj]
 obtain⟨d,hd⟩:∃d,((bG 0 t.length).filter p).getLast?=some d:=by
  cases q:((bG 0 t.length).filter p).getLast? with
  |none=>exact (l (Ot.mp q)).elim
  |some d=>exact⟨d,rfl⟩
 obtain⟨h1,h2⟩:=N3.mp (List.mem_of_getLast? hd);obtain⟨j,h,rfl⟩:∃j:Nat,j<t.length/\d=.int (j:Int):=by obtain⟨m,hm⟩:=O1.mp h1;obtain⟨h1,h2⟩:=fU hm;exact⟨m,h1,by rw[h2,OV]⟩
 refine⟨j,?_,?_⟩
 ·rw[<-hp]at h2;have h2:mj (a:Int) (k:Int) (t[((j:Nat):Int).toNat]?.getD .none)=true:=h2;rw[N7,M1 h,OQ]at h2;rw[M1 h];rcases o _ (Na h) with e|⟨b,e⟩
  ·rw[e]at h2;cases h2
  ·rw[e]at h2 ⊢;unfold cX mj at h2;simp only[M9,beq_iff_eq]at h2;unfold cX;rw[h2.1,h2.2]
 ·unfold t8;refine cR (x:=.int (j:Int)) (y:=.int 1) (cR (x:=.list ((bG 0 t.length).filter p)) (y:=.int (-1)) (by rw[nV,r];rfl) rfl ?_) rfl rfl;show atI _ (-1)=_;rw[kO,hd]
theorem ni8(a:Is8 x)(hl:∀d∈l,Is8 d)(h:x∈l):uV x (.list l)=some (.bool false):=by obtain⟨n2,s2⟩:=Mf hl;show (if (aF x&&aF (.list l)&&SeqAt.shaped x&&SeqAt.shaped (.list l)&&l.all λz=>SeqAt.noMix z x)=true then some (PyData.bool (!decide (Spec.countIn x l≠0))) else none)=_;rw[(oV a).1,n2,HW a,s2,MX.mpr (λz b=>Mm (hl z b) a),decide_eq_true (Mp (oV a).2.2.2.2 h)];rfl
def bP(cs:Cs):Gf:=gfG 5 3 (fg cs)
theorem sg(cs:Cs):LLq (fg cs) 5 3 (bP cs):=gy
def o26(L a:PyData)(c l H:Int)(F:List PyData)(x6 x7:Option PyData):Ds:=[some L,some a,some (.int c),some (.int l),some (.int H),some (.list F),x6,x7]
def FI:Ds->Sr:=sIf (iN (cOr (gT (g2 dEq (g2 dIx (ae 7) #[1]) (g2 dIx (ae 6) #[1]))) (gT (g2 dEq (g2 dIx (ae 7) #[15]) (g2 dIx (ae 6) #[15])))) (gT (g2 dNe (ae 7) (ae 6)))) #[16] aV
def CH:Ds->Sr:=ay (sIf (cOr (gT (g1 ju (g2 dIx (ae 6) #[15]))) (gT (g2 uV (ae 6) (cy (ae 0) cw (c9 (ae 2)))))) #[16] aV)
 (cA [] (bh (ae 5)) (aU 7) FI)
theorem Ht{L:List PyData}(hL:∀d∈L,Is8 d)(few:L.length<=1000000){i:List Int}{c l:Nat}{H:Int}{F:List PyData}(I:((L.drop c).take (l-c)).filter (B1 i)=F)(hH:(F.length:Int)<=H)
  (h:∀d∈F,∃a b k T,d=r8 a b k (some T)/\d∈L.take c/\∀e∈F,∃j n p m,e=r8 j n p (some m)/\(j=a\/m=T->e=d)) :
  bP cs [.list L,ak i,.int (c:Int),.int (l:Int),.int H]=.ok (.bool true):=by
 show bo (fg cs [some (.list L),some (ak i),some (.int (c:Int)),some (.int (l:Int)),some (.int H),none,none,none])=_;have w:∀d∈(L.drop c).take (l-c),Is8 d:=λd hd=>hL d (Nt (O6 hd))
 have J:aN [] 5 #[31] [some (.list L),some (ak i),some (.int (c:Int)),some (.int (l:Int)),some (.int H),none,none,none]=.nx (o26 (.list L) (ak i) c l H F none none):=by
  refine cC (by decide:5<8) ?_;rw[gp,nV];have K:aX 8 (bh (cy (ae 0) (c9 (ae 2)) (c9 (ae 3)))) (iN (gT (g1 eE (ae 8))) (gT (g2 (pz false) (g2 dIx (ae 8) #[1]) (ae 1)))) (ae 8) aG [some (.list L),some (ak i),some (.int (c:Int)),some (.int (l:Int)),some (.int H),none,none,none]=.ok F:=by
   rw[<-I];refine jn (ds:=(L.drop c).take (l-c)) rfl ?_ (by rw[Of,NW];omega) λd hd=>⟨?_,rfl⟩
   ·simp only[nA,kF,mr,aq,aw,Rs.ag,mE,De,F4,Rs.ai,JG]
   ·rcases w d hd with rfl|⟨a,b,k,o,rfl⟩
    ·rfl
    ·have g:g2 (pz false) (g2 dIx (ae 8) #[1]) (ae 1) ([some (.list L),some (ak i),some (.int (c:Int)),some (.int (l:Int)),some (.int H),none,none,none]++[some (r8 a b k o)])=.ok (.bool (decide (a∈i))):=cR (x:=.int a) (y:=ak i) rfl rfl (inT a i);rw[qV,show gT (g1 eE (ae 8)) ([some (.list L),some (ak i),some (.int (c:Int)),some (.int (l:Int)),some (.int H),none,none,none]++[some (r8 a b k o)])=.ok true from rfl,Rs.ag,if_pos rfl,dE,g];rfl
  rw[K];rfl
 have s2:sIf (gT (g2 dGt (gF bS (af (ae 5) ah)) (ae 4))) #[16] aV (o26 (.list L) (ak i) c l H F none none)=.nx (o26 (.list L) (ak i) c l H F none none):=by
  have:gT (g2 dGt (gF bS (af (ae 5) ah)) (ae 4)) (o26 (.list L) (ak i) c l H F none none)=.ok false:=by rw[dE,cR (f:=dGt) (x:=.int (F.length:Int)) (y:=.int H) rfl rfl (GB _ _),decide_eq_false (by omega)];rfl
  rw[cK,this];rfl
 obtain⟨z,e,_⟩:=j6 (P:=λδ=>∃x6 x7,δ=o26 (.list L) (ak i) c l H F x6 x7) (tgt:=aU 6) (body:=CH) (ds:=F) (λd hd δ r=>by
  obtain⟨x6,x7,rfl⟩:=r;obtain⟨a,b,k,T,rfl,s,t⟩:=h d hd;have G:Is8 (r8 a b k (some T)):=.inr ⟨_,_,_,_,rfl⟩;obtain⟨δ2,e2,v,M⟩:=j6 (P:=λδ=>∃v,δ=o26 (.list L) (ak i) c l H F (some (r8 a b k (some T))) v) (tgt:=aU 7) (body:=FI) (ds:=F) (λd' A δ r=>by
   obtain⟨v,rfl⟩:=r;obtain⟨j,n,p,m,rfl,himp⟩:=t d' A;refine⟨_,_,rfl,?_,some (r8 j n p (some m)),rfl⟩;show FI #[24]=_;have N:gT (g2 dEq (g2 dIx (ae 7) #[1]) (g2 dIx (ae 6) #[1])) #[24]=.ok (j==a):=by rw[dE,cR (f:=dEq) (x:=.int j) (y:=.int a) rfl rfl (je j a)];rfl
   have B:gT (g2 dEq (g2 dIx (ae 7) #[15]) (g2 dIx (ae 6) #[15])) #[24]=.ok (m==T):=by rw[dE,cR (f:=dEq) (x:=.int m) (y:=.int T) rfl rfl (je m T)];rfl
   have C:cOr (gT (g2 dEq (g2 dIx (ae 7) #[1]) (g2 dIx (ae 6) #[1]))) (gT (g2 dEq (g2 dIx (ae 7) #[15]) (g2 dIx (ae 6) #[15]))) #[24]=.ok ((j==a)||(m==T)):=by rw[Ao,N,Rs.ag,B];cases (j==a) <;> rfl
   have u:iN (cOr (gT (g2 dEq (g2 dIx (ae 7) #[1]) (g2 dIx (ae 6) #[1]))) (gT (g2 dEq (g2 dIx (ae 7) #[15]) (g2 dIx (ae 6) #[15])))) (gT (g2 dNe (ae 7) (ae 6))) #[24]=.ok false:=by
    rw[qV,C,Rs.ag];cases q:((j==a)||(m==T)) with
    |false=>rfl
    |true =>rw[OG,beq_iff_eq,beq_iff_eq]at q;rw[if_pos rfl,himp q,dE,cR (f:=dNe) (x:=r8 a b k (some T)) (y:=r8 a b k (some T)) rfl rfl (ne8 G)];rfl
   unfold FI;rw[cK,u];rfl) #[14] ⟨x7,rfl⟩
  refine⟨o26 (.list L) (ak i) c l H F (some (r8 a b k (some T))) x7,δ2,rfl,?_,some (r8 a b k (some T)),v,M⟩
  ·show CH #[14]=_;have D:gT (g1 ju (g2 dIx (ae 6) #[15])) #[14]=.ok false:=by have B:g2 dIx (ae 6) #[15] #[14]=.ok (.int T):=cR (x:=r8 a b k (some T)) (y:=.int 3) rfl rfl rfl;rw[dE,gH,B];rfl
   have E:gT (g2 uV (ae 6) (cy (ae 0) cw (c9 (ae 2)))) #[14]=.ok false:=by
    have gs:cy (ae 0) cw (c9 (ae 2)) #[14]=.ok (.list (L.take c)):=by unfold o26;simp only[kF,mr,kP,aq,aw,Rs.ag,mE,De,IY,Rs.ai]
    rw[dE,cR (f:=uV) (x:=r8 a b k (some T)) rfl gs (ni8 G (λd hd=>hL d (O6 hd)) s)];rfl
   have sa:sIf (cOr (gT (g1 ju (g2 dIx (ae 6) #[15]))) (gT (g2 uV (ae 6) (cy (ae 0) cw (c9 (ae 2)))))) #[16] aV #[14]=.nx #[14]:=by rw[cK,Ao,D,Rs.ag,if_neg MQ,E];rfl
   unfold CH;rw[bI sa,jq (ds:=F) rfl,e2]) (o26 (.list L) (ak i) c l H F none none) ⟨none,none,rfl⟩
 have O:cA [] (bh (ae 5)) (aU 6) CH (o26 (.list L) (ak i) c l H F none none)=.nx z:=(jq (ds:=F) rfl).trans e;have Q:fg cs=ay (aN [] 5 #[31]) (ay (sIf (gT (g2 dGt (gF bS (af (ae 5) ah)) (ae 4))) #[16] aV) (ay (cA [] (bh (ae 5)) (aU 6) CH) (bf (gC (.bool true))))):=rfl;rw[Q,bI J,bI s2,bI O];rfl
section
variable {len:Str}
theorem E6(R:Ran es rs rows "asked")(C:Cms es rows)(f:lU es rs rows "asked"=some t) :
  ∃q who T,Trc (av es rs) es.length q who/\BR (av es rs) es.length q who/\JV es.length q/\(∀m,m<es.length->∃row,rows[m]?=some row/\q m 0=mkJ es rs m row)/\t.length=T/\T<1000000 /\
   (∀i,i<T->t[i]?=some (match who i with
    |some m=>cX (q m i)
    |none=>.none))/\∀m,m<es.length->(q m T).job=(q m T).row.length:=by
 have a:IvJ (av es rs) 0 #[19]:=EL R C;have hv:=CS R;have c:=EY R C;have hl:(startJ es rs rows).length=es.length:=by rw[hV,R.ln]
 have f:uo (av es rs) "asked" 1000000 (stJ (av es rs) "asked" #[19] 0)=some t:=f;obtain⟨T,_,h2,h3,j⟩:=zD 1000000 0 f;have g:=CP (len:="asked") a hv c;rw[hl]at g;refine⟨qJ (av es rs) "asked" #[19],rA (av es rs) "asked" #[19],T,g,?_,?_,λm hm=>?_,by rw[h3,fG],by omega,λi hi=>?_,λm hm=>?_⟩
 ·have hb:BR (av es rs) #[19].length (qJ (av es rs) "asked" #[19]) (rA (av es rs) "asked" #[19]):=Eh a hv c;rw[hl]at hb;exact @hb
 ·have ho:JV #[19].length (qJ (av es rs) "asked" #[19]):=JA a hv c;rw[hl]at ho;exact @ho
 ·have b:m<rows.length:=by rw[R.ln];exact hm
  refine⟨rows[m],M1 b,?_⟩;unfold qJ;show #[19].getD m default=_;rw[MT,kQ,M1 b];rfl
 ·rw[h3,E8 hi];cases w:rA (av es rs) "asked" #[19] i with
  |none =>
   unfold rA at w;split at w
   ·rename_i z;rw[if_pos z]
   ·cases w
  |some m =>obtain⟨_,z,e⟩:=i4 a hv c w;rw[if_neg z];show _=some (cX (qJ _ _ _ m i));rw[e]
 ·have h:m<(stJ (av es rs) "asked" #[19] T).1.length:=by rw[nh a hv,hl];exact hm
  rw[ia h];have:=MX.mp j _ (Na h);unfold Jb.done at this;have:=eq_of_beq this;omega
end
def i8(cs:Cs):Ds->Sr:=ay (aN [] 11 t8) (sIf (gA (gT (au (bP cs) (af (ae 5) (af (cy (ae 2) (c9 (g2 aW (ae 6) #[0])) cw) (af (ae 10) (af (ae 11) (af (ae 8) ah)))))))) #[16] aV)
def o8(cs:Cs):Ds->Sr:=ay (aN [] 8 (au (b9 cs) (af (ae 1) (af (ae 2) (af (ae 7) ah))))) (ay (sIf (gT (g2 dNe (ae 8) (au (bA cs) (af (ae 1) (af (ae 2) (af (ae 7) ah)))))) #[16] aV) (cA [] (fw (af (g2 dIx (ae 3) (ae 7)) ah)) (cn [9,10]) (i8 cs)))
theorem law_holds(cs:Cs)(ns:List Int):zR cs (bP cs) (bA cs) (b9 cs) (bL cs) (iQ cs) (cp cs) cj bE (some (aj ns)::List.replicate 11 none)=.rt (.bool true):=by
 obtain⟨es,rs,_,l1,l4,hok,N,hes,hrs⟩:=EC ns 12 28 #[2] #[2] #[2];have l6:es.length<=6:=by omega
 have ok:yt es:=⟨l1,l6,hok⟩
 obtain⟨rows,hcm,C⟩:=xP (cs:=cs) ok (ns:=ns) (a:=5) (span:=50) #[2] #[2];have R:Ran es rs rows "asked":=⟨ok,N,C.len,⟨wd⟩⟩
 obtain⟨t,O⟩:=Cc R C;have hrun:=ud (cs:=cs) R C O;obtain⟨q,who,T,J,Bk,Ok,h0,hlen,hT,D,hend⟩:=E6 R C O;have hst:∀{a:Nat}{row:List Int},rows[a]?=some row->a<es.length/\(q a 0).row=row:=λ{a row} h=>by
  have ha:a<es.length:=by rw[<-R.ln];exact (N0.mp h).1
  obtain⟨row',h',e⟩:=h0 a ha;rw[h]at h';cases h';rw[e];exact⟨ha,rfl⟩
 have G:∀m,m<es.length->(q m 0).parts=(bZ es (m:Int)).parts/\(q m 0).rank=(placeOf rs (m:Int):Int)/\(q m 0).spent=0/\(q m 0).tot=0/\(q m 0).cur=0:=λm hm=>by obtain⟨row,_,e⟩:=h0 m hm;rw[e];exact⟨rfl,rfl,rfl,m8 m row,rfl⟩
 have hpd:=rT (cs:=cs) l6 J (λm hm=>(G m hm).2.2.2.2) (λm hm=>(G m hm).1) hT D hlen;generalize hL:(List.range T).map (rw8 q who)=L at hpd;have hL8:∀d∈L,Is8 d:=λd hd=>by
  rw[<-hL]at hd;obtain⟨i,_,rfl⟩:=MM.mp hd;unfold rw8;split
  ·exact .inr ⟨_,_,_,_,rfl⟩
  ·exact .inl rfl
 have hLl:L.length=T:=by rw[<-hL];simp
 have htd:∀d∈t,d=.none\/∃b,d=cX b:=λd hd=>by
  obtain⟨i,hi,e⟩:=Om hd;have:=D i (by omega);rw[M1 hi,e]at this;rw[Option.some.inj this];split
  ·exact .inr ⟨_,rfl⟩
  ·exact .inl rfl
 -- a job's window
 have main:∀{a:Nat}{row:List Int}{k:Nat}(A:rows[a]?=some row)(Z:k<row.length){j:Nat},t[j]?=some (.tuple [.int (a:Int),.int (k:Int)])->bP cs [.list L,ak (rs.drop (placeOf rs (a:Int)+1)),.int row[k],.int ((j+1:Nat):Int),.int (eJ es rs (a:Int))]=.ok (.bool true):=λ{a row k} A Z {j} K=>by
  obtain⟨ha,er⟩:=hst A;have hjT:j<T:=by rw[<-hlen];exact (N0.mp K).1
  have hw:who j=some a/\(q a j).job=k:=by
   rw[D j hjT]at K;cases w:who j with
   |none=>rw[w]at K;cases K
   |some m =>
    rw[w]at K;have hm:=J.lt w;have K:cX (q m j)=.tuple [.int (a:Int),.int (k:Int)]:=Option.some.inj K;unfold cX at K;rw[J.num j hm]at K;injection K with K
    injection K with e1 e2
    injection e1 with e1
    injection e2 with e2
    injection e2 with e2
    have:m=a:=by omega
    subst this;exact⟨rfl,by omega⟩
  have c0:0<=row[k]:=(C.qc row (Nm A)).lo _ (Na Z);obtain⟨c,hc⟩:∃c:Nat,row[k]=(c:Int):=⟨row[k].toNat,by omega⟩
  rw[hc];have hkq:k<(q a 0).row.length:=by rw[er];exact Z
  have hck:(q a 0).row[k]=(c:Int):=by simp only[er];exact hc
  have hcut:((L.drop c).take (j+1-c))=(List.range' c (j+1-c)).map (rw8 q who):=by
   have:((List.range T).drop c).take (j+1-c)=List.range' c (j+1-c):=Oh (by simp;omega) λi h1 h2=>by simp
   rw[<-hL,<-OL,<-List.map_take,this]
  have M:∀u,c<=u->u<c+(j+1-c)->∃p,p<es.length/\(q p u).there (u:Int)=true/\(q p u).rank<=(placeOf rs (a:Int):Int):=λu h1 h2=>⟨a,ha,J.there_till ha hkq hw.2 (by rw[hck];omega) (by omega),by rw[(J.stay ha u).2.2,(G a ha).2.1];exact NN _⟩
  have h0s:∀m,m<es.length->(q m 0).spent=0:=λm hm=>(G m hm).2.2.1
  have Y:∀u,(B1 (rs.drop (placeOf rs (a:Int)+1))∘rw8 q who) u=true->∃m,who u=some m/\(placeOf rs (a:Int):Int)<(q m 0).rank:=λu h=>by
   have h:B1 (rs.drop (placeOf rs (a:Int)+1)) (rw8 q who u)=true:=h;unfold rw8 at h;cases w:who u with
   |none=>rw[w]at h;cases h
   |some m =>rw[w]at h;have hm:=J.lt w;have h:decide ((m:Int)∈rs.drop (placeOf rs (a:Int)+1))=true:=h;have:=(lF N (m:=(m:Int)) (by omega) (by omega) (p:=placeOf rs (a:Int))).mp (of_decide_eq_true h);exact⟨m,rfl,by rw[(G m hm).2.1];omega⟩
  have one:∀u∈(List.range' c (j+1-c)).filter (B1 (rs.drop (placeOf rs (a:Int)+1))∘rw8 q who),∃m T v,m<es.length/\rw8 q who u=r8 (m:Int) ((q m c).job:Int) ((q m c).part:Int) (some T)/\(q m c).held=some T/\v<c/\rw8 q who v=r8 (m:Int) ((q m c).job:Int) ((q m c).part:Int) (some T):=λu hu=>by
   obtain⟨h1,h2⟩:=N3.mp hu;have h1:=List.mem_range'_1.mp h1;obtain⟨m,w,hrk⟩:=Y u h2;obtain⟨H,v,hm,j1,j2,hB,htl,hv,hwv,v1,v2,htv⟩:=J.onceB Bk h0s M h1.1 h1.2 w hrk;refine⟨m,H,v,hm,?_,hB,hv,?_⟩
   ·unfold rw8 r8;rw[w];show PyData.tuple [_,_,_,bg (q m u).tool]=_;rw[htl,j1,j2]
   ·unfold rw8 r8;rw[hwv];show PyData.tuple [_,_,_,bg (q m v).tool]=_;rw[htv,v1,v2]
  have hcj:c<=j:=by have:=J.thr hw.1;unfold Jb.there at this;rw[(J.stay ha j).2.1,hw.2,M1 hkq,hck]at this;have:=of_decide_eq_true this;omega
  refine Ht hL8 (by omega) (F:=((List.range' c (j+1-c)).filter (B1 (rs.drop (placeOf rs (a:Int)+1))∘rw8 q who)).map (rw8 q who)) (by rw[hcut,List.filter_map]) ?_ (λd hd=>?_)
  ·rw[M6];have nd:(rs.drop (placeOf rs (a:Int)+1)).Nodup:=List.Nodup.sublist (List.drop_sublist _ _) N.nd;have Q:∀x∈rs.drop (placeOf rs (a:Int)+1),x∈rs/\0<=x/\x<es.length:=λx s=>⟨Nt s,N.rng x (Nt s)⟩
   have hcnt:=J.cntL (r:=(placeOf rs (a:Int):Int)) nd (λx s=>(Q x s).2) (λm hm h=>(lF N (m:=(m:Int)) (by omega) (by omega) (p:=placeOf rs (a:Int))).mpr (by rw[(G m hm).2.1]at h;omega)) Y (B:=c) (j+1-c);have each:∀x∈rs.drop (placeOf rs (a:Int)+1),0<=(q x.toNat (c+(j+1-c))).tot-(q x.toNat c).tot/\((q x.toNat (c+(j+1-c))).tot-(q x.toNat c).tot=0\/∃p∈(bZ es x).parts,∃T,p.2=some T/\tpB es rs (placeOf rs (a:Int)) T=true/\0<=T/\T<=3/\(q x.toNat (c+(j+1-c))).tot-(q x.toNat c).tot<=p.1-1/\(q x.toNat c).held=some T):=λx s=>by
    obtain⟨hxr,x0,x1⟩:=Q x s;obtain⟨m,rfl⟩:∃m:Nat,x=(m:Int):=⟨x.toNat,by omega⟩
    rw[N7];have hm:m<es.length:=by omega
    have hpl:=(lF N (m:=(m:Int)) (by omega) (by omega) (p:=placeOf rs (a:Int))).mp s;refine⟨by have:=J.mono hm (show c<=c+(j+1-c) by omega);omega,?_⟩;rcases J.low_oneB Bk hm (by rw[(G m hm).2.1];omega) (j+1-c) M with e|⟨p,p1,H,p2,p3,p4,p5⟩
    ·left;omega
    ·right;rw[(G m hm).1]at p1;obtain⟨t0,t3,h,hh⟩:=yd N hok hxr p1 p2;refine⟨p,p1,H,p2,?_,t0,t3,p4,p5⟩;have htop:k6 (av es rs) H=h:=by unfold k6;rw[jk t0 t3 hh]
     rw[htop]at p3;unfold tpB;rw[hh];exact decide_eq_true p3
   have b1:((rs.drop (placeOf rs (a:Int)+1)).map λx=>(q x.toNat (c+(j+1-c))).tot-(q x.toNat c).tot).sum<=md es rs (placeOf rs (a:Int)):=lT λx s=>by
    obtain⟨_,e|⟨p,p1,H,p2,p3,_,_,p4,_⟩⟩:=each x s
    ·rw[e];exact (tZ _).1
    ·refine Ov p4 ((tZ _).2.1 _ (MM.mpr ⟨p,N3.mpr ⟨p1,?_⟩,rfl⟩));unfold c1;rw[p2];exact p3
   have b2:((rs.drop (placeOf rs (a:Int)+1)).map λx=>(q x.toNat (c+(j+1-c))).tot-(q x.toNat c).tot).sum<=(([0,1,2,3]:List Int).map (iw es rs (placeOf rs (a:Int)))).sum:=by
    have hin:=Ah (ls:=rs.drop (placeOf rs (a:Int)+1)) (f:=λx=>(q x.toNat (c+(j+1-c))).tot-(q x.toNat c).tot) (g:=iw es rs (placeOf rs (a:Int))) (τ:=λx=>if (q x.toNat (c+(j+1-c))).tot-(q x.toNat c).tot=0 then none else (q x.toNat c).held) nd (λx s=>(each x s).1) (λt=>by
     unfold iw;split
     ·exact (tZ _).1
     ·exact NN 0) (λx s t O=>by
     obtain⟨_,e|⟨p,p1,H,p2,p3,_,_,p4,p5⟩⟩:=each x s
     ·rw[if_pos e]at O;cases O
     ·have ne:¬ (q x.toNat (c+(j+1-c))).tot-(q x.toNat c).tot=0:=λz=>by rw[if_pos z]at O;cases O
      rw[if_neg ne,p5]at O;cases O;unfold iw;rw[if_pos p3];exact Ov p4 ((tZ _).2.1 _ (OW.mpr ⟨x,s,MM.mpr ⟨p,N3.mpr ⟨p1,by rw[p2];exact beq_self_eq_true _⟩,rfl⟩⟩))) (λx s y hy t h1 h2=>by
     have ne1:¬ (q x.toNat (c+(j+1-c))).tot-(q x.toNat c).tot=0:=λz=>by rw[if_pos z]at h1;cases h1
     have ne2:¬ (q y.toNat (c+(j+1-c))).tot-(q y.toNat c).tot=0:=λz=>by rw[if_pos z]at h2;cases h2
     rw[if_neg ne1]at h1;rw[if_neg ne2]at h2;have hx':=Q x s;have hy':=Q y hy;have:=Ok (by omega) (by omega) h1 h2;omega) [0,1,2,3]
    refine Ov (lT λx s=>?_) hin;obtain⟨h1,e|⟨p,p1,H,p2,p3,t0,t3,p4,p5⟩⟩:=each x s
    ·rw[if_pos e];show _<=(0:Int);omega
    ·by_cases z:(q x.toNat (c+(j+1-c))).tot-(q x.toNat c).tot=0
     ·rw[if_pos z];show _<=(0:Int);omega
     ·rw[if_neg z,p5];have:H∈([0,1,2,3]:List Int):=by
       have:H=0\/H=1\/H=2\/H=3:=by omega
       rcases this with e|e|e|e <;> simp[e]
      show _<=(if H∈([0,1,2,3]:List Int) then _ else _);rw[if_pos this];exact NN _
   unfold eJ;show _<=(if _<_ then _ else _);split <;> omega
  ·obtain⟨u,hu,rfl⟩:=MM.mp hd;obtain⟨m,H,v,hm,e1,hB,hv,e2⟩:=one u hu;refine⟨_,_,_,H,e1,?_,λe he=>?_⟩
   ·rw[e1,<-e2,<-hL,<-List.map_take,List.take_range];exact MM.mpr ⟨v,NV.mpr (by omega),rfl⟩
   ·obtain⟨u',hu',rfl⟩:=MM.mp he;obtain⟨m',T2,v',hm',e1',hB',_,_⟩:=one u' hu';refine⟨_,_,_,T2,e1',λhor=>?_⟩;have:m'=m:=by
     rcases hor with h|h
     ·omega
     ·subst h;exact Ok hm' hm hB' hB
    subst this;rw[hB]at hB';cases hB';rw[e1,e1']
 -- the law's loops
 have inner:∀{a:Nat}{row:List Int},rows[a]?=some row->∀(x9 U X:Option PyData),∃I o l,cA [] (fw (af (g2 dIx (ae 3) (ae 7)) ah)) (cn [9,10]) (i8 cs) (w8 (aj ns) (ar es) (ak rs) (cmD rows) (.list t) (.list L) (some (.int (placeOf rs (a:Int):Int))) (some (.int (a:Int))) (some (.int (eJ es rs (a:Int)))) x9 U X) =
   .nx (w8 (aj ns) (ar es) (ak rs) (cmD rows) (.list t) (.list L) (some (.int (placeOf rs (a:Int):Int))) (some (.int (a:Int))) (some (.int (eJ es rs (a:Int)))) I o l):=λ{a row} A x9 U X=>by
  obtain⟨ha,er⟩:=hst A;have hix:dIx (cmD rows) (.int (a:Int))=some (dH row):=lS (by rw[MP,A];rfl);have src:fw (af (g2 dIx (ae 3) (ae 7)) ah) (mask [] (w8 (aj ns) (ar es) (ak rs) (cmD rows) (.list t) (.list L) (some (.int (placeOf rs (a:Int):Int))) (some (.int (a:Int))) (some (.int (eJ es rs (a:Int)))) x9 U X))=.ok (fD (row.map PyData.int)):=by rw[gp,pK,aA,cR (x:=cmD rows) (y:=.int (a:Int)) rfl rfl hix];rfl
  rw[jq src];obtain⟨δ',e,I,o,l,rfl⟩:=j6 (P:=λδ=>∃I o l,δ=w8 (aj ns) (ar es) (ak rs) (cmD rows) (.list t) (.list L) (some (.int (placeOf rs (a:Int):Int))) (some (.int (a:Int))) (some (.int (eJ es rs (a:Int)))) I o l) (tgt:=cn [9,10]) (body:=i8 cs) (ds:=fD (row.map PyData.int)) (λd hd δ hδ=>by
   obtain⟨I,o,l,rfl⟩:=hδ;obtain⟨k,x,s,rfl⟩:=xa hd;rw[MP]at s;obtain⟨Z,rfl⟩:∃Z:k<row.length,x=.int row[k]:=by
    by_cases z:k<row.length
    ·rw[M1 z]at s;exact⟨z,(Option.some.inj s).symm⟩
    ·rw[Ny (by omega)]at s;cases s
   obtain⟨i,hi,wi,ji⟩:=J.job_at (λm hm=>(G m hm).2.2.2.1) hend ha (k:=k) (by rw[er];exact Z);have hti:t[i]?=some (.tuple [.int (a:Int),.int (k:Int)]):=by rw[D i hi,wi];show some (cX (q a i))=_;unfold cX;rw[J.num i ha,ji]
   obtain⟨j,K,e8⟩:=K8 (S:=aj ns) (E:=ar es) (R:=ak rs) (C:=cmD rows) (W:=.list L) (by omega) htd hti (some (.int (placeOf rs (a:Int):Int))) (some (.int (eJ es rs (a:Int)))) (some (.int row[k])) l;have hm:=main A Z K;refine⟨_,w8 (aj ns) (ar es) (ak rs) (cmD rows) (.list t) (.list L) (some (.int (placeOf rs (a:Int):Int))) (some (.int (a:Int))) (some (.int (eJ es rs (a:Int)))) (some (.int (k:Int))) (some (.int row[k])) (some (.int ((j+1:Nat):Int))),rfl,?_,_,_,_,rfl⟩;have s1:aN [] 11 t8 (w8 (aj ns) (ar es) (ak rs) (cmD rows) (.list t) (.list L) (some (.int (placeOf rs (a:Int):Int))) (some (.int (a:Int))) (some (.int (eJ es rs (a:Int)))) (some (.int (k:Int))) (some (.int row[k])) l)=.nx (w8 (aj ns) (ar es) (ak rs) (cmD rows) (.list t) (.list L) (some (.int (placeOf rs (a:Int):Int))) (some (.int (a:Int))) (some (.int (eJ es rs (a:Int)))) (some (.int (k:Int))) (some (.int row[k])) (some (.int ((j+1:Nat):Int)))) :=
    cC (by show 11<12;decide) (by rw[gp];exact e8)
   show i8 cs (w8 (aj ns) (ar es) (ak rs) (cmD rows) (.list t) (.list L) (some (.int (placeOf rs (a:Int):Int))) (some (.int (a:Int))) (some (.int (eJ es rs (a:Int)))) (some (.int (k:Int))) (some (.int row[k])) l)=_;unfold i8;rw[bI s1];have g:au (bP cs) (af (ae 5) (af (cy (ae 2) (c9 (g2 aW (ae 6) #[0])) cw) (af (ae 10) (af (ae 11) (af (ae 8) ah))))) (w8 (aj ns) (ar es) (ak rs) (cmD rows) (.list t) (.list L) (some (.int (placeOf rs (a:Int):Int))) (some (.int (a:Int))) (some (.int (eJ es rs (a:Int)))) (some (.int (k:Int))) (some (.int row[k])) (some (.int ((j+1:Nat):Int))))=.ok (.bool true):=by
    refine eX ?_ hm;have gs:cy (ae 2) (c9 (g2 aW (ae 6) #[0])) cw (w8 (aj ns) (ar es) (ak rs) (cmD rows) (.list t) (.list L) (some (.int (placeOf rs (a:Int):Int))) (some (.int (a:Int))) (some (.int (eJ es rs (a:Int)))) (some (.int (k:Int))) (some (.int row[k])) (some (.int ((j+1:Nat):Int))))=.ok (ak (rs.drop (placeOf rs (a:Int)+1))):=by
     have:cutD (rs.map PyData.int) (some ((placeOf rs (a:Int):Int)+1)) none=(rs.drop (placeOf rs (a:Int)+1)).map PyData.int:=by rw[show ((placeOf rs (a:Int):Int)+1)=((placeOf rs (a:Int)+1:Nat):Int) by omega,pQ,OL]
     unfold w8 ak;simp only[kF,mr,kP,bR,cJ,aq,aw,Rs.ag,e9,Rs.ai,mE,yY,this]
    rw[aA,show ae 5 (w8 (aj ns) (ar es) (ak rs) (cmD rows) (.list t) (.list L) (some (.int (placeOf rs (a:Int):Int))) (some (.int (a:Int))) (some (.int (eJ es rs (a:Int)))) (some (.int (k:Int))) (some (.int row[k])) (some (.int ((j+1:Nat):Int))))=.ok (.list L) from rfl,Rs.ag,aA,gs];rfl
   rw[cK,rC,dE,g];rfl) _ ⟨x9,U,X,rfl⟩
  exact⟨I,o,l,e⟩
 have s1:aN [] 1 (au bE (af (ae 0) (af (gC (.int 12)) (af (gC (.int 4)) (af (gC (.int 28)) (af (gC (.bool true)) ah)))))) [some (aj ns),none,none,none,none,none,none,none,none,none,none,none]=.nx [some (aj ns),some (ar es),none,none,none,none,none,none,none,none,none,none]:=cC (by decide:1<12) (eX rfl hes);have s2:aN [] 2 (au cj (af (ae 0) (af #[1] (af (gF bS (af (ae 1) ah)) ah)))) [some (aj ns),some (ar es),none,none,none,none,none,none,none,none,none,none]=.nx [some (aj ns),some (ar es),some (ak rs),none,none,none,none,none,none,none,none,none]:=by refine cC (by decide:2<12) (eX (ds:=[aj ns,.int 0,.int (es.length:Int)]) ?_ hrs);show (af (ae 0) (af #[1] (af (gF bS (af (ae 1) ah)) ah))) [some (aj ns),some (ar es),none,none,none,none,none,none,none,none,none,none]=_;simp only[aA,aJ,fQ,aq,aw,cJ,Rs.ag,KP,Rs.ai]
 have s3:aN [] 3 (au (cp cs) (af (ae 0) (af (gC (.int 5)) (af (ae 1) (af (gC (.int 50)) ah))))) [some (aj ns),some (ar es),some (ak rs),none,none,none,none,none,none,none,none,none]=.nx [some (aj ns),some (ar es),some (ak rs),some (cmD rows),none,none,none,none,none,none,none,none]:=cC (by decide:3<12) (eX rfl hcm);have s4:aN [] 4 (au (iQ cs) (af (ae 1) (af (ae 2) (af (ae 3) (af (gC (.str "asked")) ah))))) [some (aj ns),some (ar es),some (ak rs),some (cmD rows),none,none,none,none,none,none,none,none]=.nx [some (aj ns),some (ar es),some (ak rs),some (cmD rows),some (.list t),none,none,none,none,none,none,none]:=cC (by decide:4<12) (eX rfl hrun);have s5:aN [] 5 (au (bL cs) (af (ae 1) (af (ae 4) ah))) [some (aj ns),some (ar es),some (ak rs),some (cmD rows),some (.list t),none,none,none,none,none,none,none]=.nx (w8 (aj ns) (ar es) (ak rs) (cmD rows) (.list t) (.list L) none none none none none none):=cC (by decide:5<12) (eX rfl hpd);obtain⟨δ',e,_⟩:=j6 (P:=λδ=>∃y6 y7 y8 I o l,δ=w8 (aj ns) (ar es) (ak rs) (cmD rows) (.list t) (.list L) y6 y7 y8 I o l) (tgt:=cn [6,7]) (body:=o8 cs) (ds:=fD (rs.map PyData.int)) (λd hd δ hδ=>by
  obtain⟨y6,y7,y8,I,o,l,rfl⟩:=hδ;obtain⟨p,x,s,rfl⟩:=xa hd;rw[MP]at s;obtain⟨hp,rfl⟩:∃hp:p<rs.length,x=.int rs[p]:=by
   by_cases z:p<rs.length
   ·rw[M1 z]at s;exact⟨z,(Option.some.inj s).symm⟩
   ·rw[Ny (by omega)]at s;cases s
  have hrg:=N.rng _ (Na hp);obtain⟨a,ea⟩:∃a:Nat,rs[p]=(a:Int):=⟨rs[p].toNat,by omega⟩
  have ha:a<es.length:=by omega
  have hpl:placeOf rs (a:Int)=p:=by have hg:=tY (N.mem (n:=(a:Int)) (by omega) (by omega));obtain⟨h2,e2⟩:=N0.mp hg;exact (OP N.nd (h₀:=h2) (h₁:=hp)).mp (by rw[e2,ea])
  have A:rows[a]?=some (rows[a]'(by rw[R.ln];exact ha)):=M1 _;obtain⟨z9,z10,z11,ei⟩:=inner A I o l;rw[hpl]at ei;refine⟨_,w8 (aj ns) (ar es) (ak rs) (cmD rows) (.list t) (.list L) (some (.int (p:Int))) (some (.int (a:Int))) (some (.int (eJ es rs (a:Int)))) z9 z10 z11,rfl,?_,_,_,_,_,_,_,rfl⟩
  ·rw[ea];show o8 cs (w8 (aj ns) (ar es) (ak rs) (cmD rows) (.list t) (.list L) (some (.int (p:Int))) (some (.int (a:Int))) y8 I o l)=_;have sh:aN [] 8 (au (b9 cs) (af (ae 1) (af (ae 2) (af (ae 7) ah)))) (w8 (aj ns) (ar es) (ak rs) (cmD rows) (.list t) (.list L) (some (.int (p:Int))) (some (.int (a:Int))) y8 I o l)=.nx (w8 (aj ns) (ar es) (ak rs) (cmD rows) (.list t) (.list L) (some (.int (p:Int))) (some (.int (a:Int))) (some (.int (eJ es rs (a:Int)))) I o l) :=
    cC (by show 8<12;decide) (eX rfl (by rw[Lq l1 l6 hok N (by omega) (by omega),AH N hok]))
   have sn:sIf (gT (g2 dNe (ae 8) (au (bA cs) (af (ae 1) (af (ae 2) (af (ae 7) ah)))))) #[16] aV (w8 (aj ns) (ar es) (ak rs) (cmD rows) (.list t) (.list L) (some (.int (p:Int))) (some (.int (a:Int))) (some (.int (eJ es rs (a:Int)))) I o l)=.nx (w8 (aj ns) (ar es) (ak rs) (cmD rows) (.list t) (.list L) (some (.int (p:Int))) (some (.int (a:Int))) (some (.int (eJ es rs (a:Int)))) I o l):=by rw[cK,dE,cR (f:=dNe) (x:=.int (eJ es rs (a:Int))) (y:=.int (eJ es rs (a:Int))) rfl (eX (ds:=[ar es,ak rs,.int (a:Int)]) rfl (Ju N l6 hok (by omega) (by omega))) (HC _ _),beq_self_eq_true];rfl
   unfold o8;rw[bI sh,bI sn];exact ei) _ ⟨none,none,none,none,none,none,rfl⟩
 have src:fw #[28] (mask [] (w8 (aj ns) (ar es) (ak rs) (cmD rows) (.list t) (.list L) none none none none none none))=.ok (fD (rs.map PyData.int)):=rfl;have s6:cA [] (fw #[28]) (cn [6,7]) (o8 cs) (w8 (aj ns) (ar es) (ak rs) (cmD rows) (.list t) (.list L) none none none none none none)=.nx δ':=(jq src).trans e;unfold o8 i8 t8 at s6;unfold zR;show ay _ _ [some (aj ns),none,none,none,none,none,none,none,none,none,none,none]=_;rw[bI s1,bI s2,bI s3,bI s4,bI s5,bI s6];rfl
theorem LV(cs:Cs):LLq (zR cs (bP cs) (bA cs) (b9 cs) (bL cs) (iQ cs) (cp cs) cj bE) 1 11 (f9 63):=lawT_of (law_holds cs)
end RS
namespace L2
open PySem PySem.Spec PyProof.Rows
section
variable {E:XK}
end
end L2
set_option maxHeartbeats 4000000
namespace L2
open PySem PySem.Spec PyProof.Rows
def ndB:List Str->Bool
 |[]=>true
 |x::r=>!r.elem x&&ndB r
theorem vn:∀{l:List Str},ndB l=true->l.Nodup
 |[],_=>OI
 |x::r,h=>by simp only[ndB,M9,OM]at h;exact Nc.mpr ⟨λz=>(by have:=List.elem_eq_true_of_mem z;rw[h.1]at this;cases this),vn h.2⟩
section
variable {k n':Nat}{m:Str}
def AtX(X:Cx)(P:Program)(w:World)(K:PySem.W.Frag)(mg:Str->Option Value)(base:Heap):Prop:=X.prog=P/\X.w=w/\X.K=K/\X.mg=mg/\X.base=base
theorem iO.to(h:iO P w K mg base k x n gf)(a:AtX X P w K mg base)(hn:n=n'):iO X.prog X.w X.K X.mg X.base k x n' gf:=by obtain⟨rfl,rfl,rfl,rfl,rfl⟩:=a;subst hn;exact h
theorem iZ.to(h:iZ P w K mg base k C m n gf)(a:AtX X P w K mg base)(hn:n=n'):iZ X.prog X.w X.K X.mg X.base k C m n' gf:=by obtain⟨rfl,rfl,rfl,rfl,rfl⟩:=a;subst hn;exact h
theorem jY.to(h:jY P w K mg base k C m g)(a:AtX X P w K mg base):jY X.prog X.w X.K X.mg X.base k C m g:=by obtain⟨rfl,rfl,rfl,rfl,rfl⟩:=a;exact h
theorem rq.to{l:List Str}(h:rq P w K mg base k x C l)(a:AtX X P w K mg base):rq X.prog X.w X.K X.mg X.base k x C l:=by obtain⟨rfl,rfl,rfl,rfl,rfl⟩:=a;exact h
end
def yV(K:PySem.W.Frag)(C:Addr)(m q:Str)(st:Stmt)(ps:List Str):Prop:=∃f fd,Fun K m q st f fd/\Binds K fd ps []/\Meth K C m f
def LG(K:PySem.W.Frag)(C:Addr)(q:Str)(st:Stmt)(ps:List Str):Prop:=∃f fd,Mk K C f/\Fun K "__init__" q st f fd/\Binds K fd ps []
end L2
namespace RS
open PySem PySem.Spec PyProof.Rows L2
theorem A1(d:α){us:List α}(h:us.length=n):∃f:Nat->α,us=(List.range n).map f :=
 ⟨λi=>us.getD i d,Oh (by simp[h]) λi h1 h2=>by simp[MT,M1 h1]⟩
section
variable {m q:Str}{G:Ds->Sr}{gf:Gf}
abbrev Bod(P:Program)(w:World)(K:PySem.W.Frag)(mg:Str->Option Value)(base:Heap)(q:Str)(st:Stmt)(k:Nat)(O:List Nat)(N:List Str)(G:Ds->Sr):Prop:=∀(f:Addr)(cdv:Value)(A:Around)(outer:List Env)(s:Shared)(H:Hp)(E:XK),N.Nodup->cm k (A.deeper (envOfC q (aE st) s.heap.objs.size f cdv))->PBD (dF (CXW P w) P w K mg base N q (aE st) f cdv A outer s H E) E O (cf st) G
theorem dA(P:Program)(w:World)(base:Heap)(k:Nat)(O:List Nat)(N:List Str)(h:bQ K mg x st ps)(a:∀ds,ds.length=ps.length->gf ds≠.no->bo (G #[7])=gf ds)
  (body:Bod P w K mg base x st k O N G) (S:dk N ps (aE st):=by exact⟨rfl,rfl,rfl,by decide +kernel,rfl,by decide +kernel,by decide +kernel⟩) (c:∀i∈O,ps.length<=i:=by decide):iO P w K mg base (k+1) x ps.length gf:=by
 obtain⟨f,fd,F,b,m⟩:=h;exact iO.of F S b m c (λcdv A outer s H E=>body f cdv A outer s H E S.nd) a
theorem dM(P:Program)(w:World)(base:Heap)(k:Nat)(O:List Nat)(N:List Str)(h:yV K C m q st ps)(cl:Cls K C)(a:∀ds,ds.length=ps.length->gf ds≠.no->bo (G #[7])=gf ds)
  (body:Bod P w K mg base q st k O N G) (S:dk N ps (aE st):=by exact⟨rfl,rfl,rfl,by decide +kernel,rfl,by decide +kernel,by decide +kernel⟩) (c:∀i∈O,ps.length<=i:=by decide):iZ P w K mg base (k+1) C m ps.length gf:=by
 obtain⟨f,fd,F,b,hm⟩:=h;exact iZ.of F S b cl hm c (λcdv A outer s H E=>body f cdv A outer s H E S.nd) a
theorem dK(k:Nat)(N:List Str){p:Str}{G:List Addr->Ds->Sr}(h:yV K C m q st [p])(cl:Cls K C)(e:∀a fds c,gM fds=true->fds.length<1000->g fds=some c->∃δ,G [a] (some (cB C a fds)::List.replicate (N.length-1) none)=.nx δ/\δ[0]?=some (some (cB C a c)))
  (body:∀(as:List Addr)(f:Addr)(cdv:Value)(A:Around)(outer:List Env)(s:Shared)(H:Hp)(E:XK),N.Nodup->cm k (A.deeper (envOfC q (aE st) s.heap.objs.size f cdv))->PBN as (dF (CXW P w) P w K mg base N q (aE st) f cdv A outer s H E) E [] (cf st) (G as)) (S:dk N [p] (aE st):=by exact⟨rfl,rfl,rfl,by decide +kernel,rfl,by decide +kernel,by decide +kernel⟩):jY P w K mg base (k+1) C m g:=by
 obtain⟨f,fd,F,b,hm⟩:=h;exact jY.of F S b cl hm (λas cdv A outer s H E=>body as f cdv A outer s H E S.nd) e
theorem dT(k:Nat)(O:List Nat)(N:List Str)(h:bQ K mg x st ps)(hm:∀g,PySem.W.nsIn K mainGlobals x=some (some (.ref g))->mg x=some (.ref g))(a:GO K x)(hB:oU mg base)(hK:K.In base)(e:∀ds,ds.length=ps.length->gf ds≠.no->bo (G #[7])=gf ds)
  (body:∀(f:Addr)(cdv:Value)(A:Around)(outer:List Env)(s:Shared)(H:Hp)(E:XK),N.Nodup->cm k (A.deeper (envOfC x (aE st) s.heap.objs.size f cdv))->∀c j,CF (dF (CXW P w) P w K mg base N x (aE st) f cdv A outer s H E) c j->PBD (dF (CXW P w) P w K mg base N x (aE st) f cdv A outer s H E) E O (cf st) G) (S:dk N ps (aE st):=by exact⟨rfl,rfl,rfl,by decide +kernel,rfl,by decide +kernel,by decide +kernel⟩) (l:∀i∈O,ps.length<=i:=by decide) (n:x∈mq:=by decide) (o:∀(f L:Addr)(cdv:Value),(envOfC x (aE st) L f cdv).qual++"<lambda>"=x++".<locals>.<lambda>":=by exact λ_ _ _=>rfl):iO P w K mg base (k+1) x ps.length gf:=by
 obtain⟨f,fd,F,b,m⟩:=h;exact iO.ofL F S b m l n hm a hB hK (o f) (λcdv A outer s H E=>body f cdv A outer s H E S.nd) e
theorem dL(k:Nat)(O:List Nat)(N:List Str)(F:Fun K x x st f fd)(a:∀ds,ds.length=ps.length->gf ds≠.no->bo (G #[7])=gf ds)
  (body:Bod P w K mg base x st k O N G) (S:dk N ps (aE st):=by exact⟨rfl,rfl,rfl,by decide +kernel,rfl,by decide +kernel,by decide +kernel⟩) (b:∀i∈O,ps.length<=i:=by decide):gU P w K mg base (CXW P w) (k+1) f fd ps (spD K ps.length gf) :=
 Ak F S b (λcdv A outer s H E=>body f cdv A outer s H E S.nd) a
end
end RS
set_option maxHeartbeats 0
namespace RS
open PySem PySem.Spec PyProof.Rows L2
def top(i:Nat):Stmt:=PySem.Challenge.pw_ranksure_k26_whole_asked.main.body.getD i (.Pass ⟨0,0,0,0⟩)
structure pX(K:PySem.W.Frag)(C:Addr):Prop where
 cl:Cls K C
 na:∀f∈["number", "part", "tool", "times"],fF K C f
 mi:LG K C "Holding.__init__" (inClass (top 40) 0) ["self", "number", "part", "tool", "times"]
structure zC(K:PySem.W.Frag)(C:Addr):Prop where
 cl:Cls K C
 na:∀f∈["number", "parts", "rank", "row", "job", "part", "spent"],fF K C f
 mi:LG K C "Jobs.__init__" (inClass (top 32) 0) ["self", "number", "parts", "rank", "row"]
 mt_Jobs_are_done:yV K C "are_done" "Jobs.are_done" (inClass (top 32) 1) ["self"]
 mt_Jobs_is_there:yV K C "is_there" "Jobs.is_there" (inClass (top 32) 2) ["self", "time"]
 mt_Jobs_held:yV K C "held" "Jobs.held" (inClass (top 32) 3) ["self"]
 mt_Jobs_wanted:yV K C "wanted" "Jobs.wanted" (inClass (top 32) 4) ["self"]
 mt_Jobs_go_on:yV K C "go_on" "Jobs.go_on" (inClass (top 32) 5) ["self"]
structure Tx(K:PySem.W.Frag)(mg:Str->Option Value)(cs:Cs):Prop where
 f_is_whole:bQ K mg "is_whole" (top 14) ["thing", "least", "most"]
 f_is_tuple:bQ K mg "is_tuple" (top 15) ["thing", "fewest", "most"]
 f_is_part:bQ K mg "is_part" (top 16) ["thing"]
 f_are_parts:bQ K mg "are_parts" (top 17) ["thing"]
 f_is_errand:bQ K mg "is_errand" (top 18) ["thing"]
 f_checked:bQ K mg "checked" (top 19) ["errands"]
 f_checked_ranks:bQ K mg "checked_ranks" (top 20) ["errands", "ranks"]
 f_checked_number:bQ K mg "checked_number" (top 21) ["errands", "number"]
 f_check_place:bQ K mg "check_place" (top 22) ["errands", "ranks", "number"]
 f_has_tool:bQ K mg "has_tool" (top 23) ["errand", "tool"]
 f_height:bQ K mg "height" (top 24) ["errands", "ranks", "tool"]
 f_heights_of:bQ K mg "heights_of" (top 25) ["errands", "ranks"]
 f_have_moments:bQ K mg "have_moments" (top 29) ["errand", "row"]
 f_is_row:bQ K mg "is_row" (top 30) ["errand", "thing"]
 f_checked_comings:bQ K mg "checked_comings" (top 31) ["errands", "comings"]
 f_height_by_high:bQ K mg "height_by_high" (top 33) ["jobs", "tops"]
 f_holder:bQ K mg "holder" (top 34) ["there", "tool"]
 f_lent_ranks:bQ K mg "lent_ranks" (top 35) ["there"]
 f_picked:bQ K mg "picked" (top 36) ["there", "tops", "lending"]
 f_run_of:bQ K mg "run_of" (top 37) ["errands", "ranks", "rows", "lending"]
 f_run:bQ K mg "run" (top 38) ["errands", "ranks", "comings", "lending"]
 f_holdings:bQ K mg "holdings" (top 41) ["errands", "ranks", "number"]
 f_sum_of_greatest:bQ K mg "sum_of_greatest" (top 42) ["pairs"]
 f_hold_by_asked:bQ K mg "hold_by_asked" (top 43) ["errands", "ranks", "number"]
 f_hold_asked:bQ K mg "hold_asked" (top 44) ["errands", "ranks", "number"]
 f_law_cell_at:bQ K mg "_law_cell_at" (top 46) ["_law_script", "_law_k"]
 f_law_mixed:bQ K mg "_law_mixed" (top 47) ["_law_script", "_law_k", "_law_many"]
 f_law_errand:bQ K mg "_law_errand" (top 48) ["_law_script", "_law_at_here", "_law_top", "_law_tools"]
 f_law_errands:bQ K mg "_law_errands" (top 49) ["_law_script", "_law_at_here", "_law_most", "_law_top", "_law_tools"]
 f_law_ranks:bQ K mg "_law_ranks" (top 50) ["_law_script", "_law_at_here", "_law_many"]
 f_law_coming_row:bQ K mg "_law_coming_row" (top 51) ["_law_script", "_law_at_here", "_law_errand_here", "_law_span"]
 f_law_comings:bQ K mg "_law_comings" (top 52) ["_law_script", "_law_at_here", "_law_errands_here", "_law_span"]
 f_law_at:bQ K mg "_law_at" (top 53) ["_law_errand_here", "_law_spent"]
 f_law_parts_done:bQ K mg "_law_parts_done" (top 54) ["_law_errands_here", "_law_done"]
 f_law_heights:bQ K mg "_law_heights" (top 55) ["_law_errands_here", "_law_ranks_here"]
 f_law_hold_asked:bQ K mg "_law_hold_asked" (top 56) ["_law_errands_here", "_law_ranks_here", "_law_number"]
 f_law_is_once:bQ K mg "_law_is_once" (top 57) ["_law_rows", "_law_lower", "_law_come", "_law_last", "_law_most"]
 f_law:bQ K mg "law" (top 58) ["_law_script"]
 bs:∀x∈["all", "bool", "enumerate", "int", "isinstance", "len", "list", "max", "min", "range", "set", "sum", "tuple", "zip"],mg x=none
 cst:∀q∈([("LAST_COMING",9999),("LEAST_EVERY",2),("MOST_COMINGS",60),("MOST_ERRANDS",6),("MOST_EVERY",60),("MOST_LATE",20),("MOST_LENGTH",20),("MOST_PARTS",4),("TOOLS",4)]:List (Str×Int)),∃t,mg q.1=some (.int q.2 t)
 e_NoComings:rR K mg "NoComings" cs.NoComings
 e_NoErrand:rR K mg "NoErrand" cs.NoErrand
 e_NoErrands:rR K mg "NoErrands" cs.NoErrands
 e_NoRanks:rR K mg "NoRanks" cs.NoRanks
 m_Holding:mg "Holding"=some (.ref cs.Holding)
 k_Holding:pX K cs.Holding
 m_Jobs:mg "Jobs"=some (.ref cs.Jobs)
 k_Jobs:zC K cs.Jobs
 tb_picked:GO K "picked"
 nm_picked:∀g,PySem.W.nsIn K mainGlobals "picked"=some (some (.ref g))->mg "picked"=some (.ref g)
structure Ty(K:PySem.W.Frag)(mg:Str->Option Value)(cs:Cs)(base:Heap):Prop extends Tx K mg cs where
 hB:oU mg base
 hK:K.In base
section
theorem yF:dk ["_law_script", "_law_k"] ["_law_script", "_law_k"] (aE (top 46)):=⟨rfl,rfl,rfl,by decide +kernel,rfl,by decide +kernel,by decide +kernel⟩
theorem yM(F:Fun K "_law_cell_at" "_law_cell_at" (top 46) f fd)(bl:mg "len"=none):gU P w K mg base CX0 1 f fd ["_law_script", "_law_k"] (C9 K):=by
 refine F.ok yF (λvs H Q E h=>?_) (λcdv A outer s H vs Q E l h=>?_)
 ·obtain⟨a,ns,k,rfl,_⟩:=h;rfl
 ·obtain⟨a,ns,k,rfl,e,m,g⟩:=h;refine⟨_,cO (An (yk (KO (pv 1) (gz jl rfl bl PySem.boot_len (eV (pv 0) gJ)))) (iC (p6 (B4 u9 (pv 0) (pv 1) (λ_ _=>rfl)))) vf)
   (cO (An (iF (xX l.units) (pv 0) (xK gJ) (jf _)) (iC (p6 gE)) vf)
   (iC (p6 (fu nv (fu mX (B4 u9 (pv 0) (fu rE (pv 1) (gz jl rfl bl PySem.boot_len (eV (pv 0) gJ))) (λ_ _=>rfl)) gE) (pv 1))))),?_⟩
  refine⟨_,rfl,_,rfl,a,_,rfl,.inl e,k,_,rfl,rfl,_,rfl,?_⟩;have hlen:(ns.map V.int).length=ns.length:=M6 ..;rw[hlen];refine KS (λhc=>?_) (λhc=>?_)
  ·have hc:k<(ns.length:Int):=of_decide_eq_true hc;have hi:k.toNat<ns.length:=by omega
   refine⟨_,rfl,_,rfl,a,_,k,.int (ns.getD k.toNat 0),rfl,rfl,e,vA m ?_,?_⟩
   ·rw[MP,M1 hi,MT,M1 hi];rfl
   ·have:=g H (ax.refl H);rw[show cellAt ns k=ns.getD k.toNat 0 by unfold cellAt;rw[if_pos hc]]at this;exact this
  ·have hc:¬ k<(ns.length:Int):=λz=>hc (decide_eq_true z)
   refine⟨_,rfl,NC _,λp i=>⟨.list (ns.map .int),.list [],(uO e (sZ ns)).same (iq i),uO (SqL.of aH) qh,shaped_ints ns,xY,_,rfl,?_⟩⟩;rw[Cd];refine KS (λb=>?_) (λb=>?_)
   ·have b:ns=[]:=of_decide_eq_true b;have:=g _ (iq (o:=.lst []) i);rw[show cellAt ns k=0 by unfold cellAt;rw[if_neg hc,if_pos b]]at this;exact this
   ·have b:¬ ns=[]:=λz=>b (decide_eq_true z)
    have c:0<(ns.length:Int):=by
     cases ns with
     |nil=>exact absurd rfl b
     |cons _ _=>simp
    have h1:0<=k % (ns.length:Int):=NR _ (by omega);have h2:k % (ns.length:Int)<(ns.length:Int):=NZ _ c;have hi:(k % (ns.length:Int)).toNat<ns.length:=by omega
    have j:ax H (upd H p (.lst [])):=iq i;refine⟨_,rfl,_,rfl,_,rfl,a,_,rfl,.inl (j.seq e),_,_,rfl,rfl,by rw[hlen];exact c,a,_,_,.int (ns.getD (k % (ns.length:Int)).toNat 0),rfl,rfl,j.seq e,?_,_,_,rfl,rfl,.inr ⟨by decide,by decide⟩,_,rfl,_,_,rfl,rfl,?_⟩
    ·rw[hlen];refine vA h1 ?_;rw[MP,M1 hi,MT,M1 hi];rfl
    ·have:=g _ j;rw[show cellAt ns k=ns.getD (k % (ns.length:Int)).toNat 0*31+k by unfold cellAt;rw[if_neg hc,if_neg b]]at this;exact this
theorem wq:dk ["_law_script", "_law_k", "_law_many", "_law_drawn"] ["_law_script", "_law_k", "_law_many"] (aE (top 47)):=⟨rfl,rfl,rfl,by decide +kernel,rfl,by decide +kernel,by decide +kernel⟩
theorem CB{b:FuncData}(F:Fun K "_law_mixed" "_law_mixed" (top 47) f fd)(e:Fun K "_law_cell_at" "_law_cell_at" (top 46) c b)(g:Binds K b ["_law_script", "_law_k"] [])(j:mg "_law_cell_at"=some (.ref c))(bl:mg "len"=none):gU P w K mg base CX0 2 f fd ["_law_script", "_law_k", "_law_many"] (HD K):=by
 have l:gU P w K mg base CX0 1 c b _ (C9 K):=yM e bl;refine F.ok wq (λvs H Q E h=>?_) (λcdv A outer s H vs Q E m h=>?_)
 ·obtain⟨a,ns,k,many,rfl,_⟩:=h;rfl
 ·obtain⟨a,ns,k,many,rfl,n,o,hm,p⟩:=h;refine⟨_,cO (qX (i:=3) wq.nd rfl (Or.inl rfl) (fu rE (fu mX (fu nv (fu nv (zV l m rfl j e.kp g .nil KJ (eV (pv 0) (eV (pv 1) gJ))) (fu mX gE (pv 1))) gE) gE) gE))
   (iC (p6 (fu rE (fu rE (fu nv (fu nv (fu mX (pv 3) (pv 3)) (fu mX gE (pv 3))) (pv 1)) gE) (pv 2)))),?_⟩
  refine⟨_,rfl,_,rfl,a,ns,k,rfl,n,o,λH1 q=>?_⟩;refine⟨_,rfl,_,_,rfl,rfl,.inl ⟨by decide,by decide⟩,_,_,rfl,rfl,_,_,rfl,rfl,_,_,rfl,rfl,.inr ⟨by decide,by decide⟩,_,_,rfl,rfl,(by show (0:Int)<2147483647;decide),?_⟩;have b1:=Hl ns k;have b2:=Hf ns k;have eD:(cellAt ns k+7919*k+1)*48271 % 2147483647=BX ns k:=rfl;refine⟨_,rfl,_,rfl,_,_,rfl,rfl,.inl ⟨?_,?_⟩,_,rfl,_,_,rfl,rfl,.inl ⟨by decide,by decide⟩,_,_,rfl,rfl,_,rfl,_,_,rfl,rfl,_,_,rfl,rfl,(by show (0:Int)<2147483629;decide),_,rfl,_,_,rfl,rfl,hm,p H1 q⟩
  ·show -(2 ^ 64)<(cellAt ns k+7919*k+1)*48271 % 2147483647;rw[eD];omega
  ·show (cellAt ns k+7919*k+1)*48271 % 2147483647<2 ^ 64;rw[eD];omega
theorem vK(T:Tx K mg cs):iO P w K mg base 2 "_law_mixed" 3 ao:=by obtain⟨f,fd,F,b,m⟩:=T.f_law_mixed;obtain⟨fC,fdC,a,c,e⟩:=T.f_law_cell_at;exact iO.old (CB F a c e (T.bs _ #[2])) m F.kp b Gn
theorem AO(T:Tx K mg cs):rq P w K mg base 1 "Holding" cs.Holding ["number", "part", "tool", "times"]:=by
 obtain⟨f,fd,M,F,b⟩:=T.k_Holding.mi;refine⟨f,fd,_,M,ml (k:=0) (N:=["self", "number", "part", "tool", "times"]) F ⟨rfl,rfl,rfl,by decide +kernel,rfl,by decide +kernel,by decide +kernel⟩ (λvs H Q E h=>?_) (λcdv A outer s H vs Q E hr h=>?_),b,T.m_Holding⟩
 ·obtain⟨x,dx,args,rfl,hl,_⟩:=h;rw[MW,hl];rfl
 ·obtain⟨x,dx,args,rfl,hl,c,k⟩:=h;obtain⟨g,rfl⟩:=A1 .non hl;refine⟨_,(cO (gG (pv 0) (pv 1) rfl) (cO (gG (pv 0) (pv 2) rfl) (cO (gG (pv 0) (pv 3) rfl) (iC (gG (pv 0) (pv 4) rfl))))),?_⟩;refine⟨_,rfl,_,rfl,x,cs.Holding,dx,_,rfl,c,T.k_Holding.cl,T.k_Holding.na _ #[2],(by show 0<1000;decide),_,rfl,_,rfl,x,cs.Holding,dx,_,rfl,aH,T.k_Holding.cl,T.k_Holding.na _ #[2],(by show 1<1000;decide),_,rfl,_,rfl,x,cs.Holding,dx,_,rfl,aH,T.k_Holding.cl,T.k_Holding.na _ #[2],(by show 2<1000;decide),_,rfl,_,rfl,x,cs.Holding,dx,_,rfl,aH,T.k_Holding.cl,T.k_Holding.na _ #[2],(by show 3<1000;decide),?_⟩;exact k _ (λb a=>by rw[aC a,aC a,aC a,aC a]) (by rw[aH];rfl)
theorem xO(T:Tx K mg cs):MkD P w K mg base 1 "Jobs" cs.Jobs JN JT:=by
 obtain⟨f,fd,M,F,b⟩:=T.k_Jobs.mi;refine⟨f,fd,_,M,ml (k:=0) (N:=["self", "number", "parts", "rank", "row"]) F ⟨rfl,rfl,rfl,by decide +kernel,rfl,by decide +kernel,by decide +kernel⟩ (λvs H Q E h=>?_) (λcdv A outer s H vs Q E hr h=>?_),b,T.m_Jobs⟩
 ·obtain⟨x,dx,args,rfl,hl,_⟩:=h;rw[MW,hl];rfl
 ·obtain⟨x,dx,args,rfl,hl,c,k⟩:=h;obtain⟨g,rfl⟩:=A1 .non hl;refine⟨_,(cO (gG (pv 0) (pv 1) rfl) (cO (gG (pv 0) (pv 2) rfl) (cO (gG (pv 0) (pv 3) rfl) (cO (gG (pv 0) (pv 4) rfl) (cO (gG (pv 0) gE rfl) (cO (gG (pv 0) gE rfl) (iC (gG (pv 0) gE rfl)))))))),?_⟩;refine⟨_,rfl,_,rfl,x,cs.Jobs,dx,_,rfl,c,T.k_Jobs.cl,T.k_Jobs.na _ #[2],(by show 0<1000;decide),_,rfl,_,rfl,x,cs.Jobs,dx,_,rfl,aH,T.k_Jobs.cl,T.k_Jobs.na _ #[2],(by show 1<1000;decide),_,rfl,_,rfl,x,cs.Jobs,dx,_,rfl,aH,T.k_Jobs.cl,T.k_Jobs.na _ #[2],(by show 2<1000;decide),_,rfl,_,rfl,x,cs.Jobs,dx,_,rfl,aH,T.k_Jobs.cl,T.k_Jobs.na _ #[2],(by show 3<1000;decide),_,rfl,x,cs.Jobs,dx,_,rfl,aH,T.k_Jobs.cl,T.k_Jobs.na _ #[2],(by show 4<1000;decide),_,rfl,x,cs.Jobs,dx,_,rfl,aH,T.k_Jobs.cl,T.k_Jobs.na _ #[2],(by show 5<1000;decide),_,rfl,x,cs.Jobs,dx,_,rfl,aH,T.k_Jobs.cl,T.k_Jobs.na _ #[2],(by show 6<1000;decide),?_⟩;exact k _ (λb a=>by rw[aC a,aC a,aC a,aC a,aC a,aC a,aC a]) (by rw[aH];rfl)
set_option hygiene false
local macro_rules | `(tactic| infer_instance)=>`(tactic| first|((with_reducible show _=_);exact rfl)|(with_reducible first|(show PD _ _ _ _;first|refine' JF ..|refine' Je ..|refine' GU ..|refine' KZ ..|refine' Jf ..|refine' IW ..|refine' LH ..|refine' Jc ..|refine' J5 ..|refine' Iq ..|refine' Kx ..|refine' J9 ..|refine' IQ ..|refine' JX ..|refine' Ib ..|refine' JO ..|refine' LZ ..|refine' LU ..|refine' Kq ..|refine' Jt ..|refine' Js ..|refine' DV ..|refine' HB ..|refine' Ic ..|(show PD _ _ _ (au (sY _ _) _);apply He)|(show PD _ _ _ (au _ _);apply G0)|refine' BJ ..|refine' Bc ..|refine' Kg ..|refine' F7 ..|refine' JR ..|refine' Cz ..|refine' ye ..|refine' Bn ..|refine' Fg ..|refine' Gh ..|refine' Gr ..|refine' Hc ..|refine' Di ..|(show PD _ _ _ (bw _ _ _ _ ah);apply DW)|(show PD _ _ _ (bw _ _ _ _ _);apply Gb)|refine' LL ..|refine' K1 ..|refine' Ld ..|refine' Lc ..|refine' Kr ..|refine' Fu ..)|(show PAD _ _ _ _;first|refine' Em ..|refine' GX ..)|(show PCD _ _ _ _;first|refine' JM ..|refine' IC ..|refine' Jl ..|refine' J1 ..|refine' Kb ..|refine' Gk ..|refine' JU ..|refine' Fn ..|refine' DG ..|refine' E7 ..|refine' HP (zO ..)|refine' HP (DI ..)|refine' FE ..)|(show PSD _ _ _ _ _;first|refine' um ..|refine' CN ..|refine' Bx ..|(show PSD _ _ _ _ (rF _ _ _ _ _ _ _);apply C8)|refine' CA ..|(show PSD _ _ _ (.Assign _ (.ListComp _ _ _ _) _) (aN _ _ (gL _));apply CM;apply wQ;focus with_unfolding_all exact rfl)|(show PSD _ _ _ (.Assign _ (.ListComp _ _ _ _) _) (eu _ _ _);apply Dk;apply wQ;focus with_unfolding_all exact rfl)|refine' FY ..|refine' Ei ..|refine' E9 ..|(show PSD _ _ _ _ (qU _ _);apply C3)|refine' Eg ..|refine' Hq ..|refine' yu ..|refine' GV ..|refine' Gx ..|refine' C5 ..|(show PSD _ _ _ _ (cA _ _ _ _);apply Ge)|refine' By ..)|(show PBD _ _ _ _ _;first|refine' uS ..|refine' pN ..|refine' iY ..)|(show PLD _ _ _ _;first|(show PLD _ _ _ (aX _ _ _ _ _);apply D7)|refine' Fo ..|refine' Bj ..)|(show PID _ _ _ _ _;first|refine' yh ..|refine' xU ..|refine' Cm ..|refine' Fp ..|refine' FO ..)|(show PIf _ _ _;first|exact PIf.nil|refine' PIf.one ..)|(show PWD _ _ _ _;first|refine' zO ..|refine' DI ..|refine' CT ..|refine' Gj ..)|(show TgS _ _ _ _;first|refine' Cj ..|refine' Gv ..)|(show POD _ _ _ _;first|refine' DY ..|refine' Co ..)|(show PSN _ _ _ _ _ _;first|refine' Jw ..|refine' Bb ..|refine' GQ ..|refine' xZ ..|(show PSN _ _ _ _ _ (lI _ _ _ _ _);apply DQ)|refine' Jd ..)|(show PBN _ _ _ _ _ _;first|refine' FH ..|refine' zB ..|refine' wO ..)) <;> infer_instance|((with_reducible show PBD _ _ _ _ _); first|refine' iY ?_ ?_|refine' pN ?_) <;> infer_instance|((with_reducible show PBN _ _ _ _ _ _); first|refine' wO ?_ ?_|refine' zB ?_) <;> infer_instance|((with_reducible show PG _ _ _); first|refine' uK ?_ ?_ ?_|refine' DB ?_ ?_) <;> infer_instance|((with_reducible show PGs _ _ _); first|refine' qK ?_ ?_|exact Au) <;> infer_instance|exact rfl|((with_reducible show iO _ _ _ _ _ _ _ _ _);(with_reducible refine' iO.to ?z1 ?z2 ?z3);(case z1=>with_reducible assumption);(case z2=>exact⟨rfl,rfl,rfl,rfl,rfl⟩);(case z3=>rfl))|((with_reducible show iZ _ _ _ _ _ _ _ _ _ _);(with_reducible refine' iZ.to ?z1 ?z2 ?z3);(case z1=>with_reducible assumption);(case z2=>exact⟨rfl,rfl,rfl,rfl,rfl⟩);(case z3=>rfl))|((with_reducible show jY _ _ _ _ _ _ _ _ _);(with_reducible refine' jY.to ?z1 ?z2);(case z1=>with_reducible assumption);(case z2=>exact⟨rfl,rfl,rfl,rfl,rfl⟩))|((with_reducible show rq _ _ _ _ _ _ _ _ _);(with_reducible refine' rq.to ?z1 ?z2);(case z1=>with_reducible assumption);(case z2=>exact⟨rfl,rfl,rfl,rfl,rfl⟩))|exact hr|exact E3|exact xm|exact T.bs _ (by decide +kernel)|exact T.cst (_,_) (by decide +kernel)|exact .inl rfl|exact .inr rfl|exact .inr (.inl rfl)|exact .inr (.inr rfl)|exact nd|exact vn (by kernel_rfl)|exact PassesOwn.leaving|exact Ey|exact xk|exact λ_=>rfl|exact λ_ _=>rfl|((with_reducible intro _ _ _ _);infer_instance)|exact T.e_NoComings|exact T.e_NoErrand|exact T.e_NoErrands|exact T.e_NoRanks|exact JS|exact T.k_Holding.cl|exact T.k_Holding.na _ (by decide +kernel)|exact T.k_Jobs.cl|exact T.k_Jobs.na _ (by decide +kernel)|exact DS|exact bt_bool|exact xB|exact vC|exact cm.u1 hr|exact cm.u65 hr|exact hr.units|exact⟨rfl,rfl,rfl,rfl⟩|exact hr.in1.deeper _|exact cm.u1 (hr.in1.deeper _)|decide|with_unfolding_all rfl)
local macro_rules | `(tactic| nofun)=>`(tactic| (try have:=AO (P:=P) (w:=w) (base:=base) T.toTx;try have:=rW P w T;try have:=sf P w T;try have:=nQ P w T;try have:=l0 P w T;try have:=yI P w T;try have:=En P w T;try have:=jJ P w T;try have:=yb P w T;try have:=pj P w T;try have:=yf P w T;try have:=ng P w T;try have:=yL P w T;try have:=ph P w T;try have:=Bo P w T;try have:=wU P w T;try have:=wG P w T;try have:=A7 P w T;try have:=rS P w T;try have:=uB P w T;try have:=Ca P w T;try have:=nZ P w T;try have:=rf P w T;try have:=B0 P w T;try have:=mx P w T;try have:=gK P w T;try have:=rZ P w T;try have:=xt P w T;try have:=EZ P w T;try have:=vc P w T;try have:=nM P w T;try have:=qM P w T;try have:=gD P w T;try have:=jC P w T;try have:=Df P w T;try have:=Lk P w T;try have:=vK (P:=P) (w:=w) (base:=base) T.toTx;try have:=mZ P w T;try have:=rL P w T;try have:=vO P w T;try have:=uF P w T;try have:=rY P w T))
local macro_rules | `(tactic| and_intros)=>`(tactic| (nofun;intro f cdv A outer s H E nd hr;infer_instance))
theorem A6(T:Tx K mg cs){ aR aZ cU aQ gf:Gf}{gm_Jobs_go_on:List (Str×PyData)->Option (List (Str×PyData))}(jJ:iO P w K mg base 3 "heights_of" 2 aR)(gK:iZ P w K mg base 1 cs.Jobs "are_done" 1 aZ)(qM:iO P w K mg base 6 "picked" 3 cU)(gD:iZ P w K mg base 1 cs.Jobs "is_there" 2 aQ)(jC:jY P w K mg base 3 cs.Jobs "go_on" gm_Jobs_go_on)(xO:MkD P w K mg base 1 "Jobs" cs.Jobs JN JT){Gt:Ds->Sr}
  (hGt:∀δ,Gt δ≠.no->∃d ds fss,Gt δ=.rt d/\5<δ.length/\δ.length=9/\(fw #[28]) (mask [6] δ)=.ok ds/\ds.length<=1000000/\fss.length=ds.length/\(∀(i:Nat) d,ds[i]?=some d->∃ow fs,kA d=some ow/\fss[i]?=some fs/\(af (ae 9) (af (g2 dIx (g2 dIx (ae 0) (ae 9)) #[15]) (af (nK (ae 1) (ae 9)) (af (ae 10) ah)))) (mask [6] δ++ow)=.ok fs/\fs.length=JN.length) /\
   ∀as:List Addr,as.length=ds.length->as.Nodup->jx cs aR aZ cU aQ gm_Jobs_go_on as (δ.set 5 (some (.list (k9 cs.Jobs JN JT as fss))))=.rt d)
  (hL:∀ds,ds.length=4->gf ds≠.no->bo (ay (aN [6] 4 (au aR #[21])) Gt (ds.map some++List.replicate 5 none))=gf ds):iO P w K mg base 7 "run_of" 4 gf :=
 dA P w base 6 [6] ["errands", "ranks", "rows", "lending", "tops", "queues", "told", "there", "best"] T.f_run_of hL λf cdv A outer s H E nd hr=>iY (by infer_instance) (GA (PS.imp (qt (i:=5) (M:=["errands", "ranks", "rows", "lending", "tops", "queues", "told", "there", "best"]) (own:=["number", "row"]) (te:=eMk K E0 cs.Jobs JN JT (af (ae 9) (af (g2 dIx (g2 dIx (ae 0) (ae 9)) #[15]) (af (nK (ae 1) (ae 9)) (af (ae 10) ah))))) rfl nd rfl (by first|exact Or.inl rfl|exact Or.inr rfl) rfl (show PID _ E _ _ (fw #[28]) from by infer_instance) (λ_ _ _ _=>(DB rfl (qK (uK (i:=9) (vn (by kernel_rfl)) rfl (Or.inl rfl) (.inr rfl)) (qK (uK (i:=10) (vn (by kernel_rfl)) rfl (Or.inl rfl) (.inr rfl)) Au)))) (λ_ _ _ _=>.nil) (λ_ _ _ _=>Lp xO hr xm (by infer_instance))) (λD σ H h=>Jo (n0:=9) xk σ H _ h)) (λas=>by delta jx;infer_instance) #[2] hGt)
variable (P w)(T:Ty K mg cs base)
def rW:=dA P w base 0 [] ["_law_rows", "_law_lower", "_law_come", "_law_last", "_law_most", "_law_found", "_law_row", "_law_other"] T.f_law_is_once (sg cs) (by delta fg;and_intros)
def sf:=dA P w base 0 [2] ["_law_errands_here", "_law_ranks_here", "_law_found", "_law_place", "_law_length", "_law_tool"] T.f_law_heights (rV cs) (by delta fY;and_intros)
def nQ:=dA P w base 1 [7] ["_law_errands_here", "_law_ranks_here", "_law_number", "_law_place", "_law_tools", "_law_first", "_law_lower", "_law_some", "_law_second", "_law_tool"] T.f_law_hold_asked (nO cs) (by delta dz;and_intros)
def l0:=dA P w base 0 [1] ["pairs", "greatest", "key", "times"] T.f_sum_of_greatest (mF cs) (by delta cY;and_intros)
def yI:=dA P w base 0 [] ["errand", "tool"] T.f_has_tool (yq cs) (by delta jm;and_intros)
def En:=dA P w base 1 [] ["errands", "ranks", "tool", "place", "number"] T.f_height (ES cs) (by delta mM;and_intros)
def jJ:=dA P w base 2 [] ["errands", "ranks"] T.f_heights_of (uj cs) (by delta gR;and_intros)
def yb:=dA P w base 3 [5] ["errands", "ranks", "number", "place", "tops", "found", "lower", "part", "pair"] T.f_holdings (xE cs) (by delta jL;and_intros)
def pj:=dA P w base 4 [] ["errands", "ranks", "number", "found", "by_errand", "by_tool"] T.f_hold_by_asked (pq cs) (by delta dY;and_intros)
def yf:=dA P w base 0 [] ["thing", "least", "most"] T.f_is_whole (yn cs) (by delta jH;and_intros)
def ng:=dA P w base 1 [] ["errands", "number"] T.f_checked_number (nY cs) (by delta eZ;and_intros)
def yL:=dA P w base 0 [] ["thing", "fewest", "most"] T.f_is_tuple (xR cs) (by delta jO;and_intros)
def ph:=dA P w base 1 [] ["errands", "ranks", "last"] T.f_checked_ranks (pf cs) (by delta cV;and_intros)
def Bo:=dA P w base 1 [] ["thing"] T.f_is_part (BH cs) (by delta g9;and_intros)
def wU:=dA P w base 2 [] ["thing"] T.f_are_parts (wR cs) (by delta gw;and_intros)
def wG:=dA P w base 3 [] ["thing", "every", "due", "late"] T.f_is_errand (wZ cs) (by delta eQ;and_intros)
def A7:=dA P w base 4 [] ["errands"] T.f_checked (Bl cs) (by delta jd;and_intros)
def rS:=dA P w base 5 [] ["errands", "ranks", "number"] T.f_check_place (sq cs) (by delta fV;and_intros)
def uB:=dA P w base 6 [] ["errands", "ranks", "number"] T.f_hold_asked (vg cs) (by delta fJ;and_intros)
def Ca:=dA P w base 0 [] ["_law_errand_here", "_law_spent", "_law_k", "_law_part"] T.f_law_at (EM cs) (by delta kH;and_intros)
def nZ:=dA P w base 1 [2,3] ["_law_errands_here", "_law_done", "_law_spent", "_law_rows", "_law_job", "_law_k", "_law_tool", "_law_begun"] T.f_law_parts_done (nH cs) (by delta dq;and_intros)
def rf:=dA P w base 0 [] ["errand", "row", "every", "late", "earliest", "came", "moment"] T.f_have_moments (pT cs) (by delta fI;and_intros)
def B0:=dA P w base 1 [] ["errand", "thing"] T.f_is_row (DE cs) (by delta lV;and_intros)
def mx:=dA P w base 5 [] ["errands", "comings"] T.f_checked_comings (l8 cs) (by delta eG;and_intros)
def gK:=dM P w base 0 [] ["self"] (gf:=aZ cs) (G:=dW cs) T.k_Jobs.mt_Jobs_are_done T.k_Jobs.cl (mg:=mg) gy (by delta dW;and_intros)
def rZ:=dM P w base 0 [] ["self"] (gf:=aL cs) (G:=fc cs) T.k_Jobs.mt_Jobs_wanted T.k_Jobs.cl (mg:=mg) gy (by delta fc;and_intros)
def xt:=dM P w base 0 [] ["self"] (gf:=aS cs) (G:=gB cs) T.k_Jobs.mt_Jobs_held T.k_Jobs.cl (mg:=mg) gy (by delta gB;and_intros)
def EZ:=dA P w base 1 [] ["there", "tool", "jobs"] (gf:=bM cs) (G:=kB cs _) T.f_holder gy (by delta kB;and_intros)
def vc:=dA P w base 2 [1] ["there", "lent", "jobs", "other"] (gf:=cG cs) (G:=gW cs _ _) T.f_lent_ranks gy (by delta gW;and_intros)
def nM:=dA P w base 1 [] ["jobs", "tops", "tool"] (gf:=bV cs) (G:=b0 cs _) T.f_height_by_high gy (by delta b0;and_intros)
def qM:=dT (P:=P) (w:=w) 5 [] ["there", "tops", "lending", "free", "lent"] (gf:=cU cs) (G:=j7 cs _ _ _ _) T.f_picked T.nm_picked T.tb_picked T.hB T.hK gy λf cdv A outer s H E nd hr c Pt TAB=>by delta j7;nofun;exact (iY (CN (by infer_instance) (pN (um (rl (N:=["jobs", "tops"]) (p:="jobs") (cap:=[1]) (T.bs _ #[2]) hr (by infer_instance) TAB (λq c' s H=>(by infer_instance))))) uS)      (iY (by infer_instance)      (iY (by infer_instance)      (pN (um (rl (N:=["jobs", "lent"]) (p:="jobs") (cap:=[4]) (T.bs _ #[2]) hr (by infer_instance) TAB (λq c' s H=>(by infer_instance))))))))
def gD:=dM P w base 0 [] ["self", "time"] (gf:=aQ cs) (G:=dZ cs) T.k_Jobs.mt_Jobs_is_there T.k_Jobs.cl (mg:=mg) gy (by delta dZ;and_intros)
def jC:=dK (P:=P) (w:=w) (base:=base) (mg:=mg) 2 ["self"] T.k_Jobs.mt_Jobs_go_on T.k_Jobs.cl (ED cs) λas f cdv A outer s H E nd hr=>by delta gY;nofun;infer_instance
def Df:=A6 (P:=P) (w:=w) (base:=base) T.toTx (jJ P w T) (gK P w T) (qM P w T) (gD P w T) (jC P w T) (xO T.toTx) (Gs cs) (Ex cs)
def Lk:=dA P w base 7 [] ["errands", "ranks", "comings", "lending"] T.f_run (LP cs) (by delta zE;and_intros)
def mZ:=dA P w base 2 [6] ["_law_script", "_law_at_here", "_law_errand_here", "_law_span", "_law_seed", "_law_moment", "_law_made", "_law_k", "_law_drawn", "_law_come"] T.f_law_coming_row (nr cs) (by delta dC;and_intros)
def rL:=dA P w base 3 [] ["_law_script", "_law_at_here", "_law_errands_here", "_law_span"] T.f_law_comings (rQ cs) (by delta fe;and_intros)
def vO:=dA P w base 2 [3,4] ["_law_script", "_law_at_here", "_law_many", "_law_left", "_law_made", "_law_k"] T.f_law_ranks (wm cs) (by delta iH;and_intros)
def uF:=dA P w base 2 [7] ["_law_script", "_law_at_here", "_law_top", "_law_tools", "_law_every", "_law_late", "_law_due", "_law_parts", "_law_k", "_law_cell"] T.f_law_errand (vm cs) (by delta gX;and_intros)
def rY:=dA P w base 3 [] ["_law_script", "_law_at_here", "_law_most", "_law_top", "_law_tools", "_law_many"] T.f_law_errands (rM cs) (by delta fZ;and_intros)
theorem law_ok(T:Ty K mg cs base)(F:Fun K "law" "law" (top 58) f fd):gU P w K mg base (CXW P w) 9 f fd ["_law_script"] (spD K 1 (f9 63)) :=
 dL (ps:=["_law_script"]) 8 [] ["_law_script", "_law_errands_here", "_law_ranks_here", "_law_comings_here", "_law_done", "_law_rows", "_law_place", "_law_number", "_law_most", "_law_k", "_law_come", "_law_last"] F (LV cs) (by delta zR;and_intros)
end
end RS
namespace L2
open PySem PySem.Spec PyProof.Rows
theorem G6{m:Str}{kV dc:Value}
  (hb:∀(kV doc pm:Value)(an:Option Addr)(cdv ct:Value)(us:List Value),us.length=ps.length->bindArgs (PySem.W.fnOf m qual (fH st) (cf st) (aE st) .none kV doc pm an cdv ct) ⟨us,[]⟩=pure (ps.zip us))
  (hm:Meth K C m f) (l:K.lookup f=some ⟨oc,od,.func (PySem.W.fnOf m qual (fH st) (cf st) (aE st) .none kV dc pm an cd ct),sl⟩)
  (c:PySem.W.codeIn K cd qual=true) (k:PySem.W.keepIn K (.ref f)=true):∃f fd,Fun K m qual st f fd/\Binds K fd ps []/\Meth K C m f :=
 have F:=xM (st:=st) l c k
 ⟨f,_,F,F.binds hb,hm⟩
end L2
set_option maxHeartbeats 4000000
namespace L2
open PySem PySem.Spec PyProof.Rows
variable {vs:Array Value}{P:Addr}
theorem EB{o:Obj}(h1:PySem.W.nsIn K mainGlobals x=some (some (.ref f)))(h2:K.lookup f=some ⟨oc,od,.func fd,sl⟩)(h3:fd.code=.ref c)(h4:K.lookup c=some o)(h5:o.data=.fields vs)(h6:vs[11]?=some (.ref P)):PySem.W.tabIn K x=some (c,P):=by obtain⟨cl,di,da,so⟩:=o;cases h5;unfold PySem.W.tabIn;rw[h1];simp only;rw[h2];simp only;rw[h3];simp only;rw[h4];simp only;rw[h6]
theorem AJ(hl:mq=[x]){p:Program}{d:DefRec}(hr:(recsOf p).find? (λe=>e.name==x)=some d)(hn:PySem.W.noTabs K=true)(T:Top p loose mean mg mb h)(X:K.In h):mY K h:=by
 refine⟨λP q ⟨x',hx,f,oc,od,fd,sl,c,h1,h2,h3,⟨o,vs,h4,h5,h6⟩,hq⟩=>?_,λP q q' ⟨x1,hx1,_,_,_,_,_,_,_,_,_,_,e1⟩ ⟨x2,hx2,_,_,_,_,_,_,_,_,_,_,e2⟩=>?_⟩
 ·rw[hl]at hx;cases MR.mp hx;have ht:=EB h1 h2 h3 h4 h5 h6;obtain⟨hc,hp⟩:=PySem.W.tab_of T X hr ht;refine⟨hp,?_,?_⟩
  ·cases z:K.lookup P with
   |none=>rfl
   |some o' =>exfalso;have e:=X P o' z;rw[hp]at e;cases e;have h7:=MX.mp hn (P,_) (PySem.W.mem_of_lookupK z);exact absurd (show false=true from h7) MQ
  ·obtain⟨o2,vs2,_,_,_,_,_,_,_,g1,g2,g3,g4,_⟩:=hc;exact⟨c,o2,vs2,g1,g2,g3,g4⟩
 ·rw[hl]at hx1 hx2;rw[e1,e2,MR.mp hx1,MR.mp hx2]
theorem BG{file:Str}{tf:Nat}{flags text:Int}{tg tt:Nat}{inF:Bool}(l:K.lookup c=some ⟨.type "code",od,.fields vs,sl⟩)(h11:vs[11]?=some (.ref P))(h18:vs.getD 18 .none=.str file tf)(h7:vs.getD 7 .none=.int flags tg)(h9:vs.getD 9 .none=.bool inF)(h10:vs.getD 10 .none=.int text tt)(ne:(c != P)=true):PySem.W.codeHdIn K c P=true:=by unfold PySem.W.codeHdIn;rw[l];simp only;rw[h11,h18,h7,h9,h10,ne];simp
theorem Gw{od2:Option Addr}{sl2:Array (Option Value)}{file:Str}{tf:Nat}{flags text:Int}{tg tt:Nat}{inF:Bool}(h1:PySem.W.nsIn K mainGlobals x=some (some (.ref f)))(h2:K.lookup f=some ⟨oc,od,.func fd,sl⟩)(h3:fd.code=.ref c)(l:K.lookup c=some ⟨.type "code",od2,.fields vs,sl2⟩)(h11:vs[11]?=some (.ref P))(h18:vs.getD 18 .none=.str file tf)(h7:vs.getD 7 .none=.int flags tg)(h9:vs.getD 9 .none=.bool inF)(h10:vs.getD 10 .none=.int text tt)(ne:(c != P)=true):GO K x :=
 ⟨f,oc,od,fd,sl,c,P,_,vs,h1,h2,h3,l,rfl,h11,BG l h11 h18 h7 h9 h10 ne⟩
theorem yO(hl:mq=[x]){p:Program}(hr:((recsOf p).find? (λe=>e.name==x)).isSome=true)(hn:PySem.W.noTabs K=true)(T:Top p loose mean mg mb h)(X:K.In h):mY K h:=by obtain⟨d,hd⟩:=Option.isSome_iff_exists.mp hr;exact AJ hl hd hn T X
end L2
set_option hygiene false
local macro_rules | `(tactic| and_intros)=>`(tactic| first|(refine' RS.B6 KX G (λ_ _ _ _ _ _ us hl=>by obtain⟨f,rfl⟩:=RS.A1 PySem.Value.none hl;rfl) ?za ?zl ?zc ?zk;(case za=>k_is);(case zl=>k_is);(case zc=>k_is);(case zk=>k_is))|(refine' L2.G6 (λ_ _ _ _ _ _ us hl=>by obtain⟨f,rfl⟩:=RS.A1 PySem.Value.none hl;rfl) ⟨?zm,?zf,?zp⟩ ?zl ?zc ?zq;(case zm=>k_is);(case zf=>k_is);(case zp=>k_is);(case zl=>k_is);(case zc=>k_is);(case zq=>k_is))|(refine' PySem.W.mg_of KX G ?za;(case za=>k_is))|(refine' PySem.W.mg_none_of KX G ?zz;(case zz=>k_is))|(refine' RS.Hb KX G ?zz;(case zz=>k_is))|(refine' RS.AB KX G ?za ?ze;(case za=>k_is);(case ze=>k_exc))|(refine'⟨_,RS.AB KX G ?za ?ze⟩;(case za=>k_is);(case ze=>k_exc))|(refine'⟨?zp,?zh,?zo,?zs⟩;(case zp=>k_is);(case zh=>k_is);(case zo=>k_is);(case zs=>k_is))|(refine' L2.Hv (λ_ _ _ _ _ _ us hl=>by obtain⟨f,rfl⟩:=RS.A1 PySem.Value.none hl;rfl) ?za ?zi ?zl ?zc ?zk ?zm ?zx;(case za=>k_is);(case zi=>k_is);(case zl=>k_is);(case zc=>k_is);(case zk=>k_is);(case zm=>k_is);(case zx=>k_is))|exact List.forall_mem_nil _|((first|refine List.forall_mem_cons.2 ⟨?_,?_⟩|refine List.forall_mem_singleton.2 ?_) <;> (try dsimp only) <;> and_intros)|(refine' L2.Gw ?za ?zb ?zc ?zd ?ze ?zf ?zg ?zh ?zi ?zj;(case za=>k_is);(case zb=>k_is);(case zc=>exact rfl);(case zd=>k_is);(case ze=>exact rfl);(case zf=>exact rfl);(case zg=>exact rfl);(case zh=>exact rfl);(case zi=>exact rfl);(case zj=>decide))|exact λg e=>PySem.W.mg_of KX G e|(delta L2.fF;k_is)|(dsimp only;and_intros))
open PySem PySem.W PyProof.Rows
set_option maxRecDepth 100000 in
set_option maxHeartbeats 0 in
theorem PySem.Challenge.cw_ranksure_k26_whole_asked_holds : PySem.Challenge.rw_ranksure_k26_whole_asked.Holds := by
 refine RS.hdTop ?_
 k_fill
 refine RS.KR (l:=PySem.Challenge.rw_ranksure_k26_whole_asked) (n:=63) (k:=9) (x:="_law_script") (st:=RS.top 58) rfl (by decide) rfl ⟨rfl,by decide,by decide⟩ (λw h Y=>PySem.W.km_in_of Y) (λ_ _ _ _ _ _ us hl=>by obtain⟨f,rfl⟩:=RS.A1 PySem.Value.none hl;rfl) ?F (λw h l m mg mb T X=>L2.yO (x:="picked") rfl (by kernel_rfl) (by kernel_rfl) T X)
 case F =>
  intro w mg h KX G;obtain⟨c_NoComings,h_NoComings⟩:∃C,L2.rR (L2.KOf KX) mg "NoComings" C:=by delta L2.KOf;and_intros
  obtain⟨c_NoErrand,h_NoErrand⟩:∃C,L2.rR (L2.KOf KX) mg "NoErrand" C:=by delta L2.KOf;and_intros
  obtain⟨c_NoErrands,h_NoErrands⟩:∃C,L2.rR (L2.KOf KX) mg "NoErrands" C:=by delta L2.KOf;and_intros
  obtain⟨c_NoRanks,h_NoRanks⟩:∃C,L2.rR (L2.KOf KX) mg "NoRanks" C:=by delta L2.KOf;and_intros
  obtain⟨c_Holding,h_Holding,k_Holding⟩:∃C,mg "Holding"=some (.ref C)/\RS.pX (L2.KOf KX) C:=by
   delta L2.KOf
   refine'⟨_,PySem.W.mg_of KX G ?za,⟨?zp,?zh,?zo,?zs⟩,?yHolding0,?yHolding1⟩
   (case za=>k_is);(case zp=>k_is);(case zh=>k_is);(case zo=>k_is);(case zs=>k_is);all_goals and_intros
  obtain⟨c_Jobs,h_Jobs,k_Jobs⟩:∃C,mg "Jobs"=some (.ref C)/\RS.zC (L2.KOf KX) C:=by
   delta L2.KOf
   refine'⟨_,PySem.W.mg_of KX G ?za,⟨?zp,?zh,?zo,?zs⟩,?yJobs0,?yJobs1,?yJobs2,?yJobs3,?yJobs4,?yJobs5,?yJobs6⟩
   (case za=>k_is);(case zp=>k_is);(case zh=>k_is);(case zo=>k_is);(case zs=>k_is);all_goals and_intros
  have T:RS.Tx (L2.KOf KX) mg ⟨0,c_NoErrands,c_NoRanks,c_NoComings,c_NoErrand,0,0,0,c_Holding,c_Jobs⟩:=by constructor <;> first|assumption|((try delta L2.KOf);and_intros)
  exact⟨T.f_law,λf fd F base hb hn hB=>RS.law_ok _ _ ⟨T,hB,hb⟩ F⟩
end
