import PyProof.Rows.All
import OpenK.AllK
import PySem.Challenge.RW_ranksure_k12_whole_no_longer
import KE.RegKIsAll
import Wide.All
import OpenK.KWalk
import OpenK.KMake
import OpenK.KDescr
import OpenK.KCall
import OpenK.KOwn
import KE.KIsAll
import KE.KItem
import KE.KxBytes
import Wide.FinOn
import Lean
import PyProof.EqAt
import PyProof.EqKinds
import PyProof.TupleCall
import KE.LcSums
import PyProof.Rows.EqDataRows
import PyProof.RulesAs
import PyProof.ZipIter
import PyProof.Draws
import PyProof.Rows.TupAdd
import PyProof.ListMulRoad
import PyProof.AutoListH
import PyProof.Rows.Range3
import PyProof.ListRange
import PyProof.EnumMake
import PyProof.EnumFor
import PyProof.Rows.SetFrom
import PyProof.WalksMore
import PyProof.StrOps2
import PyProof.Rows.MinMaxN
import PyProof.ConsumeWalk
import PyProof.Rows.SortWalk
import PyProof.ExcArgsOwn
import PyProof.StrBlock2
import KE.KMinKey
import PyProof.Rows.CallKwBuiltin
import KE.KDictLaws
import KE.KDictMeth
import KE.KDictObj
import KE.KDictLetter
import OpenK.KDict
import KE.KDictOf
import PyProof.Rows.RegDictMethods
import KE.KLam
import PySem.PyData
import KE.KNestM
noncomputable section
set_option genSizeOf false
set_option genSizeOfSpec false
set_option genInjectivity false
set_option compiler.extract_closed false
set_option bootstrap.genMatcherCode false
set_option Elab.async false
set_option linter.all false
abbrev My:=@List.getElem?_eq_getElem
abbrev N0:=@List.map_cons
abbrev N1:=@PySem.Heap.get?_push_of_some
abbrev N2:=@List.mem_cons_of_mem
abbrev N3:=@List.mem_cons_self
abbrev N4:=@List.length_map
abbrev N5:=@List.mem_cons
abbrev N6:=@Bool.and_eq_true
abbrev N7:=@Nat.le_refl
abbrev N8:=@List.mem_append_right
abbrev N9:=@List.mem_singleton
abbrev Nk:=@PySem.Heap.lt_size
abbrev Nl:=@List.length_append
abbrev Nm:=@List.size_toArray
abbrev Nn:=@List.mem_map
abbrev Np:=@PySem.Heap.get?_push_size
abbrev Nq:=@Nat.ne_of_lt
abbrev Nr:=@List.all_eq_true
abbrev Nt:=@Nat.lt_of_lt_of_le
abbrev Nu:=@List.length_cons
abbrev Nv:=@List.map_congr_left
abbrev Nw:=@List.getD_eq_getElem?_getD
abbrev Nx:=@List.getElem?_map
abbrev Ny:=@List.not_mem_nil
abbrev Nz:=@List.map_map
abbrev NA:=@Bool.false_ne_true
abbrev NB:=@List.getElem?_append_left
abbrev NC:=@Bool.false_eq_true
abbrev ND:=@List.getElem?_eq_some_iff
abbrev NF:=@List.getElem?_append_right
abbrev NG:=@List.lookup_cons
abbrev NH:=@List.mem_filter
abbrev NI:=@List.mem_append
abbrev NJ:=@List.getElem?_set_ne
abbrev NK:=@Int.mul_le_mul_of_nonneg_right
abbrev NL:=@List.getElem_mem
abbrev NM:=@Int.toNat_natCast
abbrev NN:=@List.find?_cons
abbrev NO:=@List.sum_cons
abbrev NP:=@List.nodup_cons
abbrev NQ:=@List.map_append
abbrev NR:=@List.mem_append_left
abbrev NS:=@List.length_singleton
abbrev NT:=@List.nil_append
abbrev NU:=@List.cons_append
abbrev NV:=@List.mem_of_getElem?
abbrev NW:=@List.getElem?_set_self
abbrev NX:=@Array.length_toList
abbrev NY:=@Nat.zero_le
abbrev NZ:=@PySem.Heap.get?_update_other
abbrev O0:=@Bool.and_eq_false_iff
abbrev O1:=@Int.emod_nonneg
abbrev O2:=@List.map_id
abbrev O3:=@Bool.and_eq_true_iff
abbrev O4:=@Nat.le_trans
abbrev O5:=@Nat.zero_add
abbrev O6:=@Option.map_eq_some_iff
abbrev O7:=@Nat.lt_succ_of_lt
abbrev O8:=@List.append_nil
abbrev O9:=@Nat.ne_of_gt
abbrev Oa:=@Nat.le_add_right
abbrev Ob:=@Int.le_refl
abbrev Oc:=@List.mem_of_mem_take
abbrev Od:=@List.getElem?_cons_succ
abbrev Oe:=@List.getElem?_cons_zero
abbrev Of:=@Option.map_some
abbrev Og:=@List.replicate_succ
abbrev Oh:=@List.length_pos_iff
abbrev Oi:=@List.map_nil
abbrev Oj:=@Nat.lt_irrefl
abbrev Ol:=@Int.emod_lt_of_pos
abbrev Om:=@List.length_nil
abbrev Oo:=@List.getElem?_mapIdx
abbrev Oq:=@List.flatten_cons
abbrev Ot:=@List.append_assoc
abbrev Ou:=@List.mem_range
abbrev Ov:=@Nat.lt_succ_self
abbrev Ow:=@List.any_eq_true
abbrev Ox:=@List.getElem?_eq_none
abbrev Oy:=@List.any_cons
abbrev Oz:=@List.drop_eq_getElem_cons
abbrev OA:=@List.mem_of_mem_drop
abbrev OB:=@List.filter_cons
abbrev OC:=@Int.toNat_of_nonneg
abbrev OD:=@List.getElem_of_mem
abbrev OE:=@List.length_eq_zero_iff
abbrev OF:=@List.find?_eq_none
abbrev OG:=@List.pairwise_cons
abbrev OH:=@PySem.Heap.get?_update_self
abbrev OI:=@List.length_take
abbrev OJ:=@List.length_drop
abbrev OK:=@Option.bind_some
abbrev OL:=@List.all_cons
abbrev OM:=@Bool.and_true
abbrev ON:=@List.exists_cons_of_ne_nil
abbrev OO:=@Nat.le_succ
abbrev OP:=@Int.add_mul
abbrev OQ:=@List.filterMap_cons
abbrev OR:=@List.getElem?_range
abbrev OS:=@List.take_succ_cons
abbrev OT:=@List.of_mem_zip
abbrev OU:=@List.foldl_cons
abbrev OV:=@List.forIn_cons
abbrev OW:=@List.zip_cons_cons
abbrev OX:=@Int.natCast_nonneg
abbrev OY:=@List.set_cons_succ
abbrev OZ:=@List.set_cons_zero
abbrev P0:=@List.getElem?_replicate
abbrev P4:=@List.getLast?_map
abbrev P5:=@Int.ediv_eq_zero_of_lt
abbrev P6:=@Bool.true_and
abbrev P7:=@List.mapIdx_cons
abbrev P8:=@Array.getElem?_toList
abbrev P9:=@List.set_append_right
abbrev Pa:=@Int.mul_ediv_add_emod
abbrev Pb:=@List.take_append_drop
abbrev Pc:=@Int.add_mul_ediv_left
abbrev Pd:=@List.nodup_nil
abbrev Pe:=@Int.mul_nonneg
abbrev Pf:=@List.mem_filterMap
abbrev Pg:=@List.ne_nil_of_mem
abbrev Ph:=@Int.lt_of_lt_of_le
abbrev Pj:=@Bool.and_self
abbrev Pk:=@Bool.not_eq_true'
abbrev Pl:=@List.length_range
abbrev Pm:=@List.nodup_append
abbrev Pn:=@List.findIdx_cons
abbrev Po:=@Nat.le_of_lt
abbrev Pp:=@List.drop_length
abbrev Pq:=@List.range'_succ
abbrev Pr:=@List.ext_getElem
variable {p pos pos' cpos spos tp pn p2 kp:Pos} {q P prog:Program} {loose N M ps own names:List Str} {α β:Type} {us its':List Value} {a b it c C dx f D:Addr} {h base h':Heap} {items:Array Value} {w:World} {g':Array GenState} {ch A fp B A0 as:List Addr} {i j m x1 n0:Nat} {x qual:Str} {E Q:Value->Shared->Prop} {u cd pm ct oc:Value} {s' s:Shared} {pins:List (Addr×Obj)} {op:CmpOp} {K:PySem.W.Frag} {n T many span:Int} {tg body iter elt:Expr} {g:List (Str×PyData)->Option (List (Str×PyData))} {lo hi:Option Int} {mA mg mb:Str->Option Value} {env:Env} {outer:List Env} {fd:FuncData} {scope:Scope} {params:Arguments} {an od:Option Addr} {osl sl:Array (Option Value)} {l:List (Int×Int)} {ns rs row:List Int} {XP:(Str->Option Value)->Heap->Prop} {YP:World->Heap->Prop} {st:Stmt} {ifs elts:List Expr} {ds:List PyData} {newId:String} {O cap:List Nat} {nd tops:PyData} {tl:List (Str×Int)} {cl:List (Str×Addr)} {rows:List (List Int)} {mean:ExcName->Option Value}
namespace RS
open PySem PySem.W PyProof.Rows
def zQ (p:Program) (w:World) (m:Nat) (ann:Option Value):Nat->SharedT->Thread->Option SharedT
 |0,_,_=>none
 |n+1,s,t=>match through t with
  |true=>some s
  |false=>match Fast.tw6613529449190102663 m ann t with
   |false=>none
   |true=>match Fast.tw10156331382660048174 (Fast.tw11892475500146522536 Fast.tw14364793385576792824) p w s t with
    |some x=>zQ p w m ann n x.1 x.2
    |none=>none
theorem xo {p:Program} {w:World} {m:Nat} {ann:Option Value}:∀{n:Nat} {s s':SharedT} {t:Thread},zQ p w m ann n s t=some s'->topRun treeTable p w m ann n s.abs t=some s'.abs
 |0,_,_,_,h=>by cases h
 |n+1,s,s',t,h=>by
  unfold zQ at h;rw[<-Fast.te6613529449190102663,<-Fast.te10156331382660048174,<-Fast.te11892475500146522536,<-Fast.te14364793385576792824]at h;unfold topRun;cases ht:through t with
  |true=>rw[ht]at h;cases h;rfl
  |false =>
   rw[ht]at h;cases hk:stepOk m ann t with
   |false=>rw[hk]at h;cases h
   |true =>
    rw[hk]at h;cases hs:stepT (denote treeTable) p w s t with
    |none=>rw[hs]at h;cases h
    |some x =>rw[hs]at h;rw[stepT_spec (s':=x.1) (t':=x.2) hs];exact xo h
def Jj (l:List Obj):BT:=(l.foldl (λx o=>(x.1.ins x.2 o,x.2+1)) (BT.nil,0)).1
def hdS (w:World) (os:OsState):SharedT:=⟨Jj (boot_heap w.params).objs.toList,11,(boot_heap w.params).life,Array.mk [],boot_drawn,boot_toks,os⟩
theorem Hr (w:World):(λos=>(hdS w os).abs)=λos=>⟨boot_heap w.params,Array.mk [],boot_drawn,boot_toks,os⟩:=by kernel_rfl
theorem Ks (w:World):((boot_heap w.params).isNs mainGlobals&&(Array.mk []:Array GenState).size==0,(boot_heap w.params).objs.size,(boot_heap w.params).nsMap mainGlobals "__annotations__")=(true,11,some (.ref 6)):=by kernel_rfl
def Fo (p q:Program) (loose:List Str) (Xt:Shared->Bool) {α:Type} (Yf:Shared->α) (h:Heap) (s:Shared) :=
 (staticsOk (importedModules p.main.body) h s.heap&&namesBound p s.heap&&gensDone s&&laidKept h s.heap,Fast.tw4187177175401517315 q loose (importedModules p.main.body) Xt true s,Yf s)
theorem Kf {p:Program} {Xt:Shared->Bool} {Yf:Shared->α} {Ya:World->α} {N M:Nat}
  (e:opening p=plainProg p.main.scope.names) (a:Nat.ble 600 N=true) (f:∀s,fenceModules? p s=some s) (le:Nat.ble M N=true)
  (h:∀w,(λos=>(zQ p w 11 (some (.ref 6)) M (hdS w os) (topStub p)).map λs=>Fo p q loose Xt Yf (boot_heap w.params) s.abs)=λ_=>some (true,openGood q loose,Ya w)):LeftO p q loose Xt Yf Ya N:=λw=>by
 obtain⟨⟨b,gs,d,k,os⟩,e1,c⟩:=O6.mp (boot_open e a f w);obtain⟨rfl,rfl,rfl,rfl⟩:b=boot_heap w.params/\gs=Array.mk []/\d=boot_drawn/\k=boot_toks:=by simpa using c
 obtain⟨z1,z2,z3⟩:_/\_/\_:=by simpa only[Prod.mk.injEq] using Ks w
 obtain⟨s,g,hv⟩:=O6.mp (congrFun (h w) os);obtain⟨l1,l2,l3⟩:_/\_/\_:=by simpa only[Fo,<-Fast.te4187177175401517315,Prod.mk.injEq] using hv
 have r:=xo g;rw[congrFun (Hr w) os]at r;have r:=topRun_mono (N-M) _ _ _ _ r;rw[show M+(N-M)=N by have:=Nat.le_of_ble_eq_true le;omega]at r;unfold openEnds;rw[e1];show (topFrom treeTable p w N _).map _=_;have t:topFrom treeTable p w N ⟨boot_heap w.params,Array.mk [],boot_drawn,boot_toks,os⟩=some s.abs:=by unfold topFrom;dsimp only;rw[z1,z2,z3,r];show (match staticsOk (importedModules p.main.body) (boot_heap w.params) s.abs.heap&&namesBound p s.abs.heap&&gensDone s.abs&&laidKept (boot_heap w.params) s.abs.heap with|true=>_|false=>_)=_;rw[l1]
 rw[t];exact congrArg some (Prod.ext l2 l3)
end RS
section
open PySem PySem.W PyProof.Rows
def RS.vw:Program:=view PySem.Challenge.pw_ranksure_k12_whole_no_longer [1,2,3,4,5,7,8,9,10,11,12,13,14,15,16,17,18,19,20,21,22,23,24,25,26,28,29,30,31,32,33,34,35,36,38,39,40,41,42,43,44,45,46,47,48,49,50,51,52,54,55,56,57,58,59,60,61]
local macro_rules | `(tactic| o_head $H)=>`(tactic| (refine holds_open (N:=6166) (Xt:=λs=>xlAt RS.vw [] s&&recOk (RowW.records (OpenRow.toRowW (OpenLaw.row PySem.Challenge.rw_ranksure_k12_whole_no_longer))) s) (XP:=XL RS.vw []) (q:=RS.vw) (loose:=[]) (Yf:=Hook.obs $H) (Ya:=Hook.val $H) (YP:=Hook.says $H) ?hl (Hook.of $H) (Hook.keeps $H) (λs e=>xl_of s (O3.mp e).1) XL.keeps (by rfl) (by rfl) (by rfl) (λs e=>recFacts_of (O3.mp e).2) (by rfl) (by assumption) (by decide +kernel) ⟨rfl,rfl,rfl,rfl,rfl,by decide +kernel⟩ ?hw ?hc;(case hl=>refine RS.Kf (M:=3133) (by kernel_rfl) (by rfl) (by intro s;kernel_rfl) (by rfl) λw=>?_;kernel_rfl)))
set_option maxRecDepth 100000 in
set_option maxHeartbeats 0 in
open_top RS.hdTop for PySem.Challenge.rw_ranksure_k12_whole_no_longer
end
set_option maxRecDepth 100000
namespace L2
open PySem PySem.Spec PyProof.Rows
variable {M:Model} {body:List Stmt} {es:List Expr} {c e:Expr} {g:Int->Int->Int} {A:Around}
abbrev Key:=Sum Int Str
def sZ:Key->Value->Bool
 |.inl k,v=>Value.isInt k v
 |.inr x,v=>Value.isStrOf x v
def hU (w:World):Key->Int
 |.inl k=>hashInt k
 |.inr x=>hashStr w x
theorem cM:∀{k:Key} {v:Value},sZ k v=true->(∃i t,k=Sum.inl i/\v=Value.int i t)\/(∃x t,k=Sum.inr x/\v=Value.str x t)
 |.inl i,v,h=>by obtain⟨t,e⟩:=Value.isInt_shape (k:=i) (v:=v) h;exact .inl ⟨i,t,rfl,e⟩
 |.inr x,v,h=>by obtain⟨t,e⟩:=Value.isStrOf_shape (x:=x) (v:=v) h;exact .inr ⟨x,t,rfl,e⟩
theorem B7 (i:Int) (t:Tok):sZ (.inl i) (.int i t)=true:=by simp[sZ,Value.isInt]
theorem BC (x:Str) (t:Tok):sZ (.inr x) (.str x t)=true:=by simp[sZ,Value.isStrOf]
theorem Jn (a b:Int):decide ((Sum.inl a:Key)=Sum.inl b)=(a==b):=by
 by_cases e:a=b
 ·subst e;simp
 ·have h:¬ (Sum.inl a:Key)=Sum.inl b:=λq=>e (Sum.inl.inj q)
  rw[decide_eq_false h];exact (beq_eq_false_iff_ne.mpr e).symm
theorem La (a b:Str):decide ((Sum.inr a:Key)=Sum.inr b)=decide (a=b):=by
 by_cases e:a=b
 ·subst e;simp
 ·have h:¬ (Sum.inr a:Key)=Sum.inr b:=λq=>e (Sum.inr.inj q)
  rw[decide_eq_false h,decide_eq_false e]
theorem KA (a:Int) (b:Str):decide ((Sum.inl a:Key)=Sum.inr b)=false:=decide_eq_false (λq=>nomatch q)
theorem KG (a:Str) (b:Int):decide ((Sum.inr a:Key)=Sum.inl b)=false:=decide_eq_false (λq=>nomatch q)
def dz (prog:Program) (w:World):PySem.KeyKind prog w Key where
 is:=sZ
 hash:=hU w
 inj:=λv a b ha c=>by
  rcases cM ha with⟨i,t,rfl,rfl⟩|⟨x,t,rfl,rfl⟩
  ·rcases cM c with⟨j,u,rfl,e⟩|⟨y,u,rfl,e⟩
   ·injection e with e1 _;rw[e1]
   ·exact nomatch e
  ·rcases cM c with⟨j,u,rfl,e⟩|⟨y,u,rfl,e⟩
   ·exact nomatch e
   ·injection e with e1 _;rw[e1]
 byValue:=λk v h=>by rcases cM h with⟨i,t,rfl,rfl⟩|⟨x,t,rfl,rfl⟩ <;> rfl
 pyHash:=λhv h=>by
  rcases cM hv with⟨i,t,rfl,rfl⟩|⟨x,t,rfl,rfl⟩
  ·exact wpAny_pyHash_int h
  ·exact wpAny_pyHash_str h
 eqBool:=λf hv h=>by
  rcases cM f with⟨i,t,rfl,rfl⟩|⟨x,t,rfl,rfl⟩
  ·rcases cM hv with⟨j,u,rfl,rfl⟩|⟨y,u,rfl,rfl⟩
   ·rw[Jn]at h;exact wpAny_eqBool_int h
   ·rw[KA]at h;exact SeqAt.EqAt.int_str i t y u _ _ _ _ h
  ·rcases cM hv with⟨j,u,rfl,rfl⟩|⟨y,u,rfl,rfl⟩
   ·rw[KG]at h;exact SeqAt.EqAt.str_int x t j u _ _ _ _ h
   ·rw[La]at h;exact wpAny_eqBool_str h
 «strs»:=λk x t v h=>by
  rcases cM h with⟨i,u,rfl,e⟩|⟨y,u,rfl,e⟩
  ·exact nomatch e
  ·injection e with e1 _
   subst e1;cases v <;> rfl
theorem xn (prog:Program) (w:World) (i:Int) (t:Tok):(dz prog w).is (.inl i) (.int i t)=true:=B7 i t
theorem wc (prog:Program) (w:World) (x:Str) (t:Tok):(dz prog w).is (.inr x) (.str x t)=true:=BC x t
inductive V where
 |non|bl (b:Bool)|int (i:Int)|str (x:Str)|byt (b:Array UInt8)|flt (b:UInt64)|ref (a:Addr)|ty (n:String)
 deriving DecidableEq
variable {vs xs:List V} {v:V}
def RelV:V->Value->Prop
 |.non,u=>u=Value.none
 |.bl b,u=>u=Value.bool b
 |.int i,u=>∃t,u=Value.int i t
 |.str x,u=>∃t,u=Value.str x t
 |.byt b,u=>∃t,u=Value.bytes b t
 |.flt b,u=>∃t,u=Value.float b t
 |.ref a,u=>u=Value.ref a
 |.ty n,u=>u=Value.type n
abbrev Vals:List V->List Value->Prop:=Paired RelV
theorem Vals.length (r:Vals xs us):xs.length=us.length:=Paired.length r
theorem Vals.get:∀{xs:List V} {us:List Value} {i:Nat} {x:V},Vals xs us->xs[i]?=some x->∃u,us[i]?=some u/\RelV x u
 |_,_,_,_,.nil,e=>by simp at e
 |_,_,0,_,.cons r _,e=>by simp at e;subst e;exact⟨_,rfl,r⟩
 |_,_,i+1,x,.cons _ t,e=>by obtain⟨u,h1,h2⟩:=Vals.get (i:=i) (x:=x) t (by simpa using e);exact⟨u,by simpa using h1,h2⟩
theorem Vals.set {x:V} {u:Value} (r:RelV x u):∀{xs:List V} {us:List Value} (i:Nat),Vals xs us->Vals (xs.set i x) (us.set i u)
 |_,_,_,.nil=>.nil
 |_,_,0,.cons _ t=>.cons r t
 |_,_,i+1,.cons q t=>.cons q (Vals.set r i t)
theorem Vals.append {ys:List V} {ws:List Value} (h:Vals xs us) (s:Vals ys ws):Vals (xs++ys) (us++ws):=by
 induction h with
 |nil=>exact s
 |cons r t ih=>exact .cons r ih
theorem Vals.take:∀{xs:List V} {us:List Value} (n:Nat),Vals xs us->Vals (xs.take n) (us.take n)
 |_,_,0,_=>.nil
 |_,_,_+1,.nil=>.nil
 |_,_,n+1,.cons r t=>.cons r (Vals.take n t)
theorem Vals.drop:∀{xs:List V} {us:List Value} (n:Nat),Vals xs us->Vals (xs.drop n) (us.drop n)
 |_,_,0,r=>r
 |_,_,_+1,.nil=>.nil
 |_,_,n+1,.cons _ t=>Vals.drop n t
def jH:Option V->Option Value->Prop
 |some v,some u=>RelV v u
 |none,none=>True
 |_,_=>False
def KV {κ:Type}:List (κ×V)->List (κ×Value)->Prop:=Paired λ(p:κ×V) (q:κ×Value)=>p.1=q.1/\RelV p.2 q.2
def kV:Key->V
 |.inl i=>.int i
 |.inr x=>.str x
inductive HO where
 |lst (xs:List V)
 |tup (xs:List V)
 |dK (kvs:List (Key×V))|dT (kvs:List (List Key×V))
 |set (S:Int->Bool) (n:Nat)
 |ins (C dx:Addr) (fs:List (Str×V))
 |own (x:Addr)
 |xd (fs:List (Str×V))
 |met (f x:Addr)
 |rng (lo hi:Int)
 |frz (o:Obj) (u:HO)
 |tbl (q:Str)
 |ext (φ:Heap->Prop)
variable {o:HO}
abbrev Hp:=Addr->Option HO
variable {H:Hp} {R:V->V->Hp->Prop}
def upd (H:Hp) (a:Addr) (o:HO):Hp:=λb=>if b=a then some o else H b
theorem aE:upd H a o a=some o:=by unfold upd;rw[if_pos rfl]
theorem az (h:b≠a):upd H a o b=H b:=by unfold upd;rw[if_neg h]
theorem Ll {u:HO} (h:H a=some o) (h':H b=some u) (d:o≠u):a≠b:=by intro e;subst e;rw[h]at h';exact d (Option.some.inj h')
theorem aJ (h:H a=some o) (h':H b=none):a≠b:=by intro e;subst e;rw[h]at h';cases h'
def vn (h:Heap) (a:Addr) (items:Array Value):Prop:=∃o,h.get? a=some o/\o.cls=.type "tuple"/\o.dict=none/\∃n,o.data=.seq items n
theorem vn.tup (x:vn h a items):IsTup h a items:=by obtain⟨o,e,c,_,n,d⟩:=x;exact⟨o,e,c,n,d⟩
theorem vn.new (h:Heap) (items:Array Value):vn (h.push { cls:=.type "tuple",data:=.seq items }) h.objs.size items:=⟨_,Np _ rfl,rfl,rfl,_,rfl⟩
section
variable (P:Program) (w:World)
def dh (H:Hp) (h:Heap) (a:Addr):HO->Prop
 |.lst xs=>xs.length<=sizeLine/\∃(b:List Value) (n:Nat),Vals xs b/\h.get? a=some { cls:=.type "list",data:=.seq b.toArray n }
 |.tup xs=>xs.length<=sizeLine/\∃b:List Value,Vals xs b/\vn h a b.toArray
 |.dK kvs=>kvs.length<=sizeLine/\(a==sysModules)=false/\∃vs,KV kvs vs/\h.DictOf (dz P w) a vs
 |.dT kvs=>kvs.length<=sizeLine/\(a==sysModules)=false/\∃xs:List (List Key×Addr×Value),
  Paired (λ(p:List Key×V) (q:List Key×Addr×Value)=>p.1=q.1/\H q.2.1=some (.tup (p.1.map kV))/\RelV p.2 q.2.2) kvs xs /\
  ∃o es e,h.get? a=some o/\o.ExactDict/\o.data=.dict es e/\es.toList=xs.map (entryOfKey (tupleKind (dz P w)))/\(xs.map (·.1)).Nodup
 |.set S n=>h.SetOf (intKind P w) a S n
 |.ins C dx fs=>H dx=some (.own a)/\fs.length<=1000/\dx≠a/\h.get? a=some (PySem.W.instObj C dx) /\
  ∃mA,h.Ns1 dx mA/\(∀f,jH (fs.lookup f) (mA f))/\PySem.Within mA (fs.map (·.1))
 |.own _=>∃o,h.get? a=some o
 |.xd fs=>∃mA,h.Ns1 a mA/\∀f,jH (fs.lookup f) (mA f)
 |.rng lo hi=>∃t u v,h.get? a=some { cls:=.type "range",data:=.fields #[.int lo t,.int hi u,.int 1 v] }
 |.frz o u=>h.get? a=some o/\dh H h a u
 |.tbl q=>∃ps:Array Value,h.get? a=some { cls:=.none,data:=.fields ps }/\TriplesOk ps.toList/\∀pos c,codeAmong pos ps.toList=some c->∃c' o vs t,c=.ref c'/\H c'=some (.frz o (.own c'))/\o.data=.fields vs/\vs[1]?=some (.str q t)
 |.met f x=>h.get? a=some (PySem.W.methodObj (.ref f) (.ref x))
 |.ext φ=>φ h/\(∃o,h.get? a=some o)/\∀h1 h2:Heap,φ h1->(∀o,h1.get? a=some o->h2.get? a=some o)->φ h2
def HOk (H:Hp) (h:Heap):Prop:=∀a o,H a=some o->dh P w H h a o
end
section
variable {H':Hp}
theorem dh.lt (x:dh P w H h a o):a<h.objs.size:=by
 cases o with
 |lst xs=>obtain⟨_,_,_,_,e⟩:=x;exact Nk e
 |tup xs=>obtain⟨_,_,_,p⟩:=x;exact p.tup.lt
 |dK kvs=>obtain⟨_,_,_,_,o,_,_,e,_⟩:=x;exact Nk e
 |dT kvs=>obtain⟨_,_,_,_,o,_,_,e,_⟩:=x;exact Nk e
 |set S n=>obtain⟨o,_,_,_,e,_⟩:=x;exact Nk e
 |ins C dx fs=>obtain⟨_,_,_,e,_⟩:=x;exact Nk e
 |own y=>obtain⟨_,e⟩:=x;exact Nk e
 |xd fs=>obtain⟨_,⟨_,_,_,e,_⟩,_⟩:=x;exact Nk e
 |rng lo hi=>obtain⟨_,_,_,e⟩:=x;exact Nk e
 |frz ob u=>obtain⟨e,_⟩:=x;exact Nk e
 |tbl q=>obtain⟨_,e,_⟩:=x;exact Nk e
 |met f y=>exact Nk (show h.get? a=some _ from x)
 |ext φ=>obtain⟨_,⟨_,e⟩,_⟩:=x;exact Nk e
theorem Paired.mapP {F G:α->β->Prop} {c:List α} {e:List β} (h:Paired F c e) (f:∀a b,F a b->G a b):Paired G c e:=by
 induction h with
 |nil=>exact .nil
 |cons r t ih=>exact .cons (f _ _ r) ih
theorem dh.stay (x:dh P w H h a o) (k:∀b u,(b=a\/H b=some (.own a))->h.get? b=some u->h'.get? b=some u)
  (l:∀b,H b=some (.own a)->H' b=some (.own a)) (m:∀b xs,H b=some (.tup xs)->H' b=some (.tup xs)) (s:∀b o u,H b=some (.frz o u)->H' b=some (.frz o u):=by exact λ_ _ _ q=>q):dh P w H' h' a o:=by
 induction o with
 |lst xs=>obtain⟨z,j,n,r,e⟩:=x;exact⟨z,j,n,r,k _ _ (.inl rfl) e⟩
 |tup xs=>obtain⟨z,j,r,g,e,c⟩:=x;exact⟨z,j,r,g,k _ _ (.inl rfl) e,c⟩
 |dK kvs=>obtain⟨z,y,vs,r,g,es,i,e,c⟩:=x;exact⟨z,y,vs,r,g,es,i,k _ _ (.inl rfl) e,c⟩
 |dT kvs =>obtain⟨z,y,xs,r,g,es,i,e,c⟩:=x;exact⟨z,y,xs,Paired.mapP r λp q z=>⟨z.1,m _ _ z.2.1,z.2.2⟩,g,es,i,k _ _ (.inl rfl) e,c⟩
 |set S n=>obtain⟨g,es,i,t,e,c⟩:=x;exact⟨g,es,i,t,k _ _ (.inl rfl) e,c⟩
 |ins C dx fs =>obtain⟨d,z,ne,e,mA,⟨od,es,i,e2,c⟩,r⟩:=x;exact⟨l _ d,z,ne,k _ _ (.inl rfl) e,mA,⟨od,es,i,k _ _ (.inr d) e2,c⟩,r⟩
 |own y=>obtain⟨g,e⟩:=x;exact⟨g,k _ _ (.inl rfl) e⟩
 |xd fs=>obtain⟨mA,⟨od,es,i,e,c⟩,r⟩:=x;exact⟨mA,⟨od,es,i,k _ _ (.inl rfl) e,c⟩,r⟩
 |rng lo hi=>obtain⟨t,u,v,e⟩:=x;exact⟨t,u,v,k _ _ (.inl rfl) e⟩
 |frz g u ih=>obtain⟨e,q⟩:=x;exact⟨k _ _ (.inl rfl) e,ih q⟩
 |tbl q =>obtain⟨ps,e,t,c⟩:=x;exact⟨ps,k a _ (.inl rfl) e,t,λpos A z=>by obtain⟨c',o,vs,t',e1,e2,B⟩:=c pos A z;exact⟨c',o,vs,t',e1,s _ _ _ e2,B⟩⟩
 |met f y =>have e:h.get? a=some (PySem.W.methodObj (.ref f) (.ref y)):=x;show h'.get? a=some (PySem.W.methodObj (.ref f) (.ref y));exact k a _ (.inl rfl) e
 |ext φ=>obtain⟨p,⟨o,e⟩,st⟩:=x;exact⟨st _ _ p λo q=>k _ _ (.inl rfl) q,⟨o,k _ _ (.inl rfl) e⟩,st⟩
theorem HOk.lt (x:HOk P w H h) (e:H a=some o):a<h.objs.size:=(x a o e).lt
theorem HOk.fresh (x:HOk P w H h) (e:h.objs.size<=a):H a=none:=by
 cases q:H a with
 |none=>rfl
 |some u=>exact absurd (Nt (x.lt q) e) (Oj _)
theorem HOk.kept (x:HOk P w H h) (k:∀b u,h.get? b=some u->h'.get? b=some u):HOk P w H h':=λa o e =>
 (x a o e).stay (λb u _ q=>k b u q) (λ_ q=>q) λ_ _ q=>q
theorem HOk.laid (x:HOk P w H h) (k:∀b u,h.get? b=some u->h'.get? b=some u) (f:h.objs.size<=a) (new:dh P w (upd H a o) h' a o):HOk P w (upd H a o) h':=λb u e=>by
 have hn:=x.fresh f;by_cases hb:b=a
 ·subst hb;rw[aE]at e;cases e;exact new
 ·rw[az hb]at e;exact (x b u e).stay (λc v _ q=>k c v q) (λc q=>by rw[az (aJ q hn)];exact q) (λc xs q=>by rw[az (aJ q hn)];exact q) λc ob w' q=>by rw[az (aJ q hn)];exact q
end
def Rd (H:Hp) (a:Addr) (u:HO):Prop:=H a=some u\/∃o,H a=some (.frz o u)
theorem Rd.ok {u:HO} (r:Rd H a u) (x:HOk P w H h):dh P w H h a u:=by
 rcases r with r|⟨o,r⟩
 ·exact x a u r
 ·obtain⟨_,q⟩:=x a _ r;exact q
def Mut:Option HO->Prop
 |some (.lst _)=>True
 |some (.dK _)=>True
 |some (.dT _)=>True
 |some (.set _ _)=>True
 |some (.ins _ _ _)=>True
 |some (.ext _)=>True
 |_=>False
section
variable {x e:Addr} {o':HO}
theorem HOk.write (ok:HOk P w H h) (f:Mut (H x)) (l:e=x\/H e=some (.own x)) (k:∀b u,b≠e->h.get? b=some u->h'.get? b=some u) (j:∃u,h'.get? e=some u)
  (new:dh P w (upd H x o') h' x o'):HOk P w (upd H x o') h':=λb u q=>by
 have a:∀c y,H c=some (.own y)->c≠x:=λc y r z=>by subst z;rw[r]at f;exact f
 have g:∀c xs,H c=some (.tup xs)->c≠x:=λc xs r z=>by subst z;rw[r]at f;exact f
 have i:∀c o u,H c=some (.frz o u)->c≠x:=λc o u r z=>by subst z;rw[r]at f;exact f
 by_cases hb:b=x
 ·subst hb;rw[aE]at q;cases q;exact new
 ·rw[az hb]at q;by_cases hbe:b=e
  ·have m:H b=some (.own x):=by
    rcases l with z|z
    ·exact absurd (hbe.trans z) hb
    ·rw[hbe];exact z
   rw[q]at m;cases m;obtain⟨v,hv⟩:=j;exact⟨v,by rw[hbe];exact hv⟩
  ·refine (ok b u q).stay (λc v hc r=>k c v ?_ r) (λc r=>by rw[az (a c b r)];exact r) (λc xs r=>by rw[az (g c xs r)];exact r) λc o n r=>by rw[az (i c o n r)];exact r
   rcases hc with rfl|hc
   ·exact hbe
   ·rintro rfl
    rcases l with z|z
    ·exact a c b hc z
    ·rw[hc]at z;cases z;exact hb rfl
end
structure Un (fs ex:List Addr) (H H':Hp) (h h':Heap):Prop where
 keep:∀b o,h.get? b=some o->H b=none->b∉fs->b∉ex->h'.get? b=some o
 slot:∀b o,h.get? b=some o->H b=none->b∈fs->b∉ex->∃sl,h'.get? b=some { o with slots:=sl }
 free:∀b o,h.get? b=some o->H b=none->b∉ex->H' b=none
 there:∀b o,h.get? b=some o->b∉ex->∃o',h'.get? b=some o'
 tups:∀b xs,H b=some (.tup xs)->H' b=some (.tup xs)
 frzs:∀b o u,H b=some (.frz o u)->H' b=some (.frz o u)
 tbls:∀b q,H b=some (.tbl q)->H' b=some (.tbl q)
section
variable {fs fs' ex ex':List Addr} {H1 H2:Hp} {h1 h2:Heap} {x e:Addr}
theorem Un.any (u:Un fs ex H H1 h h1) {a:Obj} (q:h.get? b=some a) (n:H b=none) (c:b∉ex):∃e,h1.get? b=some { a with slots:=e }:=by
 by_cases hb:b∈fs
 ·exact u.slot b a q n hb c
 ·exact⟨a.slots,u.keep b a q n hb c⟩
theorem Un.kept (k:∀b u,h.get? b=some u->h'.get? b=some u):Un fs ex H H h h' :=
 ⟨λb a q _ _ _=>k b a q,λb a q _ _ _=>⟨a.slots,k b a q⟩,λ_ _ _ n _=>n,λb a q _=>⟨a,k b a q⟩,λ_ _ q=>q,λ_ _ _ q=>q,λ_ _ q=>q⟩
theorem Un.refl:Un fs ex H H h h:=Un.kept λ_ _ q=>q
theorem Un.laid (k:∀b u,h.get? b=some u->h'.get? b=some u) (c:h.objs.size<=a) (hn:H a=none):Un fs ex H (upd H a o) h h' where
 keep:=λb u q _ _ _=>k b u q
 slot:=λb u q _ _ _=>⟨u.slots,k b u q⟩
 free:=λb u q n _=>by rw[az (Nq (Nt (Nk q) c))];exact n
 there:=λb u q _=>⟨u,k b u q⟩
 tups:=λb xs q=>by rw[az (aJ q hn)];exact q
 frzs:=λb u xs q=>by rw[az (aJ q hn)];exact q
 tbls:=λb ps q=>by rw[az (aJ q hn)];exact q
theorem Un.write (a:Mut (H x)) (i:e=x\/H e=some (.own x)) (k:∀b u,b≠e->h.get? b=some u->h'.get? b=some u) (c:∃u,h'.get? e=some u):Un fs ex H (upd H x o) h h':=by
 have f:∀b,H b=none->b≠x:=λb n z=>by subst z;rw[n]at a;exact a
 have g:∀b,H b=none->b≠e:=λb n z=>by
  subst z;rcases i with r|r
  ·exact f b n r
  ·rw[n]at r;cases r
 have hm:∀b u,H b=some u->¬ Mut (some u)->b≠x:=λb u q nm z=>by subst z;rw[q]at a;exact nm a
 refine⟨λb u q n _ _=>k b u (g b n) q,λb u q n _ _=>⟨u.slots,k b u (g b n) q⟩,λb u q n _=>by rw[az (f b n)];exact n,λb u q _=>?_,
  λb xs q=>by rw[az (hm b _ q λz=>z)];exact q,λb u xs q=>by rw[az (hm b _ q λz=>z)];exact q,λb ps q=>by rw[az (hm b _ q λz=>z)];exact q⟩
 by_cases hbe:b=e
 ·subst hbe;exact c
 ·exact⟨u,k b u hbe q⟩
end
def trk (h:Heap) (H:Hp):List Addr:=(List.range h.objs.size).filter λa=>(H a).isSome
def rN (h:Heap) (H:Hp):Heap:=PySem.W.hideAll h (trk h H)
theorem B9 (h:Heap) (H:Hp):(rN h H).objs.size=h.objs.size:=PySem.W.hideAll_size _ _
theorem CT {o:Obj} (e:h.get? b=some o) (n:H b=none):(rN h H).get? b=some o :=
 PySem.W.hideAll_get _ e λhm=>by have q:(H b).isSome=true:=(NH.mp hm).2;rw[n]at q;simp at q
theorem Hs {o:Obj} (e:(rN h H).get? b=some o):h.get? b=some o/\H b=none:=by
 have a:h.get? b=some o:=PySem.W.of_hideAll (trk h H) e;refine⟨a,?_⟩;cases q:H b with
 |none=>rfl
 |some x =>have hm:b∈trk h H:=NH.mpr ⟨Ou.mpr (Nk a),by simp[q]⟩;have z:(rN h H).get? b=none:=PySem.W.hideAll_none (trk h H) hm;rw[z]at e;cases e
structure Mod (K:PySem.W.Frag) (mg:Str->Option Value) (base:Heap):Prop where
 kin:K.In base
 glob:base.Ns mainGlobals mg
 blt:∃mb,base.Ns builtinsNs mb/\∀x:Str,x≠"__name__"->mb x=bootBuiltins x
 nolimit:base.NoLimit
def mJ:List Str:=["picked"]
def TabOf (K:PySem.W.Frag) (P:Addr) (q:Str):Prop:=∃x∈mJ,∃f oc od fd a c,PySem.W.nsIn K mainGlobals x=some (some (.ref f))/\K.lookup f=some ⟨oc,od,.func fd,a⟩/\fd.code=.ref c/\(∃o vs,K.lookup c=some o/\o.data=.fields vs/\vs[11]?=some (.ref P))/\q=x++".<locals>.<lambda>"
structure Cx where
 prog:Program
 w:World
 K:PySem.W.Frag
 mg:Str->Option Value
 base:Heap
 A:Around
 N:List Str
 s₀:Shared
 H₀:Hp
 env:Env
 outer:List Env
 stack:List Env
 ex:List Addr
 fn:Str->Bool
 calm:Bool
 pn:List (Addr×Obj)
 xe:Value->Shared->Prop
variable {X:Cx}
def frs (l:List Env):List Addr:=l.filterMap (·.frame)
abbrev Cx.fs (X:Cx):List Addr:=frs X.outer
def Vis (sc:Scope) (x:Str):Prop:=sc.names.lookup x=some .local\/sc.names.lookup x=some .cell\/sc.names.lookup x=some .free
def Loc (sc:Scope) (x:Str):Prop:=sc.names.lookup x=some .local\/sc.names.lookup x=some .cell
def Look (env:Env) (h:Heap) (m:Str->Option Value) (x:Str) (u:Value):Prop :=
 (env.kindOf x=some .local/\m x=some u)\/((env.kindOf x=some .cell\/env.kindOf x=some .free)/\∃c,env.cells.lookup x=some c/\h.IsCell c (some u))
structure Cx.Ok (X:Cx):Prop where
 mod:Mod X.K X.mg X.base
 kind:X.env.scope.kind=.function
 glob:X.env.globals=mainGlobals
 blt:X.env.builtins=builtinsNs
 above:X.s₀.heap.objs.size<=X.env.locals
 inj:∀x y c,X.env.cells.lookup x=some c->X.env.cells.lookup y=some c->x=y
 has:∀x,(X.env.kindOf x=some .cell\/X.env.kindOf x=some .free)->∃c,X.env.cells.lookup x=some c
 cab:∀x c,X.fn x=true->X.env.cells.lookup x=some c->X.s₀.heap.objs.size<=c
 hd:X.calm=true->X.A.handled=none
 frames:X.A.frames=some X.stack
 stk:X.stack=X.outer\/(X.stack=X.env::X.outer/\X.env.frame=some X.env.locals)
 exf:∀b∈X.ex,b≠X.env.locals/\∀x c,X.env.cells.lookup x=some c->c≠b
 bs:∀b o,X.base.get? b=some o->X.s₀.heap.get? b=some o/\X.H₀ b=none
 bsz:X.base.objs.size<=X.s₀.heap.objs.size
 noex:∀b o,X.base.get? b=some o->b∉X.ex
 exfs:∀b∈X.ex,b∉X.fs
 funs:X.s₀.heap.FunFrames X.base X.outer
 frf:∀b∈X.fs,X.H₀ b=none
structure Inv (X:Cx) (pins:List (Addr×Obj)) (σ:List (Option V)) (H:Hp) (s:Shared):Prop where
 ok:X.Ok
 os:s.os=X.s₀.os
 bare:AllBare s.gens
 base:Un X.fs X.ex X.H₀ H X.s₀.heap s.heap
 loc:∃m,s.heap.Ns X.env.locals m/\∀(i:Nat) (x:Str) (v:V),X.N[i]?=some x->σ[i]?=some (some v)->Vis X.env.scope x->∃u,RelV v u/\Look X.env s.heap m x u
 cell:∀x c,X.env.cells.lookup x=some c->∃v,s.heap.IsCell c v
 free:H X.env.locals=none
 freeC:∀x c,X.env.cells.lookup x=some c->H c=none
 pin:∀p∈X.pn++pins,s.heap.get? p.1=some p.2/\H p.1=none/\p.1≠X.env.locals/\p.1∉X.fs/\∀v,p.2.data≠.cell v
 hok:HOk X.prog X.w H s.heap
 len:σ.length=X.N.length
 tab:∀P q,TabOf X.K P q->H P=some (.tbl q)
section
variable {σ:List (Option V)} {H':Hp}
theorem Cx.Ok.nofr (ok:X.Ok) {o:Obj} (e:X.base.get? b=some o):b∉X.fs:=λa=>by have:=(ok.funs.mem a).1;rw[e]at this;cases this
theorem Inv.bs (I:Inv X pins σ H s):∀b o,X.base.get? b=some o->s.heap.get? b=some o/\H b=none:=λb o e =>
 ⟨I.base.keep b o (I.ok.bs b o e).1 (I.ok.bs b o e).2 (I.ok.nofr e) (I.ok.noex b o e),I.base.free b o (I.ok.bs b o e).1 (I.ok.bs b o e).2 (I.ok.noex b o e)⟩
theorem Inv.bk (I:Inv X pins σ H s):∀b o,X.base.get? b=some o->s.heap.get? b=some o:=λb o e=>(I.bs b o e).1
theorem Inv.mod (I:Inv X pins σ H s):Mod X.K X.mg X.base:=I.ok.mod
theorem Inv.kIn (I:Inv X pins σ H s):X.K.In s.heap:=I.ok.mod.kin.keeps I.bk
theorem Inv.lt (I:Inv X pins σ H s):X.env.locals<s.heap.objs.size:=let ⟨_,hn,_⟩:=I.loc;hn.lt
theorem Inv.sz (I:Inv X pins σ H s):X.s₀.heap.objs.size<=s.heap.objs.size:=O4 I.ok.above (Po I.lt)
theorem Inv.nofs (I:Inv X pins σ H s) (h:s.heap.objs.size<=a):a∉X.fs:=λb=>by obtain⟨_,o,c,_⟩:=I.ok.funs.mem b;exact absurd (Nt (Nk c) (O4 I.sz h)) (Oj _)
theorem Inv.cne (I:Inv X pins σ H s):∀x c,X.env.cells.lookup x=some c->c≠X.env.locals:=λx c e z=>by obtain⟨v,o,f,hd⟩:=I.cell x c e;obtain⟨m,⟨o',es,ep,a,b,_⟩,_⟩:=I.loc;rw[z,a]at f;cases f;rw[b]at hd;cases hd
theorem Inv.funs (I:Inv X pins σ H s):s.heap.FunFrames X.base X.outer:=by
 have all:∀(l:List Env),(∀b∈frs l,b∈X.fs)->X.s₀.heap.FunFrames X.base l->s.heap.FunFrames X.base l:=by
  intro l
  induction l with
  |nil=>intro _ _;trivial
  |cons env r ih =>
   intro g hl;obtain⟨h,⟨L,o,a,hn,i,hd⟩,j⟩:=hl;have c:L∈X.fs:=g L (by unfold frs;rw[OQ,a];exact N3);obtain⟨sl,e⟩:=I.base.slot L o i (I.ok.frf L c) c λz=>I.ok.exfs L z c
   exact⟨h,⟨L,_,a,hn,e,hd⟩,ih (λb f=>g b (by unfold frs;rw[OQ,a];exact N2 _ f)) j⟩
 exact all X.outer (λ_ f=>f) I.ok.funs
theorem Inv.stack (I:Inv X pins σ H s):s.heap.FunFrames X.base X.stack:=by
 rcases I.ok.stk with e|⟨e,a⟩
 ·rw[e];exact I.funs
 ·rw[e];obtain⟨m,hn,_⟩:=I.loc;refine .cons (by rw[I.ok.kind];decide) a hn ?_ I.funs;exact Heap.get?_none_of_le (O4 I.ok.bsz I.ok.above)
theorem Inv.stkSub (I:Inv X pins σ H s):∀b∈frs X.stack,b∈X.env.locals::X.fs:=λb a=>by
 rcases I.ok.stk with e|⟨e,c⟩
 ·rw[e]at a;exact N2 _ a
 ·rw[e]at a;unfold frs at a;rw[OQ,c]at a;exact a
theorem Inv.stkFree (I:Inv X pins σ H s):∀b∈frs X.stack,H b=none:=λb a=>by
 rcases N5.mp (I.stkSub b a) with e|a
 ·rw[e];exact I.free
 ·obtain⟨_,o,c,_⟩:=I.ok.funs.mem a;exact I.base.free b o c (I.ok.frf b a) λz=>I.ok.exfs b z a
theorem Inv.step {t':Nat} {d':Drawn} (I:Inv X pins σ H s)
  (f:∀b∈ch,(b∈X.ex\/X.s₀.heap.objs.size<=b)/\b≠X.env.locals/\(∀x c,X.env.cells.lookup x=some c->c≠b)/\∀p∈X.pn++pins,p.1≠b)
  (keep:∀b o,b≠X.env.locals->b∉X.fs->b∉ch->s.heap.get? b=some o->H b=none->h'.get? b=some o)
  (slot:∀b o,b≠X.env.locals->b∈X.fs->b∉ch->s.heap.get? b=some o->H b=none->∃B,h'.get? b=some { o with slots:=B }) (free:∀b o,b∉ch->s.heap.get? b=some o->H b=none->H' b=none)
  (there:∀b o,b∉ch->s.heap.get? b=some o->∃o',h'.get? b=some o')
  (tups:∀b xs,H b=some (.tup xs)->H' b=some (.tup xs)) (frzs:∀b o u,H b=some (.frz o u)->H' b=some (.frz o u)) (tbls:∀b q,H b=some (.tbl q)->H' b=some (.tbl q))
  (ns:∀m,s.heap.Ns X.env.locals m->h'.Ns X.env.locals m) (hok:HOk X.prog X.w H' h') (G:AllBare g') :
  Inv X pins σ H' { s with heap:=h',gens:=g',drawn:=d',toks:=t' }:=by
 have A:∀b o,X.s₀.heap.get? b=some o->b≠X.env.locals:=λb o e=>Nq (Nt (Nk e) I.ok.above)
 have h:∀b o,X.s₀.heap.get? b=some o->b∉X.ex->b∉ch:=λb o e a j=>by
  rcases (f b j).1 with z|z
  ·exact a z
  ·exact absurd (Nt (Nk e) z) (Oj _)
 have cellK:∀x c,X.env.cells.lookup x=some c->∀v,s.heap.IsCell c v->h'.IsCell c v:=λx c e v C=>by
  obtain⟨o,y,hd⟩:=C;have g:c∉ch:=λz=>(f c z).2.2.1 x c e rfl
  by_cases hc:c∈X.fs
  ·obtain⟨B,q⟩:=slot c o (I.cne x c e) hc g y (I.freeC x c e);exact⟨_,q,hd⟩
  ·exact⟨o,keep c o (I.cne x c e) hc g y (I.freeC x c e),hd⟩
 refine⟨I.ok,I.os,G,⟨λb o e n j a=>?_,λb o e n j a=>?_,λb o e n a=>?_,λb o e a=>?_,λb xs e=>tups b xs (I.base.tups b xs e),λb o xs e=>frzs b o xs (I.base.frzs b o xs e),λb ps e=>?_⟩,?_,λx c e=>?_,?_,λx c e=>?_,λp E=>?_,hok,I.len,λP q t=>tbls P q (I.tab P q t)⟩
 ·exact keep b o (A b o e) j (h b o e a) (I.base.keep b o e n j a) (I.base.free b o e n a)
 ·obtain⟨B,e1⟩:=I.base.slot b o e n j a;obtain⟨D,e2⟩:=slot b _ (A b o e) j (h b o e a) e1 (I.base.free b o e n a);exact⟨D,e2⟩
 ·obtain⟨o',e1⟩:=I.base.there b o e a;exact free b o' (h b o e a) e1 (I.base.free b o e n a)
 ·obtain⟨o',e1⟩:=I.base.there b o e a;exact there b o' (h b o e a) e1
 ·exact tbls b _ (I.base.tbls b ps e)
 ·obtain⟨m,hn,hl⟩:=I.loc;refine⟨m,ns m hn,λi x v e1 e2 J=>?_⟩;obtain⟨u,r,l⟩:=hl i x v e1 e2 J;refine⟨u,r,?_⟩;rcases l with l|⟨k,c,e,z⟩
  ·exact .inl l
  ·exact .inr ⟨k,c,e,cellK x c e _ z⟩
 ·obtain⟨v,z⟩:=I.cell x c e;exact⟨v,cellK x c e v z⟩
 ·obtain⟨m,⟨o,_,_,y,_⟩,_⟩:=I.loc;exact free _ o (λz=>(f _ z).2.1 rfl) y I.free
 ·obtain⟨v,o,y,hd⟩:=I.cell x c e;exact free c o (λz=>(f c z).2.2.1 x c e rfl) y (I.freeC x c e)
 ·obtain⟨e,n,ne,F,d⟩:=I.pin p E;have g:p.1∉ch:=λz=>(f p.1 z).2.2.2 p E rfl
  exact⟨keep p.1 p.2 ne F g e n,free p.1 p.2 g e n,ne,F,d⟩
theorem Inv.un {t':Nat} (I:Inv X pins σ H s) (u:Un X.fs [] H H' s.heap h') (hok:HOk X.prog X.w H' h'):Inv X pins σ H' { s with heap:=h',toks:=t' }:=by obtain⟨m,⟨o,es,ep,h,r⟩,_⟩:=id I.loc;obtain⟨sl,i⟩:=u.any h I.free (by simp);exact I.step (g':=s.gens) (d':=s.drawn) (ch:=[]) (λ_ z=>nomatch z) (λb o _ c _ e n=>u.keep b o e n c (by simp)) (λb o _ c _ e n=>u.slot b o e n c (by simp)) (λb o _ e n=>u.free b o e n (by simp)) (λb o _ e=>u.there b o e (by simp)) u.tups u.frzs u.tbls (λm' hm=>by obtain⟨o',f,g,a,j⟩:=hm;rw[h]at a;cases a;exact⟨_,f,g,i,j⟩) hok I.bare
theorem Inv.call {t':Nat} {d':Drawn} (I:Inv X pins σ H s) (u:Un (frs X.stack) ch H H' s.heap h') (hok:HOk X.prog X.w H' h') (l:AllBare g')
  (a:∀b∈ch,(b∈X.ex\/X.s₀.heap.objs.size<=b)/\b≠X.env.locals/\(∀x c,X.env.cells.lookup x=some c->c≠b)/\∀p∈X.pn++pins,p.1≠b) :
  Inv X pins σ H' { s with heap:=h',gens:=g',drawn:=d',toks:=t' }:=by
 obtain⟨m,⟨o,es,ep,j,r⟩,_⟩:=id I.loc;obtain⟨sl,g⟩:=u.any j I.free λz=>(a _ z).2.1 rfl
 exact I.step (ch:=ch) a (λb o g q hc e n=>u.keep b o e n (λz=>(N5.mp (I.stkSub b z)).elim g q) hc) (λb o _ _ hc e n=>u.any e n hc) (λb o hc e n=>u.free b o e n hc) (λb o hc e=>u.there b o e hc) u.tups u.frzs u.tbls (λm' hm=>by obtain⟨o',h,i,f,v⟩:=hm;rw[j]at f;cases f;exact⟨_,h,i,g,v⟩) hok l
theorem Inv.turned {t':Nat} (I:Inv X pins σ H s) (k:∀b o,b≠it->s.heap.get? b=some o->h'.get? b=some o) (hn:H it=none) (f:it≠X.env.locals)
  (h1:it∈X.ex\/X.s₀.heap.objs.size<=it) (h2:∀x c,X.env.cells.lookup x=some c->c≠it) (g:∀p∈X.pn++pins,p.1≠it):Inv X pins σ H { s with heap:=h',toks:=t' }:=by
 have a:∀b u,H b=some u->b≠it:=λb u e z=>by rw[z,hn]at e;cases e
 refine I.step (g':=s.gens) (d':=s.drawn) (ch:=[it]) (λb h=>?_) (λb o _ _ hc e _=>k b o (λz=>hc (by simp[z])) e) (λb o _ _ hc e _=>⟨o.slots,k b o (λz=>hc (by simp[z])) e⟩) (λ_ _ _ _ n=>n)
  (λb o hc e=>⟨o,k b o (λz=>hc (by simp[z])) e⟩) (λ_ _ e=>e) (λ_ _ _ e=>e) (λb ps e=>e) (λm hm=>?_) (λb u e=>?_) I.bare
 ·have e:b=it:=by simpa using h
  subst e;exact⟨h1,f,h2,g⟩
 ·obtain⟨o,es,i,j,r⟩:=hm;exact⟨o,es,i,k _ o (Ne.symm f) j,r⟩
 ·refine (I.hok b u e).stay (λc v hc q=>k c v ?_ q) (λ_ q=>q) λ_ _ q=>q
  rcases hc with z|z
  ·rw[z];exact a b u e
  ·exact a c _ z
theorem Inv.tok (I:Inv X pins σ H s) (t:Nat):Inv X pins σ H { s with toks:=t }:=I.un (h':=s.heap) (t':=t) Un.refl I.hok
theorem Inv.kept {t':Nat} (I:Inv X pins σ H s) (k:∀b u,s.heap.get? b=some u->h'.get? b=some u):Inv X pins σ H { s with heap:=h',toks:=t' }:=I.un (Un.kept k) (I.hok.kept k)
theorem Inv.laid {t':Nat} (I:Inv X pins σ H s) (k:∀b u,s.heap.get? b=some u->h'.get? b=some u) (c:s.heap.objs.size<=a) (new:dh X.prog X.w (upd H a o) h' a o) :
 Inv X pins σ (upd H a o) { s with heap:=h',toks:=t' }:=I.un (Un.laid k c (I.hok.fresh c)) (I.hok.laid k c new)
theorem Inv.write {x e:Addr} {t':Nat} (I:Inv X pins σ H s) (c:Mut (H x)) (f:e=x\/H e=some (.own x)) (k:∀b u,b≠e->s.heap.get? b=some u->h'.get? b=some u) (a:∃u,h'.get? e=some u)
 (new:dh X.prog X.w (upd H x o) h' x o):Inv X pins σ (upd H x o) { s with heap:=h',toks:=t' }:=I.un (Un.write c f k a) (I.hok.write c f k a new)
theorem Inv.pins_of {pins':List (Addr×Obj)} (I:Inv X pins σ H s) (h:∀p∈pins',s.heap.get? p.1=some p.2/\H p.1=none/\p.1≠X.env.locals/\p.1∉X.fs/\∀v,p.2.data≠.cell v):Inv X pins' σ H s :=
 ⟨I.ok,I.os,I.bare,I.base,I.loc,I.cell,I.free,I.freeC,λp a=>(NI.mp a).elim (λz=>I.pin p (NR _ z)) (h p),I.hok,I.len,I.tab⟩
theorem wA (c:N.Nodup) (a:N[i]?=some x) (b:N[j]?=some x):i=j:=by obtain⟨h1,e1⟩:=ND.mp a;obtain⟨h2,e2⟩:=ND.mp b;exact (List.getElem_inj c).mp (e1.trans e2.symm)
theorem sH {Q:Unit->Shared->Prop} (I:Inv X pins σ H s) (hN:X.N.Nodup) (hi:X.N[i]?=some x) (g:Loc X.env.scope x) (r:RelV v u)
  (h:∀s',Inv X pins (σ.set i (some v)) H s'->(∃a,Heap.SameBut a s.heap s'.heap/\(a=X.env.locals\/X.env.cells.lookup x=some a))->Q () s') (hf:X.fn x=true\/X.env.scope.names.lookup x=some .local:=by first|exact .inl rfl|exact .inr rfl|assumption):wpAny M A (storeName X.env x u) Q E s:=by
 obtain⟨m,hn,hl⟩:=id I.loc;have G:(X.env.scope.kind==.class||(X.env.scope.kind==.module&&X.env.locals != X.env.globals))=false:=by rw[I.ok.kind];rfl
 have B:i<σ.length:=by rw[I.len];exact (ND.mp hi).1
 have cne:=I.cne;have tracked:∀{a:Addr} {h':Heap},(∃o,s.heap.get? a=some o/\H a=none)->Heap.SameBut a s.heap h'->HOk X.prog X.w H h':=λ{a h'} ha f b ob e=>by
  obtain⟨_,_,l⟩:=ha;refine (I.hok b ob e).stay (λc O hc q=>(f.2 c ?_).trans q) (λ_ q=>q) λ_ _ q=>q
  rintro rfl
  rcases hc with rfl|hc
  ·rw[l]at e;cases e
  ·rw[l]at hc;cases hc
 rcases g with C|C
 ·refine wpAny_storeName_local C hn (λh' P f=>?_) G;obtain⟨oL,_,_,R,_⟩:=id hn;refine h _ ⟨I.ok,I.os,I.bare,⟨λb o e n D g=>?_,λb o e n D g=>?_,I.base.free,λb o e g=>?_,I.base.tups,I.base.frzs,I.base.tbls⟩,⟨_,P,λj y S e1 e2 T=>?_⟩,λy c e=>?_,I.free,I.freeC,λp U=>?_,tracked ⟨oL,R,I.free⟩ f,by simpa using I.len,I.tab⟩ ⟨_,f,.inl rfl⟩
  ·exact (f.2 b (Nq (Nt (Nk e) I.ok.above))).trans (I.base.keep b o e n D g)
  ·obtain⟨W,e1⟩:=I.base.slot b o e n D g;exact⟨W,(f.2 b (Nq (Nt (Nk e) I.ok.above))).trans e1⟩
  ·obtain⟨o',e1⟩:=I.base.there b o e g;exact⟨o',(f.2 b (Nq (Nt (Nk e) I.ok.above))).trans e1⟩
  ·by_cases hj:j=i
   ·subst hj;rw[hi]at e1;cases e1;rw[NW B]at e2;cases e2;exact⟨u,r,.inl ⟨C,by simp⟩⟩
   ·rw[NJ (Ne.symm hj)]at e2;obtain⟨Y,Z,q⟩:=hl j y S e1 e2 T;refine⟨Y,Z,?_⟩;rcases q with⟨k,e⟩|⟨k,c,e,z⟩
    ·refine .inl ⟨k,?_⟩;have:y≠x:=λe=>hj (wA hN e1 (e▸hi))
     simp[this,e]
    ·exact .inr ⟨k,c,e,z.sameBut f (cne y c e)⟩
  ·obtain⟨O,z⟩:=I.cell y c e;exact⟨O,z.sameBut f (cne y c e)⟩
  ·obtain⟨e,n,ne,nf,d⟩:=I.pin p U;exact⟨(f.2 p.1 ne).trans e,n,ne,nf,d⟩
 ·have F:X.fn x=true:=by
   rcases hf with z|z
   ·exact z
   ·rw[z]at C;cases C
  obtain⟨c,hc⟩:=I.ok.has x (.inl C);obtain⟨O,z⟩:=I.cell x c hc;refine wpAny_storeName_cell I.ok.kind C hc z (λh' J f=>?_);obtain⟨oc,K,L⟩:=id z;refine h { s with heap:=h' } ⟨I.ok,I.os,I.bare,⟨λb o e n D g=>?_,λb o e n D g=>?_,I.base.free,λb o e g=>?_,I.base.tups,I.base.frzs,I.base.tbls⟩,⟨m,hn.sameBut f (Ne.symm (cne x c hc)),λj y S e1 e2 T=>?_⟩,λy c' e=>?_,I.free,I.freeC,λp U=>?_,tracked ⟨oc,K,I.freeC x c hc⟩ f,by simpa using I.len,I.tab⟩ ⟨c,f,.inr hc⟩
  ·exact (f.2 b (Nq (Nt (Nk e) (I.ok.cab x c F hc)))).trans (I.base.keep b o e n D g)
  ·obtain⟨W,e1⟩:=I.base.slot b o e n D g;exact⟨W,(f.2 b (Nq (Nt (Nk e) (I.ok.cab x c F hc)))).trans e1⟩
  ·obtain⟨o',e1⟩:=I.base.there b o e g;exact⟨o',(f.2 b (Nq (Nt (Nk e) (I.ok.cab x c F hc)))).trans e1⟩
  ·by_cases hj:j=i
   ·subst hj;rw[hi]at e1;cases e1;rw[NW B]at e2;cases e2;exact⟨u,r,.inr ⟨.inl C,c,hc,J⟩⟩
   ·rw[NJ (Ne.symm hj)]at e2;obtain⟨Y,Z,q⟩:=hl j y S e1 e2 T;refine⟨Y,Z,?_⟩;rcases q with q|⟨k,c',e,z'⟩
    ·exact .inl q
    ·refine .inr ⟨k,c',e,z'.sameBut f ?_⟩
     rintro rfl
     exact hj (wA hN e1 (I.ok.inj _ _ _ e hc▸hi))
  ·by_cases hcc:c'=c
   ·subst hcc;exact⟨_,J⟩
   ·obtain⟨w2,z2⟩:=I.cell y c' e;exact⟨w2,z2.sameBut f hcc⟩
  ·obtain⟨e,n,ne,nf,d⟩:=I.pin p U;refine⟨(f.2 p.1 ?_).trans e,n,ne,nf,d⟩;intro q;rw[q,K]at e;have q':oc=p.2:=Option.some.inj e;exact d O (by rw[<-q'];exact L)
theorem qF {Q:Unit->Shared->Prop} (I:Inv X pins σ H s) (a:X.N.Nodup) (hi:X.N[i]?=some x) (b:Loc X.env.scope x) (r:RelV v u)
  (h:∀s',Inv X pins (σ.set i (some v)) H s'->Q () s') (c:X.fn x=true\/X.env.scope.names.lookup x=some .local:=by first|exact .inl rfl|exact .inr rfl|assumption):wpAny M A (storeName X.env x u) Q E s :=
 sH I a hi b r (λs' e _=>h s' e) c
theorem Inv.call' (I:Inv X pins σ H s) (f:s'.os=s.os) (u:Un (frs X.stack) ch H H' s.heap s'.heap) (hok:HOk X.prog X.w H' s'.heap) (g:AllBare s'.gens)
  (a:∀b∈ch,(b∈X.ex\/X.s₀.heap.objs.size<=b)/\b≠X.env.locals/\(∀x c,X.env.cells.lookup x=some c->c≠b)/\∀p∈X.pn++pins,p.1≠b):Inv X pins σ H' s':=by
 obtain⟨h',g',d',t',o'⟩:=s';have e:o'=s.os:=f;subst e;exact I.call (g':=g') (t':=t') (d':=d') u hok g a
end
abbrev XK:=Value->Option Addr->Hp->Prop
abbrev St:=List (Option V)
variable {σ:St}
abbrev VK:=V->Hp->Prop
abbrev TE:=St->Hp->VK->Prop
abbrev TT:=St->Hp->(Bool->Hp->Prop)->Prop
abbrev TA:=St->Hp->(List V->Hp->Prop)->Prop
structure Ends where
 nx:St->Hp->Prop
 rt:VK
 bk:St->Hp->Prop:=λ_ _=>False
 ct:St->Hp->Prop:=λ_ _=>False
abbrev TS:=Ends->St->Hp->Prop
def EP (X:Cx) (pins:List (Addr×Obj)) (σ:St) (Q:VK) (u:Value) (s':Shared):Prop:=∃v H',Inv X pins σ H' s'/\RelV v u/\Q v H'
def TP (X:Cx) (pins:List (Addr×Obj)) (σ:St) (Q:Bool->Hp->Prop) (b:Bool) (s':Shared):Prop:=∃H',Inv X pins σ H' s'/\Q b H'
def AP (X:Cx) (pins:List (Addr×Obj)) (σ:St) (Q:List V->Hp->Prop) (us:List Value) (s':Shared):Prop:=∃vs H',Inv X pins σ H' s'/\Vals vs us/\Q vs H'
def SP (X:Cx) (pins:List (Addr×Obj)) (D:Ends) (f:Flow) (s':Shared):Prop :=
 match f with
 |.next=>∃a H',Inv X pins a H' s'/\D.nx a H'
 |.brk=>∃a H',Inv X pins a H' s'/\D.bk a H'
 |.cont=>∃a H',Inv X pins a H' s'/\D.ct a H'
 |.ret u=>∃v a H',Inv X pins a H' s'/\RelV v u/\D.rt v H'
def PE (X:Cx) (e:Expr) (t:TE):Prop :=
 ∀(pins:List (Addr×Obj)) (s:Shared) (σ:St) (H:Hp) (Q:VK),Inv X pins σ H s->t σ H Q->wpAny (model X.prog X.w) X.A (eval e X.env) (EP X pins σ Q) X.xe s
def PT (X:Cx) (e:Expr) (t:TT):Prop :=
 ∀(pins:List (Addr×Obj)) (s:Shared) (σ:St) (H:Hp) (Q:Bool->Hp->Prop),Inv X pins σ H s->t σ H Q->wpAny (model X.prog X.w) X.A (isTrue e X.env (eval e X.env)) (TP X pins σ Q) X.xe s
def PW (X:Cx) (e:Expr) (t:TT):Prop :=
 ∀(whole:Sem Value) (pins:List (Addr×Obj)) (s:Shared) (σ:St) (H:Hp) (Q:Bool->Hp->Prop),Inv X pins σ H s->t σ H Q->wpAny (model X.prog X.w) X.A (isTrue e X.env whole) (TP X pins σ Q) X.xe s
theorem PW.pt {t:TT} (h:PW X e t):PT X e t:=h _
def PA (X:Cx) (es:List Expr) (t:TA):Prop :=
 ∀(pos:Pos) (pins:List (Addr×Obj)) (s:Shared) (σ:St) (H:Hp) (Q:List V->Hp->Prop),Inv X pins σ H s->t σ H Q->wpAny (model X.prog X.w) X.A (spliced (backTo pos (starEach es X.env))) (AP X pins σ Q) X.xe s
def PS (X:Cx) (st:Stmt) (t:TS):Prop :=
 ∀(pins:List (Addr×Obj)) (s:Shared) (σ:St) (H:Hp) (D:Ends),Inv X pins σ H s->t D σ H->wpAny (model X.prog X.w) X.A (exec st X.env) (SP X pins D) X.xe s
def PSs (X:Cx) (st:List Stmt) (t:TS):Prop :=
 ∀(pins:List (Addr×Obj)) (s:Shared) (σ:St) (H:Hp) (D:Ends),Inv X pins σ H s->t D σ H->wpAny (model X.prog X.w) X.A (execs st X.env) (SP X pins D) X.xe s
theorem thn {t:Sem α} {Q b:α->Shared->Prop} (h:wpAny M A t Q E s) (c:∀a s,Q a s->b a s):wpAny M A t b E s:=wpAny_mono h c λ_ _ x=>x
section
theorem bin {a b:Expr} {ta tb:TE} (ha:PE X a ta) (i:PE X b tb) (I:Inv X pins σ H s) (h:ta σ H λx H1=>tb σ H1 λy H2=>R x y H2)
  {Q:α->Shared->Prop} {f:Value->Value->Sem α}
  (j:∀v u s2 x y H2,Inv X pins σ H2 s2->RelV x v->RelV y u->R x y H2->wpAny (model X.prog X.w) X.A (f v u) Q X.xe s2) :
  wpAny (model X.prog X.w) X.A (eval a X.env) (λv e=>wpAny (model X.prog X.w) X.A (eval b X.env) (λu g=>wpAny (model X.prog X.w) X.A (f v u) Q X.xe g) X.xe e) X.xe s:=by
 refine thn (ha pins s σ H _ I h) λv l c=>?_
 obtain⟨x,H1,m,n,o⟩:=c;refine thn (i pins l σ H1 _ m o) λu s2 c=>?_
 obtain⟨y,H2,p,q,r⟩:=c;exact j v u s2 x y H2 p n q r
def LY (i:Nat):TE:=λσ H Q=>∃v,σ[i]?=some (some v)/\Q v H
def tC (v:V):TE:=λ_ H Q=>Q v H
theorem j6 (g:X.N[i]?=some x) (hv:Vis X.env.scope x) (hd:(x==("__debug__":Str))=false:=by decide) (f:(x==("__classdict__":Str))=false:=by decide):PE X (.Name x pos) (LY i):=by
 intro pins s σ H Q I h;obtain⟨v,e,h⟩:=h;obtain⟨m,hn,hl⟩:=I.loc;obtain⟨u,r,l⟩:=hl i x v g e hv;have fin:EP X pins σ Q u s:=⟨v,H,I,r,h⟩
 rcases l with⟨b,hm⟩|⟨b,c,hc,a⟩
 ·exact wpAny_Name (wpAny_loadName_local I.ok.kind b hn hm fin) hd
 ·rcases b with b|b
  ·exact wpAny_Name (wpAny_loadName_cell I.ok.kind b hc a fin) hd
  ·exact wpAny_Name (wpAny_loadName_free I.ok.kind b hc a fin f) hd
theorem f6 {i j pos}:PE X (.Constant (.int i) j pos) (tC (.int i)):=λ_ _ _ H _ I h=>wpAny_Constant_int ⟨.int i,H,I.tok _,⟨_,rfl⟩,h⟩
theorem Mo {b j pos}:PE X (.Constant (.bool b) j pos) (tC (.bl b)):=λ_ _ _ H _ I h=>Constant_bool ⟨.bl b,H,I,rfl,h⟩
theorem Ke {j pos}:PE X (.Constant .none j pos) (tC .non):=λ_ _ _ H _ I h=>Constant_none ⟨.non,H,I,rfl,h⟩
theorem Kg {x j pos}:PE X (.Constant (.str x) j pos) (tC (.str x)):=λ_ _ _ H _ I h=>Calls.Constant_str ⟨.str x,H,I.tok _,⟨_,rfl⟩,h⟩
def Gl (X:Cx) (x:Str):Prop:=X.env.kindOf x=some .globalImplicit
theorem oP (I:Inv X pins σ H s) (a:Gl X x) (hm:X.mg x=some u) (h:Q u s)
  (hd:(x==("__debug__":Str))=false:=by decide):wpAny (model X.prog X.w) X.A (eval (.Name x pos) X.env) Q E s :=
 Calls.Name_function_global I.ok.kind a (Calls.loadGlobal_global (by rw[I.ok.glob];exact I.mod.glob.keeps I.bk) hm h) hd
theorem fY (I:Inv X pins σ H s) (a:Gl X x) (hm:X.mg x=none) (hv:bootBuiltins x=some u) (h:Q u s)
  (hn:x≠"__name__":=by decide) (hd:(x==("__debug__":Str))=false:=by decide):wpAny (model X.prog X.w) X.A (eval (.Name x pos) X.env) Q E s:=by
 obtain⟨mb,h1,h2⟩:=I.mod.blt;exact Calls.Name_function_global I.ok.kind a (Calls.loadGlobal_builtin (by rw[I.ok.glob];exact I.mod.glob.keeps I.bk) hm (by rw[I.ok.blt];exact h1.keeps I.bk) ((h2 x hn).trans hv) h) hd
theorem G2 (a:Gl X x) (hm:X.mg x=some u) (r:RelV v u) (hd:(x==("__debug__":Str))=false:=by decide):PE X (.Name x pos) (tC v) :=
 λ_ _ _ H _ I h=>oP I a hm ⟨v,H,I,r,h⟩ hd
theorem Gn (a:Gl X x) (hm:X.mg x=none) (hv:bootBuiltins x=some u) (r:RelV v u) (hn:x≠"__name__":=by decide) (hd:(x==("__debug__":Str))=false:=by decide):PE X (.Name x pos) (tC v) :=
 λ_ _ _ H _ I h=>fY I a hm hv ⟨v,H,I,r,h⟩ hn hd
def t2I (ta tb:TE) (k:Int->Int->Hp->Prop):St->Hp->Prop:=λσ H=>ta σ H λx H1=>tb σ H1 λy H2=>∃i j,x=.int i/\y=.int j/\k i j H2
variable {a b:Expr} {ta tb:TE}
def PC (X:Cx) (op:CmpOp) (a b:Expr) (t:TE):Prop :=
 ∀(pins:List (Addr×Obj)) (s:Shared) (σ:St) (H:Hp) (Q:VK),Inv X pins σ H s->t σ H Q ->
  wpAny (model X.prog X.w) X.A (eval a X.env) (λv c=>wpAny (model X.prog X.w) X.A (eval b X.env) (λu e=>wpAny (model X.prog X.w) X.A (compareOp op v u) (EP X pins σ Q) X.xe e) X.xe c) X.xe s
theorem xf (b:Expr) (h:op≠.In) (h2:op≠.NotIn):behindInMarks op b=false:=by
 have e1:(op==CmpOp.In)=false:=by cases op <;> first|rfl|exact absurd rfl h
 have e2:(op==CmpOp.NotIn)=false:=by cases op <;> first|rfl|exact absurd rfl h2
 cases b <;> simp[behindInMarks,e1,e2]
def Mi (p:Int->Int->Bool) (ta tb:TE):TE:=λσ H Q=>t2I ta tb (λi j H2=>Q (.bl (p i j)) H2) σ H
abbrev tLt:TE->TE->TE:=Mi λi j=>decide (i<j)
theorem Ku {p:Int->Int->Bool} (ha:PE X a ta) (c:PE X b tb)
  (rule:∀(i j:Int) (t u:Tok) (Q:Value->Shared->Prop) (s:Shared),Q (.bool (p i j)) s->wpAny (model X.prog X.w) X.A (compareOp op (.int i t) (.int j u)) Q X.xe s):PC X op a b (Mi p ta tb):=by
 intro pins s σ H Q I h;refine bin ha c I h λv u s2 x y H2 e f g q=>?_
 obtain⟨i,j,rfl,rfl,q⟩:=q;obtain⟨t,rfl⟩:=f;obtain⟨t',rfl⟩:=g;exact rule i j t t' _ s2 ⟨.bl _,H2,e,rfl,q⟩
theorem LC (ha:PE X a ta) (c:PE X b tb):PC X .Lt a b (tLt ta tb):=Ku ha c λ_ _ _ _ _ _ h=>lt_int h
def MQ (ta:TE):TE:=λσ H Q=>ta σ H λx H1=>Q (.bl (decide (x=.non))) H1
def Mr (ta:TE):TE:=λσ H Q=>ta σ H λx H1=>Q (.bl (!decide (x=.non))) H1
theorem RelV.none_iff {x:V} {v:Value} (r:RelV x v):(v==Value.none)=decide (x=.non):=by
 cases x with
 |non=>cases r;rfl
 |bl _=>cases r;rfl
 |int _=>obtain⟨t,rfl⟩:=r;rfl
 |str _=>obtain⟨t,rfl⟩:=r;rfl
 |byt _=>obtain⟨t,rfl⟩:=r;rfl
 |flt _=>obtain⟨t,rfl⟩:=r;rfl
 |ref _=>cases r;rfl
 |ty _=>cases r;rfl
theorem EK {j pos'} (ha:PE X a ta):PC X .Is a (.Constant .none j pos') (MQ ta):=by
 intro pins s σ H Q I h;refine thn (ha pins s σ H _ I h) λv s1 b=>?_
 obtain⟨x,H1,c,e,f⟩:=b;exact Constant_none (is_none_gen ⟨.bl _,H1,c,by rw[e.none_iff];rfl,f⟩)
theorem FJ {j pos'} (ha:PE X a ta):PC X .IsNot a (.Constant .none j pos') (Mr ta):=by
 intro pins s σ H Q I h;refine thn (ha pins s σ H _ I h) λv s1 b=>?_
 obtain⟨x,H1,c,e,f⟩:=b;exact Constant_none (isnot_none_gen ⟨.bl _,H1,c,by rw[e.none_iff];rfl,f⟩)
def tB (t:TE):TT:=λσ H Q=>t σ H λx H1=>∃c,x=.bl c/\Q c H1
theorem IV {t:TE} (h:PC X op a b t) (h1:behindInMarks op b=false:=by first|exact xf _ (by decide) (by decide)|rfl):PE X (.Compare a [op] [b] pos) t:=λpins s σ H Q I hw=>wpAny_Compare1 (h pins s σ H Q I hw) h1
theorem zC {t:TE} (h:PC X op a b t) (h1:behindInMarks op b=false:=by first|exact xf _ (by decide) (by decide)|rfl):PT X (.Compare a [op] [b] pos) (tB t):=by intro pins s σ H Q I hw;refine wpAny_isTrue_Compare1 (thn (h pins s σ H _ I hw) λv s1 h1=>thn h1 λu s2 h2=>thn h2 λc s3 e=>?_) h1;obtain⟨x,H1,f,g,i⟩:=e;obtain⟨d,rfl,q⟩:=i;cases g;exact wpAny_truthy_bool ⟨H1,f,q⟩
theorem JQ {t:TE} (h:PE X e t) (b:∀whole,isTrue e X.env whole=(do let v <-whole;standAt e.pos;holding [v] (truthy v)):=by intro _;rfl):PT X e (tB t):=by intro pins s σ H Q I hw;refine isTrue_plain (thn (h pins s σ H _ I hw) λv s1 a=>?_) (b _);obtain⟨x,H1,c,f,g⟩:=a;obtain⟨d,rfl,q⟩:=g;cases f;exact wpAny_truthy_bool ⟨H1,c,q⟩
variable {tA tB':TT} {rest:List Expr}
def MN (t u:TT):TT:=λσ H Q=>t σ H λc H1=>if c=true then u σ H1 Q else Q false H1
def tOr (t u:TT):TT:=λσ H Q=>t σ H λc H1=>if c=true then Q true H1 else u σ H1 Q
def MY (t:TT):TT:=λσ H Q=>t σ H λc H1=>Q (!c) H1
theorem FW (ha:PT X a tA):PW X (.BoolOp .And [a] pos) tA:=by
 intro wh pins s σ H Q I h;refine isTrue_and (thn (ha pins s σ H Q I h) λc s1 e=>?_);cases c with
 |true=>exact isTrue_and_nil e
 |false=>exact e
theorem IQ (ha:PT X a tA):PW X (.BoolOp .Or [a] pos) tA:=by
 intro wh pins s σ H Q I h;refine isTrue_or (thn (ha pins s σ H Q I h) λc s1 e=>?_);cases c with
 |false=>exact isTrue_or_nil e
 |true=>exact e
theorem Kd (ha:PT X a tA) (i:PW X (.BoolOp .And (b::rest) pos) tB'):PW X (.BoolOp .And (a::b::rest) pos) (MN tA tB'):=by
 intro j pins s σ H Q I h;refine isTrue_and (thn (ha pins s σ H _ I h) λc l e=>?_);obtain⟨H1,f,g⟩:=e;cases c with
 |true=>exact i j pins l σ H1 Q f g
 |false=>exact⟨H1,f,g⟩
theorem L4 (ha:PT X a tA) (i:PW X (.BoolOp .Or (b::rest) pos) tB'):PW X (.BoolOp .Or (a::b::rest) pos) (tOr tA tB'):=by
 intro j pins s σ H Q I h;refine isTrue_or (thn (ha pins s σ H _ I h) λc l e=>?_);obtain⟨H1,f,g⟩:=e;cases c with
 |true=>exact⟨H1,f,g⟩
 |false=>exact i j pins l σ H1 Q f g
theorem IB (ha:PT X a tA):PT X (.UnaryOp .Not a pos) (MY tA):=by intro pins s σ H Q I h;exact isTrue_not (ha pins s σ H (λc H1=>Q (!c) H1) I h)
def LF (ta tb:TE):TE:=λσ H Q=>ta σ H λx H1=>∃c,x=.bl c/\if c=true then tb σ H1 Q else Q (.bl false) H1
def ML (ta tb:TE):TE:=λσ H Q=>ta σ H λx H1=>∃c,x=.bl c/\if c=true then Q (.bl true) H1 else tb σ H1 Q
theorem Kz {op} {t:TE} (h:PE X a t):PE X (.BoolOp op [a] pos) t:=λpins s σ H Q I hw=>BoolOp_one (h pins s σ H Q I hw)
theorem Jr (ha:PE X a ta) (i:PE X (.BoolOp .And (b::rest) pos) tb):PE X (.BoolOp .And (a::b::rest) pos) (LF ta tb):=by
 intro pins s σ H Q I h;refine BoolOp_and (thn (ha pins s σ H _ I h) λv j f=>?_);obtain⟨x,H1,g,l,e⟩:=f;obtain⟨c,rfl,e⟩:=e;cases l;refine wpAny_truthy_bool ?_;cases c with
 |true=>exact i pins j σ H1 Q g e
 |false=>exact⟨.bl false,H1,g,rfl,e⟩
theorem L0 (ha:PE X a ta) (i:PE X (.BoolOp .Or (b::rest) pos) tb):PE X (.BoolOp .Or (a::b::rest) pos) (ML ta tb):=by
 intro pins s σ H Q I h;refine BoolOp_or (thn (ha pins s σ H _ I h) λv j f=>?_);obtain⟨x,H1,g,l,e⟩:=f;obtain⟨c,rfl,e⟩:=e;cases l;refine wpAny_truthy_bool ?_;cases c with
 |false=>exact i pins j σ H1 Q g e
 |true=>exact⟨.bl true,H1,g,rfl,e⟩
def tIf (t:TT) (ta tb:TE):TE:=λσ H Q=>t σ H λc H1=>if c=true then ta σ H1 Q else tb σ H1 Q
theorem CS (hc:PT X c tA) (ha:PE X a ta) (j:PE X b tb):PE X (.IfExp c a b pos) (tIf tA ta tb):=by
 intro pins s σ H Q I h;refine wpAny_IfExp (thn (hc pins s σ H _ I h) λd f e=>?_);obtain⟨H1,g,i⟩:=e;cases d with
 |true=>exact ha pins f σ H1 Q g i
 |false=>exact j pins f σ H1 Q g i
end
def SqL (K:PySem.W.Frag) (H:Hp) (a:Addr) (xs:List V):Prop :=
 Rd H a (.lst xs) \/
  ∃(o:Obj) (b:Array Value) (n:Nat),K.lookup a=some o/\o.cls=.type "list"/\o.dict=none/\o.data=.seq b n/\b.size<=sizeLine/\Vals xs b.toList
def SqT (K:PySem.W.Frag) (H:Hp) (a:Addr) (xs:List V):Prop :=
 Rd H a (.tup xs) \/
  ∃(o:Obj) (b:Array Value) (n:Nat),K.lookup a=some o/\o.cls=.type "tuple"/\o.data=.seq b n/\b.size<=sizeLine/\Vals xs b.toList
def MJ:Value->Option V
 |.none=>some .non
 |.bool b=>some (.bl b)
 |.int i _=>some (.int i)
 |.str x _=>some (.str x)
 |.bytes b _=>some (.byt b)
 |.float b _=>some (.flt b)
 |.ref a=>some (.ref a)
 |.type n=>some (.ty n)
 |_=>none
theorem RelV.abs {x:V} (r:RelV x u):MJ u=some x:=by
 cases x with
 |non=>cases r;rfl
 |bl _=>cases r;rfl
 |int _=>obtain⟨t,rfl⟩:=r;rfl
 |str _=>obtain⟨t,rfl⟩:=r;rfl
 |byt _=>obtain⟨t,rfl⟩:=r;rfl
 |flt _=>obtain⟨t,rfl⟩:=r;rfl
 |ref _=>cases r;rfl
 |ty _=>cases r;rfl
theorem RelV.inj {x y:V} (r:RelV x u) (q:RelV y u):x=y:=Option.some.inj (r.abs.symm.trans q.abs)
theorem Vals.inj {ys:List V} (h:Vals xs us) (h':Vals ys us):xs=ys:=by
 induction h generalizing ys with
 |nil=>cases h';rfl
 |cons r t ih =>
  cases h' with
  |cons r' t'=>rw[r.inj r',ih t']
section
variable {ys:List V}
theorem SqL.of (h:H a=some (.lst xs)):SqL K H a xs:=.inl (.inl h)
theorem SqT.of (h:H a=some (.tup xs)):SqT K H a xs:=.inl (.inl h)
theorem Inv.list (I:Inv X pins σ H s) (h:SqL X.K H a xs):∃b:List Value,Vals xs b/\PlainL s.heap a b.toArray/\xs.length<=sizeLine:=by
 rcases h with h|⟨o,b,n,c,hc,hd,f,hz,r⟩
 ·obtain⟨z,b,n,r,e⟩:=h.ok I.hok;exact⟨b,r,⟨_,n,e,rfl,rfl,rfl⟩,z⟩
 ·refine⟨b.toList,r,⟨o,n,I.kIn a o c,hc,hd,by simpa using f⟩,?_⟩;have e:=r.length;simp only[NX]at e;omega
theorem Inv.tuple (I:Inv X pins σ H s) (h:SqT X.K H a xs):∃b:List Value,Vals xs b/\IsTup s.heap a b.toArray/\xs.length<=sizeLine:=by
 rcases h with h|⟨o,b,n,c,hc,f,hz,r⟩
 ·obtain⟨z,b,r,p⟩:=h.ok I.hok;exact⟨b,r,p.tup,z⟩
 ·refine⟨b.toList,r,⟨o,I.kIn a o c,hc,n,by simpa using f⟩,?_⟩;have e:=r.length;simp only[NX]at e;omega
theorem Inv.list_inj (I:Inv X pins σ H s) (h:SqL X.K H a xs) (h':SqL X.K H a ys):xs=ys:=by
 obtain⟨b,r,⟨o,n,e,_,_,d⟩,_⟩:=I.list h;obtain⟨its',f,⟨o',n',c,_,_,d'⟩,_⟩:=I.list h';rw[e]at c;cases c;rw[d]at d';injection d' with d1 _
 have:b=its':=by simpa using congrArg Array.toList d1
 subst this;exact r.inj f
theorem Inv.tuple_inj (I:Inv X pins σ H s) (h:SqT X.K H a xs) (h':SqT X.K H a ys):xs=ys:=by
 obtain⟨b,r,⟨o,e,_,n,d⟩,_⟩:=I.tuple h;obtain⟨its',f,⟨o',c,_,n',d'⟩,_⟩:=I.tuple h';rw[e]at c;cases c;rw[d]at d';injection d' with d1 _
 have:b=its':=by simpa using congrArg Array.toList d1
 subst this;exact r.inj f
end
abbrev Cx.wish (X:Cx) (E:Value->Shared->Prop):Cx:={ X with xe:=E }
abbrev Cx.nox (X:Cx):Cx:=X.wish λ_ _=>False
theorem Cx.Ok.wish (ok:X.Ok) (E:Value->Shared->Prop):(X.wish E).Ok :=
 ⟨ok.mod,ok.kind,ok.glob,ok.blt,ok.above,ok.inj,ok.has,ok.cab,ok.hd,ok.frames,ok.stk,ok.exf,ok.bs,ok.bsz,ok.noex,ok.exfs,ok.funs,ok.frf⟩
theorem Cx.Ok.unwish (ok:(X.wish E).Ok):X.Ok :=
 ⟨ok.mod,ok.kind,ok.glob,ok.blt,ok.above,ok.inj,ok.has,ok.cab,ok.hd,ok.frames,ok.stk,ok.exf,ok.bs,ok.bsz,ok.noex,ok.exfs,ok.funs,ok.frf⟩
section
theorem Inv.wish (I:Inv X pins σ H s) (E:Value->Shared->Prop):Inv (X.wish E) pins σ H s:=⟨I.ok.wish E,I.os,I.bare,I.base,I.loc,I.cell,I.free,I.freeC,I.pin,I.hok,I.len,I.tab⟩
theorem Inv.unwish (I:Inv (X.wish E) pins σ H s):Inv X pins σ H s:=⟨I.ok.unwish,I.os,I.bare,I.base,I.loc,I.cell,I.free,I.freeC,I.pin,I.hok,I.len,I.tab⟩
theorem SP.unwish {D:Ends} {f:Flow} (h:SP (X.wish E) pins D f s'):SP X pins D f s':=by
 cases f with
 |next=>obtain⟨a,H',I,q⟩:=h;exact⟨a,H',I.unwish,q⟩
 |brk=>obtain⟨a,H',I,q⟩:=h;exact⟨a,H',I.unwish,q⟩
 |cont=>obtain⟨a,H',I,q⟩:=h;exact⟨a,H',I.unwish,q⟩
 |ret u=>obtain⟨v,a,H',I,r,q⟩:=h;exact⟨v,a,H',I.unwish,r,q⟩
theorem PSs.nox {st:List Stmt} {t:TS} (h:PSs X.nox st t):PSs X st t:=λpins s σ H D I hw =>
 wpAny_mono (h pins s σ H D (I.wish _) hw) (λ_ _ q=>q.unwish) λ_ _ z=>False.elim z
end
section
variable {rest:List Stmt} {t u:TS} {te:TE}
def Lk:TS:=λD σ H=>D.nx σ H
def MT (t u:TS):TS:=λD σ H=>t { D with nx:=u D } σ H
theorem vt:PSs X [] Lk:=λ_ _ σ H _ I h=>wpAny_execs_nil ⟨σ,H,I,h⟩
theorem cx (h1:PS X st t) (h2:PSs X rest u):PSs X (st::rest) (MT t u):=by
 intro pins s σ H D I h;refine wpAny_execs_cons (thn (h1 pins s σ H { D with nx:=u D } I h) λf b q=>?_);cases f with
 |next =>obtain⟨a,H',c,q⟩:=q;exact h2 pins b a H' D c q
 |ret v=>exact q
 |brk=>exact q
 |cont=>exact q
theorem ie (h1:PS X st t):PSs X [st] t:=by
 intro pins s σ H D I h;refine wpAny_execs_cons (thn (h1 pins s σ H D I h) λf s1 q=>?_);cases f with
 |next=>exact wpAny_execs_nil q
 |ret v=>exact q
 |brk=>exact q
 |cont=>exact q
theorem Inv.quiet (I:Inv X pins σ H s):interactive X.env=false:=by simp[interactive,I.ok.kind]
def Ms (te:TE):TS:=λD σ H=>te σ H λ_ H1=>D.nx σ H1
theorem pf (b:PE X e te) (c:swapsWith e none pos.line X.env=pure false:=by rfl):PS X (.Expr e pos) (Ms te):=by intro pins s σ H D I h;exact wpAny_Expr_any (thn (b pins s σ H _ I h) λv s1 a=>(by obtain⟨x,H1,f,r1,g⟩:=a;exact⟨σ,H1,f,g⟩)) I.quiet c
def MZ (te:TE):TS:=λD σ H=>te σ H D.rt
theorem qZ (b:PE X e te):PS X (.Return (some e) pos) (MZ te):=by intro pins s σ H D I h;exact wpAny_Return_some (thn (b pins s σ H _ I h) λv s1 a=>(by obtain⟨x,H1,c,f,g⟩:=a;exact⟨x,σ,H1,c,f,g⟩))
def M9 (c:TT) (t u:TS):TS:=λD σ H=>c σ H λb H1=>if b=true then t D σ H1 else u D σ H1
theorem Ay {a b:List Stmt} {tc:TT} (hc:PT X c tc) (ha:PSs X a t) (j:PSs X b u):PS X (.If c a b pos) (M9 tc t u):=by
 intro pins s σ H D I h;refine wpAny_If (thn (hc pins s σ H _ I h) λd f e=>?_);obtain⟨H1,g,i⟩:=e;cases d with
 |true=>exact ha pins f σ H1 D g i
 |false=>exact j pins f σ H1 D g i
end
abbrev TG:=V->St->Hp->(St->Hp->Prop)->Prop
abbrev TGs:=List V->St->Hp->(St->Hp->Prop)->Prop
def PG (X:Cx) (target:Expr) (t:TG):Prop :=
 ∀(pins:List (Addr×Obj)) (s:Shared) (σ:St) (H:Hp) (v:V) (u:Value) (Q:St->Hp->Prop),Inv X pins σ H s->RelV v u->t v σ H Q ->
  wpAny (model X.prog X.w) X.A (assign target X.env u) (λ_ s'=>∃a H',Inv X pins a H' s'/\Q a H') X.xe s
def PGs (X:Cx) (ts:List Expr) (t:TGs):Prop :=
 ∀(pins:List (Addr×Obj)) (s:Shared) (σ:St) (H:Hp) (vs:List V) (us:List Value) (Q:St->Hp->Prop),Inv X pins σ H s->Vals vs us->t vs σ H Q ->
  wpAny (model X.prog X.w) X.A (assignInOrder ((assignEach ts X.env).map (·.2)) us) (λ_ s'=>∃a H',Inv X pins a H' s'/\Q a H') X.xe s
abbrev KD:=V->V->V->Hp->(Hp->Prop)->Prop
def Mt (X:Cx) (t:KD):Prop :=
 ∀(pins:List (Addr×Obj)) (s:Shared) (σ:St) (H:Hp) (o i v:V) (a b u:Value) (Q:Hp->Prop),Inv X pins σ H s->RelV o a->RelV i b->RelV v u->t o i v H Q ->
  wpAny (model X.prog X.w) X.A (setItem a b u) (λ_ s'=>∃H',Inv X pins σ H' s'/\Q H') X.xe s
abbrev TIp:=V->V->Hp->VK->Prop
def PIp (X:Cx) (op:Operator) (t:TIp):Prop :=
 ∀(pins:List (Addr×Obj)) (s:Shared) (σ:St) (H:Hp) (x y:V) (v u:Value) (Q:VK),Inv X pins σ H s->RelV x v->RelV y u->t x y H Q ->
  wpAny (model X.prog X.w) X.A (inplaceOp op v u) (EP X pins σ Q) X.xe s
section
def jO (i:Nat):TG:=λv σ H Q=>Q (σ.set i (some v)) H
theorem uu (a:X.N.Nodup) (hi:X.N[i]?=some x) (b:Loc X.env.scope x) (c:X.fn x=true\/X.env.scope.names.lookup x=some .local:=by first|exact .inl rfl|exact .inr rfl|assumption):PG X (.Name x pos) (jO i):=by intro pins s σ H v u Q I r h;exact wpAny_assign_Name (qF I a hi b r (λs' e=>⟨_,H,e,h⟩) c)
def J8:TGs:=λvs σ H Q=>vs=[]/\Q σ H
def Aq (t:TG) (u:TGs):TGs:=λvs σ H Q=>∃v r,vs=v::r/\t v σ H λa H'=>u r a H' Q
theorem Ad:PGs X [] J8:=by intro pins s σ H vs us Q I r h;obtain⟨e,h⟩:=h;subst e;cases r;exact assignInOrder_nil ⟨σ,H,I,h⟩
theorem pA {t:TG} {u:TGs} (h1:PG X e t) (h2:PGs X es u)
  (c:(assignEach (e::es) X.env).map (·.2)=assign e X.env::(assignEach es X.env).map (·.2):=by rfl):PGs X (e::es) (Aq t u):=by
 intro pins s σ H vs us Q I r h;obtain⟨v,vr,e1,h⟩:=h;subst e1;cases r with
 |cons r rr =>rw[c];refine assignInOrder_cons (thn (h1 pins s σ H _ _ _ I r h) λ_ f a=>?_);obtain⟨b,H1,g,i⟩:=a;exact h2 pins f b H1 _ _ Q g rr i
def Kv (K:PySem.W.Frag) (n:Nat) (t:TGs):TG:=λv σ H Q=>∃a xs,v=.ref a/\SqT K H a xs/\xs.length=n/\t xs σ H Q
theorem DE {k:Nat} {t:TGs} {n:Nat} (hc:X.calm=true) (h:PGs X es t)
  (hn:(assignEach es X.env).length=n:=by rfl) (c:(assignEach es X.env).findIdx? (·.1)=none:=by rfl):PG X (.Tuple es k pos) (Kv X.K n t):=by
 intro pins s σ H v u Q I r hw;obtain⟨a,xs,e1,g,hl,hw⟩:=hw;subst e1;cases r;obtain⟨its,f,i,hz⟩:=I.tuple g;refine assign_Tuple_tuple (I.ok.hd hc) i (by simp[hn,<-hl,f.length]) c λh' j=>?_
 have l:Inv X pins σ H { s with heap:=h' }:=I.kept (t':=s.toks) λb o e=>j b o (Nq (Nk e)) e
 exact h pins _ σ H xs _ Q l (by simpa using f) hw
def MS (to a:TE) (t:KD):TG:=λv σ H Q=>to σ H λo H1=>a σ H1 λi H2=>t o i v H2 λb=>Q σ b
theorem Kl {o i:Expr} {to e:TE} {t:KD} (f:PE X o to) (hi:PE X i e) (g:Mt X t)
  (ha:∀v,assign (.Subscript o i pos) X.env v=(do
   let b <-holding [v] (eval o X.env);let c <-holding [v,b] (eval i X.env)
   standAt pos
   holding [v,b,c] (setItem b c v)
   release [v,b,c] []):=by intro _;rfl):PG X (.Subscript o i pos) (MS to e t):=by
 intro pins s σ H v u Q I r h;rw[ha];refine wpAny_bind (wpAny_holding (thn (f pins s σ H _ I h) λb j a=>?_));obtain⟨x,H1,l,m,n⟩:=a;refine wpAny_bind (wpAny_holding (thn (hi pins j σ H1 _ l n) λc s2 a=>?_));obtain⟨y,H2,p,q,w⟩:=a;refine wpAny_bind (wpAny_standAt (wpAny_bind (wpAny_holding (thn (g pins s2 σ H2 x y v b c u _ p m q r w) λ_ s3 a=>?_))));obtain⟨z,A,B⟩:=a;exact wpAny_release ⟨σ,z,A,B⟩
def FD (te:TE) (g:TG):TS:=λD σ H=>te σ H λx H1=>g x σ H1 D.nx
theorem Jg {te:TE} {g:TG} (b:PE X e te) (c:PG X tg g) (f:swapsWithSole [tg] e pos.line X.env=pure false:=by rfl) (hw:swappedStores [tg] e X.env=pure none:=by rfl)
  (h1:(assignEach [tg] X.env).map (·.2)=[assign tg X.env]:=by rfl):PS X (.Assign [tg] e pos) (FD te g):=by
 intro pins s σ H D I h;refine wpAny_Assign_stores (thn (b pins s σ H _ I h) λv i a=>?_) f hw;obtain⟨x,H1,j,l,m⟩:=a;rw[h1];exact thn (c pins i σ H1 x v _ j l m) λ_ s2 q=>q
theorem nN {te:TE} (b:X.N.Nodup) (hi:X.N[i]?=some x) (c:Loc X.env.scope x) (f:PE X e te) (g:swapsWith e (some (.Name x pos')) pos.line X.env=pure false:=by rfl) (j:X.fn x=true\/X.env.scope.names.lookup x=some .local:=by first|exact .inl rfl|exact .inr rfl|assumption) :
  PS X (.Assign [.Name x pos'] e pos) (FD te (jO i)):=by
 intro pins s σ H D I h;refine wpAny_Assign_Name (thn (f pins s σ H _ I h) λv s1 a=>?_) g;obtain⟨y,H1,l,m,n⟩:=a;exact qF l b hi c m (λs2 o=>⟨_,H1,o,n⟩) j
def M8 (i:Nat) (te:TE) (a:TIp):TS:=λD σ H=>∃x,σ[i]?=some (some x)/\te σ H λy H1=>a x y H1 λz H2=>D.nx (σ.set i (some z)) H2
theorem Kr {te:TE} {op:Operator} {p:TIp} (q:X.N.Nodup) (hi:X.N[i]?=some x) (n:Loc X.env.scope x) (B:PE X e te) (C:PIp X op p) (E:X.fn x=true\/X.env.scope.names.lookup x=some .local:=by first|exact .inl rfl|exact .inr rfl|assumption) :
  PS X (.AugAssign (.Name x pos') op e pos) (M8 i te p):=by
 intro pins s σ H D I h;obtain⟨v,e1,h⟩:=h;obtain⟨m,hn,hl⟩:=I.loc;have o:Vis X.env.scope x:=by rcases n with k|k;exact .inl k;exact .inr (.inl k)
 obtain⟨u,r,l⟩:=hl i x v hi e1 o;refine wpAny_AugAssign_Name ?_;have go:wpAny (model X.prog X.w) X.A (eval e X.env) (λw g=>wpAny (model X.prog X.w) X.A (inplaceOp op u w) (λr j=>wpAny (model X.prog X.w) X.A (storeName X.env x r) (λ_=>SP X pins D .next) X.xe j) X.xe g) X.xe s:=by
  refine thn (B pins s σ H _ I h) λw F b=>?_
  obtain⟨y,H1,G,J,K⟩:=b;refine thn (C pins F σ H1 v y u w _ G r J K) λz s2 b=>?_
  obtain⟨zv,H2,L,M,O⟩:=b;exact qF L q hi n M (λs3 P=>⟨_,H2,P,O⟩) E
 rcases l with⟨a,hm⟩|⟨a,c,hc,f⟩
 ·exact wpAny_loadName_local I.ok.kind a hn hm go
 ·rcases a with a|a
  ·exact wpAny_loadName_cell I.ok.kind a hc f go
  ·rcases n with k|k
   ·have:X.env.scope.names.lookup x=some .free:=a;rw[k]at this;cases this
   ·have:X.env.scope.names.lookup x=some .free:=a;rw[k]at this;cases this
def ipI (f:Int->Int->Int):TIp:=λx y H Q=>∃i j,x=.int i/\y=.int j/\Q (.int (f i j)) H
theorem K0:PIp X .Add (ipI λi j=>i+j):=by intro pins s σ H x y v u Q I a b h;obtain⟨i,j,e1,e2,q⟩:=h;subst e1;subst e2;obtain⟨t,rfl⟩:=a;obtain⟨t',rfl⟩:=b;exact iadd_int ⟨.int _,H,I.tok _,⟨_,rfl⟩,q⟩
end
section
def K7 (c:TT) (tb:TS):TS:=λD σ H=>∃W:Nat->St->Hp->Prop,(∃m,W m σ H)/\∀m σ H,W m σ H ->
 c σ H λb H1=>if b=true then ∃N:St->Hp->Prop,(∀a H',N a H'->∃e,e < m/\W e a H')/\tb { D with nx:=N,ct:=N,bk:=D.nx } σ H1 else D.nx σ H1
theorem xC {tc:TT} {tb:TS} (u:PassesOwn (model X.prog X.w) X.A X.env X.xe) (hc:PT X c tc) (z:PSs X body tb):PS X (.While c body [] pos) (K7 tc tb):=by
 intro pins s σ H D I h;obtain⟨W,⟨B,C⟩,turn⟩:=h;refine wpAny_While (codeAny_whileLoop (λn s'=>∃g H',Inv X pins g H' s'/\W n g H') ?_ B ⟨σ,H,I,C⟩)
 rintro n E ⟨e,H1,F,G⟩
 refine wpAny_passesOwn u (thn (hc pins E e H1 _ F (turn n e H1 G)) λb s2 m=>?_);obtain⟨H2,x,j⟩:=m;cases b with
 |true =>
  obtain⟨N,y,j⟩:=j;rw[if_pos rfl];refine wpAny_passesOwn u (thn (z pins s2 e H2 _ x j) λf s3 l=>?_);cases f with
  |next =>obtain⟨a,i,o,p⟩:=l;obtain⟨q,hm,r⟩:=y a i p;exact⟨q,hm,a,i,o,r⟩
  |cont =>obtain⟨a,i,o,p⟩:=l;obtain⟨q,hm,r⟩:=y a i p;exact⟨q,hm,a,i,o,r⟩
  |brk=>exact l
  |ret v=>exact l
 |false =>rw[if_neg NA];exact wpAny_execs_nil ⟨e,H2,x,j⟩
end
structure It where
 go:Nat->Hp->Prop
 yld:Nat->Hp->V->Hp->Prop
 stop:Nat->Hp->Prop
def qO (X:Cx) (pins:List (Addr×Obj)) (H:Hp) (b:Addr):Prop :=
 H b=none/\b≠X.env.locals/\b∉X.fs/\(b∈X.ex\/X.s₀.heap.objs.size<=b)/\(∀x c,X.env.cells.lookup x=some c->c≠b)/\∀p∈X.pn++pins,p.1≠b
theorem Inv.fpOk {H':Hp} (I:Inv X pins σ H s) (a:s.heap.objs.size<=b) (hn:H' b=none):qO X pins H' b:=by
 refine⟨hn,O9 (Nt I.lt a),I.nofs a,.inr (O4 I.sz a),λx c e z=>?_,λp f z=>?_⟩
 ·obtain⟨v,q⟩:=I.cell x c e;exact absurd (Nt q.lt (by rw[z];exact a)) (Oj _)
 ·exact absurd (Nt (Nk (I.pin p f).1) (by rw[z];exact a)) (Oj _)
structure Turn (P:Program) (w:World) (K:PySem.W.Frag) (tg:Expr) (J:It) (fp:List Addr) (it:Addr) (tn:Nat->Heap->Prop):Prop where
 mem:it∈fp
 obj:∀i h,tn i h->∀b∈fp,∃o,h.get? b=some o/\∀v,o.data≠.cell v
 keep:∀i h h',tn i h->(∀b∈fp,∀o,h.get? b=some o->h'.get? b=some o)->tn i h'
 item:∀(X:Cx),X.prog=P->X.w=w->X.K=K->X.calm=true->∀(i:Nat) (pins:List (Addr×Obj)) (s:Shared) (σ:St) (H:Hp) (E:Value->Shared->Prop),Inv X pins σ H s->(∀b∈fp,qO X pins H b)->tn i s.heap->J.go i H ->
  wpAny (model P w) X.A (pyNext (.ref it)) (λr s1=>∃u,r=some u /\
   wpAny (model P w) X.A (letOwnedTupleGo tg (.ref it) u) (λ_ s2=>∃x H',Inv X pins σ H' s2/\RelV x u/\J.yld i H x H'/\tn (i+1) s2.heap/\∀b∈fp,H' b=none) E s1) E s
 done:∀(X:Cx),X.prog=P->X.w=w->X.K=K->X.calm=true->∀(i:Nat) (pins:List (Addr×Obj)) (s:Shared) (σ:St) (H:Hp) (E:Value->Shared->Prop),Inv X pins σ H s->(∀b∈fp,qO X pins H b)->tn i s.heap->J.stop i H ->
  wpAny (model P w) X.A (pyNext (.ref it)) (λr s1=>r=none/\Inv X pins σ H s1) E s
 self:∀(A:Around) (i:Nat) (s:Shared) (Q:Value->Shared->Prop) (E:Value->Shared->Prop),tn i s.heap->Q (.ref it) s->wpAny (model P w) A (pyIter (.ref it)) Q E s
abbrev TI:=St->Hp->(It->Hp->Prop)->Prop
def PIE (X:Cx) (pins:List (Addr×Obj)) (σ:St) (tg:Expr) (R:It->Hp->Prop) (a:Value) (s2:Shared):Prop :=
 ∃(it:Addr) (fp:List Addr) (tn:Nat->Heap->Prop) (J:It) (H':Hp),a=.ref it/\Inv X pins σ H' s2/\Turn X.prog X.w X.K tg J fp it tn/\tn 0 s2.heap/\(∀b∈fp,qO X pins H' b)/\R J H'
def PI (X:Cx) (tg iter:Expr) (a:TI):Prop :=
 ∀(pins:List (Addr×Obj)) (s:Shared) (σ:St) (H:Hp) (R:It->Hp->Prop),Inv X pins σ H s->a σ H R ->
  wpAny (model X.prog X.w) X.A (eval iter X.env) (λv b=>wpAny (model X.prog X.w) X.A (pyIter v) (PIE X pins σ tg R) X.xe b) X.xe s
theorem Dj {o:Obj} {n:String} {vs:Array Value} {Q:Unit->Shared->Prop} (b:s.heap.get? it=some o) (hc:o.cls=.type n) (hd:o.data=.fields vs)
    (hn:["enumerate", "zip", "dict_itemiterator", "dict_reverseitemiterator", "odict_iterator", "itertools.zip_longest", "itertools.pairwise"].contains n=false) (a:Q () s):wpAny M A (letOwnedTupleGo tg (.ref it) u) Q E s:=by
  unfold letOwnedTupleGo
  cases tg <;> first
    |exact wpAny_pure a
    | (cases u <;> first
        |exact wpAny_pure a
        | (refine wpAny_bind (wpAny_load b ?_)
           rw[hc,hd]
           show wpAny M A (if (["enumerate", "zip", "dict_itemiterator", "dict_reverseitemiterator", "odict_iterator", "itertools.zip_longest", "itertools.pairwise"].contains n&&vs[0]?==some (rawInt _))=true then _ else _) Q E s
           rw[if_neg (by intro h;rw[hn,Bool.false_and]at h;cases h)]
           exact wpAny_pure a))
def Itl (K:PySem.W.Frag) (a:Addr):It :=
 ⟨λi H=>∃xs x,SqL K H a xs/\xs[i]?=some x,λi H x H'=>H'=H/\∀xs,SqL K H a xs->xs[i]?=some x,λi H=>∃xs,SqL K H a xs/\xs.length<=i⟩
def Itt (K:PySem.W.Frag) (a:Addr):It :=
 ⟨λi H=>∃xs x,SqT K H a xs/\xs[i]?=some x,λi H x H'=>H'=H/\∀xs,SqT K H a xs->xs[i]?=some x,λi H=>∃xs,SqT K H a xs/\xs.length<=i⟩
def Itr (lo:Int) (n:Nat):It:=⟨λi _=>i<n,λi H x H'=>H'=H/\x=.int (lo+i),λi _=>n<=i⟩
theorem Cz (a it:Addr):Turn P w K tg (Itl K a) [it] it (λi h=>h.IsListIter it a i) where
 mem:=by simp
 obj:=λi h st b f=>by
  have e:b=it:=by simpa using f
  subst e;obtain⟨o,e,c,d⟩:=st;exact⟨o,e,λv z=>by rw[d]at z;cases z⟩
 keep:=λi h h' st k=>st.at λo e=>k it (by simp) o e
 item:=by
  intro X m hw hK hc i pins s σ H E I j st n;subst m hw hK;obtain⟨xs,x,l,q⟩:=n;obtain⟨r,y,p,F⟩:=I.list l;obtain⟨u,G,J⟩:=y.get q;obtain⟨A,f1,f2,B,C,D⟩:=j it (by simp);refine wpAny_pyNext_list_item st p.isList (x:=u) (by simpa using G) λh' g L=>?_
  have M:Inv X pins σ H { s with heap:=h' }:=I.turned (t':=s.toks) (λb o f e=>(L.2 b f).trans e) A f1 B C D;obtain⟨o,e,c,d⟩:=id g;exact⟨u,rfl,Dj (s:={ s with heap:=h' }) e c d (by decide) ⟨x,H,M,J,⟨rfl,λys N=>by rw[I.list_inj N l];exact q⟩,g,λb f=>(j b f).1⟩⟩
 done:=by intro X m hw hK hc i pins s σ H E I j st n;subst m hw hK;obtain⟨xs,l,q⟩:=n;obtain⟨r,y,p,F⟩:=I.list l;obtain⟨A,f1,f2,B,C,D⟩:=j it (by simp);have hl:=y.length;exact wpAny_pyNext_list_end (I.ok.hd hc) st p.isList (by simp;omega) λh' O=>⟨rfl,I.turned (t':=s.toks) (λb o f e=>O b o f e) A f1 B C D⟩
 self:=λ_ _ _ _ _ st h=>wpAny_pyIter_listiter st h
theorem yO (a it:Addr):Turn P w K tg (Itt K a) [it] it (λi h=>h.IsTupleIter it a i) where
 mem:=by simp
 obj:=λi h st b f=>by
  have e:b=it:=by simpa using f
  subst e;obtain⟨o,e,c,d⟩:=st;exact⟨o,e,λv z=>by rw[d]at z;cases z⟩
 keep:=λi h h' st k=>st.at λo e=>k it (by simp) o e
 item:=by
  intro X n hw hK hc i pins s σ H E I l st q;subst n hw hK;obtain⟨xs,x,m,r⟩:=q;obtain⟨g,y,p,F⟩:=I.tuple m;obtain⟨u,G,J⟩:=y.get r;obtain⟨A,f1,f2,B,C,D⟩:=l it (by simp);refine wpAny_pyNext_tuple_item st (show s.heap.IsTuple a g.toArray from p) (x:=u) (by simpa using G) λh' j L=>?_
  have M:Inv X pins σ H { s with heap:=h' }:=I.turned (t':=s.toks) (λb o f e=>(L.2 b f).trans e) A f1 B C D;obtain⟨o,e,c,d⟩:=id j;exact⟨u,rfl,Dj (s:={ s with heap:=h' }) e c d (by decide) ⟨x,H,M,J,⟨rfl,λys N=>by rw[I.tuple_inj N m];exact r⟩,j,λb f=>(l b f).1⟩⟩
 done:=by intro X n hw hK hc i pins s σ H E I l st q;subst n hw hK;obtain⟨xs,m,r⟩:=q;obtain⟨g,y,p,F⟩:=I.tuple m;obtain⟨A,f1,f2,B,C,D⟩:=l it (by simp);have hl:=y.length;exact wpAny_pyNext_tuple_end (I.ok.hd hc) st (show s.heap.IsTuple a g.toArray from p) (by simp;omega) λh' O=>⟨rfl,I.turned (t':=s.toks) (λb o f e=>O b o f e) A f1 B C D⟩
 self:=λ_ _ _ _ _ st h=>wpAny_pyIter_tupleiter st h
theorem yc (it:Addr) (lo:Int) (n:Nat):Turn P w K tg (Itr lo n) [it] it (λi h=>IsRangeIter h it (lo+(i:Nat)*1) ((n:Int)-(i:Nat)) 1) where
 mem:=by simp
 obj:=λi h st b a=>by
  have e:b=it:=by simpa using a
  subst e;exact⟨_,st,λv z=>by have r:Data.fields _=Data.cell v:=z;cases r⟩
 keep:=λi h h' st k=>k it (by simp) _ st
 item:=by
  intro X g hw hK hc i pins s σ H E I f st j;subst g hw hK;obtain⟨l,f1,f2,m,p,q⟩:=f it (by simp);have W:=Walks.range (prog:=X.prog) (w:=X.w) (I.ok.hd hc) it lo 1 n;refine W.item i s _ _ j st λv h' tk hv c u=>?_
  obtain⟨t,rfl⟩:=hv;have x:Inv X pins σ H { s with heap:=h',toks:=tk }:=I.turned (λb o a e=>u b o (by simpa using a) e) l f1 m p q;refine⟨_,rfl,Dj (s:={ s with heap:=h',toks:=tk }) (n:="range_iterator") c rfl rfl (by decide) ⟨.int (lo+i),H,x,⟨t,?_⟩,⟨rfl,rfl⟩,c,λb a=>(f b a).1⟩⟩;rw[Int.mul_one]
 done:=by intro X g hw hK hc i pins s σ H E I f st j;subst g hw hK;obtain⟨l,f1,f2,m,p,q⟩:=f it (by simp);exact wpAny_pyNext_range_end (I.ok.hd hc) st (by have:n<=i:=j;omega) λh' y=>⟨rfl,I.turned (t':=s.toks) (λb o a e=>y b o a e) l f1 m p q⟩
 self:=λ_ _ _ _ _ st h=>wpAny_pyIter_rangeiter st h
section
def Mp (K:PySem.W.Frag) (tl:TE):TI:=λσ H R=>tl σ H λx H1=>∃a,x=.ref a/\(∃xs,SqL K H1 a xs)/\R (Itl K a) H1
def MM (K:PySem.W.Frag) (tl:TE):TI:=λσ H R=>tl σ H λx H1=>∃a,x=.ref a/\(∃xs,SqT K H1 a xs)/\R (Itt K a) H1
theorem HB {l:Expr} {tl:TE} (hl:PE X l tl):PI X tg l (Mp X.K tl):=by
 intro pins s σ H R I h;refine thn (hl pins s σ H _ I h) λv c g=>?_
 obtain⟨x,H1,f,i,j⟩:=g;obtain⟨a,e,⟨xs,m⟩,q⟩:=j;subst e;cases i;obtain⟨its,rv,p,hz⟩:=f.list m;refine wpAny_pyIter_list p.isList ?_;refine⟨c.heap.objs.size,[c.heap.objs.size],_,_,H1,rfl,f.kept (t':=c.toks) λb o e=>N1 _ e,Cz a _,⟨_,Np _ rfl,rfl,rfl⟩,λb n=>?_,q⟩;have e:b=c.heap.objs.size:=by simpa using n
 subst e;exact f.fpOk (N7 _) (f.hok.fresh (N7 _))
theorem KS {l:Expr} {tl:TE} (hl:PE X l tl):PI X tg l (MM X.K tl):=by
 intro pins s σ H R I h;refine thn (hl pins s σ H _ I h) λv c g=>?_
 obtain⟨x,H1,f,j,m⟩:=g;obtain⟨a,e,⟨xs,n⟩,q⟩:=m;subst e;cases j;obtain⟨i,rv,p,hz⟩:=f.tuple n;refine wpAny_pyIter_tuple (show c.heap.IsTuple a i.toArray from p) ?_;refine⟨c.heap.objs.size,[c.heap.objs.size],_,_,H1,rfl,f.kept (t':=c.toks) λb o e=>N1 _ e,yO a _,⟨_,Np _ rfl,rfl,rfl⟩,λb r=>?_,q⟩;have e:b=c.heap.objs.size:=by simpa using r
 subst e;exact f.fpOk (N7 _) (f.hok.fresh (N7 _))
theorem EY {R:It->Hp->Prop} {lo hi:Int} {t u v:Tok} {tk:Nat} (I:Inv X pins σ H s) (h1:-(2 ^ 62)<=lo) (h2:lo<2 ^ 62) (c:-(2 ^ 62)<=hi) (f:hi<2 ^ 62)
  (q:R (Itr lo (hi-lo).toNat) H):wpAny (model X.prog X.w) X.A (pyIter (.ref s.heap.objs.size)) (PIE X pins σ tg R) E { s with heap:=s.heap.push { cls:=.type "range",data:=.fields #[.int lo t,.int hi u,.int 1 v] },toks:=tk }:=by
 refine wpAny_pyIter_range (IsRange.new ..) (small_one h1 h2 c f) ?_;have a:Inv X pins σ H { s with heap:=s.heap.push { cls:=.type "range",data:=.fields #[.int lo t,.int hi u,.int 1 v] },toks:=tk }:=I.kept λb o e=>N1 _ e
 refine⟨(s.heap.push { cls:=.type "range",data:=.fields #[.int lo t,.int hi u,.int 1 v] }).objs.size,[(s.heap.push { cls:=.type "range",data:=.fields #[.int lo t,.int hi u,.int 1 v] }).objs.size],_,_,H,rfl,
  a.kept (t':=tk) λb o e=>N1 _ e,yc _ lo (hi-lo).toNat,?_,λb g=>?_,q⟩
 ·have e1:lo+((0:Nat):Int)*1=lo:=by simp
  have e2:(((hi-lo).toNat:Nat):Int)-((0:Nat):Int)=Builtin.Range.rangeSize lo hi 1:=by rw[rangeSize_one];split <;> omega
  show IsRangeIter _ _ (lo+((0:Nat):Int)*1) ((((hi-lo).toNat:Nat):Int)-((0:Nat):Int)) 1;rw[e1,e2];exact Np _ rfl
 ·have e:b=(s.heap.push { cls:=.type "range",data:=.fields #[.int lo t,.int hi u,.int 1 v] }).objs.size:=by simpa using g
  subst e;exact a.fpOk (N7 _) (a.hok.fresh (N7 _))
def Mm (ta:TA):TI:=λσ H R=>ta σ H λvs H1=>∃j:Int,vs=[.int j]/\-(2 ^ 62)<=j/\j<2 ^ 62/\R (Itr 0 j.toNat) H1
theorem BS {a:Expr} {ta:TA} (f:Gl X "range") (hm:X.mg "range"=none) (ha:PA X [a] ta) (g:starEach [a] X.env=[(false,eval a X.env)]:=by rfl):PI X tg (.Call (.Name "range" p) [a] [] pos) (Mm ta):=by
 intro pins s σ H R I h;refine Call_ (fY I f hm boot_range (PyProof.Rows.callWith_type1 (thn (ha pos pins s σ H _ I h) λus s1 b=>?_) g rfl));obtain⟨vs,H1,i,l,c⟩:=b;obtain⟨j,e,c,m,q⟩:=c;subst e;cases l with
 |cons r rr =>cases rr;obtain⟨t,rfl⟩:=r;exact call_range_1 (EY i (by omega) (by omega) c m (by simpa using q))
def Nb (e:TI) (g:TG) (tb:TS):TS:=λD σ H=>e σ H λJ H1=>∃W:Nat->Nat->St->Hp->Prop,(∃m,W 0 m σ H1)/\∀i m σ H,W i m σ H ->
 (J.stop i H/\D.nx σ H)\/(J.go i H/\∃N:St->Hp->Prop,(∀a H',N a H'->∃c,c < m/\W (i+1) c a H')/\∀x H',J.yld i H x H'->g x σ H' λb H2=>tb { D with nx:=N,ct:=N,bk:=D.nx } b H2)
def qE (fp:List Addr) (h:Heap):List (Addr×Obj):=fp.filterMap λb=>(h.get? b).map λo=>(b,o)
theorem jh {o:Obj} (a:b∈fp) (e:h.get? b=some o):(b,o)∈qE fp h:=Pf.mpr ⟨b,a,by rw[e];rfl⟩
theorem Cm {p:Addr×Obj} (a:p∈qE fp h):p.1∈fp/\h.get? p.1=some p.2:=by
 obtain⟨b,c,e⟩:=Pf.mp a;cases q:h.get? b with
 |none=>rw[q]at e;cases e
 |some o =>rw[q]at e;have f:(b,o)=p:=Option.some.inj e;subst f;exact⟨c,q⟩
theorem Inv.pinned (I:Inv X pins σ H s) (f:∀b∈fp,qO X pins H b) (g:∀b∈fp,∃o,s.heap.get? b=some o/\∀v,o.data≠.cell v):Inv X (pins++qE fp s.heap) σ H s :=
 I.pins_of λp h=>(NI.mp h).elim (λz=>I.pin p (N8 _ z)) λz=>by obtain⟨a,e⟩:=Cm z;obtain⟨i,f1,f2,_⟩:=f p.1 a;obtain⟨o,c,d⟩:=g p.1 a;rw[e]at c;cases c;exact⟨e,i,f1,f2,d⟩
theorem Inv.unpinned {pl:List (Addr×Obj)} (I:Inv X (pins++pl) σ H s):Inv X pins σ H s:=I.pins_of λp a=>I.pin p (N8 _ (NR _ a))
theorem IX {U:TI} {g:TG} {tb:TS} (E:PassesOwn (model X.prog X.w) X.A X.env X.xe) (hc:X.calm=true) (hi:PI X tg iter U) (hg:PG X tg g) (j:PSs X body tb)
  (hs:∀x,foldedSetIterable iter X.env x=pure x:=by intro _;rfl):PS X (.For tg iter body [] pos) (Nb U g tb):=by
 intro pins s σ H D I h;refine wpAny_For (thn (hi pins s σ H _ I h) λv s1 h1=>thn h1 λitv s2 h2=>?_) hs;obtain⟨it,fp,tn,J,H2,e,I2,T,M,f2,W,⟨m0,w0⟩,turn⟩:=h2;subst e
 -- what stays true of the iterator's objects through the loop
 have l:∀{H':Hp},(∀b∈fp,H' b=none)->∀b∈fp,qO X pins H' b:=λhn b j=>⟨hn b j,(f2 b j).2⟩
 refine codeAny_forLoop_any (λn s'=>∃i p H',Inv X pins p H' s'/\tn i s'.heap/\(∀b∈fp,H' b=none)/\W i n p H') ?_ m0 ⟨0,σ,H2,I2,M,λb j=>(f2 b j).1,w0⟩
 rintro n Y ⟨i,q,L,Z,F,G,w3⟩
 rcases turn i n q L w3 with⟨stop,qn⟩|⟨go,N,hN,step⟩
 ·refine wpAny_passesOwn E (thn (T.done X rfl rfl rfl hc i pins Y q L X.xe Z (l G) F stop) λr s4 c=>?_);obtain⟨O,I4⟩:=c;subst O;exact wpAny_execs_nil ⟨q,L,I4,qn⟩
 ·refine wpAny_passesOwn E (thn (T.item X rfl rfl rfl hc i pins Y q L X.xe Z (l G) F go) λr s4 c=>?_);obtain⟨u,O,h4⟩:=c;subst O;refine wpAny_passesOwn E (thn h4 λ_ s5 c=>?_);obtain⟨x,H5,I5,r5,y5,C,P⟩:=c;have Q:=I5.pinned (l P) (T.obj _ _ C);refine wpAny_passesOwn E (thn (hg _ s5 q H5 x u _ Q r5 (step x H5 y5)) λ_ s6 c=>?_);obtain⟨R,H6,I6,q6⟩:=c;refine wpAny_passesOwn E (thn (j _ s6 R H6 _ I6 q6) λf S B=>?_);have again:∀{a:St} {y:Hp},Inv X (pins++qE fp s5.heap) a y S->N a y->∃m,m<n/\∃i p H',Inv X pins p H' S/\tn i S.heap/\(∀b∈fp,H' b=none)/\W i m p H':=λ{a y} z K=>by obtain⟨m',hm,w7⟩:=hN a y K;refine⟨m',hm,i+1,a,y,z.unpinned,T.keep _ _ _ C λb j o e=>(z.pin (b,o) (N8 _ (N8 _ (jh j e)))).1,λb j=>?_,w7⟩;obtain⟨o,e,d⟩:=T.obj _ _ C b j;exact (z.pin (b,o) (N8 _ (N8 _ (jh j e)))).2.1
  cases f with
  |next=>obtain⟨a,y,z,K⟩:=B;exact again z K
  |cont=>obtain⟨a,y,z,K⟩:=B;exact again z K
  |brk=>obtain⟨a,y,z,B⟩:=B;exact⟨a,y,z.unpinned,B⟩
  |ret v=>obtain⟨x7,a,y,z,r7,B⟩:=B;exact⟨x7,a,y,z.unpinned,r7,B⟩
end
abbrev R2:=V->V->Hp->VK->Prop
variable {r:R2}
def OpR (X:Cx) (f:Value->Value->Sem Value) (r:R2):Prop :=
 ∀(pins:List (Addr×Obj)) (s:Shared) (σ:St) (H:Hp) (x y:V) (v u:Value) (Q:VK),Inv X pins σ H s->RelV x v->RelV y u->r x y H Q ->
  wpAny (model X.prog X.w) X.A (f v u) (EP X pins σ Q) X.xe s
def UnR (X:Cx) (f:Value->Sem Value) (r:V->Hp->VK->Prop):Prop :=
 ∀(pins:List (Addr×Obj)) (s:Shared) (σ:St) (H:Hp) (x:V) (v:Value) (Q:VK),Inv X pins σ H s->RelV x v->r x H Q ->
  wpAny (model X.prog X.w) X.A (f v) (EP X pins σ Q) X.xe s
def jz (X:Cx) (f:Value) (r:List V->Hp->VK->Prop):Prop :=
 ∀(pins:List (Addr×Obj)) (s:Shared) (σ:St) (H:Hp) (xs:List V) (us:List Value) (Q:VK),Inv X pins σ H s->Vals xs us->r xs H Q ->
  wpAny (model X.prog X.w) X.A (call f us) (EP X pins σ Q) X.xe s
def tOp (r:R2) (ta tb:TE):TE:=λσ H Q=>ta σ H λx H1=>tb σ H1 λy H2=>r x y H2 Q
def tUn (r:V->Hp->VK->Prop) (ta:TE):TE:=λσ H Q=>ta σ H λx H1=>r x H1 Q
def rI (C:Int->Int->Prop) (g:Int->Int->V):R2:=λx y H Q=>∃i j,x=.int i/\y=.int j/\C i j/\Q (g i j) H
def rI0 (g:Int->Int->V):R2:=λx y H Q=>∃i j,x=.int i/\y=.int j/\Q (g i j) H
def rU (g:Int->V):V->Hp->VK->Prop:=λx H Q=>∃i,x=.int i/\Q (g i) H
section
variable {a b:Expr} {ta tb tc:TE}
theorem Ko (ha:PE X a ta) (i:PE X b tb) (I:Inv X pins σ H s)
  (h:ta σ H λx H1=>tb σ H1 λy H2=>R x y H2) {f:Value->Value->Sem Value}
  (j:∀v u s2 x y H2,Inv X pins σ H2 s2->RelV x v->RelV y u->R x y H2->wpAny (model X.prog X.w) X.A (f v u) Q X.xe s2) :
  wpAny (model X.prog X.w) X.A (eval a X.env) (λv e=>wpAny (model X.prog X.w) X.A (eval b X.env) (λu g=>wpAny (model X.prog X.w) X.A (f v u) Q X.xe g) X.xe e) X.xe s:=by
 refine thn (ha pins s σ H _ I h) λv l c=>?_
 obtain⟨x,H1,m,n,o⟩:=c;refine thn (i pins l σ H1 _ m o) λu s2 c=>?_
 obtain⟨y,H2,p,q,r⟩:=c;exact j v u s2 x y H2 p n q r
theorem eR {op:Operator} (c:OpR X (binaryOp op) r) (ha:PE X a ta) (e:PE X b tb):PE X (.BinOp a op b pos) (tOp r ta tb):=by intro pins s σ H Q I h;exact wpAny_BinOp (Ko ha e I h λv u s2 x y H2 f g i q=>c pins s2 σ H2 x y v u Q f g i q)
theorem L6 {op:UnaryOp} {r:V->Hp->VK->Prop} (c:UnR X (unaryOp op) r) (ha:PE X a ta):PE X (.UnaryOp op a pos) (tUn r ta):=by intro pins s σ H Q I h;exact UnaryOp_ (thn (ha pins s σ H _ I h) λv e b=>(by obtain⟨x,H1,f,g,i⟩:=b;exact c pins e σ H1 x v Q f g i))
theorem opI {f:Value->Value->Sem Value} {C:Int->Int->Prop}
  (rule:∀(i j:Int) (t u:Tok) (s:Shared) (Q:Value->Shared->Prop) (E:Value->Shared->Prop),C i j->Q (.int (g i j) s.toks) { s with toks:=s.toks+1 }->wpAny (model X.prog X.w) X.A (f (.int i t) (.int j u)) Q E s) :
  OpR X f (rI C λi j=>.int (g i j)):=by
 intro pins s σ H x y v u Q I a b h;obtain⟨i,j,rfl,rfl,hc,q⟩:=h;obtain⟨t,rfl⟩:=a;obtain⟨t',rfl⟩:=b;exact rule i j t t' s _ _ hc ⟨.int (g i j),H,I.tok _,⟨_,rfl⟩,q⟩
theorem LA {f:Value->Value->Sem Value}
  (rule:∀(i j:Int) (t u:Tok) (s:Shared) (Q:Value->Shared->Prop) (E:Value->Shared->Prop),Q (.int (g i j) s.toks) { s with toks:=s.toks+1 }->wpAny (model X.prog X.w) X.A (f (.int i t) (.int j u)) Q E s) :
  OpR X f (rI0 λi j=>.int (g i j)):=by
 intro pins s σ H x y v u Q I a b h;obtain⟨i,j,rfl,rfl,q⟩:=h;obtain⟨t,rfl⟩:=a;obtain⟨t',rfl⟩:=b;exact rule i j t t' s _ _ ⟨.int (g i j),H,I.tok _,⟨_,rfl⟩,q⟩
theorem Jq {f:Value->Value->Sem Value} {g:Int->Int->Bool}
  (rule:∀(i j:Int) (t u:Tok) (s:Shared) (Q:Value->Shared->Prop) (E:Value->Shared->Prop),Q (.bool (g i j)) s->wpAny (model X.prog X.w) X.A (f (.int i t) (.int j u)) Q E s) :
  OpR X f (rI0 λi j=>.bl (g i j)):=by
 intro pins s σ H x y v u Q I a b h;obtain⟨i,j,rfl,rfl,q⟩:=h;obtain⟨t,rfl⟩:=a;obtain⟨t',rfl⟩:=b;exact rule i j t t' s _ _ ⟨.bl (g i j),H,I,rfl,q⟩
def Lm (i j:Int):Prop:=0<j/\j<1073741824
def Lz (i j:Int):Prop:=0<=j/\j<=1000000/\i.natAbs<2 ^ 64
def GI (i j:Int):Prop:=(-(2 ^ 64)<i/\i<2 ^ 64)\/(-(2 ^ 64)<j/\j<2 ^ 64)
theorem GI.ok {i j:Int} (h:GI i j):IntMulOk i j:=by
 rcases h with⟨h1,h2⟩|⟨h1,h2⟩
 ·exact .of_left (intBits_le_64 h1 h2)
 ·exact .of_right (intBits_le_64 h1 h2)
theorem nX:OpR X (binaryOp .Add) (rI0 λi j=>.int (i+j)):=LA λ_ _ _ _ _ _ _ q=>add_int q
theorem JZ:OpR X (binaryOp .Sub) (rI0 λi j=>.int (i-j)):=LA λ_ _ _ _ _ _ _ q=>sub_int q
theorem nM:OpR X (binaryOp .Mult) (rI GI λi j=>.int (i*j)):=opI λ_ _ _ _ _ _ _ hc q=>mul_int q hc.ok
theorem Gj:OpR X (binaryOp .FloorDiv) (rI Lm λi j=>.int (i / j)):=opI λi j _ _ _ _ _ hc q=>by have h1:(0:Int)<j:=hc.1;have h2:j<1073741824:=hc.2;exact floordiv_int (by omega) (by rw[Int.fdiv_eq_ediv_of_nonneg i (by omega)];exact q) (.inl (PyProof.noPylong_small (by omega)))
theorem qN:OpR X (binaryOp .Mod) (rI (λ_ j=>0<j) λi j=>.int (i % j)):=opI λi j _ _ _ _ _ hc q=>by have h1:(0:Int)<j:=hc;exact mod_int' (by omega) (by rw[Int.fmod_eq_emod_of_nonneg i (by omega)];exact q)
theorem Kq:OpR X (binaryOp .Pow) (rI Lz λi j=>.int (i ^ j.toNat)):=opI λ_ _ _ _ _ _ _ hc q=>pow_int_small hc.1 hc.2.1 hc.2.2 q
theorem unI {f:Value->Sem Value} {g:Int->Int}
  (rule:∀(i:Int) (t:Tok) (s:Shared) (Q:Value->Shared->Prop) (E:Value->Shared->Prop),Q (.int (g i) s.toks) { s with toks:=s.toks+1 }->wpAny (model X.prog X.w) X.A (f (.int i t)) Q E s) :
  UnR X f (rU λi=>.int (g i)):=by
 intro pins s σ H x v Q I a h;obtain⟨i,rfl,q⟩:=h;obtain⟨t,rfl⟩:=a;exact rule i t s _ _ ⟨.int (g i),H,I.tok _,⟨_,rfl⟩,q⟩
theorem Kt:UnR X (unaryOp .USub) (rU λi=>.int (-i)):=unI λ_ _ _ _ _ q=>neg_int q
end
section
variable {a b:Expr} {ta tb tc:TE}
theorem D0:OpR X (compareOp .Lt) (rI0 λi j=>.bl (decide (i<j))):=Jq λ_ _ _ _ _ _ _ q=>lt_int q
theorem Ap:OpR X (compareOp .LtE) (rI0 λi j=>.bl (decide (i<=j))):=Jq λ_ _ _ _ _ _ _ q=>le_int q
theorem LW:OpR X (compareOp .Gt) (rI0 λi j=>.bl (decide (j<i))):=Jq λ_ _ _ _ _ _ _ q=>gt_int q
theorem OpR.or {f:Value->Value->Sem Value} {a:R2} (h:OpR X f r) (h':OpR X f a):OpR X f (λx y H Q=>r x y H Q\/a x y H Q):=by
 intro pins s σ H x y v u Q I b c q;rcases q with q|q
 ·exact h pins s σ H x y v u Q I b c q
 ·exact h' pins s σ H x y v u Q I b c q
theorem jn (b:Expr) (h:op≠.In:=by decide) (h2:op≠.NotIn:=by decide):behindInMarks op b=false:=by
 have e1:(op==CmpOp.In)=false:=by cases op <;> first|rfl|exact absurd rfl h
 have e2:(op==CmpOp.NotIn)=false:=by cases op <;> first|rfl|exact absurd rfl h2
 cases b <;> simp[behindInMarks,e1,e2]
theorem pe (c:OpR X (compareOp op) r) (ha:PE X a ta) (e:PE X b tb) (hm:behindInMarks op b=false):PE X (.Compare a [op] [b] pos) (tOp r ta tb):=by intro pins s σ H Q I h;exact wpAny_Compare1 (Ko ha e I h λv u s2 x y H2 f g i q=>c pins s2 σ H2 x y v u Q f g i q) hm
def Iw (t:TE):TT:=λσ H Q=>t σ H λx H'=>∃k,x=.bl k/\Q k H'
theorem kx (g:OpR X (compareOp op) r) (ha:PE X a ta) (i:PE X b tb) (hm:behindInMarks op b=false):PT X (.Compare a [op] [b] pos) (Iw (tOp r ta tb)):=by
 intro pins s σ H Q I h;refine wpAny_isTrue_Compare1 (thn (ha pins s σ H _ I h) λv j f=>?_) hm;obtain⟨x,H1,l,m,n⟩:=f;refine thn (i pins j σ H1 _ l n) λu s2 f=>?_
 obtain⟨y,H2,o,p,q⟩:=f;refine thn (g pins s2 σ H2 x y v u _ o m p q) λc s3 f=>?_
 obtain⟨z,w,A,B,k,e,C⟩:=f;subst e;cases B;exact wpAny_truthy_bool ⟨w,A,C⟩
def Jw (r b:R2) (ta tb tc:TE):TE:=λσ H Q=>ta σ H λx H1=>tb σ H1 λy H2=>r x y H2 λz a=>∃k,z=.bl k /\
 (if k=true then tc σ a λc e=>b y c e Q else Q (.bl false) a)
theorem D7 {g:CmpOp} {l:R2} (q:OpR X (compareOp op) r) (i:OpR X (compareOp g) l) (ha:PE X a ta) (w:PE X b tb) (hc:PE X c tc)
  (hm:lastMarks [op,g] [b,c]=false:=by with_unfolding_all rfl):PE X (.Compare a [op,g] [b,c] pos) (Jw r l ta tb tc):=by
 intro pins s σ H Q I h;refine Compare_chain (thn (ha pins s σ H _ I h) λv A f=>?_) hm;obtain⟨x,H1,B,C,D⟩:=f;refine chain_link (thn (w pins A σ H1 _ B D) λu s2 f=>?_);obtain⟨y,H2,E,m,F⟩:=f;refine thn (q pins s2 σ H2 x y v u _ E C m F) λd G f=>?_
 obtain⟨z,n,o,J,k,e,p⟩:=f;subst e;cases J;refine wpAny_truthy_bool ?_;cases k with
 |false=>exact ite_ff ⟨.bl false,n,o,rfl,p⟩
 |true=>exact ite_tt (chain_last (thn (hc pins G σ n _ o p) λK L j=>(by obtain⟨M,N,O,P,R⟩:=j;exact i pins L σ N y M u K Q O m P R)))
theorem uQ:(sizeLine:Nat)<2 ^ 63:=by rw[sizeLine_eq];decide
theorem vals1 {x:V} (r:Vals [x] us):∃u,us=[u]/\RelV x u:=by
 cases r with
 |cons r1 r2=>cases r2;exact⟨_,rfl,r1⟩
theorem vals2 {x y:V} (r:Vals [x,y] us):∃u a,us=[u,a]/\RelV x u/\RelV y a:=by
 cases r with
 |cons r1 r2 =>
  cases r2 with
  |cons r3 r4=>cases r4;exact⟨_,_,rfl,r1,r3⟩
theorem BX (hc:X.calm=true):jz X (.builtin "max") (λxs H Q=>∃i j,xs=[.int i,.int j]/\Q (.int (if j>i then j else i)) H):=by
 intro pins s σ H xs us Q I r h;obtain⟨i,j,rfl,q⟩:=h;obtain⟨u,w',rfl,⟨t,rfl⟩,⟨t',rfl⟩⟩:=vals2 r;refine max_two_ints (I.ok.hd hc) λh' tk k=>⟨_,H,I.kept k,?_,q⟩
 by_cases hj:j>i
 ·rw[if_pos hj,if_pos hj];exact⟨_,rfl⟩
 ·rw[if_neg hj,if_neg hj];exact⟨_,rfl⟩
theorem BM (hc:X.calm=true):jz X (.builtin "min") (λxs H Q=>∃i j,xs=[.int i,.int j]/\Q (.int (if j<i then j else i)) H):=by
 intro pins s σ H xs us Q I r h;obtain⟨i,j,rfl,q⟩:=h;obtain⟨u,w',rfl,⟨t,rfl⟩,⟨t',rfl⟩⟩:=vals2 r;refine min_two_ints (I.ok.hd hc) λh' tk k=>⟨_,H,I.kept k,?_,q⟩
 by_cases hj:j<i
 ·rw[if_pos hj,if_pos hj];exact⟨_,rfl⟩
 ·rw[if_neg hj,if_neg hj];exact⟨_,rfl⟩
theorem B1:jz X (.type "int") (λxs H Q=>(∃i,xs=[.int i]/\Q (.int i) H)\/∃k,xs=[.bl k]/\Q (.int (if k then 1 else 0)) H):=by
 intro pins s σ H xs us Q I r h;rcases h with⟨i,rfl,q⟩|⟨k,rfl,q⟩
 ·obtain⟨u,rfl,t,rfl⟩:=vals1 r;exact call_int_int ⟨.int i,H,I,⟨_,rfl⟩,q⟩
 ·obtain⟨u,rfl,a⟩:=vals1 r;cases a;exact call_int_bool ⟨.int (if k then 1 else 0),H,I.tok _,⟨_,rfl⟩,q⟩
end
structure zr (h:Heap) (x dx C:Addr) (mA:Str->Option Value):Prop where
 obj:h.get? x=some (PySem.W.instObj C dx)
 ns:h.Ns1 dx mA
 ne:dx≠x
theorem CD (n:h.Ns1 dx mA):∃od,h.get? dx=some od/\∀name,PySem.W.lookIn name od=some (mA name):=by
 obtain⟨o,es,ep,c,hd,f,_,hm⟩:=n;refine⟨o,c,λname=>?_⟩;have e:=hm name;unfold nsFind findBy at e;rw[<-Array.find?_toList]at e;unfold PySem.W.lookIn;rw[hd];dsimp only;split
 ·rename_i y q;rw[q]at e;exact congrArg some e
 ·rename_i q;rw[q]at e;have a:es.toList.any (·.refKey)=false:=by rw[List.any_eq_false];intro y g;obtain⟨z,t,b⟩:=f y (Array.mem_toList_iff.mp g);simp[DictEntry.refKey,b]
  have i:¬ es.toList.any (·.refKey)=true:=by rw[a];exact NA
  rw[if_neg i];exact congrArg some e
theorem zr.look {x:Addr} (I:zr h x dx C mA):∃od,PySem.W.InstAt h x (PySem.W.instObj C dx) C (some od)/\∀name,PySem.W.lookIn name od=some (mA name) :=
 let ⟨od,ho,hl⟩:=CD I.ns
 ⟨od,⟨I.obj,rfl,rfl,ho⟩,hl⟩
section
variable {x:Addr} {name:Str} {v:Value}
theorem get_map {expr:Bool} (X:K.In s.heap) (I:zr s.heap x dx C mA) (b:PySem.W.plainGet K C name=true) (c:PySem.W.hasDictIn K C=true)
  (ha:PySem.W.findIn K (.ref C) name=some none) (hv:mA name=some v) (a:PySem.W.handedIn v=true) (h:Q v { s with toks:=s.toks+1 }) :
  wpAny (model prog w) A (getAttr (.ref x) name expr) Q E s:=by
 obtain⟨od,J,hl⟩:=I.look;exact PySem.W.get_value X J (PySem.W.plainGet_of b).1 (PySem.W.findObj_own c ha rfl (by rw[hl,hv])) a h
theorem Ep {pl:Sem Bool} {Q:Value×List Value->Shared->Prop} (X:K.In s.heap) (I:zr s.heap x dx C mA) (a:PySem.W.plainGet K C name=true)
  (b:PySem.W.findIn K (.ref C) name=some (some (.ref f))) (c:PySem.W.isFn K (.ref f)=true) (hv:mA name=none) (h:Q (.ref f,[.ref x]) s) :
  wpAny (model prog w) A (getMethod (.ref x) name pl) Q E s:=by
 obtain⟨od,J,hl⟩:=I.look;exact PySem.W.method_fn X J (PySem.W.plainGet_of a).1 (PySem.W.plainGet_of a).2 b (beq_iff_eq.mp c) (by show (PySem.W.lookIn name od).map (·.isSome)=some false;rw[hl,hv];rfl) h
theorem Hn {ns:List Str} {Q:Unit->Shared->Prop} (X:K.In s.heap) (I:zr s.heap x dx C mA)
  (j:PySem.W.findIn K (.ref C) "__setattr__"=some (some (.builtin "object.__setattr__"))) (l:PySem.W.plainOver K C=true) (m:PySem.W.takerIn K C name=some none) (n:PySem.W.hasDictIn K C=true)
  (hw:PySem.Within mA ns) (hsz:ns.length<=sizeLine)
  (h:∀h',zr h' x dx C (λy=>if y=name then some v else mA y)->Heap.SameBut dx s.heap h'->Q () { s with heap:=h',toks:=s.toks+2 }) :
  wpAny (model prog w) A (setAttr (.ref x) name v) Q E s:=by
 obtain⟨od,J,hl⟩:=I.look;refine PySem.W.set_plain X J j (PySem.W.osa_open (s:={ s with toks:=s.toks+1 }) (r:=none) X J l m λb=>?_);obtain⟨cd,hc,f⟩:=PySem.W.any_some n;have o:s.heap.get? x=some ⟨.ref C,some dx,.plain,#[]⟩:=I.obj;refine wpAny_bind (wpAny_pure (wpAny_bind (wpAny_bind (wpAny_loadPart o (wpAny_bind (PySem.W.Looks.here (s:={ s with toks:=s.toks+1 }) (PySem.W.looks_clsIn X hc) ?_))))));rw[f];refine wpAny_pure (a:=some dx) (wpAny_bind (wpAny_pure (wpAny_bind ?_)));refine wpAny_nsSet1 (s:={ s with toks:=s.toks+1 }) I.ns λh' c e=>?_
 obtain⟨oD,esD,epD,g,hdD,i⟩:=c.count (PySem.Within.cons name v hw);refine wpAny_bind (wpAny_lookBehind g (by rw[hdD];exact pastItsLine_dict (O4 i (by rw[Nu];omega))) ?_);exact wpAny_pure (h _ ⟨(e.2 _ (Ne.symm I.ne)).trans I.obj,c,I.ne⟩ e)
theorem Fx {R:Result->Shared->Prop} {vs:List Value} {a:List (Str×Value)} (X:K.In s.heap) (hm:PySem.W.makesIn K C=true)
  (hi:PySem.W.findIn K (.ref C) "__init__"=some (some (.ref f))) (b:PySem.W.typeIn K (.ref f)=some (.type "function"))
  (h:codeAny (model prog w) (A.under (.builtin "type.__call__" ⟨.ref C::vs,a⟩)) (.call (.ref f) ⟨.ref (s.heap.objs.size+1)::vs,a⟩) (PySem.W.InitBack (s.heap.objs.size+1) R)
   { s with heap:=(s.heap.push PySem.W.emptyDict).push (PySem.W.instObj C s.heap.objs.size) }) :
  codeAny (model prog w) A (.call (.ref C) ⟨vs,a⟩) R s:=by
 obtain⟨hh,g,d,t,os⟩:=s;exact PySem.W.make_core (PySem.W.makes_of X hm) (PySem.W.looks_findIn X hi) (λself=>PySem.W.bind_fn X self b) (.inl rfl) h
end
def iE (f:Str) (v:V):List (Str×V)->List (Str×V)
 |[]=>[(f,v)]
 |(g,x)::r=>if g=f then (g,v)::r else (g,x)::iE f v r
theorem jQ (f g:Str) (v:V):∀fs:List (Str×V),(iE f v fs).lookup g=if g=f then some v else fs.lookup g
 |[]=>by
  show List.lookup g [(f,v)]=_;by_cases h:g=f
  ·have a:(g==f)=true:=beq_iff_eq.mpr h;simp only[List.lookup,a,if_pos h]
  ·have a:(g==f)=false:=beq_eq_false_iff_ne.mpr h;simp only[List.lookup,a,if_neg h]
 |(k,x)::r=>by
  have b:=jQ f g v r;rw[show iE f v ((k,x)::r)=(if k=f then (k,v)::r else (k,x)::iE f v r) from rfl];by_cases hk:k=f
  ·rw[if_pos hk];by_cases h:g=k
   ·have a:(g==k)=true:=beq_iff_eq.mpr h;simp only[List.lookup,a,if_pos (h.trans hk)]
   ·have a:(g==k)=false:=beq_eq_false_iff_ne.mpr h;simp only[List.lookup,a,if_neg (λe:g=f=>h (e.trans hk.symm))]
  ·rw[if_neg hk];by_cases h:g=k
   ·have a:(g==k)=true:=beq_iff_eq.mpr h;simp only[List.lookup,a,if_neg (λe:g=f=>hk (h.symm.trans e))]
   ·have a:(g==k)=false:=beq_eq_false_iff_ne.mpr h;simp only[List.lookup,a];exact b
theorem nP (f:Str) (v:V):∀fs:List (Str×V),f∈(iE f v fs).map (·.1)/\∀g,g∈fs.map (·.1)->g∈(iE f v fs).map (·.1)
 |[]=>⟨by simp[iE],λg h=>by simp at h⟩
 |(k,x)::r=>by
  obtain⟨i1,i2⟩:=nP f v r;rw[show iE f v ((k,x)::r)=(if k=f then (k,v)::r else (k,x)::iE f v r) from rfl];by_cases hk:k=f
  ·rw[if_pos hk];subst hk;exact⟨by simp,λg h=>by simpa using h⟩
  ·rw[if_neg hk];refine⟨?_,λg h=>?_⟩
   ·rw[N0];exact N2 _ i1
   ·rw[N0]at h ⊢;rcases N5.mp h with e|e
    ·exact N5.mpr (.inl e)
    ·exact N2 _ (i2 g e)
theorem nY (f:Str) (v:V):∀fs:List (Str×V),(iE f v fs).length<=fs.length+1
 |[]=>by simp[iE]
 |(k,x)::r=>by
  have ih:=nY f v r;rw[show iE f v ((k,x)::r)=(if k=f then (k,v)::r else (k,x)::iE f v r) from rfl];by_cases hk:k=f
  ·rw[if_pos hk,Nu,Nu];omega
  ·rw[if_neg hk,Nu,Nu];omega
theorem jH.some_of {o:Option Value} (r:jH (some v) o):∃u,o=some u/\RelV v u:=by
 cases o with
 |none=>exact (show False from r).elim
 |some u=>exact⟨u,rfl,r⟩
theorem jH.none_of {o:Option Value} (r:jH none o):o=none:=by
 cases o with
 |none=>rfl
 |some u=>exact (show False from r).elim
theorem Cr (r:RelV v u):PySem.W.handedIn u=true:=by
 cases v with
 |non=>cases (show u=Value.none from r);rfl
 |bl b=>cases (show u=Value.bool b from r);rfl
 |int i=>obtain⟨t,e⟩:=(show ∃t,u=Value.int i t from r);cases e;rfl
 |str x=>obtain⟨t,e⟩:=(show ∃t,u=Value.str x t from r);cases e;rfl
 |byt b=>obtain⟨t,e⟩:=(show ∃t,u=Value.bytes b t from r);cases e;rfl
 |flt b=>obtain⟨t,e⟩:=(show ∃t,u=Value.float b t from r);cases e;rfl
 |ref a=>cases (show u=Value.ref a from r);rfl
 |ty n=>cases (show u=Value.type n from r);rfl
section
variable {H':Hp} {fs fs':List (Str×V)}
theorem vF (hok:HOk P w H h) (e:H a=some (.ins C dx fs)):∃mA,zr h a dx C mA/\(∀f,jH (fs.lookup f) (mA f))/\PySem.Within mA (fs.map (·.1))/\fs.length<=1000/\H dx=some (.own a):=by
 obtain⟨d,z,ne,b,mA,n,r,q⟩:=(show dh P w H h a (.ins C dx fs) from hok a _ e)
 exact⟨mA,⟨b,n,ne⟩,r,q,z,d⟩
end
structure Cls (K:PySem.W.Frag) (C:Addr):Prop where
 pg:PySem.W.plainGet K C Str.empty=true
 hd:PySem.W.hasDictIn K C=true
 po:PySem.W.plainOver K C=true
 sa:PySem.W.findIn K (.ref C) "__setattr__"=some (some (.builtin "object.__setattr__"))
theorem Cls.get (c:Cls K C) (f:Str):PySem.W.plainGet K C f=true:=c.pg
def fg (K:PySem.W.Frag) (C:Addr) (f:Str):Prop:=PySem.W.findIn K (.ref C) f=some none
theorem fg.taker {f:Str} (n:fg K C f):PySem.W.takerIn K C f=some none:=by unfold PySem.W.takerIn;rw[show PySem.W.findIn K (.ref C) f=some none from n];rfl
structure Meth (K:PySem.W.Frag) (C:Addr) (m:Str) (f:Addr):Prop where
 at_:PySem.W.findIn K (.ref C) m=some (some (.ref f))
 fn:PySem.W.isFn K (.ref f)=true
 kp:PySem.W.keepIn K (.ref f)=true
section
variable {fs:List (Str×V)} {f:Str}
theorem qa {b:Bool} (I:Inv X pins σ H s) (e:H a=some (.ins C dx fs)) (c:Cls X.K C) (n:fg X.K C f) (l:fs.lookup f=some v)
  (h:∀u s',Inv X pins σ H s'->RelV v u->Q u s'):wpAny (model X.prog X.w) A (getAttr (.ref a) f b) Q E s:=by
 obtain⟨mA,O,r,_,_,_⟩:=vF I.hok e;obtain⟨u,i,g⟩:=jH.some_of (v:=v) (o:=mA f) (by rw[<-l];exact r f);exact get_map I.kIn O (c.get f) c.hd n i (Cr g) (h u _ (I.tok _) g)
theorem rB {m:Str} {g:Addr} {pl:Sem Bool} {Q:Value×List Value->Shared->Prop} (I:Inv X pins σ H s) (e:H a=some (.ins C dx fs)) (c:Cls X.K C) (k:Meth X.K C m g) (l:fs.lookup m=none)
  (h:Q (.ref g,[.ref a]) s):wpAny (model X.prog X.w) A (getMethod (.ref a) m pl) Q E s:=by
 obtain⟨mA,O,r,_,_,_⟩:=vF I.hok e;have hn:mA m=none:=jH.none_of (by rw[<-l];exact r m);exact Ep I.kIn O (c.get m) k.at_ k.fn hn h
theorem pZ {y:V} {Q:Unit->Shared->Prop} (I:Inv X pins σ H s) (e:H a=some (.ins C dx fs)) (c:Cls X.K C) (n:fg X.K C f) (hl:fs.length<1000) (m:RelV y u)
  (h:∀s',Inv X pins σ (upd H a (.ins C dx (iE f y fs))) s'->Q () s'):wpAny (model X.prog X.w) A (setAttr (.ref a) f u) Q E s:=by
 obtain⟨mA,O,r,j,_,l⟩:=vF I.hok e;have p:(fs.map (·.1)).length<=sizeLine:=by rw[N4,sizeLine_eq];omega
 refine Hn I.kIn O c.sa c.po n.taker c.hd j p λh' i v=>h _ ?_
 have hd:∃o,h'.get? dx=some o:=let ⟨o,_,_,e',_⟩:=i.ns;⟨o,e'⟩;refine I.write (x:=a) (e:=dx) (by rw[e];exact True.intro) (.inr l) (λb q B z=>(v.2 b B).trans z) hd ?_;refine⟨by rw[az O.ne];exact l,?_,O.ne,i.obj,_,i.ns,λg=>?_,λg D=>?_⟩
 ·have:=nY f y fs;omega
 ·show jH ((iE f y fs).lookup g) (if g=f then some u else mA g);rw[jQ];by_cases q:g=f
  ·rw[if_pos q,if_pos q];exact m
  ·rw[if_neg q,if_neg q];exact r g
 ·by_cases q:g=f
  ·rw[q];exact (nP f y fs).1
  ·refine (nP f y fs).2 g (j g λz=>D ?_);show (if g=f then some u else mA g)=none;rw[if_neg q];exact z
theorem Inv.made (I:Inv X pins σ H s):Inv X pins σ (upd (upd H s.heap.objs.size (.own (s.heap.objs.size+1))) (s.heap.objs.size+1) (.ins C s.heap.objs.size []))
  { s with heap:=(s.heap.push PySem.W.emptyDict).push (PySem.W.instObj C s.heap.objs.size) }:=by
 have e1:(s.heap.push PySem.W.emptyDict).get? s.heap.objs.size=some PySem.W.emptyDict:=Np s.heap rfl;have e2:((s.heap.push PySem.W.emptyDict).push (PySem.W.instObj C s.heap.objs.size)).get? (s.heap.objs.size+1)=some (PySem.W.instObj C s.heap.objs.size):=by
  have:=Np (s.heap.push PySem.W.emptyDict) (o:=PySem.W.instObj C s.heap.objs.size) rfl
  rwa[Heap.size_push]at this
 have c:(s.heap.push PySem.W.emptyDict).Ns s.heap.objs.size (λ_=>none):=⟨PySem.W.emptyDict,#[],_,e1,rfl,(λe f=>absurd f (by simp)),λ_=>rfl⟩
 have g:=I.laid (a:=s.heap.objs.size) (o:=.own (s.heap.objs.size+1)) (h':=s.heap.push PySem.W.emptyDict) (t':=s.toks) (λb u q=>N1 _ q) (N7 _) ⟨_,e1⟩;refine g.laid (a:=s.heap.objs.size+1) (o:=.ins C s.heap.objs.size []) (t':=s.toks) (λb u q=>N1 _ q) (Nat.le_of_eq (Heap.size_push _ _)) ?_;have ne:s.heap.objs.size≠s.heap.objs.size+1:=Nq (Ov _);refine⟨by rw[az ne,aE],NY _,ne,e2,λ_=>none,(Heap.Ns1.of_empty c).at λo q=>N1 _ q,λ_=>True.intro,λy h=>absurd rfl h⟩
theorem Gu {f:Str} (b:attributeBase e f env (eval e env)=eval e env)
  (h:wpAny (model prog w) A (eval e env) (λo a=>wpAny (model prog w) A (getAttr o f true) Q E a) E s):wpAny (model prog w) A (eval (.Attribute e f pos) env) Q E s :=
 Attribute_any_ h (by rw[arm_eval_Attribute,b])
end
def MU (K:PySem.W.Frag) (ta:TE) (f:Str):TE:=λσ H Q=>ta σ H λx H1=>∃a C dx fs v,x=.ref a/\H1 a=some (.ins C dx fs)/\Cls K C/\fg K C f/\fs.lookup f=some v/\Q v H1
def M3 (K:PySem.W.Frag) (ta tv:TE) (f:Str):TS:=λD σ H=>tv σ H λy H1=>ta σ H1 λx H2=>∃a C dx fs,x=.ref a/\H2 a=some (.ins C dx fs)/\Cls K C/\fg K C f/\fs.length<1000 /\
 D.nx σ (upd H2 a (.ins C dx (iE f y fs)))
def L5 (X:Cx) (op:Operator) (a:V->V->Hp->VK->Prop):Prop :=
 ∀(pins:List (Addr×Obj)) (s:Shared) (σ:St) (H:Hp) (x y:V) (u v:Value) (Q:VK),Inv X pins σ H s->RelV x u->RelV y v->a x y H Q->wpAny (model X.prog X.w) X.A (inplaceOp op u v) (EP X pins σ Q) X.xe s
def Hj (K:PySem.W.Frag) (ta tv:TE) (e:V->V->Hp->VK->Prop) (f:Str):TS:=λD σ H=>ta σ H λx H1=>∃a C dx fs v,x=.ref a/\H1 a=some (.ins C dx fs)/\Cls K C/\fg K C f/\fs.lookup f=some v /\
 tv σ H1 λy H2=>e v y H2 λz c=>∃b fs',c a=some (.ins C b fs')/\fs'.length<1000/\D.nx σ (upd c a (.ins C b (iE f z fs')))
section
variable {o value:Expr} {f:Str} {tpos:Pos} {ta tv:TE}
theorem JU (g:PE X e ta) (i:attributeBase e f X.env (eval e X.env)=eval e X.env):PE X (.Attribute e f pos) (MU X.K ta f):=by intro pins s σ H Q I h;refine Gu i (thn (g pins s σ H _ I h) λu s1 b=>?_);obtain⟨x,H1,j,m,a,C,dx,fs,v,ex,ea,c,n,l,q⟩:=b;subst ex;obtain rfl:u=Value.ref a:=m;exact qa j ea c n l λu' s2 o p=>⟨v,H1,o,p,q⟩
theorem fU (ha:PE X o ta) (hv:PE X value tv) (e:swapsWith value (some (.Attribute o f pos')) pos.line X.env=pure false):PS X (.Assign [.Attribute o f pos'] value pos) (M3 X.K ta tv f):=by
 intro pins s σ H D I h;refine plainObj_wpAny_Assign_Attribute (thn (hv pins s σ H _ I h) λu g b=>?_) e;obtain⟨y,H1,i,j,q⟩:=b;refine thn (ha pins g σ H1 _ i q) λm s2 b=>?_
 obtain⟨x,H2,p,r,a,C,dx,fs,ex,ea,c,n,l,v⟩:=b;subst ex;obtain rfl:m=Value.ref a:=r;exact pZ p ea c n l j λs3 w=>⟨σ,_,w,v⟩
theorem Br {op:Operator} {i:V->V->Hp->VK->Prop} (ha:PE X o ta) (hv:PE X value tv) (e:L5 X op i):PS X (.AugAssign (.Attribute o f tpos) op value pos) (Hj X.K ta tv i f):=by
 intro pins s σ H D I h;refine wpAny_AugAssign_AttributeAny (thn (ha pins s σ H _ I h) λj s1 b=>?_);obtain⟨x,H1,m,p,a,C,dx,fs,v,ex,ea,c,n,l,q⟩:=b;subst ex;obtain rfl:j=Value.ref a:=p;refine qa m ea c n l λu s2 r w=>thn (hv pins s2 σ H1 _ r q) λA B b=>?_
 obtain⟨y,H2,E,F,G⟩:=b;refine thn (e pins B σ H2 v y u A _ E w F G) λw4 s4 b=>?_
 obtain⟨z,H3,J,rz,dx',fs',g,L,M⟩:=b;exact pZ J g c n L rz λs5 N=>⟨σ,_,N,M⟩
def MX:V->V->Hp->VK->Prop:=λx y H Q=>∃i j,x=.int i/\y=.int j/\Q (.int (i+j)) H
theorem KZ:L5 X .Add MX:=by
 rintro pins s σ H x y u v Q I a b ⟨i,j,rfl,rfl,q⟩
 obtain⟨t,rfl⟩:=(show ∃t,u=Value.int i t from a)
 obtain⟨t',rfl⟩:=(show ∃t',v=Value.int j t' from b)
 exact PyProof.Rows.iadd_int ⟨.int (i+j),H,I.tok _,⟨_,rfl⟩,q⟩
end
section
variable {c:Value} {b:Bool}
inductive qK (K:PySem.W.Frag) (H:Hp):V->Value->Prop where
 |non:qK K H .non (.type "NoneType")
 |bl (x:Bool):qK K H (.bl x) (.type "bool")
 |int (i:Int):qK K H (.int i) (.type "int")
 |str (x:Str):qK K H (.str x) (.type "str")
 |flt (x:UInt64):qK K H (.flt x) (.type "float")
 |lst {a:Addr} {xs:List V} (e:H a=some (.lst xs)):qK K H (.ref a) (.type "list")
 |frz {a:Addr} {o:Obj} {xs:List V} (e:H a=some (.frz o (.lst xs))):qK K H (.ref a) (.type "list")
 |tup {a:Addr} {xs:List V} (e:H a=some (.tup xs)):qK K H (.ref a) (.type "tuple")
 |dK {a:Addr} {kvs:List (Key×V)} (e:H a=some (.dK kvs)):qK K H (.ref a) (.type "dict")
 |dT {a:Addr} {kvs:List (List Key×V)} (e:H a=some (.dT kvs)):qK K H (.ref a) (.type "dict")
 |ins {a C dx:Addr} {fs:List (Str×V)} (e:H a=some (.ins C dx fs)) (cl:Cls K C) (ha:PySem.W.findIn K (.ref C) "__class__"=some (some (.builtin "object.__class__")))
  (hn:PySem.W.specialIn K (.builtin "object.__class__") "__get__"=some (some (.builtin "getset_descriptor.__get__"))) (htk:PySem.W.takesIn K (.builtin "object.__class__")=some true)
  (hm:PySem.W.mroIn K C (.type "object")=some true):qK K H (.ref a) (.ref C)
end
structure cg (k:Nat) (A:Around):Prop where
 hd:A.handled=none
 dp:A.depth+3*k+5<recursionLimit
 un:A.units+16*k+200<cLine
theorem cg.mono {k:Nat} (r:cg k A) (h:j<=k):cg j A:=⟨r.hd,by have:=r.dp;omega,by have:=r.un;omega⟩
theorem cg.deeper {k:Nat} (r:cg (k+1) A) (env:Env):cg k (A.deeper env) :=
 ⟨r.hd,by have:=r.dp;show A.depth+1+3*k+5<_;omega,by have:=r.un;show A.units+3+16*k+200<_;omega⟩
theorem cg.in1 {k:Nat} (r:cg (k+1) A):cg k A.in1 :=
 ⟨r.hd,by have:=r.dp;show A.depth+3*k+5<_;omega,by have:=r.un;show A.units+1+16*k+200<_;omega⟩
theorem ym {a:List (Str×Value)}:(A.under (.builtin "type.__call__" ⟨.ref C::us,a⟩)).depth=A.depth+1:=by first|rfl|simp[Around.under,Code.weight,Code.isCreation,Code.isGuard,Code.isCaller,Code.frames,Code.isFrame,guardIds]
theorem yM {a:List (Str×Value)}:(A.under (.builtin "type.__call__" ⟨.ref C::us,a⟩)).units=A.units+1:=by first|rfl|simp[Around.under,Code.cUnits,Code.frames,Code.isFrame]
theorem cg.make {k:Nat} (r:cg (k+1) A) (C:Addr) (us:List Value) (a:List (Str×Value)):cg k (A.under (.builtin "type.__call__" ⟨.ref C::us,a⟩)) :=
 ⟨r.hd,by have:=r.dp;rw[ym];omega,by have:=r.un;rw[yM];omega⟩
theorem cg.depth {k:Nat} (r:cg k A):A.depth<recursionLimit:=by have:=r.dp;omega
theorem cg.units {k:Nat} (r:cg k A):A.units+64<cLine:=by have:=r.un;omega
def Jk:TA:=λ_ H Q=>Q [] H
def Ii (ta:TE) (a:TA):TA:=λσ H Q=>ta σ H λx H1=>a σ H1 λxs H2=>Q (x::xs) H2
section
variable {te:TE} {t:TA}
theorem fV:PA X [] Jk:=λ_ _ _ _ H Q I h=>Calls.spliced_nil ⟨[],H,I,.nil,h⟩
theorem eB (ha:PE X e te) (c:PA X es t) (f:starEach (e::es) X.env=(false,eval e X.env)::starEach es X.env:=by rfl):PA X (e::es) (Ii te t):=by intro pos pins s σ H Q I h;rw[f];show wpAny _ _ (spliced ((false,eval e X.env)::backTo pos (starEach es X.env))) _ _ s;refine Calls.spliced_cons (thn (ha pins s σ H _ I h) λu g a=>?_);obtain⟨x,H1,i,j,l⟩:=a;exact thn (c pos pins g σ H1 _ i l) λus s2 b=>(by obtain⟨xs,H2,m,n,o⟩:=b;exact⟨x::xs,H2,m,.cons j n,o⟩)
def M1 (t:TA):TE:=λσ H Q=>t σ H λxs H1=>xs.length<=sizeLine/\∀p,H1 p=none->Q (.ref p) (upd H1 p (.tup xs))
def M5 (t:TA):TE:=λσ H Q=>t σ H λxs H1=>xs.length<=sizeLine/\∀p,H1 p=none->Q (.ref p) (upd H1 p (.lst xs))
theorem Jx {x1} (h:PA X es t):PE X (.Tuple es x1 pos) (M1 t):=by intro pins s σ H Q I g;refine wpAny_Tuple_spliced (thn (h pos pins s σ H _ I g) λus a c=>?_);obtain⟨xs,H1,f,r,z,q⟩:=c;refine⟨by rw[<-r.length];exact z,?_⟩;have i:H1 a.heap.objs.size=none:=f.hok.fresh (N7 _);refine⟨.ref a.heap.objs.size,upd H1 a.heap.objs.size (.tup xs),f.laid (t':=a.toks) (λb u e=>N1 _ e) (N7 _) ?_,rfl,q _ i⟩;exact⟨z,us,r,⟨_,Np _ rfl,rfl,rfl,_,rfl⟩⟩
theorem yH (h:PA X es t):PE X (.List es pos) (M5 t):=by intro pins s σ H Q I g;refine wpAny_List_spliced (thn (h pos pins s σ H _ I g) λus a c=>?_);obtain⟨xs,H1,f,r,z,q⟩:=c;refine⟨by rw[<-r.length];exact z,?_⟩;have i:H1 a.heap.objs.size=none:=f.hok.fresh (N7 _);refine⟨.ref a.heap.objs.size,upd H1 a.heap.objs.size (.lst xs),f.laid (t':=a.toks) (λb u e=>N1 _ e) (N7 _) ?_,rfl,q _ i⟩;exact⟨z,us,0,r,Np _ rfl⟩
end
abbrev Sp:=List V->Hp->VK->XK->Prop
abbrev CXT:=List Env->Hp->Shared->XK->Value->Shared->Prop
structure uB (P:Program) (w:World) (K:PySem.W.Frag) (mg:Str->Option Value) (base:Heap) (A:Around) (outer:List Env) (s:Shared) (H:Hp):Prop where
 frames:A.frames=some outer
 mod:Mod K mg base
 bs:∀b o,base.get? b=some o->s.heap.get? b=some o/\H b=none
 bsz:base.objs.size<=s.heap.objs.size
 funs:s.heap.FunFrames base outer
 frf:∀b∈frs outer,H b=none
 hok:HOk P w H s.heap
 bare:AllBare s.gens
 tab:∀P q,TabOf K P q->H P=some (.tbl q)
def CE (outer:List Env) (P:Program) (w:World) (H:Hp) (s:Shared) (Q:VK) (u:Value) (s':Shared):Prop :=
 ∃v H',s'.os=s.os/\AllBare s'.gens/\Un (frs outer) [] H H' s.heap s'.heap/\HOk P w H' s'.heap/\RelV v u/\Q v H'
def CR (CX:CXT) (outer:List Env) (P:Program) (w:World) (H:Hp) (s:Shared) (Q:VK) (E:XK) (r:Result) (s':Shared):Prop :=
 match r with
 |.ok (.ret u)=>CE outer P w H s Q u s'
 |.ok _=>False
 |.error e=>CX outer H s E e s'
structure gB (P:Program) (w:World) (K:PySem.W.Frag) (mg:Str->Option Value) (base:Heap) (CX:CXT) (k:Nat) (f:Addr) (fd:FuncData) (ps:List Str) (sp:Sp):Prop where
 len:∀vs H Q E,sp vs H Q E->vs.length=ps.length
 run:∀(A:Around) (outer:List Env) (s:Shared) (H:Hp) (args:Args) (us:List Value) (vs:List V) (Q:VK) (E:XK),cg k A->uB P w K mg base A outer s H->BindsTo s fd args (ps.zip us)->Vals vs us->sp vs H Q E ->
  codeAny (model P w) A (.call (.ref f) args) (CR CX outer P w H s Q E) s
theorem uB.make (e:uB P w K mg base A outer s H) (C:Addr) (us:List Value) (a:List (Str×Value)) :
 uB P w K mg base (A.under (.builtin "type.__call__" ⟨.ref C::us,a⟩)) outer s H:=⟨by first|exact e.frames|(simpa[Around.under,Code.envs,Code.isFrame,pushEnvs] using e.frames),e.mod,e.bs,e.bsz,e.funs,e.frf,e.hok,e.bare,e.tab⟩
section
theorem Inv.env0 (I:Inv X pins σ H s):uB X.prog X.w X.K X.mg X.base X.A X.stack s H :=
 ⟨I.ok.frames,I.ok.mod,I.bs,O4 I.ok.bsz I.sz,I.stack,I.stkFree,I.hok,I.bare,I.tab⟩
theorem Inv.after {Q:VK} (I:Inv X pins σ H s) (h:CE X.stack X.prog X.w H s Q u s'):EP X pins σ Q u s':=by obtain⟨v,H',os,bare,un,hok,r,q⟩:=h;obtain⟨c,g,d,t,a⟩:=s';obtain rfl:a=s.os:=os;exact⟨v,H',I.call (h':=c) (g':=g) (d':=d) (t':=t) (ch:=[]) un hok bare (λb z=>absurd z (by simp)),r,q⟩
end
def LD (sp:Sp) (dvs:List V) (E:XK) (t:TA):TE:=λσ H Q=>t σ H λvs H1=>sp (vs++dvs) H1 Q E
def AK (C:Addr) (m:Str) (sp:Sp) (dvs:List V) (E:XK) (ta:TE) (t:TA):TE:=λσ H Q=>ta σ H λx H1=>∃a dx fs,x=.ref a/\H1 a=some (.ins C dx fs)/\fs.lookup m=none /\
 t σ H1 λvs H2=>sp (x::(vs++dvs)) H2 Q E
def L7 (C:Addr) (sp:Sp) (dvs:List V) (E:XK) (t:TA):TE:=λσ H Q=>t σ H λvs H1=>∀x dx,H1 x=none->H1 dx=none->dx≠x ->
 sp (.ref x::(vs++dvs)) (upd (upd H1 dx (.own x)) x (.ins C dx [])) (λv H2=>v=.non/\Q (.ref x) H2) E
def Binds (K:PySem.W.Frag) (fd:FuncData) (ps:List Str) (ds:List Value):Prop :=
 ∀(s:Shared) (us:List Value),K.In s.heap->(us++ds).length=ps.length->BindsTo s fd ⟨us,[]⟩ (ps.zip (us++ds))
theorem Binds.all (h:∀us:List Value,us.length=ps.length->bindArgs fd ⟨us,[]⟩=pure (ps.zip us)):Binds K fd ps []:=λs us _ hl=>by rw[O8]at hl ⊢;exact .of_eq (h us hl)
def Passes (CX:CXT) (X:Cx) (E:XK):Prop:=∀(pins:List (Addr×Obj)) (σ:St) (H:Hp) (s:Shared) (e:Value) (s':Shared),Inv X pins σ H s->CX X.stack H s E e s'->X.xe e s'
section
variable {CX:CXT} {k:Nat} {sp:Sp} {dvs:List V} {ds:List Value} {E:XK} {m:Str} {apos:Pos} {o:Expr} {ta:TE} {t:TA}
theorem yb {Q:VK} (F:gB X.prog X.w X.K X.mg X.base CX k f fd ps sp) (c:cg k X.A) (g:Binds X.K fd ps ds) (hd:Vals dvs ds) (i:Passes CX X E)
  (I:Inv X pins σ H s) (r:Vals vs us) (h:sp (vs++dvs) H Q E):wpAny (model X.prog X.w) X.A (call (.ref f) us) (EP X pins σ Q) X.xe s:=by
 have b:Vals (vs++dvs) (us++ds):=r.append hd;have hl:(us++ds).length=ps.length:=by rw[<-b.length];exact F.len _ _ _ _ h
 refine wpAny_call (codeAny_mono (F.run X.A X.stack s H ⟨us,[]⟩ (us++ds) (vs++dvs) Q E c I.env0 (g s us I.kIn hl) b h) λr s' a=>?_);cases r with
 |error e=>exact i pins σ H s e s' I a
 |ok fl =>
  cases fl with
  |ret u=>exact I.after a
  |next=>exact False.elim a
  |brk=>exact False.elim a
  |cont=>exact False.elim a
theorem Az (F:gB X.prog X.w X.K X.mg X.base CX k f fd ps sp) (i:cg k X.A) (j:Gl X x) (hm:X.mg x=some (.ref f)) (l:PySem.W.keepIn X.K (.ref f)=true) (m:Binds X.K fd ps ds) (hd:Vals dvs ds) (n:Passes CX X E)
  (ha:PA X (e::es) t) (a:(x==("__debug__":Str))=false:=by decide) (o:starEach (e::es) X.env=(false,eval e X.env)::starEach es X.env:=by rfl) (b:(backTo pos (starEach es X.env)).any (·.1)=false:=by rfl) :
  PE X (.Call (.Name x p) (e::es) [] pos) (LD sp dvs E t):=by
 intro pins s σ H Q I h;refine wpAny_Call_Name_kw (oP I j hm ?_ a);refine PySem.W.callWith_K (h₀:=X.base) I.ok.mod.kin l (thn (ha pos pins s σ H _ I h) λus s1 c=>?_) o b;obtain⟨vs,H1,g,r,q⟩:=c;refine⟨g.kIn,?_⟩;exact yb F i m hd n g r q
theorem GN {pl:Sem Bool} (p:PE X o ta) (c:Cls X.K C) (hm:Meth X.K C m f) (F:gB X.prog X.w X.K X.mg X.base CX k f fd ps sp) (v:cg k X.A) (y:Binds X.K fd ps ds) (hd:Vals dvs ds) (z:Passes CX X E) (ha:PA X (e::es) t)
  (g:starEach (e::es) X.env=(false,eval e X.env)::starEach es X.env:=by rfl) (i:(backTo pos (starEach es X.env)).any (·.1)=false:=by rfl)
  (B:eval (.Call (.Attribute o m apos) (e::es) [] pos) X.env=(do
   let ov <-eval o X.env
   standAt apos.atName
   let (f,first) <-holding [ov] (getMethod ov m pl)
   callWith pos f first (backTo pos (starEach (e::es) X.env)) (backToKw pos (keywordEach [] X.env))):=by rfl) :
  PE X (.Call (.Attribute o m apos) (e::es) [] pos) (AK C m sp dvs E ta t):=by
 intro pins s σ H Q I h;refine PySem.W.methodCall_KW (pl:=pl) (thn (p pins s σ H _ I h) λu D b=>?_) B;obtain⟨x,H1,j,G,a,dx,fs,ex,ea,l,q⟩:=b;subst ex;obtain rfl:u=Value.ref a:=G;refine rB j ea c hm l ?_;refine PySem.W.callWith_K (first:=[.ref a]) (h₀:=X.base) I.ok.mod.kin hm.kp (thn (ha pos pins D σ H1 _ j q) λus s2 b=>?_) g i;obtain⟨vs,H2,n,r,J⟩:=b;refine⟨n.kIn,?_⟩;exact yb (us:=.ref a::us) (vs:=.ref a::vs) F v y hd z n (.cons rfl r) J
theorem v5 {pl:Sem Bool} (g:PE X o ta) (c:Cls X.K C) (hm:Meth X.K C m f) (F:gB X.prog X.w X.K X.mg X.base CX k f fd ps sp) (i:cg k X.A) (j:Binds X.K fd ps ds) (hd:Vals dvs ds) (n:Passes CX X E)
  (p:eval (.Call (.Attribute o m apos) [] [] pos) X.env=(do
   let ov <-eval o X.env
   standAt apos.atName
   let (f,first) <-holding [ov] (getMethod ov m pl)
   callWith pos f first (backTo pos (starEach [] X.env)) (backToKw pos (keywordEach [] X.env))):=by rfl) :
  PE X (.Call (.Attribute o m apos) [] [] pos) (AK C m sp dvs E ta Jk):=by
 intro pins s σ H Q I h;refine PySem.W.methodCall_KW (pl:=pl) (thn (g pins s σ H _ I h) λu s1 b=>?_) p;obtain⟨x,H1,e,r,a,dx,fs,ex,ea,l,q⟩:=b;subst ex;obtain rfl:u=Value.ref a:=r;refine rB e ea c hm l ?_;exact PySem.W.callWith_K0 (first:=[.ref a]) e.kIn hm.kp (yb (us:=[.ref a]) (vs:=[.ref a]) F i j hd n e (.cons rfl .nil) q)
structure Mk (K:PySem.W.Frag) (C f:Addr):Prop where
 makes:PySem.W.makesIn K C=true
 init:PySem.W.findIn K (.ref C) "__init__"=some (some (.ref f))
 fn:PySem.W.isFn K (.ref f)=true
 kp:PySem.W.keepIn K (.ref C)=true
theorem Et {Q:VK} (M:Mk X.K C f) (F:gB X.prog X.w X.K X.mg X.base CX k f fd ps sp) (i:cg (k+1) X.A) (j:Binds X.K fd ps ds) (hd:Vals dvs ds)
  (l:Passes CX X E) (I:Inv X pins σ H s) (r:Vals vs us)
  (h:∀x dx,H x=none->H dx=none->dx≠x->sp (.ref x::(vs++dvs)) (upd (upd H dx (.own x)) x (.ins C dx [])) (λv H2=>v=.non/\Q (.ref x) H2) E) :
  wpAny (model X.prog X.w) X.A (call (.ref C) us) (EP X pins σ Q) X.xe s:=by
 have c:=h (s.heap.objs.size+1) s.heap.objs.size (I.hok.fresh (OO _)) (I.hok.fresh (N7 _)) (Nq (Ov _));have b:=Inv.made (C:=C) I;have g:Vals (V.ref (s.heap.objs.size+1)::(vs++dvs)) (Value.ref (s.heap.objs.size+1)::(us++ds)):=.cons rfl (r.append hd);have hl:(Value.ref (s.heap.objs.size+1)::us++ds).length=ps.length:=by have e:=g.length;rw[F.len _ _ _ _ c]at e;exact e.symm
 refine wpAny_call (Fx (f:=f) I.kIn M.makes M.init (beq_iff_eq.mp M.fn) (codeAny_mono (F.run _ X.stack _ _ ⟨Value.ref (s.heap.objs.size+1)::us,[]⟩ (Value.ref (s.heap.objs.size+1)::(us++ds)) _ _ E (i.make C us [])
  (b.env0.make C us []) (j _ (Value.ref (s.heap.objs.size+1)::us) b.kIn hl) g c) λr s' a=>?_))
 cases r with
 |error e=>exact l pins σ _ _ e s' b a
 |ok fl =>
  cases fl with
  |ret u =>obtain⟨v,H',m,n,ev,o⟩:=b.after a;subst ev;exact⟨n,⟨V.ref (s.heap.objs.size+1),H',m,rfl,o⟩⟩
  |next=>exact False.elim a
  |brk=>exact False.elim a
  |cont=>exact False.elim a
theorem Ab (M:Mk X.K C f) (F:gB X.prog X.w X.K X.mg X.base CX k f fd ps sp) (i:cg (k+1) X.A) (j:Gl X x) (hm:X.mg x=some (.ref C)) (l:Binds X.K fd ps ds) (hd:Vals dvs ds) (m:Passes CX X E)
  (ha:PA X (e::es) t) (a:(x==("__debug__":Str))=false:=by decide) (n:starEach (e::es) X.env=(false,eval e X.env)::starEach es X.env:=by rfl) (b:(backTo pos (starEach es X.env)).any (·.1)=false:=by rfl) :
  PE X (.Call (.Name x p) (e::es) [] pos) (L7 C sp dvs E t):=by
 intro pins s σ H Q I h;refine wpAny_Call_Name_kw (oP I j hm ?_ a);refine PySem.W.callWith_K (h₀:=X.base) I.ok.mod.kin M.kp (thn (ha pos pins s σ H _ I h) λus s1 c=>?_) n b;obtain⟨vs,H1,g,r,q⟩:=c;refine⟨g.kIn,?_⟩;exact Et M F i l hd m g r q
end
def PK (X:Cx) (kws:List Keyword) (t:TA):Prop :=
 ∀(pos:Pos) (pins:List (Addr×Obj)) (s:Shared) (σ:St) (H:Hp) (Q:List V->Hp->Prop),Inv X pins σ H s->t σ H Q->wpAny (model X.prog X.w) X.A (evalAll ((backToKw pos (keywordEach kws X.env)).map (·.2))) (AP X pins σ Q) X.xe s
section
variable {CX:CXT} {k:Nat} {ks:List Str} {sp:Sp} {E:XK} {m:Str} {apos kpos:Pos} {o:Expr} {kws:List Keyword} {te ta:TE} {t tk:TA} {nm:Option Str}
theorem EM:PK X [] Jk:=λ_ _ _ _ H Q I h=>wpAny_evalAll_nil ⟨[],H,I,.nil,h⟩
theorem AI (ha:PE X e te) (c:PK X kws t):PK X (⟨nm,e,kpos⟩::kws) (Ii te t):=by intro pos pins s σ H Q I h;show wpAny _ _ (evalAll ((do let v <-eval e X.env;standAt pos;pure v)::(backToKw pos (keywordEach kws X.env)).map (·.2))) _ _ s;refine wpAny_evalAll_cons (wpAny_bind (thn (ha pins s σ H _ I h) λu f a=>?_));obtain⟨x,H1,g,i,j⟩:=a;refine wpAny_bind (wpAny_standAt (wpAny_pure ?_));exact thn (c pos pins f σ H1 _ g j) λus s2 b=>(by obtain⟨xs,H2,l,m,n⟩:=b;exact⟨x::xs,H2,l,.cons i m,n⟩)
variable {g:List Value->List Value->List Value} {gV:List V->List V->List V}
end
structure cX (N P:List Str) (sc:Scope):Prop where
 kind:sc.kind=.function
 co:sc.isCoroutine=false
 gen:sc.isGenerator=false
 nd:N.Nodup
 pre:N.take P.length=P
 par:∀x∈P,sc.names.lookup x=some .local\/sc.names.lookup x=some .cell
 nofree:∀y∈sc.names,y.2≠.free
theorem ug {kindOf:Str->Option NameKind} {x:Str}:∀{binds:List (Str×Value)} {m:Str->Option Value},(∀v,(x,v)∉binds)->bindL kindOf binds m x=m x
 |[],_,_=>rfl
 |(n,v)::r,m,h=>by
  unfold bindL;rw[ug λw hw=>h w (N2 _ hw)];split
  ·have:x≠n:=by rintro rfl;exact h v N3
   simp[this]
  ·rfl
theorem tT {kindOf:Str->Option NameKind} {x:Str}:∀{binds:List (Str×Value)} {m:Str->Option Value},(∀v,(x,v)∉binds)->bindC kindOf binds m x=m x
 |[],_,_=>rfl
 |(n,v)::r,m,h=>by
  unfold bindC;rw[tT λw hw=>h w (N2 _ hw)];split
  ·rfl
  ·have:x≠n:=by rintro rfl;exact h v N3
   simp[this]
theorem sC {kindOf:Str->Option NameKind} {x:Str} {v:Value}:∀{P:List Str} {vs:List Value} {i:Nat} {m:Str->Option Value},P.Nodup->P[i]?=some x->vs[i]?=some v->kindOf x=some .local ->
  bindL kindOf (P.zip vs) m x=some v
 |[],_,_,_,_,h,_,_=>by simp at h
 |_::_,[],_,_,_,_,h,_=>by simp at h
 |p::P,w::vs,0,m,nd,h1,h2,hk=>by simp at h1 h2;subst h1;subst h2;show bindL kindOf ((p,w)::P.zip vs) m p=_;unfold bindL;rw[ug λv hv=>(NP.mp nd).1 (OT hv).1,if_pos hk];simp
 |p::P,w::vs,i+1,m,nd,h1,h2,hk=>by show bindL kindOf ((p,w)::P.zip vs) m x=_;unfold bindL;exact sC (i:=i) (NP.mp nd).2 (by simpa using h1) (by simpa using h2) hk
theorem sT {kindOf:Str->Option NameKind} {x:Str} {v:Value}:∀{P:List Str} {vs:List Value} {i:Nat} {m:Str->Option Value},P.Nodup->P[i]?=some x->vs[i]?=some v->kindOf x≠some .local ->
  bindC kindOf (P.zip vs) m x=some v
 |[],_,_,_,_,h,_,_=>by simp at h
 |_::_,[],_,_,_,_,h,_=>by simp at h
 |p::P,w::vs,0,m,nd,h1,h2,hk=>by simp at h1 h2;subst h1;subst h2;show bindC kindOf ((p,w)::P.zip vs) m p=_;unfold bindC;rw[tT λv hv=>(NP.mp nd).1 (OT hv).1,if_neg hk];simp
 |p::P,w::vs,i+1,m,nd,h1,h2,hk=>by show bindC kindOf ((p,w)::P.zip vs) m x=_;unfold bindC;exact sT (i:=i) (NP.mp nd).2 (by simpa using h1) (by simpa using h2) hk
def start (N:List Str) (vs:List V):St:=vs.map some++List.replicate (N.length-vs.length) none
def c9 (CX:CXT) (P:Program) (w:World) (K:PySem.W.Frag) (mg:Str->Option Value) (base:Heap) (N:List Str) (qual:Str) (scope:Scope) (f:Addr) (cd:Value) (A:Around) (outer:List Env) (s:Shared) (H:Hp) (E:XK):Cx where
 prog:=P
 w:=w
 K:=K
 mg:=mg
 base:=base
 A:=A.deeper (envOfC qual scope s.heap.objs.size f cd)
 N:=N
 s₀:=s
 H₀:=H
 env:=envOfC qual scope s.heap.objs.size f cd
 outer:=outer
 stack:=envOfC qual scope s.heap.objs.size f cd::outer
 ex:=[]
 calm:=true
 fn:=λ_=>true
 pn:=[]
 xe:=λe s'=>wpAny (model P w) (A.deeper (envOfC qual scope s.heap.objs.size f cd)) (leaving (envOfC qual scope s.heap.objs.size f cd) e) (λ_ a=>CX outer H s E e a) (λb a=>CX outer H s E b a) s'
theorem pE {sc:Scope} {n:Nat} (h:sc.names.lookup x=some .cell):∃c,(cellsFrom n sc.names []).lookup x=some c:=by have q:=PySem.W.cellsFrom_some sc.names n [] (.inl h);exact Option.isSome_iff_exists.mp q
theorem Bt {CX:CXT} {B:Shared} {E:XK}
  (S:cX N ps scope) (hd:A.handled=none) (g:uB P w K mg base A outer s H) (hl:vs.length=ps.length) (r:Vals vs us)
  (x:InCallC s s.heap.objs.size (bindL (envOfC qual scope s.heap.objs.size f cd).kindOf (ps.zip us) λ_=>none) (cellsFrom (s.heap.objs.size+1) scope.names []) (bindC (envOfC qual scope s.heap.objs.size f cd).kindOf (ps.zip us) λ_=>none) B) :
  Inv (c9 CX P w K mg base N qual scope f cd A outer s H E) [] (start N vs) H B:=by
 have hpl:ps.length<=N.length:=by have:=congrArg List.length S.pre;rw[OI]at this;omega
 obtain⟨h1,tk,rfl,C⟩:=x.done;have j:∀b:Addr,b∉(c9 CX P w K mg base N qual scope f cd A outer s H E).ex:=λb z=>absurd (show b∈([]:List Addr) from z) (by simp)
 refine⟨⟨g.mod,S.kind,rfl,rfl,N7 _,λy z c h1 h2=>?_,λy l=>?_,λy c _ h=>?_,λ_=>hd,Around.frames_deeper g.frames,.inr ⟨rfl,rfl⟩,λb z=>absurd z (j b),g.bs,g.bsz,λb _ _=>j b,λb z=>absurd z (j b),g.funs,g.frf⟩,
  rfl,g.bare,Un.kept C,⟨_,x.toInCall.ns,λi y v h1 h2 h3=>?_⟩,λy c h=>⟨_,x.cell y c h⟩,g.hok.fresh (N7 _),λy c h=>?_,λp m=>absurd (show p∈([]:List (Addr×Obj)) from m) (by simp),g.hok.kept C,?_,g.tab⟩
 ·exact name_of_addr x.apart (PySem.mem_of_lookup h1) (PySem.mem_of_lookup h2)
 ·have l:scope.names.lookup y=some .cell\/scope.names.lookup y=some .free:=l;rcases l with l|l
  ·exact pE l
  ·exact absurd rfl (S.nofree _ (PySem.mem_of_lookup l))
 ·exact Po (x.above y c (PySem.mem_of_lookup h))
 ·have hi:i<vs.length:=by
   unfold start at h2;by_cases hi:i<vs.length
   ·exact hi
   ·rw[NF (by simpa using hi)]at h2;rw[P0]at h2;split at h2 <;> cases h2
  have ha:vs[i]?=some v:=by
   unfold start at h2;rw[NB (by simpa using hi),Nx]at h2;cases e:vs[i]? with
   |none=>rw[e]at h2;cases h2
   |some a=>rw[e]at h2;cases h2;rfl
  obtain⟨u,D,F⟩:=r.get ha;have m:ps[i]?=some y:=by rw[<-S.pre,List.getElem?_take_of_lt (by omega)];exact h1
  have o:ps.Nodup:=by rw[<-S.pre];exact S.nd.sublist (List.take_sublist _ _)
  refine⟨u,F,?_⟩;rcases S.par y (NV m) with k|k
  ·exact .inl ⟨k,sC o m D k⟩
  ·obtain⟨c,e⟩:=pE (n:=s.heap.objs.size+1) k;refine .inr ⟨.inl k,c,e,?_⟩;have q:=x.cell y c e;rw[sT o m D (by show scope.names.lookup y≠_;rw[k];decide)]at q;exact q
 ·exact g.hok.fresh (Po (x.above y c (PySem.mem_of_lookup h)))
 ·unfold start;show _=N.length;rw[Nl,N4,List.length_replicate];omega
theorem CL {CX:CXT} {k:Nat} {name:Str} {B kV doc cdv:Value}
  {sp:Sp} (F:K.lookup f=some ⟨oc,od,.func (PySem.W.fnOf name qual params body scope B kV doc pm an cdv ct),osl⟩) (l:PySem.W.codeIn K cdv qual=true) (S:cX N ps scope)
  (len:∀vs H Q E,sp vs H Q E->vs.length=ps.length)
  (c:∀(A:Around) (outer:List Env) (s:Shared) (H:Hp) (vs:List V) (Q:VK) (E:XK),cg k (A.deeper (envOfC qual scope s.heap.objs.size f cdv))->sp vs H Q E ->
   ∃t,PSs (c9 CX P w K mg base N qual scope f cdv A outer s H E) body t/\t { nx:=λ_ H'=>Q .non H',rt:=Q } (start N vs) H) :
  gB P w K mg base CX (k+1) f (PySem.W.fnOf name qual params body scope B kV doc pm an cdv ct) ps sp:=by
 refine⟨len,λA outer s H args us vs Q E m i G r j=>?_⟩;have hl:=len _ _ _ _ j;have C:K.In s.heap:=i.mod.kin.keeps λb o e=>(i.bs b o e).1
 have lim:s.heap.NoLimit:=i.mod.nolimit.keeps λb o e=>(i.bs b o e).1
 have g:∀y∈ps.zip us,scope.names.lookup y.1=some .local\/(scope.names.lookup y.1=some .cell/\((cellsFrom (s.heap.objs.size+1) scope.names []).lookup y.1).isSome=true):=λp L=>by
  obtain⟨n,v⟩:=p;rcases S.par n (OT L).1 with q|q
  ·exact .inl q
  ·exact .inr ⟨q,PySem.W.cellsFrom_some _ _ _ (.inl q)⟩
 refine codeAny_call_function m.depth (C _ _ F) rfl S.co S.gen rfl (PySem.W.codeRec_of C l) (G _ _ _ _ ?_);refine wpAny_newFunctionEnv_cells S.kind g λenv M D x=>?_
 subst M;refine⟨lim.keeps x.toInCall.keep,codeAny_func ?_⟩;obtain⟨t,O,R⟩:=c A outer s H vs Q E (m.deeper _) j;have I:Inv (c9 CX P w K mg base N qual scope f cdv A outer s H E) [] (start N vs) H D:=Bt S m.hd i hl r x;refine wpAny_mono (O [] D (start N vs) H _ I R) (λT s' h=>?_) λe s' h=>h
 have fin:∀{a:St} {H':Hp} {v:V} {u:Value},Inv (c9 CX P w K mg base N qual scope f cdv A outer s H E) [] a H' s'->RelV v u->Q v H'->CE outer P w H s Q u s' :=
  λ{a H' v u} J z q=>⟨v,H',J.os,J.bare,J.base,J.hok,z,q⟩
 cases T with
 |ret u =>obtain⟨v,a,H',J,z,q⟩:=h;exact fin J z q
 |next =>obtain⟨a,H',J,q⟩:=h;exact fin (v:=V.non) (u:=Value.none) J rfl q
 |brk =>obtain⟨_,_,_,q⟩:=h;exact False.elim q
 |cont =>obtain⟨_,_,_,q⟩:=h;exact False.elim q
section
variable {t:TA} {id T:String} {r:List V->Hp->VK->Prop}
def tCB (r:List V->Hp->VK->Prop) (t:TA):TE:=λσ H Q=>t σ H λvs H1=>r vs H1 Q
theorem eX (hc:jz X (.builtin id) r) (f:Gl X x) (hm:X.mg x=none) (hv:bootBuiltins x=some (.builtin id)) (ha:PA X (e::es) t) (hn:x≠"__name__":=by decide) (a:(x==("__debug__":Str))=false:=by decide)
  (g:starEach (e::es) X.env=(false,eval e X.env)::starEach es X.env:=by rfl) (b:(backTo pos (starEach es X.env)).any (·.1)=false:=by rfl):PE X (.Call (.Name x p) (e::es) [] pos) (tCB r t):=by
 intro pins s σ H Q I h;refine wpAny_Call_Name_kw (fY I f hm hv ?_ hn a);exact PyProof.Rows.callWith_builtin1 (thn (ha pos pins s σ H _ I h) λus i c=>(by obtain⟨vs,H1,j,l,m⟩:=c;exact hc pins i σ H1 vs us Q j l m)) g b
theorem nL (hc:jz X (.type T) r) (f:Gl X x) (hm:X.mg x=none) (hv:bootBuiltins x=some (.type T)) (ha:PA X (e::es) t) (hn:x≠"__name__":=by decide) (a:(x==("__debug__":Str))=false:=by decide)
  (g:starEach (e::es) X.env=(false,eval e X.env)::starEach es X.env:=by rfl) (b:(backTo pos (starEach es X.env)).any (·.1)=false:=by rfl):PE X (.Call (.Name x p) (e::es) [] pos) (tCB r t):=by
 intro pins s σ H Q I h;refine wpAny_Call_Name_kw (fY I f hm hv ?_ hn a);exact PyProof.Rows.callWith_type1 (thn (ha pos pins s σ H _ I h) λus i c=>(by obtain⟨vs,H1,j,l,m⟩:=c;exact hc pins i σ H1 vs us Q j l m)) g b
end
end L2
variable {xs ys vs:List L2.V} {ws:List (Option L2.V)} {H H' H1 G H0:L2.Hp} {o:L2.HO} {v y:L2.V} {X:L2.Cx} {σ:L2.St} {ta:L2.TA} {CX:L2.CXT} {sp:L2.Sp} {r:L2.V->Option Int->Option Int->L2.Hp->L2.VK->Prop} {kvs:List (List L2.Key×L2.V)} {κ:Nat->L2.V->L2.Hp->Prop}
namespace HT
open PySem PyProof.Rows
def lexLt:List Int->List Int->Bool
 |[],[]=>false
 |[],_::_=>true
 |_::_,[]=>false
 |x::xs,y::ys=>if x=y then lexLt xs ys else decide (x<y)
theorem pU (x y:Int) (xs ys:List Int):lexLt (x::xs) (y::ys)=if x=y then lexLt xs ys else decide (x<y):=rfl
theorem kH:lexLt [] []=false:=rfl
theorem qe (y:Int) (ys:List Int):lexLt [] (y::ys)=true:=rfl
theorem qQ (x:Int) (xs:List Int):lexLt (x::xs) []=false:=rfl
theorem DF (A:Around) (s:Shared) (a:Int) (t:Tok) (c:Int) (u:Tok):∃e,SeqAt.EqAt A s (.int a t) (.int c u) e/\(e=true↔a=c) :=
 ⟨(a==c),SeqAt.EqAt.int_int a t c u,by simp⟩
theorem Fb (A:Around) (s:Shared) (a:Int) (t:Tok) (c:Int) (u:Tok) (prog:Program) (w:World) (E:Value->Shared->Prop) (Q:Value->Shared->Prop) (h:Q (.bool (decide (a<c))) s) :
  wpAny (model prog w) A (richCompare .Lt (.int a t) (.int c u)) Q E s :=
 (PyProof.Rows.lt_int h:wpAny (model prog w) A (compareOp .Lt (.int a t) (.int c u)) Q E s)
section
open PySem.SeqAt
open PySem.AutoSeq1 (wpAny_loadPart')
open PySem.MeetsSeq PySem.MeetsSeq2 PySem.MeetsSeq3
theorem rW (l b:Addr) (items f:Array Value) (n n2:Nat) (dd E:Option Addr) (J F:Array (Option Value)) (ns C:List Int) (hi:IntsAre items.toList ns) (I:IntsAre f.toList C) :
  Meets (Builtin.«tuple.__lt__» ⟨[.ref l,.ref b],[]⟩)
   (λ_ R s=>s.heap.get? l=some { cls:=.type "tuple",dict:=dd,data:=.seq items n,slots:=J }/\s.heap.get? b=some { cls:=.type "tuple",dict:=E,data:=.seq f n2,slots:=F } /\
    R (.ok (.ret (.bool (lexLt ns C)))) s) :=
 .of_wp λprog w A R s h=>by
  obtain⟨D,g,d,tk,os⟩:=s;obtain⟨hl,K,h⟩:=h;have f2:=AutoSeq1.sub_tuple_tuple;have z1:items.size=ns.length:=by rw[<-hi.length];simp
  have z2:f.size=C.length:=by rw[<-I.length];simp
  wp_walk using wpAny_loadPart' hl,wpAny_loadPart' K,wpAny_forIn_list _ (λrest b s'=>b.1=none/\s'=⟨D,g,d,tk,os⟩/\∃(vs ws:List Value) (i j:List Int),rest=vs.zip ws /\
   IntsAre vs i/\IntsAre ws j/\i.length+f.size=j.length+items.size/\R (.ok (.ret (.bool (lexLt i j)))) ⟨D,g,d,tk,os⟩) _
  case turn =>
   rintro⟨y,x⟩ rest b s' ⟨v,rfl,vs,ws,i,j,m,z,o,hlen,p⟩
   cases z with
   |nil=>rw[List.zip_nil_left]at m;cases m
   |cons a t hvi' =>
    cases o with
    |nil=>rw[List.zip_nil_right]at m;cases m
    |cons c u hwi' =>
     rw[OW]at m;injection m with G B
     injection G with L M
     subst L M;rw[pU]at p;simp only[Nu]at hlen;obtain⟨e,N,r⟩:=DF A.in1 ⟨D,g,d,tk,os⟩ a t c u;refine wpAny_bind (N prog w _ _ ?_);cases e with
     |true =>
      rw[if_pos (r.mp rfl)]at p
      wp_walk
      exact⟨rfl,rfl,_,_,_,_,B,hvi',hwi',by omega,p⟩
     |false =>
      rw[if_neg (λq=>absurd (r.mpr q) NA)]at p;have H:=Fb A.in1 ⟨D,g,d,tk,os⟩ a t c u prog w
      wp_walk using H
      exact⟨_,rfl,by simpa using p⟩
  case fin =>
   rintro⟨b1,b2⟩ s' ⟨v,rfl,vs,ws,i,j,m,z,o,hlen,p⟩
   simp only at v;subst v;have hv:lexLt i j=decide (items.size<f.size):=by
    cases z with
    |nil =>
     cases o with
     |nil =>simp only[Om]at hlen;rw[kH];exact (decide_eq_false (by omega)).symm
     |cons c u hw =>simp only[Om,Nu]at hlen;rw[qe];exact (decide_eq_true (by omega)).symm
    |cons a t hv =>
     cases o with
     |nil =>simp only[Om,Nu]at hlen;rw[qQ];exact (decide_eq_false (by omega)).symm
     |cons c u hw =>rw[OW]at m;cases m
   rw[hv]at p
   wp_walk
   exact⟨_,rfl,by simpa[Builtin.Tuple.tupleCompareSizes] using p⟩
  case h =>exact⟨rfl,rfl,items.toList,f.toList,ns,C,rfl,hi,I,by omega,h⟩
end
section
variable {A:Around}
theorem yt {l:Addr} {a:Array Value} {c:List Int} (hl:IsTup s.heap l items) (m:IsTup s.heap b a) (hi:IntsAre items.toList ns) (o:IntsAre a.toList c)
  (p:A.units<cLine) (h:Q (.bool (lexLt ns c)) s):wpAny (model prog w) A (compareOp .Lt (.ref l) (.ref b)) Q E s:=by
 obtain⟨⟨cls,dd,data,q⟩,j,hc,n,hd⟩:=id hl;obtain⟨⟨cls2,g,data2,i⟩,e,f,n2,hd2⟩:=id m;simp only at hc hd f hd2;subst hc hd f hd2;exact richCompare_meets_room (op:=.Lt) ⟨_,j,rfl⟩ ⟨_,e,rfl⟩ PySem.F.slot_tuple_lt PySem.F.entry_tuple_lt (PySem.F.args_tuple_lt_2 _ _) (rW l b items a n n2 dd g q i ns c hi o)
  ⟨j,e,show Value.bool (lexLt ns c)≠Value.notImplemented/\Q (.bool (lexLt ns c)) s from⟨(λx=>nomatch x),h⟩⟩ p
theorem HQ {t:Addr} {vs ws:List Value} (j:IsTup s.heap t vs.toArray) (l:IsTup s.heap b ws.toArray) (hv:vs≠[])
  (h1:ws=[]->Q (.ref t) s) (h2:ws≠[]->Q (.ref s.heap.objs.size) { s with heap:=s.heap.push { cls:=.type "tuple",data:=.seq (vs++ws).toArray } })
  (hsz:vs.length+ws.length<=sizeLine):wpAny (model prog w) A (binaryOp .Add (.ref t) (.ref b)) Q E s:=by
 obtain⟨⟨cls,dd,data,i⟩,h,hc,n,hd⟩:=id j;obtain⟨⟨cls2,c,data2,f⟩,a,g,n2,hd2⟩:=id l;simp only at hc hd g hd2;subst hc hd g hd2;have e:vs.toArray++ws.toArray=(vs++ws).toArray:=by simp
 by_cases hw:ws=[]
 ·exact concat_meets ⟨_,h,rfl⟩ ⟨_,a,rfl⟩ noFill_tuple_add seq_tuple_add PySem.F.slot_tuple_add PySem.F.entry_tuple_add (PySem.F.args_tuple_add_2 _ _)
   (tuple_addW1 t b vs.toArray ws.toArray n n2 dd c i f (by simpa using hv) (by simp[hw])) ⟨h,a,h1 hw⟩
 ·refine concat_meets ⟨_,h,rfl⟩ ⟨_,a,rfl⟩ noFill_tuple_add seq_tuple_add PySem.F.slot_tuple_add PySem.F.entry_tuple_add (PySem.F.args_tuple_add_2 _ _)
   (tuple_addW2 t b vs.toArray ws.toArray n n2 dd c i f (by simpa using hv) (by simpa using hw) (by rw[Nm,Nm];exact hsz)) ⟨h,a,?_⟩
  rw[e];exact h2 hw
def sIx (n d:Nat):Option Int->Nat
 |none=>d
 |some v=>if v<0 then (v+(n:Int)).toNat else min v.toNat n
theorem AQ (n d k:Nat):sIx n d (some (k:Int))=min k n:=by show (if (k:Int)<0 then ((k:Int)+(n:Int)).toNat else min (k:Int).toNat n)=min k n;rw[if_neg (by omega),NM]
theorem Lc (n d:Nat) (hd:d<=n) (o:Option Int):sIx n d o<=n:=by
 cases o with
 |none=>exact hd
 |some v =>
  show (if v<0 then (v+(n:Int)).toNat else min v.toNat n)<=n;by_cases hv:v<0
  ·rw[if_pos hv];omega
  ·rw[if_neg hv];exact Nat.min_le_right _ _
theorem AM (v:Int) (n d:Nat):(if v<0 then max (v+(n:Int)) 0 else min v (n:Int))=((sIx n d (some v):Nat):Int):=by
 show (if v<0 then max (v+(n:Int)) 0 else min v (n:Int))=(((if v<0 then (v+(n:Int)).toNat else min v.toNat n):Nat):Int)
 by_cases hv:v<0
 ·simp only[if_pos hv];omega
 ·simp only[if_neg hv];omega
theorem yo (lo hi:Option Int) (n:Nat):Builtin.Slice.sliceAdjust lo hi 1 (n:Int)=(((sIx n 0 lo:Nat):Int),((sIx n n hi:Nat):Int)):=by
 have h1:¬ ((1:Int)<0):=by omega
 unfold Builtin.Slice.sliceAdjust;simp only[h1,if_false];refine Prod.ext ?_ ?_
 ·cases lo with
  |none=>rfl
  |some v=>exact AM v n 0
 ·cases hi with
  |none=>rfl
  |some v=>exact AM v n n
theorem yL (i j:Nat):Builtin.Slice.slicePlaces (i:Int) (j:Int) 1=j-i:=by
 unfold Builtin.Slice.slicePlaces;have h1:(1:Int)>0:=by omega
 simp only[h1,if_true,Int.ediv_one];split <;> omega
theorem ql {v:Value} {o:Option Int} {Q:Option Int->Shared->Prop} (p:IsPart v o) (h:Q o s):wpAny (model prog w) A (Builtin.Slice.slicePartIndex v) Q E s:=by
 cases p with
 |none=>exact slicePart_none h
 |int i t=>exact slicePart_int h
theorem iW {c e:Value} {n:Nat} {Q:Int×Int×Nat->Shared->Prop} (g:s.heap.IsSliceOf f c e .none) (pl:IsPart c lo) (i:IsPart e hi)
  (h:Q (((sIx n 0 lo:Nat):Int),1,sIx n n hi-sIx n 0 lo) s):wpAny (model prog w) A (Builtin.Slice.sliceApplied (.ref f) (pure (n:Int))) Q E s:=by
 obtain⟨os,a,hcs,b⟩:=id g;unfold Builtin.Slice.sliceApplied Builtin.Slice.sliceFields;refine wpAny_bind (wpAny_bind (wpAny_field a b (x:=c) rfl (wpAny_bind (wpAny_field a b (x:=e) rfl (wpAny_bind (wpAny_field a b (x:=.none) rfl (wpAny_pure ?_)))))));refine wpAny_bind (slicePart_none ?_);show wpAny _ _ (if ((1:Int)==0)=true then _ else _) _ _ s;rw[if_neg (by decide)];refine wpAny_bind (ql pl (wpAny_bind (ql i (wpAny_bind (wpAny_pure ?_)))));show wpAny _ _ (match Builtin.Slice.sliceAdjust lo hi 1 (n:Int) with|(lo,hi)=>pure (lo,(1:Int),Builtin.Slice.slicePlaces lo hi 1)) _ _ s;rw[yo lo hi n];show wpAny _ _ (pure (((sIx n 0 lo:Nat):Int),(1:Int),Builtin.Slice.slicePlaces ((sIx n 0 lo:Nat):Int) ((sIx n n hi:Nat):Int) 1)) _ _ s;rw[yL];exact wpAny_pure h
theorem DM (xs:Array Value) (i k:Nat):((List.range k).filterMap λ(m:Nat)=>xs[((i:Int)+(m:Int)*1).toNat]?).toArray=((xs.toList.drop i).take k).toArray:=by
 have e:(λ(m:Nat)=>xs[((i:Int)+(m:Int)*1).toNat]?)=λm=>xs[i+m]?:=by
  funext m;have:((i:Int)+(m:Int)*1).toNat=i+m:=by omega
  rw[this]
 rw[e];have:=pick_run xs i k;rw[List.filterMap_map]at this;have e2:((λx=>xs[x]?)∘λx=>i+x)=λm=>xs[i+m]?:=rfl
 rw[e2]at this;rw[this]
theorem mG {t:Addr} {j l:Value} (b:IsTup s.heap t items) (n:s.heap.IsSliceOf c j l .none) (pl:IsPart j lo) (o:IsPart l hi)
  (hw:¬ (sIx items.size 0 lo=0/\sIx items.size items.size hi=items.size))
  (h:Q (.ref s.heap.objs.size) { s with heap:=s.heap.push { cls:=.type "tuple",data:=.seq ((items.toList.drop (sIx items.size 0 lo)).take (sIx items.size items.size hi-sIx items.size 0 lo)).toArray } })
  (hsz:items.size<=sizeLine):wpAny (model prog w) A (getItem (.ref t) (.ref c)) Q E s:=by
 have a:sizeOk (.seq ((items.toList.drop (sIx items.size 0 lo)).take (sIx items.size items.size hi-sIx items.size 0 lo)).toArray):=by show ((items.toList.drop (sIx items.size 0 lo)).take (sIx items.size items.size hi-sIx items.size 0 lo)).toArray.size<=sizeLine;rw[Nm,OI,OJ,NX];omega
 have hj:sIx items.size items.size hi<=items.size:=Lc _ _ (N7 _) hi;obtain⟨os,e,f,hds⟩:=id n;have g:s.TypeIs (.ref c) "slice":=⟨os,e,f⟩
 unfold getItem
 try with_reducible refine wpAny_holding ?_
 first|refine wpAny_bind (wpAny_pure ?_)|skip
 refine wpAny_bind (wpAny_sequenceKey b.typeIs (by decide) ?_);refine wpAny_bind (wpAny_callSpecial?_slot (name:=Str.ofString "__getitem__") b.typeIs PyProof.Rows.slot_tuple_getitem
  (wpAny_call_entry PyProof.Rows.slot_tuple_getitem b.typeIs entry_tuple_getitem ?_ (args_tuple_getitem _ _)))
 show wpAny _ _ (Builtin.Tuple.tupleItemsOf (.ref t) >>= _) _ _ s;refine wpAny_bind (tupleItemsOf_ b ?_);refine wpAny_bind (wpAny_typeOf g ?_);rw[if_pos (by decide)];refine wpAny_bind (iW n pl o ?_);have i:¬ ((((sIx items.size 0 lo:Nat):Int)==0&&(1:Int)==1&&(sIx items.size items.size hi-sIx items.size 0 lo)==items.size)=true):=by intro q;rw[N6,N6]at q;have q1:((sIx items.size 0 lo:Nat):Int)=0:=eq_of_beq q.1.1;have q2:sIx items.size items.size hi-sIx items.size 0 lo=items.size:=eq_of_beq q.2;exact hw ⟨by omega,by omega⟩
 show wpAny _ _ (if (((sIx items.size 0 lo:Nat):Int)==0&&(1:Int)==1&&(sIx items.size items.size hi-sIx items.size 0 lo)==items.size)=true then _ else _) _ _ s;rw[if_neg i,DM]
 first
  |exact wpAny_bind (m:=Builtin.Tuple.tupleExact _) (wpAny_newObj_type (wpAny_pure ⟨_,rfl,wpAny_pure h⟩) a)
  |exact wpAny_bind (m:=Builtin.Tuple.tupleExact _) (wpAny_newObj_type (wpAny_bind (wpAny_pure (wpAny_pure ⟨_,rfl,wpAny_pure h⟩))) a)
  |exact wpAny_bind (wpAny_bind (m:=Builtin.Tuple.tupleExact _) (wpAny_newObj_type (wpAny_pure (wpAny_pure ⟨_,rfl,wpAny_pure h⟩)) a))
  |exact wpAny_bind (wpAny_bind (m:=Builtin.Tuple.tupleExact _) (wpAny_newObj_type (wpAny_pure ⟨_,rfl,wpAny_pure h⟩) a))
end
end HT
namespace L2
open PySem PySem.Spec PyProof.Rows
variable {n:Nat} {a:List Value}
abbrev TO:=St->Hp->(Option Int->Hp->Prop)->Prop
def PO (X:Cx) (e:Option Expr) (t:TO):Prop :=
 ∀(pins:List (Addr×Obj)) (s:Shared) (σ:St) (H:Hp) (Q:Option Int->Hp->Prop),Inv X pins σ H s->t σ H Q ->
  wpAny (model X.prog X.w) X.A (evalPart e X.env) (λu s'=>∃o H',Inv X pins σ H' s'/\IsPart u o/\Q o H') X.xe s
def Ie:TO:=λ_ H Q=>Q none H
def LG (t:TE):TO:=λσ H Q=>t σ H λx H1=>∃i,x=.int i/\Q (some i) H1
theorem intsAre_of:∀{us:List Value},Vals (ns.map V.int) us->IntsAre us ns:=by
 induction ns with
 |nil=>intro us r;rw[Oi]at r;cases r;exact .nil
 |cons n ns ih =>
  intro us r;rw[N0]at r;cases r with
  |cons r1 r2 =>obtain⟨t,e⟩:=r1;subst e;exact .cons n t (ih r2)
section
variable {e:Expr} {te:TE} {lo hi:Option Expr} {tl th:TO}
theorem Hl:PO X none Ie:=by intro pins s σ H Q I h;rw[evalPart_none];exact wpAny_pure ⟨none,H,I,.none,h⟩
theorem HZ (h:PE X e te):PO X (some e) (LG te):=by
 intro pins s σ H Q I hw;rw[evalPart_some];refine thn (h pins s σ H _ I hw) λu s1 a=>?_
 obtain⟨x,H1,b,c,f⟩:=a;obtain⟨i,rfl,q⟩:=f;obtain⟨t,rfl⟩:=c;exact⟨some i,H1,b,.int i t,q⟩
def SlR (X:Cx) (r:V->Option Int->Option Int->Hp->VK->Prop):Prop :=
 ∀(pins:List (Addr×Obj)) (s:Shared) (σ:St) (H:Hp) (x:V) (v a b:Value) (lo hi:Option Int) (c:Addr) (Q:VK),Inv X pins σ H s->RelV x v->s.heap.IsSliceOf c a b .none->IsPart a lo->IsPart b hi->r x lo hi H Q ->
  ∃T id,typeLookup (.type T) "__getitem__"=pure (some (.builtin id))/\s.TypeIs v T/\wpAny (model X.prog X.w) X.A (getItem v (.ref c)) (EP X pins σ Q) X.xe s
theorem SlR.or {a:V->Option Int->Option Int->Hp->VK->Prop} (h:SlR X r) (h':SlR X a):SlR X (λx lo hi H Q=>r x lo hi H Q\/a x lo hi H Q):=by
 intro pins s σ H x v b c lo hi e Q I f g pl i q;rcases q with q|q
 ·exact h pins s σ H x v b c lo hi e Q I f g pl i q
 ·exact h' pins s σ H x v b c lo hi e Q I f g pl i q
def tSl (r:V->Option Int->Option Int->Hp->VK->Prop) (te:TE) (tl th:TO):TE:=λσ H Q=>te σ H λx H1=>tl σ H1 λl H2=>th σ H2 λu a=>r x l u a Q
theorem DA (j:SlR X r) (m:PE X e te) (hl:PO X lo tl) (n:PO X hi th):PE X (.Subscript e (.Slice lo hi none p2) pos) (tSl r te tl th):=by
 intro pins s σ H Q I h;refine Subscript_ (thn (m pins s σ H _ I h) λv o a=>?_);obtain⟨x,H1,p,y,z⟩:=a;refine wpAny_Slice (thn (hl pins o σ H1 _ p z) λf s2 a=>?_);obtain⟨l,H2,B,pl,C⟩:=a;refine thn (n pins s2 σ H2 _ B C) λg c a=>?_
 obtain⟨u,i,D,E,F⟩:=a;rw[evalPart_none];refine wpAny_pure ?_;have G:Inv X pins σ i { c with heap:=c.heap.push { cls:=.type "slice",data:=.fields #[f,g,.none] } }:=D.kept (t':=c.toks) λb ob q=>N1 _ q
 obtain⟨T,id,J,K,L⟩:=j pins { c with heap:=c.heap.push { cls:=.type "slice",data:=.fields #[f,g,.none] } } σ i x v f g l u c.heap.objs.size Q G y (Heap.IsSliceOf.new ..) pl E F;show wpAny (model X.prog X.w) X.A (subscriptTail e (.Slice lo hi none p2) v (.ref c.heap.objs.size)) (EP X pins σ Q) X.xe { c with heap:=c.heap.push { cls:=.type "slice",data:=.fields #[f,g,.none] } };exact tail_any (ops:=[.ref c.heap.objs.size,v]) K J L (by with_unfolding_all rfl)
def xQ (xs:List V) (lo hi:Option Int):List V:=(xs.drop (HT.sIx xs.length 0 lo)).take (HT.sIx xs.length xs.length hi-HT.sIx xs.length 0 lo)
theorem n9 (xs:List V) (lo hi:Option Int):(xQ xs lo hi).length<=xs.length:=by unfold xQ;rw[OI,OJ];omega
def MV (K:PySem.W.Frag):V->Option Int->Option Int->Hp->VK->Prop:=λx lo hi H Q=>∃a xs,x=.ref a/\SqT K H a xs /\
 ¬ (HT.sIx xs.length 0 lo=0/\HT.sIx xs.length xs.length hi=xs.length)/\∀p,H p=none->Q (.ref p) (upd H p (.tup (xQ xs lo hi)))
theorem K6:SlR X (MV X.K):=by
 intro pins s σ H x v vl vu lo hi sl Q I g i pl j h;obtain⟨a,xs,rfl,l,hw,q⟩:=h;cases g;obtain⟨c,r,e,f⟩:=I.tuple l;have hlen:c.toArray.size=xs.length:=by rw[Nm];exact r.length.symm
 refine⟨"tuple",_,PyProof.Rows.slot_tuple_getitem.lookup,e.typeIs,?_⟩;refine HT.mG e i pl j (by rw[hlen];exact hw) ?_ (by rw[hlen];exact f);rw[hlen];refine⟨.ref s.heap.objs.size,_,I.laid (t':=s.toks) (o:=.tup (xQ xs lo hi)) (λb ob q=>N1 _ q) (N7 _) ?_,rfl,q _ (I.hok.fresh (N7 _))⟩;exact⟨O4 (n9 xs lo hi) f,_,(r.drop (HT.sIx xs.length 0 lo)).take (HT.sIx xs.length xs.length hi-HT.sIx xs.length 0 lo),vn.new _ _⟩
def MO (K:PySem.W.Frag):R2:=λx y H Q=>∃a b ns c,x=.ref a/\y=.ref b/\SqT K H a (ns.map V.int)/\SqT K H b (c.map V.int)/\Q (.bl (HT.lexLt ns c)) H
theorem Jt (g:X.A.units<cLine):OpR X (compareOp .Lt) (MO X.K):=by intro pins s σ H x y v u Q I i j h;obtain⟨a,b,ns,f,rfl,rfl,ha,l,q⟩:=h;cases i;cases j;obtain⟨e,m,p1,_⟩:=I.tuple ha;obtain⟨c,n,p2,_⟩:=I.tuple l;have i1:IntsAre e.toArray.toList ns:=intsAre_of m;have i2:IntsAre c.toArray.toList f:=intsAre_of n;exact HT.yt p1 p2 i1 i2 g ⟨.bl (HT.lexLt ns f),H,I,rfl,q⟩
def Lx (K:PySem.W.Frag):R2:=λx y H Q=>∃a b xs ys,x=.ref a/\y=.ref b/\SqT K H a xs/\SqT K H b ys/\xs≠[]/\xs.length+ys.length<=sizeLine /\
 (ys=[]->Q (.ref a) H)/\(ys≠[]->∀p,H p=none->Q (.ref p) (upd H p (.tup (xs++ys))))
theorem Vals.nil_iff (r:Vals xs us):us=[]↔xs=[]:=by
 cases r with
 |nil=>simp
 |cons _ _=>simp
theorem FN:OpR X (binaryOp .Add) (Lx X.K):=by intro pins s σ H x y v u Q I g i h;obtain⟨a,b,xs,ys,rfl,rfl,ha,j,l,f,m,n⟩:=h;cases g;cases i;obtain⟨its,e,p1,_⟩:=I.tuple ha;obtain⟨its2,c,p2,_⟩:=I.tuple j;refine HT.HQ p1 p2 (λz=>l (e.nil_iff.mp z)) (λz=>⟨.ref a,H,I,rfl,m (c.nil_iff.mp z)⟩) (λz=>?_) (by rw[<-e.length,<-c.length];exact f);refine⟨.ref s.heap.objs.size,_,I.laid (t':=s.toks) (o:=.tup (xs++ys)) (λb ob q=>N1 _ q) (N7 _) ?_,rfl,n (λw=>z (c.nil_iff.mpr w)) _ (I.hok.fresh (N7 _))⟩;exact⟨by rw[Nl];exact f,_,e.append c,vn.new _ _⟩
end
def ixN (n:Nat) (i:Int):Option Nat:=if 0<=i then (if i<n then some i.toNat else none) else if -(n:Int)<=i then some (i+n).toNat else none
def atI {α:Type} (xs:List α) (i:Int):Option α:=(ixN xs.length i).bind λj=>xs[j]?
theorem va {i:Int} (h:ixN n i=some j):seqIndex? i n=some j/\j<n/\-(n:Int)<=i/\i<n:=by
 unfold ixN at h;by_cases h0:0<=i
 ·rw[if_pos h0]at h;by_cases h1:i<n
  ·rw[if_pos h1]at h;have e:i.toNat=j:=Option.some.inj h;exact⟨by rw[seqIndex_of h0 h1,e],by omega,by omega,h1⟩
  ·rw[if_neg h1]at h;cases h
 ·rw[if_neg h0]at h;by_cases h1:-(n:Int)<=i
  ·rw[if_pos h1]at h;have e:(i+n).toNat=j:=Option.some.inj h;exact⟨by rw[seqIndex_neg (by omega) h1,e],by omega,h1,by omega⟩
  ·rw[if_neg h1]at h;cases h
theorem zN {xs:List α} {i:Int} {v:α} (h:atI xs i=some v):∃j,seqIndex? i xs.length=some j/\xs[j]?=some v/\j<xs.length/\-(xs.length:Int)<=i/\i<xs.length:=by
 unfold atI at h;cases e:ixN xs.length i with
 |none=>rw[e]at h;cases h
 |some j =>rw[e]at h;obtain⟨h1,h2,a,b⟩:=va e;exact⟨j,h1,h,h2,a,b⟩
theorem oQ {xs:List α} {v:α} (h:xs[j]?=some v):atI xs (j:Int)=some v:=by
 have hj:j<xs.length:=(ND.mp h).1;have e:ixN xs.length (j:Int)=some j:=by unfold ixN;rw[if_pos (by omega),if_pos (by omega)];simp
 unfold atI;rw[e];exact h
def AN (b:Expr):Prop:=∀o i,subscripted b false o i=operate [o,i] (getItem o i)
def IxR (X:Cx) (r:R2):Prop :=
 ∀(value slice:Expr) (pins:List (Addr×Obj)) (s:Shared) (σ:St) (H:Hp) (x y:V) (v u:Value) (Q:VK),Inv X pins σ H s->RelV x v->RelV y u->r x y H Q ->
  subscripted slice false v u=operate [v,u] (getItem v u)->wpAny (model X.prog X.w) X.A (subscriptTail value slice v u) (EP X pins σ Q) X.xe s
def MtR (X:Cx) (id:String) (r:V->List V->Hp->VK->Prop):Prop :=
 ∀(pins:List (Addr×Obj)) (s:Shared) (σ:St) (H:Hp) (x:V) (xs:List V) (v:Value) (us:List Value) (Q:VK),Inv X pins σ H s->RelV x v->Vals xs us->r x xs H Q ->
  wpAny (model X.prog X.w) X.A (call (.builtin id) (v::us)) (EP X pins σ Q) X.xe s
section
variable {a b:Expr} {ta tb:TE}
theorem IxR.or {r a:R2} (h:IxR X r) (h':IxR X a):IxR X (λx y H Q=>r x y H Q\/a x y H Q):=by
 intro value slice pins s σ H x y v u Q I b c q e;rcases q with q|q
 ·exact h value slice pins s σ H x y v u Q I b c q e
 ·exact h' value slice pins s σ H x y v u Q I b c q e
theorem De {r:R2} (c:IxR X r) (ha:PE X a ta) (e:PE X b tb) (f:AN b):PE X (.Subscript a b pos) (tOp r ta tb):=by intro pins s σ H Q I h;exact Subscript_ (Ko ha e I h λv u s2 x y H2 g i j q=>c a b pins s2 σ H2 x y v u Q g i j q (f _ _))
def Lw (K:PySem.W.Frag):R2:=λx y H Q=>∃p xs i v,x=.ref p/\y=.int i/\SqL K H p xs/\atI xs i=some v/\Q v H
def LJ (K:PySem.W.Frag):R2:=λx y H Q=>∃p xs i v,x=.ref p/\y=.int i/\SqT K H p xs/\atI xs i=some v/\Q v H
theorem vD:IxR X (Lw X.K):=by
 intro value slice pins s σ H x y v u Q I g l h e;obtain⟨p,xs,i,z,rfl,rfl,m,n,q⟩:=h;cases g;obtain⟨t,rfl⟩:=l;obtain⟨a,r,pl,hz⟩:=I.list m;obtain⟨j,h1,h2,h3,o,A⟩:=zN n;obtain⟨w,f,b⟩:=r.get h2;have hl:=r.length;have hn:=uQ;have fin:EP X pins σ Q w s:=⟨z,H,I,b,q⟩
 by_cases h0:0<=i
 ·have c:i.toNat=j:=by rw[seqIndex_of h0 A]at h1;exact Option.some.inj h1
  exact item_listR pl.isList h0 (by omega) (by rw[c];simpa using f) fin e
 ·have c:(i+(a.toArray.size:Int)).toNat=j:=by rw[seqIndex_neg (by omega) o]at h1;rw[Nm,<-hl];exact Option.some.inj h1
  exact subscriptTail_builtinR (x:=w) pl.isList.typeIs slot_list_getitem.lookup
   (wpAny_getItem_list_neg (Q:=λr s'=>r=w/\EP X pins σ Q r s') pl.isList (by omega) (by rw[Nm] <;> omega) (by omega) (by rw[c];simpa using f) ⟨rfl,fin⟩) e
theorem K9:IxR X (LJ X.K):=by
 intro value slice pins s σ H x y v u Q I b c h e;obtain⟨p,xs,i,z,rfl,rfl,f,g,q⟩:=h;cases b;obtain⟨t,rfl⟩:=c;obtain⟨its,r,pl,hz⟩:=I.tuple f;obtain⟨j,h1,h2,h3,h4,h5⟩:=zN g;obtain⟨w,l,a⟩:=r.get h2;have hl:=r.length;have hn:=uQ;have fin:EP X pins σ Q w s:=⟨z,H,I,a,q⟩
 exact subscriptTail_builtinR (x:=w) pl.typeIs slot_tuple_getitem.lookup
  (getItem_tuple (j:=j) (Q:=λr s'=>r=w/\EP X pins σ Q r s') pl (by omega) (by omega) (by rw[Nm,<-hl];exact h1) (by simpa using l) ⟨rfl,fin⟩) e
theorem yI (a:List Value) (n j:Nat) (u:Value):Obj.mapSeq (·.setIfInBounds j u) { cls:=.type "list",data:=.seq a.toArray n }={ cls:=.type "list",data:=.seq (a.set j u).toArray n }:=by simp[Obj.mapSeq]
theorem Inv.lst {p:Addr} (I:Inv X pins σ H s) (h:H p=some (.lst xs)) :
  ∃(a:List Value) (n:Nat),Vals xs a/\s.heap.get? p=some { cls:=.type "list",data:=.seq a.toArray n }/\xs.length<=sizeLine:=by
 obtain⟨z,a,n,r,e⟩:=I.hok p _ h;exact⟨a,n,r,e,z⟩
theorem Inv.lstUpd {p:Addr} {a:List Value} {n':Nat} {f:Obj->Obj} (I:Inv X pins σ H s) (h:H p=some (.lst xs))
  (g:s.heap.get? p=some { cls:=.type "list",data:=.seq a.toArray n }) (c:f { cls:=.type "list",data:=.seq a.toArray n }={ cls:=.type "list",data:=.seq its'.toArray n' }) (r:Vals ys its') (i:ys.length<=sizeLine) (t:Nat) :
  Inv X pins σ (upd H p (.lst ys)) { s with heap:=s.heap.update p f,toks:=t }:=by
 have e:(s.heap.update p f).get? p=some { cls:=.type "list",data:=.seq its'.toArray n' }:=by rw[OH f g (by rw[c] <;> rfl),c]
 refine I.write (x:=p) (e:=p) (by rw[h];trivial) (.inl rfl) (λb u j q=>(NZ _ _ (Ne.symm j)).trans q) ⟨_,e⟩ ?_;exact⟨i,its',n',r,e⟩
def Md:V->V->V->Hp->(Hp->Prop)->Prop:=λo i v H Q=>∃p xs k j,o=.ref p/\i=.int k/\H p=some (.lst xs)/\ixN xs.length k=some j/\Q (upd H p (.lst (xs.set j v)))
theorem set_list:Mt X Md:=by
 intro pins s σ H o i v ov iv u Q I m w x h;obtain⟨p,xs,k,j,rfl,rfl,e,y,q⟩:=h;cases m;obtain⟨t,rfl⟩:=w;obtain⟨a,n,r,b,z⟩:=I.lst e;obtain⟨h1,h2,f,g⟩:=va y;have hl:=r.length;have hn:=uQ;have l:Inv X pins σ (upd H p (.lst (xs.set j v))) { s with heap:=s.heap.update p (Obj.mapSeq (·.setIfInBounds j u)) } :=
  I.lstUpd e b (yI a n j u) (r.set x j) (by rw[List.length_set];exact z) s.toks
 by_cases h0:0<=k
 ·have c:k.toNat=j:=by rw[seqIndex_of h0 g]at h1;exact Option.some.inj h1
  exact PySem.W.ki_setAt b h0 (by omega) (by rw[Nm,<-hl];exact g) (by rw[c];exact⟨_,l,q⟩)
 ·have c:(k+(a.toArray.size:Int)).toNat=j:=by rw[seqIndex_neg (by omega) f]at h1;rw[Nm,<-hl];exact Option.some.inj h1
  exact PySem.W.ki_setBack b (by omega) (by rw[Nm,<-hl];exact f) (by omega) (by rw[c];exact⟨_,l,q⟩)
theorem u4 (lo hi:Option Int) (n:Nat):(sliceBounds lo hi none n).1=((HT.sIx n 0 lo:Nat):Int)/\(sliceBounds lo hi none n).2.1=((HT.sIx n n hi:Nat):Int)/\(sliceBounds lo hi none n).2.2=1:=by
 refine⟨?_,?_,rfl⟩
 ·cases lo with
  |none=>simp[sliceBounds,HT.sIx]
  |some i =>
   simp only[sliceBounds,HT.sIx,Option.getD_none,show (1:Int)>0 by decide,if_true];by_cases h:i<0
   ·simp only[h,if_true] <;> omega
   ·simp only[h,if_false] <;> omega
 ·cases hi with
  |none=>simp[sliceBounds,HT.sIx]
  |some i =>
   simp only[sliceBounds,HT.sIx,Option.getD_none,show (1:Int)>0 by decide,if_true];by_cases h:i<0
   ·simp only[h,if_true] <;> omega
   ·simp only[h,if_false] <;> omega
theorem rP (a:List Value) (lo hi:Option Int):slicePick a.toArray lo hi none=((a.drop (HT.sIx a.length 0 lo)).take (HT.sIx a.length a.length hi-HT.sIx a.length 0 lo)).toArray:=by obtain⟨h1,h2,b⟩:=u4 lo hi a.toArray.size;unfold slicePick;rw[h1,h2,b];simp only[sliceRange_one,pick_run,Nm] <;> rfl
def MW (K:PySem.W.Frag):V->Option Int->Option Int->Hp->VK->Prop:=λx lo hi H Q=>∃a xs,x=.ref a/\SqL K H a xs/\∀p,H p=none->Q (.ref p) (upd H p (.lst (xQ xs lo hi)))
theorem GJ:SlR X (MW X.K):=by intro pins s σ H x v vl vu lo hi sl Q I e f pl g h;obtain⟨a,xs,rfl,i,q⟩:=h;cases e;obtain⟨its,r,c,j⟩:=I.list i;have hlen:=r.length;refine⟨"list",_,slot_list_getitem.lookup,c.isList.typeIs,?_⟩;refine wpAny_getItem_list_slice c.isList f pl g .none (by simp) ?_ (by rw[Nm] <;> omega);rw[rP,<-hlen];refine⟨.ref s.heap.objs.size,_,I.laid (t':=s.toks) (o:=.lst (xQ xs lo hi)) (λb ob q=>N1 _ q) (N7 _) ?_,rfl,q _ (I.hok.fresh (N7 _))⟩;exact⟨O4 (n9 xs lo hi) j,_,0,(r.drop (HT.sIx xs.length 0 lo)).take (HT.sIx xs.length xs.length hi-HT.sIx xs.length 0 lo),Np _ rfl⟩
def jw:V->Bool
 |.non=>true
 |.bl _=>true
 |.int _=>true
 |.str _=>true
 |_=>false
def eqV:V->V->Bool
 |.non,.non=>true
 |.bl a,.bl b=>a==b
 |.bl a,.int b=>(if a then 1 else 0)==b
 |.int a,.bl b=>a==(if b then 1 else 0)
 |.int a,.int b=>a==b
 |.str a,.str b=>a==b
 |_,_=>false
theorem K5 {A:Around} {x:V} {v:Value} (e:RelV y u) (c:RelV x v) (g:jw y=true) (f:jw x=true):SeqAt.EqAt A s u v (eqV y x):=by
 cases y with
 |non =>
  cases e;cases x with
  |non=>cases c;exact SeqAt.EqAt.same _
  |bl b=>cases c;exact SeqAt.EqAt.none_bool b
  |int b=>obtain⟨t,rfl⟩:=c;exact SeqAt.EqAt.none_int b t
  |str b=>obtain⟨t,rfl⟩:=c;exact SeqAt.EqAt.none_str b t
  |_=>exact absurd (show false=true from f) NA
 |bl a =>
  cases e;cases x with
  |non=>cases c;exact SeqAt.EqAt.bool_none a
  |bl b=>cases c;exact SeqAt.EqAt.bool_bool a b
  |int b=>obtain⟨t,rfl⟩:=c;exact SeqAt.EqAt.bool_int a b t
  |str b=>obtain⟨t,rfl⟩:=c;exact SeqAt.EqAt.bool_str a b t
  |_=>exact absurd (show false=true from f) NA
 |int a =>
  obtain⟨t',rfl⟩:=e;cases x with
  |non=>cases c;exact SeqAt.EqAt.int_none a t'
  |bl b=>cases c;exact SeqAt.EqAt.int_bool a t' b
  |int b=>obtain⟨t,rfl⟩:=c;exact SeqAt.EqAt.int_int a t' b t
  |str b=>obtain⟨t,rfl⟩:=c;exact SeqAt.EqAt.int_str a t' b t
  |_=>exact absurd (show false=true from f) NA
 |str a =>
  obtain⟨t',rfl⟩:=e;cases x with
  |non=>cases c;exact SeqAt.EqAt.str_none a t'
  |bl b=>cases c;exact SeqAt.EqAt.str_bool a t' b
  |int b=>obtain⟨t,rfl⟩:=c;exact SeqAt.EqAt.str_int a t' b t
  |str b=>obtain⟨t,rfl⟩:=c;exact SeqAt.EqAt.str_str a t' b t
  |_=>exact absurd (show false=true from f) NA
 |_=>exact absurd (show false=true from g) NA
def eqU (x:V) (u:Value):Bool:=match u with
 |.none=>eqV .non x
 |.bool b=>eqV (.bl b) x
 |.int i _=>eqV (.int i) x
 |.str z _=>eqV (.str z) x
 |_=>false
theorem yk {x:V} (r:RelV y u) (f:jw y=true):eqU x u=eqV y x:=by
 cases y with
 |non=>cases r;rfl
 |bl b=>cases r;rfl
 |int i=>obtain⟨t,rfl⟩:=r;rfl
 |str z=>obtain⟨t,rfl⟩:=r;rfl
 |_=>exact absurd (show false=true from f) NA
theorem vi {x:V}:∀{xs:List V} {us:List Value},Vals xs us->xs.all jw=true->us.any (eqU x)=xs.any λy=>eqV y x
 |_,_,.nil,_=>rfl
 |y::xs,u::us,.cons r t,f=>by rw[OL,N6]at f;rw[Oy,Oy,yk r f.1,vi t f.2]
theorem mB {A:Around} {s:Shared} {x:V} {v:Value} (b:RelV x v) (c:jw x=true):∀{xs:List V} {us:List Value},Vals xs us->xs.all jw=true->∀u∈us,SeqAt.EqAt A s u v (eqU x u)
 |_,_,.nil,_=>λu a=>by cases a
 |y::xs,u::us,.cons r t,f=>λe a=>by
  rw[OL,N6]at f;rcases N5.mp a with rfl|a
  ·rw[yk r f.1];exact K5 r b f.1 c
  ·exact mB b c t f.2 e a
def inV (x:V) (xs:List V):Bool:=xs.any λy=>eqV y x
def rIn (K:PySem.W.Frag) (neg:Bool):R2:=λx y H Q=>∃p xs,y=.ref p/\(SqL K H p xs\/SqT K H p xs)/\jw x=true/\xs.all jw=true/\Q (.bl (if neg then !inV x xs else inV x xs)) H
theorem Bu:OpR X (compareOp .In) (rIn X.K false):=by
 intro pins s σ H x y v u Q I c f h;obtain⟨p,xs,rfl,b,e,fs,q⟩:=h;cases f;rcases b with b|b
 ·obtain⟨a,r,pl,g⟩:=I.list b;refine SeqAt.in_listAt (eqU x) pl.isList (λw hw=>mB c e r fs w (by simpa using hw)) ⟨.bl _,H,I,rfl,?_⟩;rw[show a.toArray.any (eqU x)=a.any (eqU x) by simp,vi r fs];exact q
 ·obtain⟨a,r,pl,g⟩:=I.tuple b;refine SeqAt.in_tupleAt (eqU x) pl (λw hw=>mB c e r fs w (by simpa using hw)) ⟨.bl _,H,I,rfl,?_⟩;rw[show a.toArray.any (eqU x)=a.any (eqU x) by simp,vi r fs];exact q
theorem i9:jz X (.builtin "len") (λxs H Q=>∃p ys,xs=[.ref p]/\(SqL X.K H p ys\/SqT X.K H p ys)/\Q (.int ys.length) H):=by
 intro pins s σ H xs us Q I r h;obtain⟨p,ys,rfl,a,q⟩:=h;obtain⟨u,rfl,e⟩:=vals1 r;cases e;have hn:=uQ;rcases a with a|a
 ·obtain⟨b,c,pl,f⟩:=I.list a;have hlen:=c.length;exact Calls.call_len_list pl.isList (by simp only[Nm] <;> omega) ⟨.int ys.length,H,I.tok _,⟨s.toks+1,by rw[Nm,hlen]⟩,q⟩
 ·obtain⟨b,c,pl,f⟩:=I.tuple a;have hlen:=c.length;exact len_tuple pl (by simp only[Nm] <;> omega) ⟨.int ys.length,H,I.tok _,⟨s.toks+1,by rw[Nm,hlen]⟩,q⟩
theorem uJ:jz X (.type "list") (λxs H Q=>∃p ys,xs=[.ref p]/\(SqL X.K H p ys\/SqT X.K H p ys)/\∀l,H l=none->Q (.ref l) (upd H l (.lst ys))):=by
 intro pins s σ H xs us Q I r h;obtain⟨p,ys,rfl,f,q⟩:=h;obtain⟨u,rfl,j⟩:=vals1 r;cases j;have fin:∀(a:List Value),Vals ys a->ys.length<=sizeLine->∀(h':Heap) (c':Nat),(∀b o',s.heap.get? b=some o'->h'.get? b=some o') ->
   h'.get? s.heap.objs.size=some { cls:=.type "list",dict:=none,data:=.seq a.toArray c',slots:=#[] }->EP X pins σ Q (.ref s.heap.objs.size) { s with heap:=h' }:=λa c g h' c' kp e =>
  ⟨.ref s.heap.objs.size,_,I.laid (t':=s.toks) kp (N7 _) (show dh X.prog X.w _ h' _ (.lst ys) from⟨g,a,c',c,e⟩),rfl,q _ (I.hok.fresh (N7 _))⟩
 rcases f with f|f
 ·obtain⟨a,c,pl,g⟩:=I.list f;have hlen:=c.length;obtain⟨o,i,hc,n,hd⟩:=pl.isList;exact call_list_seq p (.inl rfl) i hc hd (λh' c' kp e=>fin a c g h' c' kp e) (by simp only[Nm] <;> omega)
 ·obtain⟨a,c,pl,g⟩:=I.tuple f;have hlen:=c.length;obtain⟨o,i,hc,n,hd⟩:=pl;exact call_list_seq p (.inr rfl) i hc hd (λh' c' kp e=>fin a c g h' c' kp e) (by simp only[Nm] <;> omega)
theorem rF:jz X (.type "tuple") (λxs H Q=>∃p ys,xs=[.ref p]/\((SqL X.K H p ys/\∀l,H l=none->Q (.ref l) (upd H l (.tup ys)))\/(SqT X.K H p ys/\Q (.ref p) H))):=by
 intro pins s σ H xs us Q I r h;obtain⟨p,ys,rfl,h⟩:=h;obtain⟨u,rfl,j⟩:=vals1 r;cases j;rcases h with⟨c,q⟩|⟨c,q⟩
 ·obtain⟨a,f,pl,g⟩:=I.list c;have hlen:=f.length;refine call_tuple_list pl.isList (λh' kp=>?_) (by simp only[Nm] <;> omega);have i:Inv X pins σ H { s with heap:=h' }:=I.kept (t':=s.toks) kp;have m:Inv X pins σ (upd H h'.objs.size (.tup ys)) { s with heap:=h'.push { cls:=.type "tuple",data:=.seq a.toArray } } :=
   i.laid (t':=s.toks) (λb o e=>N1 _ e) (N7 _) (show dh X.prog X.w _ _ _ (.tup ys) from⟨g,a,f,vn.new _ _⟩)
  exact⟨.ref h'.objs.size,_,m,rfl,q _ (i.hok.fresh (N7 _))⟩
 ·obtain⟨a,f,pl,g⟩:=I.tuple c;exact call_tuple_same pl ⟨.ref p,H,I,rfl,q⟩
def tyV (K:PySem.W.Frag) (T:String) (x:V) (H:Hp):Prop:=match x with
 |.str _=>T="str"
 |.int _=>T="int"
 |.ref p=>(T="list"/\∃xs,SqL K H p xs)\/(T="tuple"/\∃o,K.lookup p=some o/\o.cls=.type "tuple"/\o.dict=none) \/
  (T="dict"/\((∃kvs,H p=some (.dK kvs))\/∃kvs,H p=some (.dT kvs)))\/(T="set"/\∃S n,H p=some (.set S n))
 |_=>False
theorem KC {T:String} {x:V} {v:Value} (I:Inv X pins σ H s) (r:RelV x v) (ty:tyV X.K T x H) :
  s.TypeIs v T/\∀a,v=.ref a->∃f,s.heap.get? a=some f/\f.dict=none:=by
 cases x with
 |str z =>obtain⟨t,rfl⟩:=r;cases (show T="str" from ty);exact⟨typeIs_str s z t,λ_ e=>nomatch e⟩
 |int i =>obtain⟨t,rfl⟩:=r;cases (show T="int" from ty);exact⟨typeIs_int s i t,λ_ e=>nomatch e⟩
 |ref p =>
  cases r;rcases ty with⟨rfl,xs,g⟩|⟨rfl,o,b,hc,hd⟩|⟨rfl,b⟩|⟨rfl,S,n,b⟩
  ·obtain⟨its,_,pl,_⟩:=I.list g;refine⟨pl.isList.typeIs,λa e=>?_⟩;cases e;obtain⟨o,n,e,c,hd,_⟩:=pl;exact⟨o,e,hd⟩
  ·refine⟨⟨o,I.kIn p o b,hc⟩,λa e=>?_⟩;cases e;exact⟨o,I.kIn _ o b,hd⟩
  ·have z:∃o,s.heap.get? p=some o/\o.ExactDict:=by
    rcases b with⟨kvs,b⟩|⟨kvs,b⟩
    ·obtain⟨_,_,_,_,o,_,_,e,ex,_⟩:=I.hok p _ b;exact⟨o,e,ex⟩
    ·obtain⟨_,_,_,_,o,_,_,e,ex,_⟩:=I.hok p _ b;exact⟨o,e,ex⟩
   obtain⟨o,e,ex⟩:=z;refine⟨⟨o,e,ex.1⟩,λa e2=>?_⟩;cases e2;exact⟨o,e,ex.2.1⟩
  ·obtain⟨o,_,_,_,e,ex,_⟩:=I.hok p _ b;refine⟨⟨o,e,ex.1⟩,λa e2=>?_⟩;cases e2;exact⟨o,e,ex.2.1⟩
 |_=>exact False.elim ty
def tBM (K:PySem.W.Frag) (T:String) (r:V->List V->Hp->VK->Prop) (to:TE) (t:TA):TE:=λσ H Q=>to σ H λx H1=>tyV K T x H1/\t σ H1 λxs H2=>r x xs H2 Q
variable {o e:Expr} {es:List Expr} {to:TE} {t:TA} {name:Str} {apos:Pos} {T id:String} {r:V->List V->Hp->VK->Prop}
theorem Df (p:PlainAttrs T) (slot:Slot T name id) (g:typeOf (.builtin id)=pure (.type "method_descriptor")) (hm:MtR X id r) (q:PE X o to) (ha:PA X (e::es) t)
  (b:attributeBase o name X.env (eval o X.env)=eval o X.env:=by rfl)
  (f:((backTo cpos (starEach (e::es) X.env)).all (λx=>!x.1)&&(backToKw cpos (keywordEach [] X.env)).all (λx=>x.1.isSome)
  &&decide ((e::es).length+([]:List Keyword).length+(if ([]:List Keyword).isEmpty then 0 else 1)<30))=true:=by rfl)
  (c:(apos.endLine==cpos.line)=true:=by rfl) (u:starEach (e::es) X.env=(false,eval e X.env)::starEach es X.env:=by rfl) (a:(backTo cpos (starEach es X.env)).any (·.1)=false:=by rfl) :
  PE X (.Call (.Attribute o name apos) (e::es) [] cpos) (tBM X.K T r to t):=by
 intro pins s σ H Q I h;refine wpAny_Call_method_late b f c rfl (thn (q pins s σ H _ I h) λv w i=>?_);obtain⟨x,H1,l,m,ty,y⟩:=i;obtain⟨h1,h2⟩:=KC l m ty;refine⟨T,id,p,slot,g,h1,h2,?_⟩;have n:=ha cpos pins w σ H1 _ l y;rw[u]at n ⊢;refine Calls.callWith_builtin (by show (false||(backTo cpos (starEach es X.env)).any (·.1))=false;rw[a] <;> rfl) (Calls.evalArgs_plain ?_);exact thn n λus s2 j=>(by obtain⟨vs,H2,z,A,B⟩:=j;exact hm pins s2 σ H2 x vs v us Q z m A B)
end
def MtM (X:Cx) (id:String) (r:V->List V->Hp->VK->Prop):Prop :=
 ∀(pins:List (Addr×Obj)) (s:Shared) (σ:St) (H:Hp) (x:V) (xs:List V) (v:Value) (us:List Value) (Q:VK),Inv X pins σ H s->RelV x v->Vals xs us->r x xs H Q ->
  wpAny (model X.prog X.w) X.A (call (.builtin id) (v::us)) (EP X pins σ Q) X.xe s
theorem Vals.one {x:V} (h:Vals [x] us):∃u,us=[u]/\RelV x u:=by
 cases h with
 |cons r t=>cases t;exact⟨_,rfl,r⟩
theorem Vals.eraseIdx:∀{xs:List V} {us:List Value} (i:Nat),Vals xs us->Vals (xs.eraseIdx i) (us.eraseIdx i)
 |_,_,_,.nil=>.nil
 |_,_,0,.cons _ t=>t
 |_,_,i+1,.cons r t=>.cons r (Vals.eraseIdx i t)
theorem Vals.rep {xs:List V} {us:List Value} (h:Vals xs us):∀k:Nat,Vals (List.replicate k xs).flatten (List.replicate k us).flatten
 |0=>.nil
 |k+1=>by rw[Og,Og,Oq,Oq];exact Vals.append h (Vals.rep h k)
theorem tQ {α:Type}:∀(l:List α) (i:Nat),(l.eraseIdx i).length<=l.length
 |[],_=>N7 _
 |_::_,0=>OO _
 |_::r,i+1=>Nat.succ_le_succ (tQ r i)
theorem foldl_rep (a:List Value):∀(k:Nat) (acc:List Value),
  List.foldl (λx1 x2=>x1++x2) acc.toArray (List.replicate k a.toArray)=(acc++(List.replicate k a).flatten).toArray
 |0,acc=>by simp
 |k+1,acc=>by
  have e:acc.toArray++a.toArray=(acc++a).toArray:=by simp
  have e2:(acc++a)++(List.replicate k a).flatten=acc++(List.replicate (k+1) a).flatten:=by rw[Og,Oq,Ot]
  rw[<-e2,<-foldl_rep a k (acc++a),<-e,Og,OU]
section
variable {l:Addr} {zs:List V}
theorem Inv.lset {f:Array Value->Array Value} {t':Nat} (I:Inv X pins σ H s) (b:H l=some (.lst xs))
  (e:s.heap.get? l=some { cls:=.type "list",data:=.seq a.toArray n }) (c:f a.toArray=its'.toArray) (hv:Vals ys its') (g:ys.length<=sizeLine) :
  Inv X pins σ (upd H l (.lst ys)) { s with heap:=s.heap.update l (Obj.mapSeq f),toks:=t' }:=by
 have q:=PySem.IsL.update e f;rw[c]at q;refine I.write (x:=l) (e:=l) (by rw[b];exact trivial) (.inl rfl) (λb' u h i=>(NZ s.heap (Obj.mapSeq f) (Ne.symm h)).trans i) ⟨_,q⟩ ?_;exact⟨g,its',_,hv,q⟩
theorem Inv.lnew {t':Nat} (I:Inv X pins σ H s) (hv:Vals ys a) (b:ys.length<=sizeLine) :
  Inv X pins σ (upd H s.heap.objs.size (.lst ys)) { s with heap:=s.heap.push { cls:=.type "list",data:=.seq a.toArray },toks:=t' } :=
 I.laid (λ_ _ q=>N1 _ q) (N7 _) ⟨b,a,0,hv,Np _ rfl⟩
theorem Inv.fresh (I:Inv X pins σ H s):H s.heap.objs.size=none:=I.hok.fresh (N7 _)
theorem Inv.lstM (I:Inv X pins σ H s) (b:H l=some (.lst xs)):xs.length<=sizeLine/\∃(a:List Value) (n:Nat),Vals xs a/\xs.length=a.length/\s.heap.get? l=some { cls:=.type "list",data:=.seq a.toArray n }:=by obtain⟨z,a,n,r,e⟩:=I.hok l _ b;exact⟨z,a,n,r,r.length,e⟩
theorem Dp (h:n<=sizeLine):Builtin.List.listTooLong n=false:=by unfold Builtin.List.listTooLong;exact decide_eq_false (by omega)
end
section
def FL:V->List V->Hp->VK->Prop:=λx vs H Q=>∃l xs y,x=.ref l/\vs=[y]/\H l=some (.lst xs)/\xs.length<sizeLine/\Q .non (upd H l (.lst (xs++[y])))
theorem nF:MtM X "list.append" FL:=by intro pins s σ H x vs v us Q I c f h;obtain⟨l,xs,y,rfl,rfl,b,hz,q⟩:=h;cases c;obtain⟨u,rfl,g⟩:=f.one;obtain⟨z,a,n,r,hl,e⟩:=I.lstM b;refine call_meets F.slot_list_append ⟨_,e,rfl⟩ F.entry_list_append (F.args_list_append_2 _ _) (PySem.list_append l a.toArray n u (by rw[Nm];omega)) ⟨e,?_⟩;refine⟨.non,_,I.lset (its':=a++[u]) b e (by simp) (r.append (.cons g .nil)) ?_,rfl,q⟩;rw[Nl,NS];omega
def Jp:V->List V->Hp->VK->Prop:=λx vs H Q=>∃l xs i k y,x=.ref l/\vs=[.int i]/\H l=some (.lst xs)/\-(2 ^ 63)<=i/\i<2 ^ 63/\seqIndex? i xs.length=some k/\xs[k]?=some y/\Q y (upd H l (.lst (xs.eraseIdx k)))
theorem Fi:MtM X "list.pop" Jp:=by
 intro pins s σ H x vs v us Q I f g h;obtain⟨l,xs,i,k,y,rfl,rfl,c,h1,h2,j,m,q⟩:=h;cases f;obtain⟨u,rfl,o⟩:=g.one;obtain⟨t,rfl⟩:=o;obtain⟨z,a,n,r,hl,e⟩:=I.lstM c;obtain⟨w,hw,b⟩:=r.get m;refine call_meets F.slot_list_pop ⟨_,e,rfl⟩ F.entry_list_pop (F.args_list_pop_2 _ _)
  (MeetsSeq.list_pop_at l a.toArray n i t k w (fitsIndex_both h1 h2) (by rw[Nm,<-hl];exact j) (by rw[<-P8];exact hw) (by rw[Nm];omega)) ⟨e,?_⟩
 refine⟨y,_,I.lset (its':=a.eraseIdx k) c e ?_ (r.eraseIdx k) ?_,b,q⟩
 ·show a.toArray.eraseIdxIfInBounds k=(a.eraseIdx k).toArray;rw[List.eraseIdxIfInBounds_toArray]
 ·have:=tQ xs k;omega
def LR:R2:=λx y H Q=>∃l b xs zs,x=.ref l/\y=.ref b/\H l=some (.lst xs)/\H b=some (.lst zs)/\xs.length+zs.length<=sizeLine/\∀p,H p=none->Q (.ref p) (upd H p (.lst (xs++zs)))
theorem JX:OpR X (binaryOp .Add) LR:=by
 intro pins s σ H x y v u Q I f g h;obtain⟨l,b,xs,zs,rfl,rfl,i,hB,hz,q⟩:=h;cases f;cases g;obtain⟨z,c,n,r,hl,e⟩:=I.lstM i;obtain⟨z2,a,n2,j,hl2,e2⟩:=I.lstM hB;refine PySem.P.add_list e e2 ?_ (by rw[Nm,Nm];omega);have ea:c.toArray++a.toArray=(c++a).toArray:=by simp
 rw[ea];exact⟨.ref _,_,I.lnew (t':=s.toks) (r.append j) (by rw[Nl];omega),rfl,q _ I.fresh⟩
def Mb:R2:=λx y H Q=>∃l k xs,x=.ref l/\y=.int k/\H l=some (.lst xs)/\-(2 ^ 63)<=k/\k<2 ^ 63/\xs.length*k.toNat<=sizeLine /\
 ∀p,H p=none->Q (.ref p) (upd H p (.lst (List.replicate k.toNat xs).flatten))
theorem len_rep (xs:List α) (k:Nat):(List.replicate k xs).flatten.length=k*xs.length:=by
 induction k with
 |zero=>simp
 |succ k ih=>rw[Og,Oq,Nl,ih,Nat.succ_mul,Nat.add_comm]
theorem K4:OpR X (binaryOp .Mult) Mb:=by
 intro pins s σ H x y v u Q I o p h;obtain⟨l,k,xs,rfl,rfl,w,h1,h2,j,q⟩:=h;cases o;obtain⟨t,rfl⟩:=p;obtain⟨z,b,n,r,hl,e⟩:=I.lstM w;have hlen:b.toArray.size*k.toNat<=sizeLine:=by rw[Nm,<-hl];exact j
 have f:¬ b.toArray.size*k.toNat>(2 ^ 63-1) / 8:=by
  have:(sizeLine:Nat)<=(2 ^ 63-1) / 8:=by decide
  omega
 have g:¬ (!Builtin.List.listFitsIndex k)=true:=by rw[fitsIndex_both h1 h2];exact NA
 have c:¬ Builtin.List.listTooLong (b.toArray.size*k.toNat)=true:=by rw[Dp hlen];exact NA
 have i:List.foldl (λx1 x2=>x1++x2) #[] (List.replicate (if b.toArray.isEmpty=true then 0 else k.toNat) b.toArray)=(List.replicate k.toNat b).flatten.toArray:=by
  have A:∀m:Nat,List.foldl (λx1 x2=>x1++x2) #[] (List.replicate m b.toArray)=(List.replicate m b).flatten.toArray:=λm=>by have:=foldl_rep b m [];rw[NT]at this;exact this
  rw[A];cases b with
  |nil=>simp
  |cons a r'=>rw[if_neg (by simp)]
 refine wpAny_binaryOp_repeat_ref (T:="list") (U:="int") (by decide) ⟨_,e,rfl⟩ (λs'=>typeIs_int s' k t) noFill_list_mul F.fills_int_mul F.slot_int_rmul repeat_list F.slot_int_index.lookup
  (call_meets F.slot_int_rmul (typeIs_int s k t) F.entry_int_rmul (F.args_int_rmul_2 _ _) (int___rmul___int_list k t l b.toArray n)
   ⟨e,rfl,⟨_,e,rfl⟩,call_meets F.slot_list_mul ⟨_,e,rfl⟩ F.entry_list_mul (F.args_list_mul_2 _ _) (AutoListH.list___mul___list_int_3 l b.toArray n k t g f c) ⟨e,?_⟩⟩)
 rw[i];exact⟨.ref _,_,I.lnew (t':=s.toks) (r.rep k.toNat) (by rw[len_rep,Nat.mul_comm];exact j),rfl,q _ I.fresh⟩
end
section
variable {A:Around}
end
section
end
end L2
namespace Att
open PySem PySem.W PySem.Calls PyProof.Rows
theorem oK {P:Params}:∀(ns:List Int) (vs:List Value),WellAll P h vs (ns.map WData.int)->IntsAre vs ns:=by
 intro ns
 induction ns with
 |nil =>intro vs w;rw[Oi]at w;cases w;exact .nil
 |cons n ns ih =>
  intro vs w;rw[N0]at w;cases w with
  |cons a b =>cases a;exact .cons _ _ (ih _ b)
theorem Bs {l:OpenLaw} {n:Nat} (hn:l.most=some n) {P:Params} {args:List WData} {vals:List Value}
  (b:l.row.toRowW.claim.pre args=true) (f:WellAll P h vals args) :
  ∃a vs ns,vals=[Value.ref a]/\args=[WData.list (ns.map WData.int)]/\h.get? a=some { cls:=.type "list",data:=.seq vs.toArray }/\IntsAre vs ns/\ns.length<=n:=by
 have g:WShape.hasAll [] args [.list .int]=true:=(pre_splitW b).1;have hc:l.pre.holds [] { args:=args }=true:=(pre_splitW b).2;obtain⟨d,r,rfl,h1,h2⟩:=hasAllW_cons g;obtain rfl:=hasAllW_nil h2;obtain⟨xs,rfl,i⟩:=hasW_list h1;obtain⟨ns,rfl⟩:=items_int i;have hlen:ns.length<=n:=by
  unfold OpenLaw.pre at hc;have c:(WTm.not (.lt (.lit (.int (n:Int))) (.len (.arg 0)))).holds [] { args:=[.list (ns.map .int)] }=true:=by have c:=(holds_andW hc).1;rw[hn]at c;exact c
  have e:=condW_of c (w_not (w_lt w_lit (w_len_list (w_arg rfl))));rw[N4]at e;refine Nat.le_of_not_lt λq=>?_
  have j:(n:Int)<((ns.length:Nat):Int):=by omega
  first
   |(rw[decide_eq_true j]at e;exact absurd e (by decide))
   |(simp at e;omega)
 cases f with
 |cons w1 w2 =>
  cases w2;cases w1 with
  |list ho hall=>exact⟨_,_,ns,rfl,rfl,ho,oK ns _ hall,hlen⟩
theorem Bl (l:OpenLaw) (args:List WData):l.row.toRowW.claim.post args (.bool true) args=true :=
 postW_of (r:=l.row.toRowW) (X:=(true==true))
  (show WShape.has [] (.bool true) .bool=true by first|rfl|decide|simp[WShape.has,WShape.arms,WShape.armsAll])
  (show (WTm.eq .res (.lit (.bool true))).value [] { args:=args,res:=some (.bool true),after:=args }=some (.bool (true==true)) from w_eq_bool (w_res rfl) w_lit) rfl
theorem xI {l:OpenLaw} {n:Nat} {d:DefRec}
  (hn:l.most=some n) (h:d.params.defaults=[])
  (call:∀(w:World) (s₀ b:Shared) (mg i:Str->Option Value) (c:Addr) (o:Obj) (pm cd doc:Value) (a:Addr) (vs:List Value) (ns:List Int),
   Ground q loose [] XP w s₀ mg i b.heap->YP w b.heap ->
   b.heap.get? c=some o->o.data=.func (docDef d.name d.params d.body d.scope pm cd doc)->b.heap.CodeRec cd d.name->mg d.name=some (.ref c) ->
   b.heap.get? a=some { cls:=.type "list",data:=.seq vs.toArray }->IntsAre vs ns->ns.length<=n->b.gens=#[] ->
   codeAny (model l.prog w) callerA (.call (.ref c) ⟨[.ref a],[]⟩) (λr s'=>r=.ok (.ret (.bool true))/\OldK b.heap s'.heap/\s'.os=b.os/\AllBare s'.gens) b) :
  WalkO q loose XP YP l.row.toRowW d [] (λf vs=>PySem.call f vs):=by
 intro w s₀ b mg i G Y c o pm cd doc u kV v hd j s m x args vals as e hlay hrd p hlo;obtain rfl:u=.none:=Dflts.none s h;obtain rfl:kV=.none:=Dflts.noKw s;obtain⟨a,vs,ns,rfl,rfl,g,hints,hlen⟩:=Bs hn e p;refine enter_call (codeAny_mono (call w s₀ b mg i c o pm cd doc a vs ns G Y v (fd_plain hd) j m g hints hlen x) λr s' y=>?_);obtain⟨rfl,h2,z,A⟩:=y;exact⟨.inl ⟨.bool true,.bool true,[],rfl,λ_=>rfl,.bool true,Bl l _,λ_=>⟨List.Pairwise.nil,λ_ hm=>(nomatch hm)⟩⟩,h2,z,A⟩
section
variable {A:Around} {K:Frag}
end
end Att
namespace L2
open PySem PySem.Spec PyProof.Rows
theorem sq:∀{vs:List Value} {ns:List Int},IntsAre vs ns->Vals (ns.map V.int) vs
 |_,_,.nil=>.nil
 |_,_,.cons n t h=>.cons ⟨t,rfl⟩ (sq h)
def K3 (H:Hp):Prop:=∀b,H b=none\/(∃o xs,H b=some (.frz o (.lst xs)))\/∃q,H b=some (.tbl q)
def nC (K:PySem.W.Frag) (h:Heap):Prop:=(∀P q,TabOf K P q->h.get? P=some { cls:=.none,data:=.fields #[] }/\K.lookup P=none/\isCodeTable h P)/\∀P q a,TabOf K P q->TabOf K P a->q=a
section
open Classical
def kN (K:PySem.W.Frag):Hp:=λb=>if h:∃q,TabOf K b q then some (.tbl h.choose) else none
theorem dm (K:PySem.W.Frag) (b:Addr):kN K b=none\/∃q,TabOf K b q/\kN K b=some (.tbl q):=by
 unfold kN;split
 ·rename_i h;exact .inr ⟨_,h.choose_spec,rfl⟩
 ·exact .inl rfl
theorem tN (a:nC K h) {P:Addr} {q:Str} (t:TabOf K P q):kN K P=some (.tbl q):=by
 rcases dm K P with e|⟨b,t',e⟩
 ·unfold kN at e;rw[dif_pos ⟨q,t⟩]at e;cases e
 ·rw[e,a.2 P q b t t']
end
def oq (mg:Str->Option Value) (base:Heap):Prop:=∃bm o,mg "__builtins__"=some (.ref bm)/\bm≠builtinsNs/\bm≠mainGlobals/\base.get? bm=some o/\o.cls=.type "module"/\o.dict=some builtinsNs/\o.data=.plain
theorem law_call {O:Str->Option Value} {k:Nat} {Q:Addr} {c:Shared} {vs:List Value}
  (KX:K.In c.heap) (E:c.heap.Ns mainGlobals mg) (i:c.heap.Ns builtinsNs O) (R:∀x:Str,x≠"__name__"->O x=bootBuiltins x) (G:c.heap.NoLimit) (hg:c.gens=#[])
  (ha:c.heap.get? a=some { cls:=.type "list",data:=.seq vs.toArray }) (hi:IntsAre vs ns) (hl:ns.length<=sizeLine) (hr:cg k callerA)
  (S:oq mg c.heap) (F:∀base:Heap,K.In base->base.Ns mainGlobals mg->oq mg base->gB P w K mg base CX k Q fd [x] sp) (A:∀(s:Shared) (u:Value),BindsTo s fd ⟨[u],[]⟩ [(x,u)])
  (T:∀H:Hp,K3 H->SqL K H a (ns.map V.int)->sp [.ref a] H (λv _=>v=.bl true) λ_ _ _=>False)
  (U:∀H e s',CX [] H c (λ_ _ _=>False) e s'->False) (j:nC K c.heap) :
  codeAny (model P w) callerA (.call (.ref Q) ⟨[.ref a],[]⟩) (λr s'=>r=.ok (.ret (.bool true))/\OldK c.heap s'.heap/\s'.os=c.os/\AllBare s'.gens) c:=by
 have rv:=sq hi;have I:=hi.length
 -- from an abstract heap in which nothing but the script may be tracked
 have core:∀H:Hp,K3 H->SqL K H a (ns.map V.int)->HOk P w H c.heap->(∀b,H b≠none->b=a\/∃q,TabOf K b q)->(H a≠none->K.lookup a=none)->(∀P q,TabOf K P q->H P=some (.tbl q)) ->
   codeAny (model P w) callerA (.call (.ref Q) ⟨[.ref a],[]⟩) (λr s'=>r=.ok (.ret (.bool true))/\OldK c.heap s'.heap/\s'.os=c.os/\AllBare s'.gens) c:=by
  intro H hO hS hok N hK X;have f:∀{b:Addr} {o:Obj},c.heap.get? b=some o->H b=none->(rN c.heap H).get? b=some o:=λe n=>CT e n
  have Y:∀{b:Addr} {o:Obj} {es:Array DictEntry} {J:Nat},c.heap.get? b=some o->o.data=.dict es J->H b=none:=λ{b o es J} e d=>by
   cases q:H b with
   |none=>rfl
   |some u =>
    rcases N b (by rw[q];simp) with g|⟨B,g⟩
    case inr=>rw[(j.1 b B g).1]at e;cases e;cases d
    subst g;rw[ha]at e;cases e;have d':Data.seq vs.toArray _=Data.dict es J:=d;cases d'
  have l:∀{b:Addr} {m:Str->Option Value},c.heap.Ns b m->(rN c.heap H).Ns b m:=λ{b m} qz2=>(by obtain⟨o,es,J,e,d,r⟩:=qz2;exact⟨o,es,J,f e (Y e d),d,r⟩)
  have L:K.In (rN c.heap H):=λb o e=>f (KX b o e) (by
   cases q:H b with
   |none=>rfl
   |some u =>
    rcases N b (by rw[q];simp) with g|⟨B,g⟩
    case inr=>rw[(j.1 b B g).2.1]at e;cases e
    subst g;rw[hK (by rw[q];simp)]at e;cases e)
  have hM:Mod K mg (rN c.heap H):=⟨L,l E,⟨O,l i,R⟩,let ⟨mc,h1,h2⟩:=G;⟨mc,l h1,h2⟩⟩
  have e0:uB P w K mg (rN c.heap H) callerA [] c H:=⟨rfl,hM,λb o e=>Hs e,Nat.le_of_eq (B9 _ _),trivial,λb i=>absurd (show b∈([]:List Addr) from i) (by simp),hok,.of_eq hg,X⟩
  have Z:oq mg (rN c.heap H):=by
   obtain⟨bm,ob,b1,b2,b3,M,b5,b6,b7⟩:=S;refine⟨bm,ob,b1,b2,b3,f M ?_,b5,b6,b7⟩;cases q:H bm with
   |none=>rfl
   |some u =>
    rcases N bm (by rw[q];simp) with g|⟨B,g⟩
    case inr=>rw[(j.1 bm B g).1]at M;cases M;cases b5
    subst g;rw[ha]at M;cases M;simp at b5
  refine codeAny_mono ((F _ L (l E) Z).run callerA [] c H ⟨[.ref a],[]⟩ [.ref a] [.ref a] _ _ hr e0 (A c (.ref a)) (.cons rfl .nil) (T H hO hS)) λr s' h=>?_
  cases r with
  |error e=>exact (U H e s' h).elim
  |ok fl =>
   cases fl with
   |next=>exact False.elim h
   |brk=>exact False.elim h
   |cont=>exact False.elim h
   |ret u =>
    obtain⟨v,H',os,bare,un,p,r',q⟩:=h;have q':v=.bl true:=q;subst q';obtain rfl:u=Value.bool true:=r';have old:∀b o,c.heap.get? b=some o->s'.heap.get? b=some o\/(isCodeTable c.heap b/\o.cls=.none/\∃vs more,o.data=.fields vs/\s'.heap.get? b=some { o with data:=.fields (vs++more) }):=λb o e=>?old
    case old =>
     cases q:H b with
     |none=>exact .inl <|un.keep b o e q (by intro z;exact absurd (show b∈([]:List Addr) from z) (by simp)) (by simp)
     |some u =>
      rcases hO b with z|⟨ob,xs,z⟩|⟨B,z⟩
      ·rw[q]at z;cases z
      ·have z2:=un.frzs b ob _ z;obtain⟨e1,_⟩:=hok b _ z;obtain⟨e2,_⟩:=p b _ z2;rw[e]at e1;cases e1;exact .inl e2
      ·have z2:=un.tbls b B z;obtain⟨ps,e2,_⟩:=p b _ z2;rcases N b (by rw[z];simp) with g|⟨q2,g⟩
       ·obtain⟨ps0,D,_⟩:=hok b _ z;rw[g]at D;rw[ha]at D;cases D
       ·obtain⟨D,_,e4⟩:=j.1 b q2 g;rw[e]at D;cases D;exact .inr ⟨e4,rfl,#[],ps,rfl,by simpa using e2⟩
    exact⟨rfl,⟨λb o e=>(old b o e).imp id λz=>.inl z,λb o e=>by rcases old b o e with z|⟨_,_,_,_,_,z⟩ <;> exact⟨_,z⟩⟩,os,bare⟩
 have tok:∀b q,TabOf K b q->dh P w (λ_=>none) c.heap b (.tbl q):=λb q t=>⟨#[],(j.1 b q t).1,trivial,λpos cv z=>nomatch z⟩
 have y:∀(H:Hp) b q,TabOf K b q->dh P w H c.heap b (.tbl q):=λH b q t=>⟨#[],(j.1 b q t).1,trivial,λpos cv z=>nomatch z⟩
 have na:∀q,¬ TabOf K a q:=λq t=>by have:=(j.1 a q t).1;rw[ha]at this;cases this
 cases hk:K.lookup a with
 |some o =>
  have e:=KX a o hk;rw[ha]at e;cases e;refine core (kN K) (λb=>(dm K b).imp id λC=>(by obtain⟨q,_,e⟩:=C;exact .inr ⟨q,e⟩)) (.inr ⟨_,vs.toArray,_,hk,rfl,rfl,rfl,by rw[Nm,I];exact hl,by simpa using rv⟩) (λb u z=>?_) (λb z=>?_) (λz=>?_) λP q t=>tN j t
  ·rcases dm K b with e|⟨q,t,e⟩
   ·rw[z]at e;cases e
   ·rw[z]at e;cases e;exact y _ b q t
  ·rcases dm K b with e|⟨q,t,e⟩
   ·exact absurd e z
   ·exact .inr ⟨q,t⟩
  ·rcases dm K a with e|⟨q,t,e⟩
   ·exact absurd e z
   ·exact absurd t (na q)
 |none =>
  have eT:∀b,b≠a->(λb=>if b=a then some (HO.frz { cls:=.type "list",data:=.seq vs.toArray } (.lst (ns.map V.int))) else kN K b) b=kN K b:=λb h=>if_neg h
  have eA:(λb=>if b=a then some (HO.frz { cls:=.type "list",data:=.seq vs.toArray } (.lst (ns.map V.int))) else kN K b) a=some (HO.frz { cls:=.type "list",data:=.seq vs.toArray } (.lst (ns.map V.int))):=if_pos rfl;refine core (λb=>if b=a then some (.frz { cls:=.type "list",data:=.seq vs.toArray } (.lst (ns.map V.int))) else kN K b) (λb=>?_) (.inl (.inr ⟨{ cls:=.type "list",data:=.seq vs.toArray },if_pos rfl⟩)) (λb u z=>?_) (λb z=>?_) (λ_=>hk) λP q t=>?_
  ·by_cases i:b=a
   ·exact .inr (.inl ⟨_,_,if_pos i⟩)
   ·rw[eT b i];exact (dm K b).imp id λC=>(by obtain⟨q,_,e⟩:=C;exact .inr ⟨q,e⟩)
  ·by_cases i:b=a
   ·subst i;rw[eA]at z;cases z;exact⟨ha,by rw[N4];exact hl,vs,_,rv,ha⟩
   ·rw[eT b i]at z;rcases dm K b with e|⟨q,t,e⟩
    · rw[z]at e;cases e
    · rw[z]at e;cases e;exact y _ b q t
  ·by_cases i:b=a
   ·exact .inl i
   ·rcases dm K b with e|⟨q,t,e⟩
    · exact absurd ((if_neg i).trans e) z
    · exact .inr ⟨q,t⟩
  ·exact (if_neg (λz=>na q (by rw[<-z];exact t))).trans (tN j t)
abbrev KOf {K:PySem.W.Frag} {h:Heap} (_:K.In h):PySem.W.Frag:=K
theorem A6 {l:PySem.W.OpenLaw} {n k:Nat} {d:DefRec} {K:Params->PySem.W.Frag} {CX:World->CXT} {sp:World->Sp}
  (hn:l.most=some n) (r:n<=sizeLine) (y:d.params.defaults=[]) (J:cg k callerA)
  (L:∀(w:World) (h:Heap),YP w h->(K w.params).In h)
  (F:∀(w:World) (mg:Str->Option Value) (p:Addr) (h:Heap),(K w.params).In h->h.Ns mainGlobals mg->mg d.name=some (.ref p) ->
   ∃fd:FuncData,(∀(s:Shared) (u:Value),BindsTo s fd ⟨[u],[]⟩ [(x,u)]) /\
    ∀base:Heap,(K w.params).In base->base.Ns mainGlobals mg->oq mg base->gB l.prog w (K w.params) mg base (CX w) k p fd [x] (sp w))
  (A:∀(w:World) (H:Hp) (a:Addr) (ns:List Int),ns.length<=n->K3 H->SqL (K w.params) H a (ns.map V.int)->sp w [.ref a] H (λv _=>v=.bl true) λ_ _ _=>False)
  (B:∀(w:World) (H:Hp) (s:Shared) (e:Value) (s':Shared),CX w [] H s (λ_ _ _=>False) e s'->False) (C:∀(w:World) (h:Heap) (c:List Str) (i:ExcName->Option Value) (mg I:Str->Option Value),PyProof.Rows.Top q c i mg I h->(K w.params).In h->nC (K w.params) h) :
  PySem.W.WalkO q loose XP YP l.row.toRowW d [] (λf vs=>PySem.call f vs):=by
 refine Att.xI hn y λw s₀ j mg I p o pm cd doc a vs ns G Y ho hd hcd D m hints hlen N=>?_
 have E:=L w _ Y;obtain⟨fd,O,P⟩:=F w mg p _ E G.T.g D;exact law_call E G.T.g G.T.b G.T.builtins G.T.nolimit N m hints (O4 hlen r) J (by obtain⟨bm,Q,M⟩:=PySem.W.bmod_of_top G.T;exact⟨bm,Q,M.name,M.ne,(λz=>by obtain⟨o,es,ep,e1,e2,_⟩:=M.ns;rw[<-z,M.obj]at e1;cases e1;rw[M.data]at e2;cases e2),M.obj,M.cls,M.dict,M.data⟩) P O (λH R S=>A w H a ns hlen R S) (λH e s'=>B w H j e s') (C w _ _ _ _ _ G.T E)
def inClass (s:Stmt) (j:Nat):Stmt:=match s with
 |.ClassDef _ _ _ body _ _ _ _ _ _ _=>body.getD j (.Pass ⟨0,0,0,0⟩)
 |_=>.Pass ⟨0,0,0,0⟩
def fc (s:Stmt):Arguments:=match s with
 |.FunctionDef _ a _ _ _ _ _ _ _ _=>a
 |_=>{ posonlyargs:=[],args:=[],vararg:=none,kwonlyargs:=[],kw_defaults:=[],kwarg:=none,defaults:=[] }
def bV (s:Stmt):List Stmt:=match s with
 |.FunctionDef _ _ b _ _ _ _ _ _ _=>b
 |_=>[]
def aC (s:Stmt):Scope:=match s with
 |.FunctionDef _ _ _ _ _ _ sc _ _ _=>sc
 |_=>{ kind:=.function,names:=[],isGenerator:=false,isCoroutine:=false }
abbrev CX0:CXT:=λ_ _ _ _ _ _=>False
abbrev E0:XK:=λ_ _ _=>False
theorem LQ:Passes CX0 X E0:=λ_ _ _ _ _ _ _ h=>h.elim
structure Fun (K:PySem.W.Frag) (x qual:Str) (st:Stmt) (f:Addr) (fd:FuncData):Prop where
 ex:∃(oc:Value) (od:Option Addr) (kV doc pm:Value) (an:Option Addr) (cdv ct:Value) (osl:Array (Option Value)),
  fd=PySem.W.fnOf x qual (fc st) (bV st) (aC st) .none kV doc pm an cdv ct/\K.lookup f=some ⟨oc,od,.func fd,osl⟩/\PySem.W.codeIn K cdv qual=true
 kp:PySem.W.keepIn K (.ref f)=true
section
theorem Fun.ok {k:Nat} (F:Fun K x qual st f fd) (S:cX N ps (aC st)) (len:∀vs H Q E,sp vs H Q E->vs.length=ps.length)
  (a:∀(cdv:Value) (A:Around) (outer:List Env) (s:Shared) (H:Hp) (vs:List V) (Q:VK) (E:XK),cg k (A.deeper (envOfC qual (aC st) s.heap.objs.size f cdv))->sp vs H Q E ->
   ∃t,PSs (c9 CX0 P w K mg base N qual (aC st) f cdv A outer s H E).nox (bV st) t/\t { nx:=λ_ H'=>Q .non H',rt:=Q } (start N vs) H):gB P w K mg base CX0 (k+1) f fd ps sp:=by
 obtain⟨oc,od,kV,doc,pm,an,cdv,ct,osl,rfl,e,b⟩:=F.ex;refine CL e b S len λA outer s H vs Q E g c=>?_
 obtain⟨t,h,q⟩:=a cdv A outer s H vs Q E g c;exact⟨t,h.nox,q⟩
theorem Fun.binds (F:Fun K x qual st f fd)
  (h:∀(kV doc pm:Value) (an:Option Addr) (cdv ct:Value) (us:List Value),us.length=ps.length->bindArgs (PySem.W.fnOf x qual (fc st) (bV st) (aC st) .none kV doc pm an cdv ct) ⟨us,[]⟩=pure (ps.zip us)):Binds K fd ps []:=by
 obtain⟨oc,od,kV,doc,pm,an,cdv,ct,osl,rfl,lk,hcd⟩:=F.ex;exact .all (h kV doc pm an cdv ct)
theorem xZ {kV doc cdv:Value} (l:K.lookup f=some ⟨oc,od,.func (PySem.W.fnOf x qual (fc st) (bV st) (aC st) .none kV doc pm an cdv ct),osl⟩)
 (c:PySem.W.codeIn K cdv qual=true) (k:PySem.W.keepIn K (.ref f)=true):Fun K x qual st f (PySem.W.fnOf x qual (fc st) (bV st) (aC st) .none kV doc pm an cdv ct):=⟨⟨oc,od,kV,doc,pm,an,cdv,ct,osl,rfl,l,c⟩,k⟩
end
section
theorem pv (i:Nat) (b:X.N[i]?=some x:=by rfl) (hv:Vis X.env.scope x:=by first|exact Or.inl rfl|exact Or.inr (Or.inl rfl)|exact Or.inr (Or.inr rfl)) (hd:(x==("__debug__":Str))=false:=by decide)
 (a:(x==("__classdict__":Str))=false:=by decide):PE X (.Name x pos) (LY i):=j6 b hv hd a
end
theorem Me {c A B:Prop} [Decidable c] (h1:c->A) (h2:¬ c->B):if c then A else B:=by
 by_cases h:c
 ·rw[if_pos h];exact h1 h
 ·rw[if_neg h];exact h2 h
def aw (H H':Hp):Prop:=∀b o,H b=some o->H' b=some o
theorem aw.refl (H:Hp):aw H H:=λ_ _ h=>h
theorem aw.trans {H2:Hp} (a:aw H H1) (b:aw H1 H2):aw H H2:=λc o h=>b c o (a c o h)
theorem aw.free (e:aw H H') {l:Addr} (h:H' l=Option.none):H l=Option.none:=by
 cases q:H l with
 |none=>rfl
 |some o =>rw[e l o q]at h;cases h
theorem aw.seq (e:aw H H') (h:SqL K H a xs):SqL K H' a xs:=by
 rcases h with (h|⟨o,h⟩)|h
 ·exact .inl (.inl (e _ _ h))
 ·exact .inl (.inr ⟨o,e _ _ h⟩)
 ·exact .inr h
end L2
set_option maxHeartbeats 4000000
namespace L2
open PySem PySem.Spec PyProof.Rows
variable {f:PyData->PyData->Option PyData} {E:XK} {es:List Expr} {g:TG} {e:Expr}
def nJ:List (Str×NameKind)->List (Str×Addr)->List (Str×Addr)->List (Str×Addr)
 |[],_,acc=>acc
 |(n,k)::r,cells,acc=>nJ r cells (if k==.free then (match cells.lookup n with|some c=>(n,c)::acc|none=>acc) else acc)
theorem i8 (env:Env):∀(names:List (Str×NameKind)) (acc:List (Str×Addr)),(∀y∈names,y.2=.free->∃c,env.cells.lookup y.1=some c) ->
  (forIn names acc (λ(x:Str×NameKind) (cs:List (Str×Addr))=>match x with
   | (name,kind)=>if (kind==NameKind.free)=true then do let c <-cellOf env name;pure (ForInStep.yield ((name,c)::cs)) else pure (ForInStep.yield cs)):Sem (List (Str×Addr)))=pure (nJ names env.cells acc)
 |[],acc,_=>rfl
 |(n,k)::r,acc,h=>by
  rw[OV];have b:∀y∈r,y.2=.free->∃c,env.cells.lookup y.1=some c:=λy g=>h y (N2 _ g)
  dsimp only[nJ];by_cases hk:k=.free
  ·subst hk;obtain⟨c,hc⟩:=h (n,.free) N3 rfl;have a:env.cells.lookup n=some c:=hc;have e:cellOf env n=pure c:=by unfold cellOf;rw[a]
   rw[if_pos (show (NameKind.free==NameKind.free)=true by decide),if_pos (show (NameKind.free==NameKind.free)=true by decide),e,a];exact i8 env r ((n,c)::acc) b
  ·have f:¬ (k==NameKind.free)=true:=by simpa using hk
   rw[if_neg f,if_neg f];exact i8 env r acc b
theorem jF (h:∀y∈scope.names,y.2=.free->∃c,env.cells.lookup y.1=some c):closureFor scope env=pure (nJ scope.names env.cells []):=by have e:=i8 env scope.names [] h;unfold closureFor;rw[<-bind_pure (forIn scope.names [] _)]at e;exact e
theorem qI:∀(names:List (Str×NameKind)) (cells acc:List (Str×Addr)) (x:Str) (c:Addr),(∀x c,acc.lookup x=some c->cells.lookup x=some c)->(nJ names cells acc).lookup x=some c->cells.lookup x=some c
 |[],_,_,x,c,h,e=>h x c e
 |(n,k)::r,cells,acc,x,c,h,e=>by
  refine qI r cells _ x c (λy d a=>?_) e;split at a
  ·split at a
   ·rename_i c' b;rw[NG]at a;by_cases hyn:(y==n)=true
    ·rw[hyn]at a;have f:y=n:=eq_of_beq hyn;subst f;cases a;exact b
    ·have:(y==n)=false:=by simpa using hyn
     rw[this]at a;exact h y d a
   ·exact h y d a
  ·exact h y d a
theorem tW:∀(names:List (Str×NameKind)) (cells acc:List (Str×Addr)) (x:Str),(∃c,acc.lookup x=some c)->∃c,(nJ names cells acc).lookup x=some c
 |[],_,_,_,h=>h
 |(n,k)::r,cells,acc,x,h=>by
  refine tW r cells _ x ?_;split
  ·split
   ·rw[NG];cases (x==n)
    ·exact h
    ·exact⟨_,rfl⟩
   ·exact h
  ·exact h
theorem lz:∀(names:List (Str×NameKind)) (cells acc:List (Str×Addr)) (x:Str) (c:Addr),(x,NameKind.free)∈names->cells.lookup x=some c->∃c,(nJ names cells acc).lookup x=some c
 |[],_,_,_,_,h,_=>by simp at h
 |(n,k)::r,cells,acc,x,c,h,e=>by
  rcases N5.mp h with h|h
  ·injection h with h1 h2
   subst h1;subst h2;refine tW r cells _ x ?_;rw[if_pos (by decide),e];exact⟨c,by simp[NG]⟩
  ·exact lz r cells _ x c h e
def blk (X:Cx) (M:List Str) (scope:Scope) (own:List Str) (C:Addr) (s2:Shared) (H2:Hp) (fp:List Addr):Cx where
 prog:=X.prog
 w:=X.w
 K:=X.K
 mg:=X.mg
 base:=X.base
 A:=X.A
 N:=M++own
 s₀:=s2
 H₀:=H2
 env:=compEnvC scope (nJ scope.names X.env.cells []) C X.env
 outer:=X.stack
 stack:=X.stack
 ex:=fp
 fn:=λ_=>false
 calm:=X.calm
 pn:=[]
 xe:=λ_ _=>False
structure jL (X:Cx) (M:List Str) (scope:Scope) (own:List Str):Prop where
 kind:scope.kind=.function
 nocell:∀y∈scope.names,y.2≠.cell
 names:∀y∈scope.names,y.2=.local->scope.names.lookup y.1=some .local
 free:∀y∈scope.names,y.2=.free->Vis X.env.scope y.1/\X.env.scope.names.lookup y.1≠some .local
 own:∀x∈own,scope.names.lookup x=some .local
 outer:∀p∈X.N.zip M,(p.1=p.2/\scope.names.lookup p.2≠some .local)\/scope.names.lookup p.2=none
 len:M.length=X.N.length
def tZ (N M:List Str) (a scope:Scope) (own:List Str):Bool :=
 (scope.kind==.function)&&scope.names.all (λy=>y.2 != .cell)&&scope.names.all (λy=>y.2 != .local||scope.names.lookup y.1==some .local) &&
 scope.names.all (λy=>y.2 != .free||(a.names.lookup y.1==some .cell||a.names.lookup y.1==some .free)) &&
 own.all (λx=>scope.names.lookup x==some .local)&&(N.zip M).all (λp=>(p.1==p.2&&scope.names.lookup p.2 != some .local)||scope.names.lookup p.2==none)&&(M.length==N.length)
theorem jL.of (h:tZ X.N M X.env.scope scope own=true):jL X M scope own:=by
 unfold tZ at h;simp only[N6,Nr,Bool.or_eq_true,bne_iff_ne,beq_iff_eq,ne_eq]at h;obtain⟨⟨⟨⟨⟨⟨h1,h2⟩,b⟩,c⟩,f⟩,g⟩,i⟩:=h;refine⟨h1,h2,λy a e=>(b y a).resolve_left λz=>z e,λy a e=>?_,f,g,i⟩;rcases (c y a).resolve_left λz=>z e with q|q
 ·exact⟨.inr (.inl q),by rw[q];intro z;cases z⟩
 ·exact⟨.inr (.inr q),by rw[q];intro z;cases z⟩
theorem d8 {env:Env}:∀{names:List (Str×NameKind)} {x:Str} {k:NameKind},
  (names.map λ(n,k)=>if (k==NameKind.free&&env.scope.kind==.function&&env.kindOf n==some .cell) then (n,NameKind.cell) else (n,k)).lookup x=some k->(k=.cell\/k=.free)->(∀y∈names,y.2≠.cell)->(x,NameKind.free)∈names
 |[],_,_,h,_,_=>by simp at h
 |(n,k')::r,x,k,h,a,hn=>by
  have b:∀y∈r,y.2≠NameKind.cell:=λy c=>hn y (N2 _ c)
  rw[N0,NG]at h;by_cases hc:(k'==NameKind.free&&env.scope.kind==.function&&env.kindOf n==some .cell)=true
  ·have f:k'=.free:=by have:=hc;simp only[N6]at this;exact eq_of_beq this.1.1
   simp only[if_pos hc]at h;cases hx:x==n with
   |true =>have:x=n:=eq_of_beq hx;subst this;subst f;exact N3
   |false =>rw[hx]at h;exact N2 _ (d8 h a b)
  ·simp only[if_neg hc]at h;cases hx:x==n with
   |true =>
    rw[hx]at h;have e:k'=k:=Option.some.inj h;have:x=n:=eq_of_beq hx;subst this;subst e;rcases a with a|a
    ·exact absurd a (hn _ N3)
    ·subst a;exact N3
   |false =>rw[hx]at h;exact N2 _ (d8 h a b)
theorem eo {env:Env}:∀{names:List (Str×NameKind)} {x:Str} {k:NameKind},
  (names.map λ(n,k)=>if (k==NameKind.free&&env.scope.kind==.function&&env.kindOf n==some .cell) then (n,NameKind.cell) else (n,k)).lookup x=some k->(∃k0,names.lookup x=some k0/\(k=k0\/(k=.cell/\k0=.free)))
 |[],_,_,h=>by simp at h
 |(n,k')::r,x,k,h=>by
  rw[N0,NG]at h;rw[NG];by_cases hc:(k'==NameKind.free&&env.scope.kind==.function&&env.kindOf n==some .cell)=true
  ·have a:k'=.free:=by have:=hc;simp only[N6]at this;exact eq_of_beq this.1.1
   simp only[if_pos hc]at h;cases hx:x==n with
   |true =>rw[hx]at h;exact⟨k',rfl,.inr ⟨(Option.some.inj h).symm,a⟩⟩
   |false =>rw[hx]at h;exact eo h
  ·simp only[if_neg hc]at h;cases hx:x==n with
   |true =>rw[hx]at h;exact⟨k',rfl,.inl (Option.some.inj h).symm⟩
   |false =>rw[hx]at h;exact eo h
section
variable {H2:Hp} {s2:Shared}
theorem Inv.blk {h1:Heap} {t':Nat} (I:Inv X pins σ H2 s2) (B:jL X M scope own) (H:∀b∈fp,qO X pins H2 b) (J:∀b∈fp,b<s2.heap.objs.size)
  (A:D=s2.heap.objs.size) (G:C=s2.heap.objs.size+1) (hl:h1.get? D=some { cls:=.type "list",data:=.seq ([]:List Value).toArray 0 })
  (hn:h1.Ns C (λ_=>none)) (g:∀b o,s2.heap.get? b=some o->h1.get? b=some o) :
  Inv (L2.blk X M scope own C s2 H2 fp) [] (σ++List.replicate own.length none) (upd H2 D (.lst [])) { s2 with heap:=h1,toks:=t' }:=by
 have a:∀x c,(nJ scope.names X.env.cells []).lookup x=some c->X.env.cells.lookup x=some c:=λx c e=>qI _ _ _ _ _ (λ_ _ z=>by simp at z) e
 have K:∀x c,(nJ scope.names X.env.cells []).lookup x=some c->c<s2.heap.objs.size:=λx c e=>by obtain⟨v,q⟩:=I.cell x c (a x c e);exact q.lt
 have n:H2 D=none:=I.hok.fresh (by rw[A];exact N7 _);have freeC:H2 C=none:=I.hok.fresh (by rw[G];exact OO _);have L:C≠D:=by rw[G,A];exact Nat.succ_ne_self _
 have W:Un (frs X.stack) fp H2 (upd H2 D (.lst [])) s2.heap h1:=Un.laid g (by rw[A];exact N7 _) n;refine⟨⟨I.ok.mod,?_,I.ok.glob,I.ok.blt,?_,?_,?_,?_,I.ok.hd,I.ok.frames,.inl rfl,?_,I.bs,O4 I.ok.bsz I.sz,?_,?_,I.stack,I.stkFree⟩,rfl,I.bare,W,?_,?_,?_,?_,?_,?_,?_,λP q t=>W.tbls P q (I.tab P q t)⟩
 ·exact B.kind
 ·show s2.heap.objs.size<=C;rw[G];exact OO _
 ·intro x y c e1 e2;exact I.ok.inj x y c (a x c e1) (a y c e2)
 ·intro x h;have hm:(x,NameKind.free)∈scope.names:=by
   rcases h with h|h
   ·exact d8 h (.inl rfl) B.nocell
   ·exact d8 h (.inr rfl) B.nocell
  obtain⟨hv,s⟩:=B.free _ hm rfl;have hh:X.env.kindOf x=some .cell\/X.env.kindOf x=some .free:=by
   rcases hv with z|z|z
   ·exact absurd z s
   ·exact .inl z
   ·exact .inr z
  obtain⟨c,e⟩:=I.ok.has x hh;exact lz _ _ _ x c hm e
 ·intro x c O _;exact absurd (show false=true from O) (by decide)
 ·intro b w;refine⟨?_,λx c e z=>?_⟩
  ·show b≠C;rw[G];exact Nq (O7 (J b w))
  ·exact (H b w).2.2.2.2.1 x c (a x c e) z
 ·intro b o e w;obtain⟨_,_,_,f3,_⟩:=H b w;rcases f3 with z|z
  ·exact I.ok.noex b o e z
  ·exact absurd (Nt (Nk (I.ok.bs b o e).1) z) (Oj _)
 ·intro b w hs;obtain⟨_,f1,f2,_⟩:=H b w;rcases N5.mp (I.stkSub b hs) with z|z
  ·exact f1 z
  ·exact f2 z
 ·refine⟨_,hn,λi x v e1 e2 Y=>?_⟩;have hi:i<σ.length:=by
   by_cases hi:i<σ.length
   ·exact hi
   ·rw[NF (by omega),P0]at e2;split at e2 <;> cases e2
  rw[NB hi]at e2;have E:i<X.N.length:=by rw[<-I.len];exact hi
  have Q:i<M.length:=by rw[B.len];exact E
  have R:M[i]?=some x:=by
   have:(M++own)[i]?=some x:=e1
   rwa[NB Q]at this
  obtain⟨y,Z⟩:∃y,X.N[i]?=some y:=⟨_,My E⟩
  have hz:(y,x)∈X.N.zip M:=NV (i:=i) (by rw[List.getElem?_zip_eq_some];exact⟨Z,R⟩);have S:∃k,scope.names.lookup x=some k:=by
   rcases Y with z|z|z
   ·obtain⟨k0,f,_⟩:=eo (show _=some NameKind.local from z);exact⟨k0,f⟩
   ·obtain⟨k0,f,_⟩:=eo (show _=some NameKind.cell from z);exact⟨k0,f⟩
   ·obtain⟨k0,f,_⟩:=eo (show _=some NameKind.free from z);exact⟨k0,f⟩
  have j:y=x/\scope.names.lookup x≠some .local:=by
   rcases B.outer _ hz with q|q
   ·exact q
   ·obtain⟨k,g⟩:=S;rw[q]at g;cases g
  have T:X.N[i]?=some x:=by rw[<-j.1];exact Z
  have h:(relabel scope X.env).names.lookup x=some .cell\/(relabel scope X.env).names.lookup x=some .free:=by
   rcases Y with z|z
   ·obtain⟨k0,f,g⟩:=eo (show _=some NameKind.local from z);rcases g with g|⟨g,_⟩
    ·subst g;exact absurd f j.2
    ·cases g
   ·exact z
  have hm:(x,NameKind.free)∈scope.names:=by
   rcases h with h|h
   ·exact d8 h (.inl rfl) B.nocell
   ·exact d8 h (.inr rfl) B.nocell
  obtain⟨hv,s⟩:=B.free _ hm rfl;obtain⟨m,_,U⟩:=I.loc;obtain⟨u,r,l⟩:=U i x v T e2 hv;refine⟨u,r,.inr ⟨h,?_⟩⟩;rcases l with⟨z,_⟩|⟨_,c,hc,z⟩
  ·exact absurd z s
  ·obtain⟨c',F⟩:=lz scope.names X.env.cells [] x c hm hc;have:=a x c' F;rw[hc]at this;cases this;exact⟨c,F,z.keeps g⟩
 ·intro x c e;obtain⟨v,q⟩:=I.cell x c (a x c e);exact⟨v,q.keeps g⟩
 ·show upd H2 D (.lst []) C=none;rw[az L];exact freeC
 ·intro x c e;have h1:=K x c e;rw[az (by rw[A];exact Nq h1)];exact I.freeC x c (a x c e)
 ·intro p hp;exact absurd (show p∈([]:List (Addr×Obj))++[] from hp) (by simp)
 ·exact I.hok.laid g (by rw[A];exact N7 _) ⟨NY _,[],0,.nil,hl⟩
 ·show (σ++List.replicate own.length none).length=(M++own).length;rw[Nl,Nl,List.length_replicate,I.len,B.len]
theorem Inv.unblk {a:St} (I:Inv X pins σ H2 s2) (i:∀b∈fp,qO X pins H2 b) (f:s2.heap.objs.size<=C)
  (J:Inv (L2.blk X M scope own C s2 H2 fp) [] a H' s') (j:Heap.SameBut C s'.heap h'):Inv X pins σ H' { s' with heap:=h' }:=by
 have h:H' C=none:=J.free;have k:∀b o,b≠C->s'.heap.get? b=some o->h'.get? b=some o:=λb o g e=>(j.2 b g).trans e
 have old:∀b o,s2.heap.get? b=some o->b≠C:=λb o e=>Nq (Nt (Nk e) f)
 have u:Un (frs X.stack) fp H2 H' s2.heap s'.heap:=J.base;refine I.call' (s':={ s' with heap:=h' }) (ch:=fp) J.os ?_ ?_ J.bare λb g=>?_
 ·refine⟨λb o e n h1 h2=>k b o (old b o e) (u.keep b o e n h1 h2),λb o e n h1 h2=>?_,u.free,λb o e h1=>?_,u.tups,u.frzs,u.tbls⟩
  ·obtain⟨l,q⟩:=u.slot b o e n h1 h2;exact⟨l,k b _ (old b o e) q⟩
  ·obtain⟨o',q⟩:=u.there b o e h1;exact⟨o',k b o' (old b o e) q⟩
 ·intro b o e;refine (J.hok b o e).stay (λc v hc q=>k c v ?_ q) (λ_ q=>q) λ_ _ q=>q
  rintro rfl
  rcases hc with z|z
  ·subst z;rw[h]at e;cases e
  ·rw[h]at z;cases z
 ·obtain⟨f0,f1,f2,m,p,r⟩:=i b g;exact⟨m,f1,p,r⟩
end
section
variable {A:Around} {R:Result->Shared->Prop}
theorem uZ {target:Expr} {it acc:Value} (I:Nat->Shared->Prop)
  (turn:∀n s,I n s->wpAny (model prog w) A (pyNext it) (λr a=>match r with
   |none=>R (.ok .next) a
   |some v=>wpAny (model prog w) A (letOwnedTupleGo target it v) (λ_ l=>wpAny (model prog w) A (assign target env v) (λ_ e =>
    wpAny (model prog w) A (forIn ifs true λc r=>if r=true then do let ok <-isTrue c env (eval c env);pure (ForInStep.yield ok) else pure (ForInStep.yield r)) (λok b =>
     if ok=true then wpAny (model prog w) A (eval elt env) (λx f =>
      wpAny (model prog w) A (call (.builtin "list.append") [acc,x]) (λ_ g=>∃m,m<n/\I m g) (λ_ _=>False) f) (λ_ _=>False) b
     else ∃m,m<n/\I m b) (λ_ _=>False) e) (λ_ _=>False) l) (λ_ _=>False) a) (λ_ _=>False) s)
  (n:Nat) (h:I n s) :
  codeAny (model prog w) A (.compLoop (.ListComp elt [⟨target,iter,ifs,0⟩] scope pos) 0 it acc env) R s:=by
 refine codeAny_loop rfl I (λn s y=>?_) n h;show wpAny _ A ((compTurn (.ListComp elt [⟨target,iter,ifs,0⟩] scope pos) 0 it acc env).onRaise (λx=>do noteFrame x env;theTreesLotGoes x)) _ _ s;refine wpAny_noted ?_;rw[compTurn_list];refine wpAny_bind (wpAny_standAt (wpAny_bind (wpAny_mono (turn n s y) (λr a i=>?_) λ_ _ h'=>h'.elim)));cases r with
 |none=>exact wpAny_pure i
 |some v =>
  refine wpAny_bind (wpAny_mono i (λ_ l u=>?_) λ_ _ h'=>h'.elim);refine wpAny_bind (wpAny_mono u (λ_ e o=>wpAny_bind (wpAny_mono o (λok b j=>?_) λ_ _ h'=>h'.elim)) λ_ _ h'=>h'.elim);cases ok with
  |false=>exact wpAny_pure ⟨rfl,j⟩
  |true =>exact wpAny_bind (wpAny_bind (wpAny_mono j (λx f p=>wpAny_bind (wpAny_mono p (λ_ g q=>wpAny_pure (wpAny_pure ⟨rfl,q⟩)) λ_ _ h'=>h'.elim)) λ_ _ h'=>h'.elim))
end
def vN:TT:=λ_ H Q=>Q true H
inductive PTs (X:Cx):List Expr->TT->Prop
 |nil:PTs X [] vN
 |one {c:Expr} {t:TT} (h:PT X c t):PTs X [c] t
theorem PTs.run {t:TT} (h:PTs X ifs t) {Q:Bool->Hp->Prop} (I:Inv X pins σ H s) (q:t σ H Q) :
  wpAny (model X.prog X.w) X.A (forIn ifs true λc r=>if r=true then do let ok <-isTrue c X.env (eval c X.env);pure (ForInStep.yield ok) else pure (ForInStep.yield r)) (TP X pins σ Q) X.xe s:=by
 cases h with
 |nil=>exact wpAny_tests_nil ⟨H,I,q⟩
 |one h=>exact wpAny_tests_one (h pins s σ H Q I q)
def LCR (J:It) (n:Nat) (g:TG) (tt:TT) (te:TE) (σ:St) (H1:Hp) (Q:VK):Prop:=∀D,H1 D=none->∃W:Nat->Nat->List V->Hp->Prop,(∃m,W 0 m [] (upd H1 D (.lst []))) /\
 ∀i m ys H,W i m ys H->H D=some (.lst ys)/\((J.stop i H/\Q (.ref D) H)\/(J.go i H/\∀x H' e,e.length=n->J.yld i H x H'->g x (σ++e) H' λc H2=>tt c H2 λb h =>
  if b=true then te c h λv j=>j D=some (.lst ys)/\ys.length<sizeLine/\(∃a,c=σ++a/\a.length=n)/\∃f,f < m/\W (i+1) f (ys++[v]) (upd j D (.lst (ys++[v])))
  else (∃a,c=σ++a/\a.length=n)/\∃f,f < m/\W (i+1) f ys h))
def tLC (n:Nat) (a:TI) (g:TG) (tt:TT) (te:TE):TE:=λσ H Q=>a σ H λJ H1=>LCR J n g tt te σ H1 Q
theorem pT {wi:TI} {tt:TT} {te:TE} {use:Option (Value->Sem Unit)} {Qf:Value->Shared->Prop} (hc:X.calm=true) (hi:PI X tg iter wi)
  (hg:∀C s2 H2 fp,PG (blk X M scope own C s2 H2 fp) tg g) (ht:∀C s2 H2 fp,PTs (blk X M scope own C s2 H2 fp) ifs tt) (he:∀C s2 H2 fp,PE (blk X M scope own C s2 H2 fp) elt te)
  (hB:tZ X.N M X.env.scope scope own=true) (hs:∀x,foldedSetIterable iter X.env x=pure x) {Q:VK} (I:Inv X pins σ H s) (h:tLC own.length wi g tt te σ H Q)
  (fin:∀(C D:Addr) (R:Shared) (P:Hp),(∀h',Heap.SameBut C R.heap h'->Inv X pins σ P { R with heap:=h' })->(∃m,R.heap.Ns C m)->P C=none->C≠X.env.locals->(∀x c,X.env.cells.lookup x=some c->c≠C)->(∀p∈X.pn++pins,p.1≠C)->X.s₀.heap.objs.size<=C->Q (.ref D) P ->
   compPost (model X.prog X.w) X.A X.xe use Qf (.ref D) C (.ok .next) R) :
  wpAny (model X.prog X.w) X.A (comprehension (.ListComp elt [⟨tg,iter,ifs,0⟩] scope pos) scope X.env cpos (newList []) false (eval iter X.env) use) Qf X.xe s:=by
 have B:jL X M scope own:=jL.of hB;have S:closureFor scope X.env=pure (nJ scope.names X.env.cells []):=jF λy hy hf=>by
  obtain⟨hv,hnl⟩:=B.free y hy hf;have hh:X.env.kindOf y.1=some .cell\/X.env.kindOf y.1=some .free:=by
   rcases hv with z|z|z
   ·exact absurd z hnl
   ·exact .inl z
   ·exact .inr z
  exact I.ok.has y.1 hh
 refine wpAny_comprehension_free (use:=use) rfl hs S B.kind B.names (thn (hi pins s σ H _ I h) λv s1 h1=>thn h1 λitv s2 h2=>?_);obtain⟨it,fp,tn,J,H2,e,U,T,Y,f2,hD⟩:=h2;subst e;have Z:∀b∈fp,b<s2.heap.objs.size:=λb l=>by obtain⟨o,q,_⟩:=T.obj _ _ Y b l;exact Nk q
 obtain⟨W,⟨m0,w0⟩,turn⟩:=hD s2.heap.objs.size (U.hok.fresh (N7 _));refine wpAny_newObj_type (wpAny_newFunctionEnv B.nocell (by intro y hy;simp at hy) (λE j f=>?_) B.kind);dsimp only at j f ⊢;generalize hG:s2.heap.push { cls:=.type "list",dict:=none,data:=.seq ([]:List Value).toArray }=G at j f ⊢;have hC:G.objs.size=s2.heap.objs.size+1:=by rw[<-hG,Heap.size_push]
 have hk:∀b o,s2.heap.get? b=some o->E.get? b=some o:=λb o e=>f.extBut b o (by rw[hC];exact Nq (O7 (Nk e))) (N1 _ (hG▸N1 _ e))
 have hDC:s2.heap.objs.size≠G.objs.size:=by rw[hC];exact Nq (Ov _)
 have hl:E.get? s2.heap.objs.size=some { cls:=.type "list",data:=.seq ([]:List Value).toArray 0 }:=f.extBut _ _ hDC (N1 _ (hG▸Np _ rfl));have hns:E.Ns G.objs.size (λ_=>none):=by
  have e:(λx=>([]:List (Str×Value)).reverse.lookup x)=λ_=>none:=by funext x;rfl
  rw[<-e];exact j
 have I3:=λt'=>U.blk (t':=t') (C:=G.objs.size) (D:=s2.heap.objs.size) B f2 Z rfl hC hl hns hk
 have F:∀{H':Hp},(∀b∈fp,H' b=none)->∀b∈fp,qO (blk X M scope own G.objs.size s2 H2 fp) [] H' b:=λhn b l=>by
  refine⟨hn b l,?_,?_,.inl l,λx c e z=>?_,λp hp=>absurd (show p∈([]:List (Addr×Obj))++[] from hp) (by simp)⟩
  ·show b≠G.objs.size;rw[hC];exact Nq (O7 (Z b l))
  ·exact (I3 0).ok.exfs b l
  ·exact ((I3 0).ok.exf b l).2 x c e z
 have loop:∀s3:Shared,(∃t',s3={ s2 with heap:=E,toks:=t' })->codeAny (model X.prog X.w) X.A (.compLoop (.ListComp elt [⟨tg,iter,ifs,0⟩] scope pos) 0 (.ref it) (.ref s2.heap.objs.size) (compEnvC scope (nJ scope.names X.env.cells []) G.objs.size X.env))
   (compPost (model X.prog X.w) X.A X.xe use Qf (.ref s2.heap.objs.size) G.objs.size) s3:=by
  rintro s3 ⟨t',rfl⟩
  refine uZ (λn s'=>∃i ys O H',O.length=own.length/\Inv (blk X M scope own G.objs.size s2 H2 fp) [] (σ++O) H' s'/\tn i s'.heap/\(∀b∈fp,H' b=none)/\W i n ys H') ?_ m0
   ⟨0,[],_,_,by simp,I3 t',T.keep _ _ _ Y λb l o e=>hk b o e,λb l=>by rw[az (Nq (Z b l))];exact (f2 b l).1,w0⟩
  rintro n s4 ⟨i,ys,O,P,hl',I4,st4,fr4,w4⟩
  obtain⟨hDl,alt⟩:=turn i n ys P w4;rcases alt with⟨stop,qn⟩|⟨go,step⟩
  ·refine thn (T.done (blk X M scope own G.objs.size s2 H2 fp) rfl rfl rfl hc i [] s4 _ P _ I4 (F fr4) st4 stop) λr R a=>?_
   obtain⟨hr,I5⟩:=a;subst hr;obtain⟨m,hn,_⟩:=I5.loc;have cS:s2.heap.objs.size<=G.objs.size:=by rw[hC];exact OO _
   refine fin G.objs.size s2.heap.objs.size R P (λh' hs'=>U.unblk (C:=G.objs.size) f2 cS I5 hs') ⟨m,hn⟩ I5.free ?_ (λx c e=>?_) (λp hp=>?_) (O4 U.sz cS) qn
   ·obtain⟨_,hl0,_⟩:=U.loc;exact O9 (Nt hl0.lt cS)
   ·obtain⟨_,q⟩:=U.cell x c e;exact Nq (Nt q.lt cS)
   ·exact Nq (Nt (Nk (U.pin p hp).1) cS)
  ·refine thn (T.item (blk X M scope own G.objs.size s2 H2 fp) rfl rfl rfl hc i [] s4 _ P _ I4 (F fr4) st4 go) λr R a=>?_
   obtain⟨u,hr,h5⟩:=a;subst hr;refine thn h5 λ_ s6 a=>?_
   obtain⟨x,H6,I6,r6,y6,st6,fr6⟩:=a;have I6':=I6.pinned (F fr6) (T.obj _ _ st6);have kp:∀{K:St} {H7:Hp} {s7:Shared},Inv (blk X M scope own G.objs.size s2 H2 fp) ([]++qE fp s6.heap) K H7 s7->tn (i+1) s7.heap/\∀b∈fp,H7 b=none:=λ{K H7 s7} I7=>by refine⟨T.keep _ _ _ st6 λb l o e=>(I7.pin (b,o) (N8 _ (N8 _ (jh l e)))).1,λb l=>?_⟩;obtain⟨o,e,d⟩:=T.obj _ _ st6 b l;exact (I7.pin (b,o) (N8 _ (N8 _ (jh l e)))).2.1
   refine thn (hg _ _ _ _ _ s6 _ H6 x u _ I6' r6 (step x H6 O hl' y6)) λ_ s7 a=>?_
   obtain⟨K,H7,I7,q7⟩:=a;refine thn ((ht _ _ _ _).run I7 q7) λok s8 a=>?_
   obtain⟨H8,I8,q8⟩:=a;cases ok with
   |false =>
    obtain⟨⟨L,e,l''⟩,m',hm,w8⟩:=(show if false=true then _ else _ from q8)
    subst e;obtain⟨k1,k2⟩:=kp I8;exact⟨m',hm,i+1,ys,L,H8,l'',I8.unpinned,k1,k2,w8⟩
   |true =>
    have q8:te K H8 _:=q8;refine thn (he _ _ _ _ _ s8 K H8 _ I8 q8) λy s9 a=>?_
    obtain⟨v,H9,I9,r9,d9,z9,⟨L,e,l''⟩,m',hm,w9⟩:=a;subst e;refine thn (nF (X:=blk X M scope own G.objs.size s2 H2 fp) _ s9 _ H9 (.ref s2.heap.objs.size) [v] (.ref s2.heap.objs.size) [y] (λ_ H'=>H'=upd H9 s2.heap.objs.size (.lst (ys++[v]))) I9 rfl (.cons r9 .nil) ⟨_,ys,v,rfl,rfl,d9,z9,rfl⟩) λ_ s10 a=>?_
    obtain⟨_,H10,I10,_,e10⟩:=a;subst e10;obtain⟨k1,k2⟩:=kp I10;exact⟨m',hm,i+1,ys++[v],L,_,l'',I10.unpinned,k1,k2,w9⟩
 exact codeAny_compStart_list (loop _ ⟨_,rfl⟩) (T.self _ 0 _ _ _ (T.keep _ _ _ Y λb l o e=>hk b o e) (loop _ ⟨_,rfl⟩))
theorem Fd {c:TI} {tt:TT} {te:TE} (hc:X.calm=true) (hi:PI X tg iter c)
  (e:∀C s2 H2 fp,PG (blk X M scope own C s2 H2 fp) tg g) (f:∀C s2 H2 fp,PTs (blk X M scope own C s2 H2 fp) ifs tt) (i:∀C s2 H2 fp,PE (blk X M scope own C s2 H2 fp) elt te)
  (hB:tZ X.N M X.env.scope scope own=true:=by rfl) (j:∀x,foldedSetIterable iter X.env x=pure x:=by intro _;rfl):PE X (.ListComp elt [⟨tg,iter,ifs,0⟩] scope pos) (tLC own.length c g tt te):=by
 intro pins s σ H Q I h;rw[eval_ListComp];refine pT hc hi e f i hB j I h λC D s5 l k a _ _ _ _ _ q=>?_
 obtain⟨m,hn⟩:=a;exact⟨m,hn,λh' b=>⟨.ref D,l,k h' b,rfl,q⟩⟩
theorem pP {B:TI} {tt:TT} {te:TE} (hc:X.calm=true) (O:X.N.Nodup) (j:X.N[i]?=some x) (P:Loc X.env.scope x)
  (l:swapsWith (.ListComp elt [⟨tg,iter,ifs,0⟩] scope pos) (some (.Name x pos')) spos.line X.env=pure true) (hi:PI X tg iter B)
  (Q:∀C s2 H2 fp,PG (blk X M scope own C s2 H2 fp) tg g) (R:∀C s2 H2 fp,PTs (blk X M scope own C s2 H2 fp) ifs tt) (S:∀C s2 H2 fp,PE (blk X M scope own C s2 H2 fp) elt te)
  (hB:tZ X.N M X.env.scope scope own=true:=by rfl) (T:∀x,foldedSetIterable iter X.env x=pure x:=by intro _;rfl) (U:X.fn x=true\/X.env.scope.names.lookup x=some .local:=by first|exact .inl rfl|exact .inr rfl|assumption) :
  PS X (.Assign [.Name x pos'] (.ListComp elt [⟨tg,iter,ifs,0⟩] scope pos) spos) (FD (tLC own.length B g tt te) (jO i)):=by
 intro pins s σ H D I h;show wpAny _ _ (exec _ X.env) _ _ s;rw[exec_Assign_Name_used _ _ _ _ l];refine wpAny_bind (wpAny_standAt (wpAny_bind ?_));rw[arm_evalThenUse_ListComp];refine wpAny_bind (thn (pT (use:=some (assign (.Name x pos') X.env)) (Qf:=λ_ s'=>SP X pins D .next s') hc hi Q R S hB T I h λC E F W k p G J K Y ns q=>?_) λ_ s' Z=>wpAny_pure (wpAny_pure Z));obtain⟨m,hn⟩:=p;have I5:=k F.heap (Heap.SameBut.refl _ _);show wpAny _ _ (assign (.Name x pos') X.env (.ref E)) _ _ F;refine wpAny_assign_Name (sH (v:=.ref E) I5 O j P rfl (λL r u=>?_) U);obtain⟨a,sb,ha⟩:=u;have w:C≠a:=by
  rcases ha with rfl|ha
  ·exact J
  ·exact λz=>K x a ha z.symm
 refine⟨m,hn.sameBut sb w,λh' y=>⟨_,W,?_,q⟩⟩;have f:∀b o,b≠C->L.heap.get? b=some o->h'.get? b=some o:=λb o A e=>(y.2 b A).trans e
 refine r.call' (s':={ L with heap:=h' }) (ch:=[C]) rfl ?_ ?_ r.bare λb A=>?_
 ·refine⟨λb o e _ _ z=>f b o (λq=>z (by rw[q];exact N9.mpr rfl)) e,λb o e _ _ z=>⟨o.slots,f b o (λq=>z (by rw[q];exact N9.mpr rfl)) e⟩,λ_ _ _ n _=>n,λb o e z=>⟨o,f b o (λq=>z (by rw[q];exact N9.mpr rfl)) e⟩,λ_ _ q=>q,λ_ _ _ q=>q,λ_ _ q=>q⟩
 ·intro b o e;refine (r.hok b o e).stay (λc v hc q=>f c v ?_ q) (λ_ q=>q) λ_ _ q=>q
  rintro rfl
  rcases hc with z|z
  ·subst z;rw[G]at e;cases e
  ·rw[G]at z;cases z
 ·rw[N9.mp A];exact⟨.inr ns,λz=>J z,K,Y⟩
mutual
def IsD (K:PySem.W.Frag) (H:Hp):PyData->V->Prop
 |.none,v=>v=.non
 |.bool b,v=>v=.bl b
 |.int i,v=>v=.int i
 |.str x,v=>v=.str x
 |.list ds,v=>∃a xs,v=.ref a/\SqL K H a xs/\eU K H ds xs
 |.tuple ds,v=>∃a xs,v=.ref a/\SqT K H a xs/\eU K H ds xs
 |.dict _,_=>False
def eU (K:PySem.W.Frag) (H:Hp):List PyData->List V->Prop
 |[],vs=>vs=[]
 |d::ds,vs=>∃v r,vs=v::r/\IsD K H d v/\eU K H ds r
end
theorem aw.tupS (e:aw H H') (h:SqT K H a xs):SqT K H' a xs:=by
 rcases h with (h|⟨o,h⟩)|h
 ·exact .inl (.inl (e _ _ h))
 ·exact .inl (.inr ⟨o,e _ _ h⟩)
 ·exact .inr h
mutual
theorem IsD.same {K:PySem.W.Frag} {H H':Hp} (e:aw H H'):∀{d:PyData} {v:V},IsD K H d v->IsD K H' d v
 |.none,_,h=>by unfold IsD at h ⊢;exact h
 |.bool _,_,h=>by unfold IsD at h ⊢;exact h
 |.int _,_,h=>by unfold IsD at h ⊢;exact h
 |.str _,_,h=>by unfold IsD at h ⊢;exact h
 |.list ds,_,h=>by unfold IsD at h ⊢;obtain⟨a,xs,e1,h1,h2⟩:=h;exact⟨a,xs,e1,e.seq h1,eU.same e h2⟩
 |.tuple ds,_,h=>by unfold IsD at h ⊢;obtain⟨a,xs,e1,h1,h2⟩:=h;exact⟨a,xs,e1,e.tupS h1,eU.same e h2⟩
 |.dict _,_,h=>by unfold IsD at h;exact h.elim
theorem eU.same {K:PySem.W.Frag} {H H':Hp} (e:aw H H'):∀{ds:List PyData} {vs:List V},eU K H ds vs->eU K H' ds vs
 |[],_,h=>by unfold eU at h ⊢;exact h
 |d::ds,_,h=>by unfold eU at h ⊢;obtain⟨v,r,e1,h1,h2⟩:=h;exact⟨v,r,e1,IsD.same e h1,eU.same e h2⟩
end
section
theorem um {i:Int}:IsD K H (.int i) (.int i):=by unfold IsD;rfl
theorem FI {b:Bool}:IsD K H (.bool b) (.bl b):=by unfold IsD;rfl
theorem DD:IsD K H .none .non:=by unfold IsD;rfl
theorem Ic:IsD K H (.str x) (.str x):=by unfold IsD;rfl
theorem Gs (h:SqT K H a xs) (h2:eU K H ds xs):IsD K H (.tuple ds) (.ref a):=by unfold IsD;exact⟨a,xs,rfl,h,h2⟩
theorem vC (h:SqL K H a xs) (h2:eU K H ds xs):IsD K H (.list ds) (.ref a):=by unfold IsD;exact⟨a,xs,rfl,h,h2⟩
theorem rg:eU K H [] []:=by unfold eU;rfl
theorem sy {d:PyData} (h:IsD K H d v) (h2:eU K H ds vs):eU K H (d::ds) (v::vs):=by unfold eU;exact⟨v,vs,rfl,h,h2⟩
theorem IsD.ofInt {i:Int} (h:IsD K H (.int i) v):v=.int i:=by unfold IsD at h;exact h
theorem IsD.ofBool {i:Bool} (h:IsD K H (.bool i) v):v=.bl i:=by unfold IsD at h;exact h
theorem IsD.ofNone (h:IsD K H .none v):v=.non:=by unfold IsD at h;exact h
theorem IsD.ofStr (h:IsD K H (.str x) v):v=.str x:=by unfold IsD at h;exact h
theorem IsD.ofTup (h:IsD K H (.tuple ds) v):∃a xs,v=.ref a/\SqT K H a xs/\eU K H ds xs:=by unfold IsD at h;exact h
theorem IsD.ofLst (h:IsD K H (.list ds) v):∃a xs,v=.ref a/\SqL K H a xs/\eU K H ds xs:=by unfold IsD at h;exact h
theorem eU.nil_of (h:eU K H [] vs):vs=[]:=by unfold eU at h;exact h
theorem eU.cons_of {d:PyData} (h:eU K H (d::ds) vs):∃v r,vs=v::r/\IsD K H d v/\eU K H ds r:=by unfold eU at h;exact h
theorem sg:∀(ns:List Int),eU K H (ns.map PyData.int) (ns.map V.int)
 |[]=>rg
 |_::r=>sy um (sg r)
end
section
mutual
theorem Inv.reads (I:Inv X pins σ H s):∀{d:PyData} {v:V} {u:Value},IsD X.K H d v->RelV v u->∃as,Reads s.heap u d as
 |.none,_,_,h,r=>by rw[h.ofNone]at r;cases r;exact⟨_,.none⟩
 |.bool _,_,_,h,r=>by rw[h.ofBool]at r;cases r;exact⟨_,.bool _⟩
 |.int _,_,_,h,r=>by rw[h.ofInt]at r;obtain⟨t,rfl⟩:=r;exact⟨_,.int _ _⟩
 |.str _,_,_,h,r=>by rw[h.ofStr]at r;obtain⟨t,rfl⟩:=r;exact⟨_,.str _ _⟩
 |.list ds,_,_,h,r=>by obtain⟨a,xs,e,h1,h2⟩:=h.ofLst;subst e;cases r;obtain⟨b,f,⟨o,n,g,c,_,d⟩,_⟩:=I.list h1;obtain⟨as,i⟩:=Inv.readsAll I h2 f;exact⟨_,.list g c d (by simpa using i)⟩
 |.tuple ds,_,_,h,r=>by obtain⟨a,xs,e,h1,h2⟩:=h.ofTup;subst e;cases r;obtain⟨b,f,⟨o,g,c,n,d⟩,_⟩:=I.tuple h1;obtain⟨as,i⟩:=Inv.readsAll I h2 f;exact⟨_,.tuple g c d (by simpa using i)⟩
 |.dict _,_,_,h,_=>by unfold IsD at h;exact h.elim
theorem Inv.readsAll (I:Inv X pins σ H s):∀{ds:List PyData} {vs:List V} {us:List Value},eU X.K H ds vs->Vals vs us->∃as,ReadsAll s.heap us ds as
 |[],_,_,h,r=>by rw[h.nil_of]at r;cases r;exact⟨_,.nil⟩
 |d::ds,_,_,h,r=>by
  obtain⟨v,t,e,h1,h2⟩:=h.cons_of;subst e;cases r with
  |cons r1 r2 =>obtain⟨as,a⟩:=Inv.reads I h1 r1;obtain⟨bs,b⟩:=Inv.readsAll I h2 r2;exact⟨_,.cons a b⟩
end
open PySem.SeqAt in
theorem yw (a:X.A.units+64<cLine):OpR X (compareOp .Eq) (λx y H Q=>∃d e,IsD X.K H d x/\IsD X.K H e y/\shaped d=true/\shaped e=true/\Q (.bl (PyData.eqv d e)) H):=by intro pins s σ H x y v u Q I b c h;obtain⟨d,e,hd,f,g,i,q⟩:=h;obtain⟨as,j⟩:=I.reads hd b;obtain⟨bs,l⟩:=I.reads f c;exact eq_dataH j l g i a ⟨.bl _,H,I,rfl,q⟩
open PySem.SeqAt in
theorem JO (a:X.A.units+64<cLine):OpR X (compareOp .NotEq) (λx y H Q=>∃d e,IsD X.K H d x/\IsD X.K H e y/\shaped d=true/\shaped e=true/\Q (.bl (!PyData.eqv d e)) H):=by intro pins s σ H x y v u Q I b c h;obtain⟨d,e,hd,f,g,i,q⟩:=h;obtain⟨as,j⟩:=I.reads hd b;obtain⟨bs,l⟩:=I.reads f c;exact ne_dataH j l g i a ⟨.bl _,H,I,rfl,q⟩
def tyD:PyData->String
 |.none=>"NoneType"
 |.bool _=>"bool"
 |.int _=>"int"
 |.str _=>"str"
 |.list _=>"list"
 |.tuple _=>"tuple"
 |.dict _=>"dict"
def ur (d:PyData) (T:String):Bool:=tyD d==T||(T=="int"&&tyD d=="bool")
theorem Gz (K:PySem.W.Frag) {a T:String} (ha:a∈["NoneType", "bool", "int", "str", "list", "tuple"]) (b:T∈["bool", "int", "list", "tuple"]) :
  PySem.W.kitOne K (.type a) (.type T)=some (a==T||(T=="int"&&a=="bool")):=by
 simp only[N5,Ny,or_false]at ha b;rcases ha with rfl|rfl|rfl|rfl|rfl|rfl <;> rcases b with rfl|rfl|rfl|rfl <;> rfl
theorem Hy {d:PyData} (h:IsD K H d v):tyD d∈["NoneType", "bool", "int", "str", "list", "tuple"]:=by
 cases d with
 |dict _=>unfold IsD at h;exact h.elim
 |_=>simp[tyD]
theorem xq:jz X (.builtin "isinstance") (λxs H Q=>∃d v T,xs=[v,.ty T]/\IsD X.K H d v/\T∈["bool", "int", "list", "tuple"]/\Q (.bl (ur d T)) H):=by
 intro pins s σ H xs us Q I r h;obtain⟨d,v,T,rfl,hd,l,q⟩:=h;obtain⟨u,c,rfl,f,m⟩:=vals2 r;cases m;have e:PySem.W.kitOne X.K (.type (tyD d)) (.type T)=some (ur d T):=Gz X.K (Hy hd) l;have fin:∀tk,EP X pins σ Q (.bool (ur d T)) { s with toks:=tk }:=λtk=>⟨.bl _,H,I.tok tk,rfl,q⟩
 cases d with
 |none=>rw[hd.ofNone]at f;cases f;exact PySem.W.kia_one PySem.W.kitx_none I.kIn True.intro e (λz=>nomatch z) fin
 |bool b=>rw[hd.ofBool]at f;cases f;exact PySem.W.kia_one PySem.W.kitx_bool I.kIn True.intro e (λz=>nomatch z) fin
 |int i=>rw[hd.ofInt]at f;obtain⟨t,rfl⟩:=f;exact PySem.W.kia_one PySem.W.kitx_int I.kIn True.intro e (λz=>nomatch z) fin
 |str x=>rw[hd.ofStr]at f;obtain⟨t,rfl⟩:=f;exact PySem.W.kia_one PySem.W.kitx_str I.kIn True.intro e (λz=>nomatch z) fin
 |list ds =>obtain⟨a,xs,e1,h1,h2⟩:=hd.ofLst;subst e1;cases f;obtain⟨j,p,⟨o,n,g,c,_,_⟩,_⟩:=I.list h1;exact PySem.W.kia_one PySem.W.kitx_list I.kIn ⟨o,g,c⟩ e (λz=>nomatch z) fin
 |tuple ds =>obtain⟨a,xs,e1,h1,h2⟩:=hd.ofTup;subst e1;cases f;obtain⟨j,p,⟨o,g,c,n,_⟩,_⟩:=I.tuple h1;exact PySem.W.kia_one PySem.W.kitx_tuple I.kIn ⟨o,g,c⟩ e (λz=>nomatch z) fin
 |dict _=>unfold IsD at hd;exact hd.elim
theorem pN:∀{bs:List Bool} {us:List Value},Vals (bs.map V.bl) us->LSm.BoolsAre us bs
 |[],_,.nil=>.nil
 |b::r,_,.cons h t=>by cases (show _=Value.bool b from h);exact .cons b (pN t)
theorem Dl (hc:X.calm=true):jz X (.builtin "all") (λxs H Q=>∃(a:Addr) (bs:List Bool),xs=[.ref a]/\SqL X.K H a (bs.map V.bl)/\Q (.bl (bs.all id)) H):=by
 intro pins s σ H xs us Q I r h;obtain⟨a,bs,rfl,l,q⟩:=h;obtain⟨u,rfl,m⟩:=vals1 r;cases m;obtain⟨c,n,p,_⟩:=I.list l;have hl:=p.isList;have g:=pN n;have f:a<s.heap.objs.size:=by obtain⟨_,e,_⟩:=hl;exact Nk e
 refine call_all_walk (wpAny_pyIter_list hl ?_);refine⟨s.heap.objs.size,[s.heap.objs.size,a],[s.heap.objs.size],c.toArray.size,_,_,λi=>(bs[i]?).getD true,rfl,Walks.list (A:=X.A.in1) (I.ok.hd hc) _ a (Nq f) c.toArray,
  ⟨⟨_,Np _ rfl,rfl,rfl⟩,hl.push _⟩,λi v s' Q' E' o j=>?_,λh' tk w=>?_⟩
 ·obtain⟨b,e,rfl⟩:=g.get i v (by simpa using o);simp only[e,Option.getD_some]at j;exact wpAny_truthy_bool j
 ·have e:((List.range c.toArray.size).all λi=>(bs[i]?).getD true)=bs.all id:=by rw[Nm,g.length];exact LSm.range_all bs
  rw[e];exact⟨.bl _,H,I.kept (LSm.kept_iter w),rfl,q⟩
theorem DI (hc:X.calm=true):jz X (.builtin "sum") (λxs H Q=>∃(a:Addr) (ns:List Int),xs=[.ref a]/\SqL X.K H a (ns.map V.int)/\Q (.int ns.sum) H):=by
 intro pins s σ H xs us Q I r h;obtain⟨a,ns,rfl,f,q⟩:=h;obtain⟨u,rfl,g⟩:=vals1 r;cases g;obtain⟨b,i,p,_⟩:=I.list f;have hi:IntsAre b ns:=intsAre_of i;obtain⟨xs,e⟩:=hi.allInts.items;have c:s.heap.IsList a (intItems xs):=e▸p.isList;refine sum_intListG (I.ok.hd hc) c λh' tk t' j=>?_
 have e1:ns=xs.toList.map (·.1):=by rw[<-nums_intItems,<-e];exact (show numsOf b.toArray.toList=ns from hi.numsOf).symm
 have e2:preSum (numAt xs) xs.size=ns.sum:=by rw[preSum_eq,List.take_of_length_le (by simp),e1]
 rw[e2];exact⟨.int _,H,I.kept j,⟨_,rfl⟩,q⟩
end
structure MP (P:Program) (w:World) (outer:List Env) (H:Hp) (s:Shared) (H':Hp) (B:Heap) (ea:Addr) (cls a0:Value) (s':Shared):Prop where
 os:s'.os=s.os
 bare:AllBare s'.gens
 hok:HOk P w H' B
 keep:∀b o,s.heap.get? b=some o->H b=none->b∉frs outer->B.get? b=some o
 there:∀b o,s.heap.get? b=some o->b∉frs outer->∃o',B.get? b=some o'
 slot:∀b o,s.heap.get? b=some o->b∈frs outer->∃sl,s'.heap.get? b=some { o with slots:=sl }
 free:∀b o,s.heap.get? b=some o->H b=none->H' b=none
 tups:∀b xs,H b=some (.tup xs)->H' b=some (.tup xs)
 frzs:∀b o u,H b=some (.frz o u)->H' b=some (.frz o u)
 tbls:∀b q,H b=some (.tbl q)->H' b=some (.tbl q)
 fly:Heap.FlyingW B outer ea cls a0 s'.heap
def CXW (P:Program) (w:World):CXT:=λouter H s E e s'=>∃ea cls a0 H' B,e=.ref ea/\E cls none H'/\MP P w outer H s H' B ea cls a0 s'
section
variable {f:Addr} {A:Around}
theorem v8 {L:Addr} (a:env.frame=some L):frs (env::outer)=L::frs outer:=by unfold frs;rw[OQ,a]
theorem wD {CX:CXT} {g:Shared} {ea:Addr} {cls:Value} {vs:List Value}
  (I:Inv (c9 (CXW P w) P w K mg base N qual scope f cd A outer s H E) pins σ H1 g) (p:Heap.MadeExcOf g.heap h' ea cls vs) (r:E cls none H1) :
  (c9 (CXW P w) P w K mg base N qual scope f cd A outer s H E).xe (.ref ea) { g with heap:=h' }:=by
 have i:=I.stack;have j:frs (c9 (CXW P w) P w K mg base N qual scope f cd A outer s H E).stack=s.heap.objs.size::frs outer:=v8 rfl;have l:∀env∈(c9 (CXW P w) P w K mg base N qual scope f cd A outer s H E).stack,∀b,env.frame=some b->b∈frs (c9 (CXW P w) P w K mg base N qual scope f cd A outer s H E).stack:=λenv v b c=>Pf.mpr ⟨env,v,c⟩
 have out:∀b o,s.heap.get? b=some o->b∉frs outer->b∉frs (c9 (CXW P w) P w K mg base N qual scope f cd A outer s H E).stack:=λb o e n z=>by
  rw[j]at z;rcases N5.mp z with z|z
  ·rw[z]at e;exact absurd (Nk e) (Oj _)
  ·exact n z
 refine wpAny_leaves_madeW (base:=PySem.W.hideAll g.heap (frs (c9 (CXW P w) P w K mg base N qual scope f cd A outer s H E).stack)) I.ok.frames rfl (λb o q=>PySem.W.of_hideAll _ q) (PySem.W.funFrames_hide i l) p λh2 t x1 x2 x3 x4=>?_
 refine⟨ea,cls,.ref t,H1,_,rfl,r,⟨I.os,I.bare,?_,?_,?_,?_,?_,I.base.tups,I.base.frzs,I.base.tbls,x1⟩⟩
 ·intro a o e;refine (I.hok a o e).stay (λb u c q=>PySem.W.hideAll_get _ q λz=>?_) (λ_ q=>q) λ_ _ q=>q
  have:=I.stkFree b z;rcases c with c|c
  ·rw[c,e]at this;cases this
  ·rw[c]at this;cases this
 ·intro b o e n c;exact PySem.W.hideAll_get _ (I.base.keep b o e n c (Ny)) (out b o e c)
 ·intro b o e c;obtain⟨o',q⟩:=I.base.there b o e (Ny);exact⟨o',PySem.W.hideAll_get _ q (out b o e c)⟩
 ·intro b o e c;obtain⟨sl,q⟩:=I.base.slot b o e (I.ok.frf b c) c (Ny);obtain⟨_,x,h,d2⟩:=I.ok.funs.mem c;have h:s.heap.get? b=some x:=h;rw[e]at h;cases h;obtain⟨m,y⟩:=x4 b _ (p.keeps b _ q) d2;exact⟨m,y⟩
 ·intro b o e n;exact I.base.free b o e n (Ny)
theorem HA:Passes (CXW P w) (c9 (CXW P w) P w K mg base N qual scope f cd A outer s H E) E:=by
 intro pins σ H1 s1 e s2 I hc;obtain⟨ea,cls,a0,H2,B,rfl,i,F⟩:=hc;have c:frs (c9 (CXW P w) P w K mg base N qual scope f cd A outer s H E).stack=s.heap.objs.size::frs outer:=v8 rfl;have out:∀b o,s.heap.get? b=some o->b∉frs outer->b∉frs (c9 (CXW P w) P w K mg base N qual scope f cd A outer s H E).stack:=λb o e n z=>by
  rw[c]at z;rcases N5.mp z with z|z
  ·rw[z]at e;exact absurd (Nk e) (Oj _)
  ·exact n z
 refine wpAny_leaves_onW I.ok.frames rfl F.fly λh2 x1 x2=>⟨ea,cls,a0,H2,B,rfl,i,⟨F.os.trans I.os,F.bare,F.hok,?_,?_,?_,?_,?_,?_,?_,x1⟩⟩
 ·intro b o e n a;exact F.keep b o (I.base.keep b o e n a (Ny)) (I.base.free b o e n (Ny)) (out b o e a)
 ·intro b o e a;obtain⟨o',q⟩:=I.base.there b o e (Ny);exact F.there b o' q (out b o e a)
 ·intro b o e a;obtain⟨sl,q⟩:=I.base.slot b o e (I.ok.frf b a) a (Ny);obtain⟨_,j,g,d2⟩:=I.ok.funs.mem a;have g:s.heap.get? b=some j:=g;rw[e]at g;cases g;obtain⟨sl1,l⟩:=F.slot b _ q (by rw[c];exact N2 _ a);obtain⟨h,m⟩:=x2 b _ l d2;exact⟨h,m⟩
 ·intro b o e n;obtain⟨o',q⟩:=I.base.there b o e (Ny);exact F.free b o' q (I.base.free b o e n (Ny))
 ·intro b xs e;exact F.tups b xs (I.base.tups b xs e)
 ·intro b o u e;exact F.frzs b o u (I.base.frzs b o u e)
 ·intro b ps e;exact F.tbls b ps (I.base.tbls b ps e)
end
theorem Hu {a:List Value} (X:K.In h) (q:PySem.W.excIn K C a newId=true) :
  ∃bm N nm r bs hdct sn sub ab col dd k0 k1 k2 k3 k5 mN,h.get? C=some (excClassObj nm r C N bs bm hdct sn sub ab col dd k0 k1 k2 k3 k5 newId)/\h.Ns N mN/\mN "__init__"=none/\OwnTail h a bm:=by
 unfold PySem.W.excIn at q;split at q
 ·rename_i d1 c1 l1 g1;split at q
  ·rename_i C2 b g i j m n2 n hm s;simp only[N6,beq_iff_eq,Pk]at q;obtain⟨⟨⟨⟨⟨u,v⟩,o⟩,w⟩,c⟩,p⟩:=q;subst u;subst v;obtain⟨z1,z2,z3,x,y,z,A,B,D,e,z11⟩:=c1;dsimp only at hm o c p;subst hm;subst o;have hl:l1=#[g,i,j,m,some (.builtin n2),n]:=by obtain⟨l⟩:=l1;have f:l=_:=s;rw[f]
   subst hl;exact⟨b,x,z1,y,z2,z,A,B,D,e,d1,g,i,j,m,n,_,X _ _ g1,.of_isNs (PySem.W.isNs_of_in X c),PySem.W.nsMap_none_of_in X c p,PySem.W.tail_of_in X w⟩
  ·cases q
 ·cases q
def zF (X:Cx) (E:XK):Prop:=∀(pins:List (Addr×Obj)) (σ:St) (H:Hp) (s:Shared) (h':Heap) (ea:Addr) (cls:Value) (vs:List Value),Inv X pins σ H s->Heap.MadeExcOf s.heap h' ea cls vs->E cls none H->X.xe (.ref ea) { s with heap:=h' }
def JF (C:Addr) (E:XK) (t:TA):TS:=λ_ σ H=>t σ H λvs H1=>vs.length<=sizeLine/\E (.ref C) none H1
theorem El {B a:String} {bm:List Value} {m:Pos} {t:TA} (hc:X.calm=true) (M:zF X E) (FB:ExcBaseFacts B newId a bm) (n:Gl X x) (hm:X.mg x=some (.ref C)) (o:PySem.W.excIn X.K C bm newId=true)
  (ha:PA X (e::es) t) (c:(x==("__debug__":Str))=false:=by decide) (j:starEach (e::es) X.env=(false,eval e X.env)::starEach es X.env:=by rfl) (f:(backTo cpos (starEach es X.env)).any (·.1)=false:=by rfl) :
  PS X (.Raise (some (.Call (.Name x m) (e::es) [] cpos)) none pos) (JF C E t):=by
 intro pins s σ H D I h;obtain⟨tl,N,nm,q,bs,hdct,sn,sub,ab,col,dd,k0,k1,k2,k3,k5,mN,g,p,i,T⟩:=Hu I.mod.kin o;refine wpAny_Raise_call_subT (C:=C) (nm:=nm) (q:=q) (N:=N) (bs:=bs) (bm:=tl) (hdct:=hdct) (sn:=sn) (sub:=sub) (ab:=ab) (col:=col) (dd:=dd) (k0:=k0) (k1:=k1) (k2:=k2) (k3:=k3) (k5:=k5)
  FB (mN:=mN) (T.hasType FB.hasBase) (I.ok.hd hc) (by rw[j];show (false||(backTo cpos (starEach es X.env)).any (·.1))=false;rw[f];rfl) i (oP I n hm ⟨rfl,?_⟩ c)
 have l:=ha cpos pins s σ H _ I h;rw[j]at l ⊢;refine Calls.evalArgs_plain (wpAny_mono l (λus s2 h2=>?_) λ_ _ y=>y);obtain⟨vs,H2,b,r,z,u⟩:=h2;exact⟨rfl,by rw[<-r.length];exact z,b.bk _ _ g,p.keeps b.bk,T.keeps b.bk,λh' ea v=>M pins σ H2 s2 h' ea _ _ b v u⟩
theorem g9 (h:H D=none):aw H (upd H D o):=λb u e=>by rw[az (aJ e h)];exact e
theorem aw.put (s:aw H H') (h:H D=none):aw H (upd H' D o):=λb u e=>by rw[az (aJ e h)];exact s b u e
mutual
def fz:PyData->Bool
 |.list _=>false
 |.tuple ds=>kX ds
 |.dict _=>false
 |_=>true
def kX:List PyData->Bool
 |[]=>true
 |d::ds=>fz d&&kX ds
end
theorem set_own (σ:St) (x:Option V) (v:V) (a:St) (h:a.length=1):(σ++a).set σ.length (some v)=σ++[some v]:=by obtain⟨y,rfl⟩:=List.length_eq_one_iff.mp h;simp
structure Rows (H H':Hp) (D:Addr) (qs:List Addr) (rs:List (List Int)):Prop where
 d:H' D=some (.lst (qs.map V.ref))
 len:qs.length=rs.length
 at':∀(i:Nat) q r,qs[i]?=some q->rs[i]?=some r->H' q=some (.lst (r.map V.int))
 new:∀q∈qs,H q=none
 nd:qs.Nodup
 nD:D∉qs
section
variable {A:Around} {E:Value->Shared->Prop}
theorem xT {t:Addr} {a:Array Value} {x:Value} (hi:s.heap.IsTupleIter it t i) (e:s.heap.IsTuple t a) (f:a[i]?=some x)
  (g:∀h',h'.IsTupleIter it t (i+1)->Heap.SameBut it s.heap h'->Q x { s with heap:=h' }):wpAny (model prog w) A (Builtin.SmallTypes.nextOf (.ref it)) Q E s:=by
 obtain⟨oi,c,h,b⟩:=id hi;obtain⟨ot,j,_,nt,l⟩:=e;unfold Builtin.SmallTypes.nextOf;refine wpAny_bind (wpAny_callSpecial?_slot (name:=Str.ofString "__next__") hi.typeIs F.slot_tuple_iterator_next (wpAny_call_entry F.slot_tuple_iterator_next hi.typeIs F.entry_tuple_iterator_next ?_ (F.args_tuple_iterator_next_1 _)));refine wpAny_bind (m:=field (.ref it) 0) (wpAny_field c b (x:=.ref t) rfl ?_);show wpAny (model prog w) _ (if (Value.ref t==Value.none)=true then _ else _) _ _ s;have n:¬ (Value.ref t==Value.none)=true:=λq=>NA q
 rw[if_neg n];refine wpAny_bind (m:=field (.ref it) 1) (wpAny_field c b (x:=.int i 0) rfl ?_);refine wpAny_bind (m:=seqItems? (.ref t)) (wpAny_seqItems j l ?_);simp only[NM,f];refine wpAny_bind (wpAny_setField c b (by simp) (wpAny_pure ⟨x,rfl,wpAny_pure (g _ ⟨_,OH _ c (Obj.isFreed_of_fields (Obj.data_mapFields b _)),(Obj.cls_mapFields ..).trans h,?_⟩ (Heap.SameBut.update ..))⟩));rw[Obj.data_mapFields b];simp[rawInt]
theorem qz {t:Addr} {c:Array Value} (h:A.handled=none) (hi:s.heap.IsTupleIter it t i) (j:s.heap.IsTuple t c) (l:c[i]?=none)
  (n:∀h' e,Heap.ExtBut it s.heap h'->(∃o,h'.get? e=some o/\o.cls=.type "StopIteration")->E (.ref e) { s with heap:=h' }):wpAny (model prog w) A (Builtin.SmallTypes.nextOf (.ref it)) Q E s:=by
 obtain⟨oi,f,ci,g⟩:=id hi;obtain⟨ot,p,_,nt,r⟩:=j;unfold Builtin.SmallTypes.nextOf;refine wpAny_bind (wpAny_callSpecial?_slot (name:=Str.ofString "__next__") hi.typeIs F.slot_tuple_iterator_next (wpAny_call_entry F.slot_tuple_iterator_next hi.typeIs F.entry_tuple_iterator_next ?_ (F.args_tuple_iterator_next_1 _)));refine wpAny_bind (m:=field (.ref it) 0) (wpAny_field f g (x:=.ref t) rfl ?_);show wpAny (model prog w) _ (if (Value.ref t==Value.none)=true then _ else _) _ _ s;have u:¬ (Value.ref t==Value.none)=true:=λq=>NA q
 rw[if_neg u];refine wpAny_bind (m:=field (.ref it) 1) (wpAny_field f g (x:=.int i 0) rfl ?_);refine wpAny_bind (m:=seqItems? (.ref t)) (wpAny_seqItems p r ?_);simp only[NM,l];refine wpAny_bind (wpAny_rule (wpAny_bind (wpAny_setField f g (by simp) ?_)));refine wpAny_bind (m:=newExc (.type "StopIteration") []) ?_;unfold newExc newTuple;refine wpAny_bind (wpAny_newObj_type ?_ (by size_fits ));refine wpAny_bind (m:=firstArgMember _ _) (wpAny_of_eq (a:=Value.none) (by first|rfl|(unfold firstArgMember;rfl)) ?_);refine wpAny_newObj_type ?_ (by size_fits );unfold raiseNew;refine wpAny_bind (wpAny_handled ?_)
 first|rw[show A.in1.handled=none from h]|rw[h]
 refine wpAny_bind (wpAny_pure (wpAny_throw ?_));refine n _ _ (λb o v e=>?_) ⟨_,Np _ rfl,rfl⟩;exact N1 _ (N1 _ ((NZ _ _ (Ne.symm v)).trans e))
theorem mQ (j:A.handled=none) (it t:Addr) (c:t≠it) (a:Array Value):Draws prog w A it [it,t] a.size (λi v=>a[i]?=some v) (λi h=>h.IsTupleIter it t i/\h.IsTuple t a) where
 live:=λ_ _ st=>by obtain⟨⟨o,g,_⟩,_⟩:=st;exact⟨o,g⟩
 frame:=λ_ _ _ st k=>by obtain⟨⟨o,g,r⟩,⟨b,g2,e⟩⟩:=st;exact⟨⟨o,k it (by simp) o g,r⟩,⟨b,k t (by simp) b g2,e⟩⟩
 item:=λi s Q E hi st l=>xT st.1 st.2 (x:=a[i]) (by simp[hi]) λh' i' f=>by refine l _ h' s.toks (by simp[hi]) ⟨i',?_⟩ f;obtain⟨b,g2,e⟩:=st.2;exact⟨b,(f.2 t c).trans g2,e⟩
 done:=λs Q E st m=>qz j st.1 st.2 (by simp) m
end
structure nU (z TI TO i1 i2:Addr) (f1 f2:List Addr):Prop where
 TIz:TI≠z
 TOz:TO≠z
 z1:i1≠z
 z2:i2≠z
 TIO:TI≠TO
 TI1:TI≠i1
 TI2:TI≠i2
 TO1:TO≠i1
 TO2:TO≠i2
 i12:i1≠i2
 a1:∀b∈f1,b≠z/\b≠TO/\b≠i2
 a2:∀b∈f2,b≠z/\b≠TO/\b≠i1
section
variable {A:Around} {E:Value->Shared->Prop} {z TI TO i1 i2:Addr} {f1 f2:List Addr} {n1 n2 k:Nat} {P1 P2:Nat->Value->Prop} {S1 S2:Nat->Heap->Prop} {a b:Value}
theorem Dm (n:Draws prog w A i1 f1 n1 P1 S1) (p:Draws prog w A i2 f2 n2 P2 S2) (Z:nU z TI TO i1 i2 f1 f2) (h:IsZip s.heap z TI TO .none) (Y:IsPair s.heap TI (.ref i1) (.ref i2)) (hO:IsPair s.heap TO a b)
  (D:S1 k s.heap) (F:S2 k s.heap) (k1:k<n1) (k2:k<n2)
  (hQ:∀h' x y tk,P1 k x->P2 k y->IsZip h' z TI TO (rawInt s.heap.objs.size)->IsPair h' TO x y->S1 (k+1) h'->S2 (k+1) h'->IsPair h' s.heap.objs.size x y ->
   (∀c o,c≠z->c≠TO->c≠i1->c≠i2->s.heap.get? c=some o->h'.get? c=some o)->Q (.ref s.heap.objs.size) { s with heap:=h',toks:=tk }) :
  wpAny (model prog w) A (Builtin.«zip.__next__» ⟨[.ref z],[]⟩) (λfin s'=>∃v,fin=.done (.ret v)/\Q v s') E s:=by
 refine wpAny_bind (m:=field (.ref z) 2) (wpAny_field h rfl (x:=.bool false) rfl ?_);refine wpAny_bind (m:=field (.ref z) 3) (wpAny_field h rfl (x:=.ref TI) rfl ?_);refine wpAny_bind (wpAny_seqItems Y rfl ?_);refine wpAny_bind (m:=Builtin.SmallTypes.ownedTupleIsFree (.ref z)) ?_;unfold Builtin.SmallTypes.ownedTupleIsFree;refine wpAny_bind (wpAny_field h rfl (x:=.none) rfl (wpAny_pure ?_));rw[if_pos (by rfl)];refine wpAny_bind (wpAny_rule (wpAny_bind (wpAny_field h rfl (x:=.ref TO) rfl (wpAny_bind (wpAny_setField_rec h (by simp) λg1 G e1=>?_)))));have G:IsZip g1 z TI TO .ellipsis:=G;refine wpAny_bind ?_;simp only[List.zipIdx_cons,List.zipIdx_nil,OV,List.forIn_nil];refine wpAny_bind (wpAny_bind (wpAny_onRaise (wpAny_bind (m:=Builtin.SmallTypes.nextOf (.ref i1)) ?_)));have u1:S1 k g1:=n.frame _ _ _ D λb f o e=>(e1.2 b (Z.a1 b f).1).trans e
 refine n.item k { s with heap:=g1 } _ _ k1 u1 λx g2 O px v1 e2=>wpAny_pure ?_
 have P:IsPair g2 TO a b:=(e2.2 TO Z.TO1).trans ((e1.2 TO Z.TOz).trans hO);refine wpAny_bind (wpAny_seqItems (s:={ s with heap:=g2,toks:=O }) P rfl (wpAny_bind (wpAny_updateSeq_pair P λH I i=>?_)));have I:IsPair H TO x b:=I;refine wpAny_bind (wpAny_letGo (wpAny_pure (wpAny_bind (wpAny_bind (wpAny_onRaise (wpAny_bind (m:=Builtin.SmallTypes.nextOf (.ref i2)) ?_))))));have u2:S2 k H:=p.frame _ _ _ F λb f o e=>(i.2 b (Z.a2 b f).2.1).trans ((e2.2 b (Z.a2 b f).2.2).trans ((e1.2 b (Z.a2 b f).1).trans e))
 refine p.item k { s with heap:=H,toks:=O } _ _ k2 u2 λy R J py v2 j=>wpAny_pure ?_
 have S:IsPair R TO x b:=(j.2 TO Z.TO2).trans I;refine wpAny_bind (wpAny_seqItems (s:={ s with heap:=R,toks:=J }) S rfl (wpAny_bind (wpAny_updateSeq_pair S λg q l=>?_)));have q:IsPair g TO x y:=q;refine wpAny_bind (wpAny_letGo (wpAny_pure (wpAny_pure (wpAny_bind (wpAny_seqItems (s:={ s with heap:=g,toks:=J }) q rfl (wpAny_bind (wpAny_newTuple ?_)))))));have sz:g.objs.size=s.heap.objs.size:=by rw[l.1,j.1,i.1,e2.1,e1.1]
 have T:IsZip g z TI TO .ellipsis:=(l.2 z Z.TOz.symm).trans ((j.2 z Z.z2.symm).trans ((i.2 z Z.TOz.symm).trans ((e2.2 z Z.z1.symm).trans G)));have K:∀c o,c≠z->c≠TO->c≠i1->c≠i2->s.heap.get? c=some o->g.get? c=some o:=λc o c1 r L M e =>
  (l.2 c r).trans ((j.2 c M).trans ((i.2 c r).trans ((e2.2 c L).trans ((e1.2 c c1).trans e))))
 have w1:S1 (k+1) g:=n.frame _ _ _ v1 λb f o e=>(l.2 b (Z.a1 b f).2.1).trans ((j.2 b (Z.a1 b f).2.2).trans ((i.2 b (Z.a1 b f).2.1).trans e))
 have w2:S2 (k+1) g:=p.frame _ _ _ v2 λb f o e=>(l.2 b (Z.a2 b f).2.1).trans e
 have zl:z<g.objs.size:=Nk T;refine wpAny_bind (m:=Builtin.SmallTypes.ownedTupleHandOut (.ref z) (.ref g.objs.size)) ?_;unfold Builtin.SmallTypes.ownedTupleHandOut;have y6:IsZip (g.push { cls:=.type "tuple",data:=.seq #[x,y] }) z TI TO .ellipsis:=N1 _ T;refine wpAny_bind (wpAny_setField_rec y6 (by simp) λg7 N U=>?_);have N:IsZip g7 z TI TO (rawInt g.objs.size):=N;refine wpAny_setField_rec N (by simp) λu B W=>?_
 have B:IsZip u z TI TO (rawInt g.objs.size):=B;have C:∀c o,c≠z->g.get? c=some o->u.get? c=some o:=λc o c1 e=>(W.2 c c1).trans ((U.2 c c1).trans (N1 _ e))
 have X:IsPair u g.objs.size x y:=(W.2 _ (O9 zl)).trans ((U.2 _ (O9 zl)).trans (Np _ rfl));refine wpAny_pure ⟨_,rfl,?_⟩;rw[sz]at B X;show Q (.ref g.objs.size) _;rw[sz];exact hQ u x y J px py B (C _ _ Z.TOz q) (n.frame _ _ _ w1 λb f o e=>C b o (Z.a1 b f).1 e) (p.frame _ _ _ w2 λb f o e=>C b o (Z.a2 b f).1 e) X λc o c1 r L M e=>C c o c1 (K c o c1 r L M e)
theorem Eg (j:Draws prog w A i1 f1 n1 P1 S1) (Z:nU z TI TO i1 i2 f1 f2) {Q:Fin->Shared->Prop} (f:IsZip s.heap z TI TO .none) (r:IsPair s.heap TI (.ref i1) (.ref i2)) (hO:IsPair s.heap TO a b) (g:S1 n1 s.heap)
  (u:∀h' e,(∀c o,c≠z->c≠TO->c≠i1->c≠i2->s.heap.get? c=some o->h'.get? c=some o)->(∃o,h'.get? e=some o/\o.cls=.type "StopIteration")->E (.ref e) { s with heap:=h' }) :
  wpAny (model prog w) A (Builtin.«zip.__next__» ⟨[.ref z],[]⟩) Q E s:=by
 refine wpAny_bind (m:=field (.ref z) 2) (wpAny_field f rfl (x:=.bool false) rfl ?_);refine wpAny_bind (m:=field (.ref z) 3) (wpAny_field f rfl (x:=.ref TI) rfl ?_);refine wpAny_bind (wpAny_seqItems r rfl ?_);refine wpAny_bind (m:=Builtin.SmallTypes.ownedTupleIsFree (.ref z)) ?_;unfold Builtin.SmallTypes.ownedTupleIsFree;refine wpAny_bind (wpAny_field f rfl (x:=.none) rfl (wpAny_pure ?_));rw[if_pos (by rfl)];refine wpAny_bind (wpAny_rule (wpAny_bind (wpAny_field f rfl (x:=.ref TO) rfl (wpAny_bind (wpAny_setField_rec f (by simp) λg1 h e1=>?_)))));have h:IsZip g1 z TI TO .ellipsis:=h;refine wpAny_bind ?_;simp only[List.zipIdx_cons,List.zipIdx_nil,OV,List.forIn_nil];refine wpAny_bind (wpAny_bind (wpAny_onRaise (wpAny_bind (m:=Builtin.SmallTypes.nextOf (.ref i1)) ?_)));have u1:S1 n1 g1:=j.frame _ _ _ g λb v o e=>(e1.2 b (Z.a1 b v).1).trans e
 refine j.done { s with heap:=g1 } _ _ u1 λg2 e x2 y=>?_
 obtain⟨oe,ge,l⟩:=y;have n:IsZip g2 z TI TO .ellipsis:=x2 _ _ Z.z1.symm h;have i:e≠z:=λq=>by subst q;rw[n]at ge;cases ge;simp at l
 refine wpAny_setField_rec n (by simp) λB _ p=>u B e (λc o c1 _ C _ q=>(p.2 c c1).trans (x2 _ _ C ((e1.2 c c1).trans q))) ⟨oe,(p.2 e i).trans ge,l⟩
theorem yT (i:Draws prog w A.in1 i1 f1 n1 P1 S1) (j:Draws prog w A.in1 i2 f2 n2 P2 S2) (Z:nU z TI TO i1 i2 f1 f2) {Q:Option Value->Shared->Prop} (g:IsZip s.heap z TI TO .none) (l:IsPair s.heap TI (.ref i1) (.ref i2)) (m:IsPair s.heap TO a b)
  (e:S1 k s.heap) (f:S2 k s.heap) (k1:k<n1) (k2:k<n2)
  (n:∀h' x y tk,P1 k x->P2 k y->IsZip h' z TI TO (rawInt s.heap.objs.size)->IsPair h' TO x y->S1 (k+1) h'->S2 (k+1) h'->IsPair h' s.heap.objs.size x y ->
   (∀c o,c≠z->c≠TO->c≠i1->c≠i2->s.heap.get? c=some o->h'.get? c=some o)->Q (some (.ref s.heap.objs.size)) { s with heap:=h',toks:=tk }):wpAny (model prog w) A (pyNext (.ref z)) Q E s:=by
 have h:s.TypeIs (.ref z) "zip":=⟨_,g,rfl⟩
 unfold pyNext;refine wpAny_bind (wpAny_attempt (wpAny_callSpecial?_slot (name:=Str.ofString "__next__") h F.slot_zip_next (wpAny_call_entry F.slot_zip_next h F.entry_zip_next (Dm i j Z g l m e f k1 k2 λh' x y tk p1 p2 c1 p q r u v=>?_) (F.args_zip_next_1 _))));exact wpAny_pure (n h' x y tk p1 p2 c1 p q r u v)
theorem qj (i:Draws prog w A.in1 i1 f1 n1 P1 S1) (Z:nU z TI TO i1 i2 f1 f2) {Q:Option Value->Shared->Prop} (g:IsZip s.heap z TI TO .none) (j:IsPair s.heap TI (.ref i1) (.ref i2)) (l:IsPair s.heap TO a b) (f:S1 n1 s.heap)
  (m:∀h',(∀c o,c≠z->c≠TO->c≠i1->c≠i2->s.heap.get? c=some o->h'.get? c=some o)->Q none { s with heap:=h' }):wpAny (model prog w) A (pyNext (.ref z)) Q E s:=by
 have h:s.TypeIs (.ref z) "zip":=⟨_,g,rfl⟩
 unfold pyNext;refine wpAny_bind (wpAny_attempt (wpAny_callSpecial?_slot (name:=Str.ofString "__next__") h F.slot_zip_next (wpAny_call_entry F.slot_zip_next h F.entry_zip_next (Eg i Z g j l f λh' e k0 n=>?_) (F.args_zip_next_1 _))));obtain⟨o,p,hc⟩:=n;exact wpAny_bind (wpAny_isInstance (T:="StopIteration") (b:=true) ⟨o,p,hc⟩ isSubtype_stop (wpAny_pure (m _ k0)))
abbrev zH1 (h:Heap) (t:Addr):Heap:=h.push { cls:=.type "tuple_iterator",data:=.fields #[.ref t,.int 0 0] }
abbrev zH2 (h:Heap) (t l:Addr):Heap:=(zH1 h t).push { cls:=.type "list_iterator",data:=.fields #[.ref l,.int 0 0] }
abbrev zH3 (h:Heap) (t l:Addr):Heap:=(zH2 h t l).push { cls:=.type "tuple",data:=.seq #[.ref h.objs.size,.ref (zH1 h t).objs.size] }
abbrev zH4 (h:Heap) (t l:Addr):Heap:=(zH3 h t l).push { cls:=.type "tuple",data:=.seq #[.none,.none] }
abbrev zH5 (h:Heap) (t l:Addr):Heap:=(zH4 h t l).push { cls:=.type "zip",data:=.fields #[.none,.bool false,.bool false,.ref (zH2 h t l).objs.size,.ref (zH3 h t l).objs.size] }
theorem vS (t l:Addr) (xs ys:Array Value):Meets (Builtin.«zip.__new__» ⟨[.type "zip",.ref t,.ref l],[]⟩) (λ_ R s=>s.heap.IsTuple t xs/\s.heap.IsList l ys/\R (.ok (.ret (.ref (zH4 s.heap t l).objs.size))) { s with heap:=zH5 s.heap t l }) :=
 .of_wp λprog w A R s h=>by
  obtain⟨c,g,d,tk,os⟩:=s;obtain⟨e,hl,h⟩:=h;have sb:isSubtype (.type "zip") (.type "zip")=pure true:=by rw[isSubtype_type];kernel_rfl
  have a:Heap.IsTuple (Shared.heap ⟨c,g,d,tk,os⟩) t xs:=e;have b:Heap.IsList (Shared.heap ⟨c.push { cls:=.type "tuple_iterator",data:=.fields #[.ref t,.int 0 0] },g,d,tk,os⟩) l ys:=Heap.IsList.push hl _
  wp_walk using wpAny_pyIter_tuple a,wpAny_pyIter_list b
  exact⟨_,rfl,h⟩
theorem xX {t l:Addr} {xs ys:Array Value} (a:s.heap.IsTuple t xs) (hl:s.heap.IsList l ys) (h:Q (.ref (zH4 s.heap t l).objs.size) { s with heap:=zH5 s.heap t l }) :
  wpAny (model prog w) A (call (.type "zip") [.ref t,.ref l]) Q E s:=by
 refine callType_new F.called_zip (by decide) (F.typeCall_zip_2 _ _) (F.newCall_zip_2 _ _) (λobj=>F.args_object_init_3 obj _ _) F.entry_zip_new (vS t l xs ys) ⟨a,hl,?_⟩;exact⟨⟨_,Np _ rfl,rfl⟩,h⟩
end
section
variable {σ:L2.St}
theorem Inv.turnLay {t':Nat} {T:Addr} (I:Inv X pins σ H s) (g:∀b∈ch,qO X pins H b) (h:s.heap.objs.size<=T) (k:∀b u,b∉ch->s.heap.get? b=some u->h'.get? b=some u)
  (new:dh X.prog X.w (upd H T o) h' T o):Inv X pins σ (upd H T o) { s with heap:=h',toks:=t' }:=by
 have hn:H T=none:=I.hok.fresh h;have a:∀b u,H b=some u->b∉ch:=λb u e z=>by rw[(g b z).1]at e;cases e
 have neT:∀b u,s.heap.get? b=some u->b≠T:=λb u e=>Nq (Nt (Nk e) h)
 refine I.step (g':=s.gens) (d':=s.drawn) (ch:=ch) (λb f=>?_) (λb u _ _ hc e _=>k b u hc e) (λb u _ _ hc e _=>⟨u.slots,k b u hc e⟩) (λb u _ e n=>by rw[az (neT b u e)];exact n)
  (λb u hc e=>⟨u,k b u hc e⟩) (λb xs e=>by rw[az (aJ e hn)];exact e) (λb u v e=>by rw[az (aJ e hn)];exact e) (λb ps e=>by rw[az (aJ e hn)];exact e) (λm hm=>?_) (λb u e=>?_) I.bare
 ·obtain⟨f0,f1,f2,j,l,p⟩:=g b f;exact⟨j,f1,l,p⟩
 ·obtain⟨i,es,x,y,r⟩:=hm;exact⟨i,es,x,k _ i (λz=>(g _ z).2.1 rfl) y,r⟩
 ·by_cases f:b=T
  ·subst f;rw[aE]at e;cases e;exact new
  ·rw[az f]at e;refine (I.hok b u e).stay (λc v hc q=>k c v ?_ q) (λc q=>by rw[az (aJ q hn)];exact q) (λc xs q=>by rw[az (aJ q hn)];exact q) λc o' w' q=>by rw[az (aJ q hn)];exact q
   rcases hc with z|z
   ·rw[z];exact a b u e
   ·exact a c _ z
theorem Inv.turneds {t':Nat} (I:Inv X pins σ H s) (f:∀b∈ch,qO X pins H b) (k:∀b u,b∉ch->s.heap.get? b=some u->h'.get? b=some u):Inv X pins σ H { s with heap:=h',toks:=t' }:=by
 have a:∀b u,H b=some u->b∉ch:=λb u e z=>by rw[(f b z).1]at e;cases e
 refine I.step (g':=s.gens) (d':=s.drawn) (ch:=ch) (λb h=>?_) (λb u _ _ hc e _=>k b u hc e) (λb u _ _ hc e _=>⟨u.slots,k b u hc e⟩) (λb u _ e n=>n)
  (λb u hc e=>⟨u,k b u hc e⟩) (λb xs e=>e) (λb u v e=>e) (λb ps e=>e) (λm hm=>?_) (λb u e=>?_) I.bare
 ·obtain⟨f0,f1,f2,i,j,l⟩:=f b h;exact⟨i,f1,j,l⟩
 ·obtain⟨g,es,o,p,r⟩:=hm;exact⟨g,es,o,k _ g (λz=>(f _ z).2.1 rfl) p,r⟩
 ·refine (I.hok b u e).stay (λc v hc q=>k c v ?_ q) (λ_ q=>q) λ_ _ q=>q
  rcases hc with z|z
  ·rw[z];exact a b u e
  ·exact a c _ z
end
def Itz (K:PySem.W.Frag) (a b:Addr) (n:Nat):It :=
 ⟨λi H=>i<n/\∃xs ys,SqT K H a xs/\SqL K H b ys/\xs.length=n/\ys.length=n,
  λi H v H'=>∃t x y,v=.ref t/\H t=none/\H'=upd H t (.tup [x,y])/\(∀xs,SqT K H a xs->xs[i]?=some x)/\∀ys,SqL K H b ys->ys[i]?=some y,
  λi H=>i=n/\∃xs ys,SqT K H a xs/\SqL K H b ys/\xs.length=n/\ys.length=n⟩
theorem C9 {z TI TO i1 i2:Addr} {n:Nat} (Z:nU z TI TO i1 i2 [i1,a] [i2,b]) :
  Turn P w K (.Tuple elts x1 tp) (Itz K a b n) [z,TI,TO,i1,i2] z (λi h=>IsZip h z TI TO .none/\IsPair h TI (.ref i1) (.ref i2)/\(∃u v,IsPair h TO u v)/\h.IsTupleIter i1 a i/\h.IsListIter i2 b i) where
 mem:=by simp
 obj:=λi h st c hc=>by
  obtain⟨h1,h2,⟨u,v,r⟩,⟨B,j,_,d4⟩,⟨D,m,_,d5⟩⟩:=st;simp only[N5,Ny,or_false]at hc;rcases hc with rfl|rfl|rfl|rfl|rfl
  ·exact⟨_,h1,λv q=>by cases q⟩
  ·exact⟨_,h2,λv q=>by cases q⟩
  ·exact⟨_,r,λv q=>by cases q⟩
  ·exact⟨_,j,λv q=>by rw[d4]at q;cases q⟩
  ·exact⟨_,m,λv q=>by rw[d5]at q;cases q⟩
 keep:=λi h h' st k=>by obtain⟨h1,h2,⟨u,v,r⟩,⟨B,j,r4⟩,⟨D,m,r5⟩⟩:=st;exact⟨k z (by simp) _ h1,k TI (by simp) _ h2,⟨u,v,k TO (by simp) _ r⟩,⟨B,k i1 (by simp) _ j,r4⟩,⟨D,k i2 (by simp) _ m,r5⟩⟩
 item:=by
  intro X hP hw hK hc i pins s σ H E I S st hg;subst hP hw hK;obtain⟨hi,xs,ys,T,hy,lx,ly⟩:=hg;obtain⟨h1,h2,⟨u,v,r⟩,F,U⟩:=st;obtain⟨f,Y,p,_⟩:=I.tuple T;obtain⟨J,L,p',_⟩:=I.list hy;have la:=Y.length;have lb:=L.length;have hh:X.A.in1.handled=none:=I.ok.hd hc;have na:a≠i1:=λq=>by obtain⟨o,g,c,_⟩:=p;obtain⟨B,j,M,_⟩:=F;rw[q,j]at g;cases g;rw[M]at c;exact absurd (Value.type.inj c) (by decide)
  have nb:b≠i2:=λq=>by obtain⟨o,n,g,c,_⟩:=p';obtain⟨D,m,c5,_⟩:=U;rw[q,m]at g;cases g;rw[c5]at c;exact absurd (Value.type.inj c) (by decide)
  have pt:s.heap.IsTuple a f.toArray:=p;refine yT (mQ hh i1 a na f.toArray) (Draws.list hh i2 b nb J.toArray) Z h1 h2 r ⟨F,pt⟩ ⟨U,p'.isList⟩ (by simp;omega) (by simp;omega) λh' x y tk px py c1 c2 c3 M c5 c6=>⟨_,rfl,?_⟩
  refine wpAny_letOwnedTupleGo_zip (s:={ s with heap:=h',toks:=tk }) c1 λh2' d1 d2=>?_
  have zl:z<s.heap.objs.size:=Nk h1;have G:∀c o,c≠z->h'.get? c=some o->h2'.get? c=some o:=λc o hc e=>(d2.2 c hc).trans e
  have nT:s.heap.objs.size≠z:=O9 zl;obtain⟨N,ex,rx⟩:∃N,xs[i]?=some N/\RelV N x:=by
   have l:i<xs.length:=by omega
   obtain⟨u',e1,e2⟩:=Y.get (My l);refine⟨xs[i],My l,?_⟩;have O:f[i]?=some x:=by simpa using px
   rw[e1]at O;cases O;exact e2
  obtain⟨Q,ey,ry⟩:∃Q,ys[i]?=some Q/\RelV Q y:=by
   have l:i<ys.length:=by omega
   obtain⟨u',e1,e2⟩:=L.get (My l);refine⟨ys[i],My l,?_⟩;have R:J[i]?=some y:=by simpa using py
   rw[e1]at R;cases R;exact e2
  have fr:H s.heap.objs.size=none:=I.hok.fresh (N7 _);refine⟨.ref s.heap.objs.size,upd H s.heap.objs.size (.tup [N,Q]),?_,rfl,⟨_,N,Q,rfl,fr,rfl,λxs' h=>by rw[I.tuple_inj h T];exact ex,λys' h=>by rw[I.list_inj h hy];exact ey⟩,?_,λc C=>?_⟩
  ·refine I.turnLay (t':=tk) (ch:=[z,TI,TO,i1,i2]) S (N7 _) (λc o hn e=>?_) ⟨by show 2<=sizeLine;decide,[x,y],.cons rx (.cons ry .nil),⟨_,G _ _ nT c5,rfl,rfl,_,rfl⟩⟩;simp only[N5,Ny,or_false,not_or]at hn;exact G c o hn.1 (c6 c o hn.1 hn.2.2.1 hn.2.2.2.1 hn.2.2.2.2 e)
  ·obtain⟨⟨B,j,r4⟩,_⟩:=c3;obtain⟨⟨D,m,r5⟩,_⟩:=M;exact⟨d1,G _ _ Z.TIz (c6 _ _ Z.TIz Z.TIO Z.TI1 Z.TI2 h2),⟨x,y,G _ _ Z.TOz c2⟩,⟨B,G _ _ Z.z1 j,r4⟩,⟨D,G _ _ Z.z2 m,r5⟩⟩
  ·have h0:=(S c C).1;obtain⟨oc,gc⟩:∃oc,s.heap.get? c=some oc:=by
    simp only[N5,Ny,or_false]at C;rcases C with rfl|rfl|rfl|rfl|rfl
    ·exact⟨_,h1⟩
    ·exact⟨_,h2⟩
    ·exact⟨_,r⟩
    ·obtain⟨B,j,_⟩:=F;exact⟨_,j⟩
    ·obtain⟨D,m,_⟩:=U;exact⟨_,m⟩
   rw[az (Nq (Nk gc))];exact h0
 done:=by
  intro X hP hw hK hc i pins s σ H E I S st hg;subst hP hw hK;obtain⟨hi,xs,ys,T,hy,lx,ly⟩:=hg;obtain⟨h1,h2,⟨u,v,r⟩,F,U⟩:=st;obtain⟨f,Y,p,_⟩:=I.tuple T;have la:=Y.length;have hh:X.A.in1.handled=none:=I.ok.hd hc;have na:a≠i1:=λq=>by obtain⟨o,g,c,_⟩:=p;obtain⟨B,j,M,_⟩:=F;rw[q,j]at g;cases g;rw[M]at c;exact absurd (Value.type.inj c) (by decide)
  have pt:s.heap.IsTuple a f.toArray:=p;have e:f.toArray.size=i:=by simp;omega
  refine qj (mQ hh i1 a na f.toArray) Z h1 h2 r ⟨by rw[e];exact F,pt⟩ λh' k=>⟨rfl,?_⟩
  refine I.turneds (t':=s.toks) (ch:=[z,TI,TO,i1,i2]) S λc o hn q=>?_
  simp only[N5,Ny,or_false,not_or]at hn;exact k c o hn.1 hn.2.2.1 hn.2.2.2.1 hn.2.2.2.2 q
 self:=λ_ _ _ _ _ st h=>wpAny_pyIter_zip st.1 h
theorem boot_zip:bootBuiltins "zip"=some (.type "zip"):=by decide +kernel
def M0 (K:PySem.W.Frag) (ta:TA):TI:=λσ H R=>ta σ H λvs H1=>∃a b xs ys,vs=[.ref a,.ref b]/\SqT K H1 a xs/\SqL K H1 b ys/\ys.length=xs.length/\R (Itz K a b xs.length) H1
theorem K2 {a b:Expr} (B:Gl X "zip") (hm:X.mg "zip"=none) (ha:PA X [a,b] ta) (C:starEach [a,b] X.env=[(false,eval a X.env),(false,eval b X.env)]:=by rfl) (r:starEach [b] X.env=[(false,eval b X.env)]:=by rfl) :
  PI X (.Tuple elts x1 tp) (.Call (.Name "zip" p) [a,b] [] pos) (M0 X.K ta):=by
 intro pins s σ H R I h;refine Call_ (fY I B hm boot_zip (PyProof.Rows.callWith_type1 (thn (ha pos pins s σ H _ I h) λus f w=>?_) (by rw[C,r]) (by rw[r];rfl)));obtain⟨vs,H1,u,D,E⟩:=w;obtain⟨l,m,xs,ys,e,F,G,hl,q⟩:=E;subst e;obtain⟨u1,u2,e1,J,L⟩:=vals2 D;subst e1;cases J;cases L;obtain⟨x,rv,pt,_⟩:=u.tuple F;obtain⟨jts,rw',pl,_⟩:=u.list G;have v:f.heap.IsTuple l x.toArray:=pt;have y:l<f.heap.objs.size:=by obtain⟨_,g,_⟩:=v;exact Nk g
 have bl:m<f.heap.objs.size:=by obtain⟨_,_,g,_⟩:=pl;exact Nk g
 refine xX v pl.isList ?_;have z1:(zH1 f.heap l).objs.size=f.heap.objs.size+1:=Heap.size_push ..;have z2:(zH2 f.heap l m).objs.size=f.heap.objs.size+2:=by rw[Heap.size_push,z1]
 have z3:(zH3 f.heap l m).objs.size=f.heap.objs.size+3:=by rw[Heap.size_push,z2]
 have z:(zH4 f.heap l m).objs.size=f.heap.objs.size+4:=by rw[Heap.size_push,z3]
 have A:IsZip (zH5 f.heap l m) (zH4 f.heap l m).objs.size (zH2 f.heap l m).objs.size (zH3 f.heap l m).objs.size .none:=Np _ rfl;have M:IsPair (zH5 f.heap l m) (zH3 f.heap l m).objs.size .none .none:=N1 _ (Np _ rfl);have N:IsPair (zH5 f.heap l m) (zH2 f.heap l m).objs.size (.ref f.heap.objs.size) (.ref (zH1 f.heap l).objs.size):=N1 _ (N1 _ (Np _ rfl));have g2:(zH5 f.heap l m).IsListIter (zH1 f.heap l).objs.size m 0:=⟨_,N1 _ (N1 _ (N1 _ (Np _ rfl))),rfl,rfl⟩
 have g1:(zH5 f.heap l m).IsTupleIter f.heap.objs.size l 0:=⟨_,N1 _ (N1 _ (N1 _ (N1 _ (Np _ rfl)))),rfl,rfl⟩
 have O:∀c o,f.heap.get? c=some o->(zH5 f.heap l m).get? c=some o:=λc o e=>N1 _ (N1 _ (N1 _ (N1 _ (N1 _ e))))
 have P:Inv X pins σ H1 { f with heap:=zH5 f.heap l m }:=u.kept (t':=f.toks) O;have Z:nU (zH4 f.heap l m).objs.size (zH2 f.heap l m).objs.size (zH3 f.heap l m).objs.size f.heap.objs.size (zH1 f.heap l).objs.size [f.heap.objs.size,l] [(zH1 f.heap l).objs.size,m]:=by
  rw[z1,z2,z3,z];have n:∀i j:Nat,i≠j->f.heap.objs.size+i≠f.heap.objs.size+j:=λi j h q=>h (Nat.add_left_cancel q)
  refine⟨n 2 4 (by decide),n 3 4 (by decide),n 0 4 (by decide),n 1 4 (by decide),n 2 3 (by decide),n 2 0 (by decide),n 2 1 (by decide),n 3 0 (by decide),n 3 1 (by decide),n 0 1 (by decide),λc hc=>?_,λc hc=>?_⟩
  ·simp only[N5,Ny,or_false]at hc;rcases hc with rfl|rfl
   ·exact⟨n 0 4 (by decide),n 0 3 (by decide),n 0 1 (by decide)⟩
   ·exact⟨Nq (Nt y (Oa _ _)),Nq (Nt y (Oa _ _)),Nq (Nt y (Oa _ _))⟩
  ·simp only[N5,Ny,or_false]at hc;rcases hc with rfl|rfl
   ·exact⟨n 1 4 (by decide),n 1 3 (by decide),n 1 0 (by decide)⟩
   ·exact⟨Nq (Nt bl (Oa _ _)),Nq (Nt bl (Oa _ _)),Nq bl⟩
 have big:∀c∈[(zH4 f.heap l m).objs.size,(zH2 f.heap l m).objs.size,(zH3 f.heap l m).objs.size,f.heap.objs.size,(zH1 f.heap l).objs.size],f.heap.objs.size<=c:=λc hc=>by
  simp only[N5,Ny,or_false]at hc;rcases hc with rfl|rfl|rfl|rfl|rfl
  ·rw[z];exact Oa _ _
  ·rw[z2];exact Oa _ _
  ·rw[z3];exact Oa _ _
  ·exact N7 _
  ·rw[z1];exact Oa _ _
 refine wpAny_pyIter_zip A ⟨_,_,_,_,H1,rfl,P,C9 Z,⟨A,N,⟨_,_,M⟩,g1,g2⟩,λc hc=>?_,q⟩;exact u.fpOk (big c hc) (u.hok.fresh (big c hc))
inductive Rs (α:Type) where
 |ok (a:α)
 |rz (C:Addr)
 |no
namespace Rs
def bind {α β:Type}:Rs α->(α->Rs β)->Rs β
 |ok a,f=>f a
 |rz C,_=>rz C
 |no,_=>no
def eE {α:Type}:Option α->Rs α
 |some a=>ok a
 |none=>no
def calm {α:Type}:Rs α->Rs α
 |ok a=>ok a
 |_=>no
@[simp]theorem ag (a:α) (f:α->Rs β):(ok a).bind f=f a:=rfl
@[simp]theorem dQ (C:Addr) (f:α->Rs β):(rz C).bind f=rz C:=rfl
@[simp]theorem bq (f:α->Rs β):(no:Rs α).bind f=no:=rfl
@[simp]theorem ai (a:α):eE (some a)=ok a:=rfl
@[simp]theorem JI:eE (none:Option α)=no:=rfl
@[simp]theorem cW (a:α):(ok a).calm=ok a:=rfl
end Rs
variable {gf:List PyData->Rs PyData}
def del (H:Hp) (A:List Addr):Hp:=λb=>if b∈A then none else H b
theorem Ao:del H []=H:=by funext b;simp[del]
theorem gZ (h:b∈A):del H A b=none:=by simp[del,h]
theorem aN (h:b∉A):del H A b=H b:=by simp[del,h]
theorem a9 (h:del H A b=some o):b∉A/\H b=some o:=by
 by_cases z:b∈A
 ·rw[gZ z]at h;cases h
 ·rw[aN z]at h;exact⟨z,h⟩
theorem ax:aw (del H A) H:=λ_ _ e=>(a9 e).2
theorem aw.del (s:aw H H'):aw (del H A) (L2.del H' A):=λb o e=>by obtain⟨z,e⟩:=a9 e;rw[aN z];exact s b o e
def Kx:HO->Bool
 |.lst _=>true
 |.dK _=>true
 |.dT _=>true
 |_=>false
def Ls (H:Hp) (A:List Addr):Prop:=∀a∈A,∃o,H a=some o/\Kx o=true
theorem Ls.same (h:Ls H A) (s:aw H H'):Ls H' A:=λa ha=>by obtain⟨o,e,q⟩:=h a ha;exact⟨o,s _ _ e,q⟩
theorem Ls.nil:Ls H []:=λ_ h=>by cases h
theorem Ls.new {p:Addr} (h:Ls H A) (a:H p=none):p∉A:=λz=>by obtain⟨xs,e,_⟩:=h p z;rw[a]at e;cases e
def aj (ns:List Int):PyData:=.dict [(.none,.list (ns.map .int))]
abbrev dtK (l:List ((Int×Int)×Int)):List (PyData×PyData):=(.bool true,.none)::l.map λp=>(.tuple [.int p.1.1,.int p.1.2],.int p.2)
abbrev dtO (l:List ((Int×Int)×Int)):HO:=.dT (l.map λp=>([.inl p.1.1,.inl p.1.2],V.int p.2))
def He (kvs:List (PyData×PyData)) (o:HO):Prop:=(∃l:List (Int×Int),kvs=l.map (λp=>(PyData.int p.1,PyData.int p.2))/\o=.dK (l.map λp=>(.inl p.1,V.int p.2)))\/∃l,kvs=dtK l/\o=dtO l
mutual
def Is (K:PySem.W.Frag) (H:Hp):PyData->V->Prop
 |.none,v=>v=.non
 |.bool b,v=>v=.bl b
 |.int i,v=>v=.int i
 |.str x,v=>v=.str x
 |.list ds,v=>∃a xs,v=.ref a/\H a=some (.lst xs)/\Iss K H ds xs
 |.tuple ds,v=>∃a xs,v=.ref a/\H a=some (.tup xs)/\Iss K H ds xs
 |.dict kvs,v=>((∃a ns,v=.ref a/\kvs=[(PyData.none,PyData.list (List.map PyData.int ns))]/\SqL K H a (List.map V.int ns)) \/
  ∃(a:Addr) (o:HO),v=.ref a/\He kvs o/\H a=some o) \/
  ∃(a C dx:Addr) (fs:List (Str×V)),v=.ref a/\H a=some (.ins C dx fs)/\fs.lookup ("@":Str)=none/\(Isk K H kvs (("",.int (C:Int))::fs)\/Isk K H kvs (("",.int (C:Int))::("@",.int (a:Int))::fs))
def Iss (K:PySem.W.Frag) (H:Hp):List PyData->List V->Prop
 |[],vs=>vs=[]
 |d::ds,vs=>∃v r,vs=v::r/\Is K H d v/\Iss K H ds r
def Isk (K:PySem.W.Frag) (H:Hp):List (PyData×PyData)->List (Str×V)->Prop
 |[],fs=>fs=[]
 |(k,d)::r,fs=>∃f v fs',fs=(f,v)::fs'/\k=.str f/\Is K H d v/\Isk K H r fs'
end
def ck (C a:Addr) (fds:List (Str×PyData)):PyData:=.dict ((.str "",.int (C:Int))::(.str "@",.int (a:Int))::fds.map λp=>(.str p.1,p.2))
def EW (C:Addr) (fds:List (Str×PyData)):PyData:=.dict ((.str "",.int (C:Int))::fds.map λp=>(.str p.1,p.2))
section
theorem bE {i:Int}:Is K H (.int i) (.int i):=by unfold Is;rfl
theorem is_bool {b:Bool}:Is K H (.bool b) (.bl b):=by unfold Is;rfl
theorem is_none:Is K H .none .non:=by unfold Is;rfl
theorem Fz:Is K H (.str x) (.str x):=by unfold Is;rfl
theorem iz (h:H a=some (.tup xs)) (h2:Iss K H ds xs):Is K H (.tuple ds) (.ref a):=by unfold Is;exact⟨a,xs,rfl,h,h2⟩
theorem jK (h:H a=some (.lst xs)) (h2:Iss K H ds xs):Is K H (.list ds) (.ref a):=by unfold Is;exact⟨a,xs,rfl,h,h2⟩
theorem BQ (h:SqL K H a (ns.map V.int)):Is K H (aj ns) (.ref a):=by unfold aj Is;exact .inl (.inl ⟨a,ns,rfl,rfl,h⟩)
theorem cJ:Iss K H [] []:=by unfold Iss;rfl
theorem cw {d:PyData} (h:Is K H d v) (h2:Iss K H ds vs):Iss K H (d::ds) (v::vs):=by unfold Iss;exact⟨v,vs,rfl,h,h2⟩
theorem jd {d:PyData} (h:Is K H d v):Iss K H [d] [v]:=cw h cJ
theorem Is.ofInt {i:Int} (h:Is K H (.int i) v):v=.int i:=by unfold Is at h;exact h
theorem Is.ofBool {i:Bool} (h:Is K H (.bool i) v):v=.bl i:=by unfold Is at h;exact h
theorem Is.ofNone (h:Is K H .none v):v=.non:=by unfold Is at h;exact h
theorem Is.ofStr (h:Is K H (.str x) v):v=.str x:=by unfold Is at h;exact h
theorem Is.ofTup (h:Is K H (.tuple ds) v):∃a xs,v=.ref a/\H a=some (.tup xs)/\Iss K H ds xs:=by unfold Is at h;exact h
theorem Is.ofLst (h:Is K H (.list ds) v):∃a xs,v=.ref a/\H a=some (.lst xs)/\Iss K H ds xs:=by unfold Is at h;exact h
theorem Is.ofScript (h:Is K H (aj ns) v):∃a,v=.ref a/\SqL K H a (ns.map V.int):=by
 unfold aj Is at h;rcases h with (h|⟨a,l,_,e,_⟩)|⟨a,C,dx,fs,_,_,_,h|h⟩
 case inl.inr=>rcases e with⟨m,e,_⟩|⟨m,e,_⟩ <;> first|(cases e;done)|(cases m <;> cases e)
 case inr.inl=>unfold Isk at h;obtain⟨f,_,_,_,h,_⟩:=h;cases h
 case inr.inr=>unfold Isk at h;obtain⟨f,_,_,_,h,_⟩:=h;cases h
 obtain⟨a,g,e,e2,h⟩:=h;have i:ns.map PyData.int=g.map PyData.int:=by injection e2 with e2 _;injection e2 with _ e2;injection e2
 have j:ns=g:=by
  have inj:∀(a b:List Int),a.map PyData.int=b.map PyData.int->a=b:=by
   intro a
   induction a with
   |nil=>intro b c;cases b with|nil=>rfl|cons _ _=>simp at c
   |cons x r ih =>
    intro b c;cases b with
    |nil=>simp at c
    |cons y s =>simp only[N0,List.cons.injEq,PyData.int.injEq]at c;rw[c.1,ih s c.2]
  exact inj _ _ i
 subst j;exact⟨a,e,h⟩
theorem Iss.nil_of (h:Iss K H [] vs):vs=[]:=by unfold Iss at h;exact h
theorem Iss.cons_of {d:PyData} (h:Iss K H (d::ds) vs):∃v r,vs=v::r/\Is K H d v/\Iss K H ds r:=by unfold Iss at h;exact h
theorem Iss.length:∀{ds:List PyData} {vs:List V},Iss K H ds vs->vs.length=ds.length
 |[],_,h=>by rw[h.nil_of];rfl
 |_::_,_,h=>by obtain⟨v,r,e,_,h2⟩:=h.cons_of;rw[e,Nu,Nu,Iss.length h2]
mutual
theorem Is.same (e:aw H H'):∀{d:PyData} {v:V},Is K H d v->Is K H' d v
 |.none,_,h=>by unfold Is at h ⊢;exact h
 |.bool _,_,h=>by unfold Is at h ⊢;exact h
 |.int _,_,h=>by unfold Is at h ⊢;exact h
 |.str _,_,h=>by unfold Is at h ⊢;exact h
 |.list ds,_,h=>by unfold Is at h ⊢;obtain⟨a,xs,e1,h1,h2⟩:=h;exact⟨a,xs,e1,e _ _ h1,Iss.same e h2⟩
 |.tuple ds,_,h=>by unfold Is at h ⊢;obtain⟨a,xs,e1,h1,h2⟩:=h;exact⟨a,xs,e1,e _ _ h1,Iss.same e h2⟩
 |.dict _,_,h=>by
  unfold Is at h ⊢;rcases h with (⟨a,ns,e1,e2,h2⟩|⟨a,l,e1,e2,h2⟩)|⟨a,C,dx,fs,e1,h1,hn,h2|h2⟩
  ·exact .inl (.inl ⟨a,ns,e1,e2,e.seq h2⟩)
  ·exact .inl (.inr ⟨a,l,e1,e2,e _ _ h2⟩)
  ·exact .inr ⟨a,C,dx,fs,e1,e _ _ h1,hn,.inl (Isk.same e h2)⟩
  ·exact .inr ⟨a,C,dx,fs,e1,e _ _ h1,hn,.inr (Isk.same e h2)⟩
theorem Iss.same (e:aw H H'):∀{ds:List PyData} {vs:List V},Iss K H ds vs->Iss K H' ds vs
 |[],_,h=>by unfold Iss at h ⊢;exact h
 |d::ds,_,h=>by unfold Iss at h ⊢;obtain⟨v,r,e1,h1,h2⟩:=h;exact⟨v,r,e1,Is.same e h1,Iss.same e h2⟩
theorem Isk.same (e:aw H H'):∀{ds:List (PyData×PyData)} {fs:List (Str×V)},Isk K H ds fs->Isk K H' ds fs
 |[],_,h=>by unfold Isk at h ⊢;exact h
 |(k,d)::ds,_,h=>by unfold Isk at h ⊢;obtain⟨f,v,r,e1,e2,h1,h2⟩:=h;exact⟨f,v,r,e1,e2,Is.same e h1,Isk.same e h2⟩
end
theorem oT:Isk K H [] []:=by unfold Isk;rfl
theorem dS {f:Str} {d:PyData} {r:List (PyData×PyData)} {fs:List (Str×V)} (h:Is K H d v) (h2:Isk K H r fs):Isk K H ((.str f,d)::r) ((f,v)::fs):=by unfold Isk;exact⟨f,v,fs,rfl,rfl,h,h2⟩
theorem Je {fds:List (Str×PyData)} {fs:List (Str×V)} (h:H a=some (.ins C dx fs)) (hn:fs.lookup ("@":Str)=none) (h2:Isk K H (fds.map λp=>(.str p.1,p.2)) fs):Is K H (EW C fds) (.ref a):=by unfold EW Is;exact .inr ⟨a,C,dx,fs,rfl,h,hn,.inl (dS bE h2)⟩
theorem Fy {fds:List (Str×PyData)} {fs:List (Str×V)} (h:H a=some (.ins C dx fs)) (hn:fs.lookup ("@":Str)=none) (h2:Isk K H (fds.map λp=>(.str p.1,p.2)) fs):Is K H (ck C a fds) (.ref a):=by unfold ck Is;exact .inr ⟨a,C,dx,fs,rfl,h,hn,.inr (dS bE (dS bE h2))⟩
theorem IE (b:Ls H A) (h:H a=some (.tup xs)):del H A a=some (.tup xs):=by rw[aN (λq=>by obtain⟨ys,e2,c⟩:=b a q;rw[h]at e2;cases e2;cases c)];exact h
mutual
theorem Is.dl {A:List Addr} (b:Ls H A):∀{d:PyData} {v:V},fz d=true->Is K H d v->Is K (del H A) d v
 |.none,_,_,h=>by unfold Is at h ⊢;exact h
 |.bool _,_,_,h=>by unfold Is at h ⊢;exact h
 |.int _,_,_,h=>by unfold Is at h ⊢;exact h
 |.str _,_,_,h=>by unfold Is at h ⊢;exact h
 |.list _,_,n,_=>by unfold fz at n;cases n
 |.dict _,_,n,_=>by unfold fz at n;cases n
 |.tuple ds,_,n,h=>by unfold fz at n;obtain⟨a,xs,e,h1,h2⟩:=h.ofTup;subst e;exact iz (IE b h1) (Iss.dl b n h2)
theorem Iss.dl {A:List Addr} (a:Ls H A):∀{ds:List PyData} {vs:List V},kX ds=true->Iss K H ds vs->Iss K (del H A) ds vs
 |[],_,_,h=>by rw[h.nil_of];exact cJ
 |d::ds,_,n,h=>by unfold kX at n;obtain⟨n1,n2⟩:=O3.mp n;obtain⟨v,r,e,h1,h2⟩:=h.cons_of;subst e;exact cw (Is.dl a n1 h1) (Iss.dl a n2 h2)
end
mutual
def aI:PyData->Bool
 |.list ds=>dB ds
 |.tuple ds=>dB ds
 |.dict _=>false
 |_=>true
def dB:List PyData->Bool
 |[]=>true
 |d::ds=>aI d&&dB ds
end
mutual
theorem Is.isd:∀{d:PyData} {v:V},aI d=true->Is K H d v->IsD K H d v
 |.none,_,_,h=>by rw[h.ofNone];exact DD
 |.bool _,_,_,h=>by rw[h.ofBool];exact FI
 |.int _,_,_,h=>by rw[h.ofInt];exact um
 |.str _,_,_,h=>by rw[h.ofStr];exact Ic
 |.list ds,_,n,h=>by unfold aI at n;obtain⟨a,xs,e,h1,h2⟩:=h.ofLst;subst e;exact vC (SqL.of h1) (Iss.isd n h2)
 |.tuple ds,_,n,h=>by unfold aI at n;obtain⟨a,xs,e,h1,h2⟩:=h.ofTup;subst e;exact Gs (SqT.of h1) (Iss.isd n h2)
 |.dict _,_,n,_=>by unfold aI at n;cases n
theorem Iss.isd:∀{ds:List PyData} {vs:List V},dB ds=true->Iss K H ds vs->eU K H ds vs
 |[],_,_,h=>by rw[h.nil_of];exact rg
 |d::ds,_,n,h=>by unfold dB at n;obtain⟨n1,n2⟩:=O3.mp n;obtain⟨v,r,e,h1,h2⟩:=h.cons_of;subst e;exact sy (Is.isd n1 h1) (Iss.isd n2 h2)
end
def gj:PyData->Bool
 |.none=>true
 |.bool _=>true
 |.int _=>true
 |.str _=>true
 |_=>false
theorem IsD.is {d:PyData} (n:gj d=true) (h:IsD K H d v):Is K H d v:=by
 cases d with
 |none=>rw[h.ofNone];exact is_none
 |bool _=>rw[h.ofBool];exact is_bool
 |int _=>rw[h.ofInt];exact bE
 |str _=>rw[h.ofStr];exact Fz
 |_=>cases n
theorem yZ {d:PyData} (n:gj d=true):fz d=true:=by
 cases d with
 |list _=>cases n
 |tuple _=>cases n
 |dict _=>cases n
 |_=>unfold fz;rfl
theorem Iss.get:∀{ds:List PyData} {vs:List V} {i:Nat} {v:V},Iss K H ds vs->vs[i]?=some v->∃d,ds[i]?=some d/\Is K H d v
 |[],_,i,v,h,e=>by rw[h.nil_of]at e;simp at e
 |d::ds,_,i,v,h,e=>by
  obtain⟨w,r,e1,h1,h2⟩:=h.cons_of;subst e1;cases i with
  |zero=>simp at e;subst e;exact⟨d,rfl,h1⟩
  |succ i=>simpa using Iss.get (i:=i) h2 (by simpa using e)
theorem Iss.getD:∀{ds:List PyData} {vs:List V} {i:Nat} {d:PyData},Iss K H ds vs->ds[i]?=some d->∃v,vs[i]?=some v/\Is K H d v
 |[],_,i,v,h,e=>by simp at e
 |d::ds,_,i,v,h,e=>by
  obtain⟨w,r,e1,h1,h2⟩:=h.cons_of;subst e1;cases i with
  |zero=>simp at e;subst e;exact⟨w,rfl,h1⟩
  |succ i=>simpa using Iss.getD (i:=i) h2 (by simpa using e)
theorem Iss.append:∀{ds es:List PyData} {vs us:List V},Iss K H ds vs->Iss K H es us->Iss K H (ds++es) (vs++us)
 |[],_,_,_,h,h'=>by rw[h.nil_of];exact h'
 |d::ds,es,_,us,h,h'=>by obtain⟨v,r,e,h1,h2⟩:=h.cons_of;subst e;exact cw h1 (Iss.append h2 h')
theorem Iss.take:∀{ds:List PyData} {vs:List V} (n:Nat),Iss K H ds vs->Iss K H (ds.take n) (vs.take n)
 |[],_,n,h=>by rw[h.nil_of];simpa using cJ
 |d::ds,_,0,h=>by simpa using cJ
 |d::ds,_,n+1,h=>by obtain⟨v,r,e,h1,h2⟩:=h.cons_of;subst e;exact cw h1 (Iss.take n h2)
theorem Iss.drop:∀{ds:List PyData} {vs:List V} (n:Nat),Iss K H ds vs->Iss K H (ds.drop n) (vs.drop n)
 |[],_,n,h=>by rw[h.nil_of];simpa using cJ
 |d::ds,_,0,h=>h
 |d::ds,_,n+1,h=>by obtain⟨v,r,e,h1,h2⟩:=h.cons_of;subst e;exact Iss.drop n h2
theorem Iss.set {d:PyData} {v:V} (hv:Is K H d v):∀{ds:List PyData} {vs:List V} (i:Nat),Iss K H ds vs->Iss K H (ds.set i d) (vs.set i v)
 |[],_,n,h=>by rw[h.nil_of];simpa using cJ
 |e::ds,_,0,h=>by obtain⟨u,r,z,h1,h2⟩:=h.cons_of;subst z;exact cw hv h2
 |e::ds,_,n+1,h=>by obtain⟨u,r,z,h1,h2⟩:=h.cons_of;subst z;exact cw h1 (Iss.set hv n h2)
theorem Iss.eraseIdx:∀{ds:List PyData} {vs:List V} (i:Nat),Iss K H ds vs->Iss K H (ds.eraseIdx i) (vs.eraseIdx i)
 |[],_,n,h=>by rw[h.nil_of];simpa using cJ
 |e::ds,_,0,h=>by obtain⟨u,r,z,h1,h2⟩:=h.cons_of;subst z;exact h2
 |e::ds,_,n+1,h=>by obtain⟨u,r,z,h1,h2⟩:=h.cons_of;subst z;exact cw h1 (Iss.eraseIdx n h2)
theorem Iss.rep {ds:List PyData} {vs:List V} (h:Iss K H ds vs):∀k:Nat,Iss K H (List.replicate k ds).flatten (List.replicate k vs).flatten
 |0=>cJ
 |k+1=>by rw[Og,Og,Oq,Oq];exact h.append (Iss.rep h k)
theorem xg:∀(ns:List Int),Iss K H (ns.map PyData.int) (ns.map V.int)
 |[]=>cJ
 |_::r=>cw bE (xg r)
theorem Iss.ofInts:∀{ns:List Int} {vs:List V},Iss K H (ns.map PyData.int) vs->vs=ns.map V.int
 |[],_,h=>h.nil_of
 |n::r,_,h=>by obtain⟨v,t,e,h1,h2⟩:=h.cons_of;rw[e,h1.ofInt,Iss.ofInts h2];rfl
theorem Iss.ofBools:∀{ns:List Bool} {vs:List V},Iss K H (ns.map PyData.bool) vs->vs=ns.map V.bl
 |[],_,h=>h.nil_of
 |n::r,_,h=>by obtain⟨v,t,e,h1,h2⟩:=h.cons_of;rw[e,h1.ofBool,Iss.ofBools h2];rfl
theorem Is.isNone {d:PyData} (h:Is K H d v):(v=.non)↔d=.none:=by
 cases d with
 |none=>simp[h.ofNone]
 |bool b=>simp[h.ofBool]
 |int i=>simp[h.ofInt]
 |str x=>simp[h.ofStr]
 |list ds=>obtain⟨a,xs,e,_⟩:=h.ofLst;simp[e]
 |tuple ds=>obtain⟨a,xs,e,_⟩:=h.ofTup;simp[e]
 |dict _=>unfold Is at h;rcases h with (⟨a,ns,e,_⟩|⟨a,l,e,_⟩)|⟨a,C,dx,fs,e,_⟩ <;> simp[e]
theorem bz {p:Addr} (h:H p=none):aw H (upd H p o):=g9 h
theorem kz {p:Addr} (h:p∈A):del (upd H p o) A=del H A:=by
 funext b;by_cases z:b∈A
 ·rw[gZ z,gZ z]
 ·rw[aN z,aN z,az (by rintro rfl;exact z h)]
theorem mw {p:Addr} (b:Ls H A) (a:H p=none) (h:Iss K (del H A) ds xs):Is K (del (upd H p (.tup xs)) A) (.tuple ds) (.ref p) :=
 iz (by rw[aN (b.new a)];exact aE) (h.same (aw.del (bz a)))
theorem kq {p:Addr} (b:Ls H A) (a:H p=none) (h:Iss K (del H A) ds xs):Is K (del (upd H p (.lst xs)) A) (.list ds) (.ref p) :=
 jK (by rw[aN (b.new a)];exact aE) (h.same (aw.del (bz a)))
end
abbrev Ds:=List (Option PyData)
variable {tgt:PyData->Option Ds} {cond:Ds->Rs Bool} {δ:Ds} {ge:Ds->Rs PyData} {gs:Ds->Rs (List PyData)}
structure dq (K:PySem.W.Frag) (H:Hp) (A:List Addr) (δ:Ds) (σ:St):Prop where
 ls:Ls H A
 len:δ.length=σ.length
 get:∀(i:Nat) (d:PyData),δ[i]?=some (some d)->∃v,σ[i]?=some (some v)/\Is K (del H A) d v
theorem dq.same (R:dq K H A δ σ) (s:aw H H'):dq K H' A δ σ :=
 ⟨R.ls.same s,R.len,λi d e=>by obtain⟨v,e1,h⟩:=R.get i d e;exact⟨v,e1,h.same s.del⟩⟩
def hW (K:PySem.W.Frag) (E:XK) (A:List Addr) (H:Hp) (r:Rs PyData) (Q:VK):Prop:=match r with
 |.ok d=>∀v H',aw H H'->Is K (del H' A) d v->Q v H'
 |.rz C=>∀H',aw H H'->E (.ref C) none H'
 |.no=>False
def M4 (K:PySem.W.Frag) (E:XK) (A:List Addr) (H:Hp) (r:Rs (List PyData)) (Q:List V->Hp->Prop):Prop:=match r with
 |.ok d=>∀v H',aw H H'->Iss K (del H' A) d v->Q v H'
 |.rz C=>∀H',aw H H'->E (.ref C) none H'
 |.no=>False
def xP (E:XK) (H:Hp) (r:Rs Bool) (Q:Bool->Hp->Prop):Prop:=match r with
 |.ok d=>∀H',aw H H'->Q d H'
 |.rz C=>∀H',aw H H'->E (.ref C) none H'
 |.no=>False
def eD (K:PySem.W.Frag) (E:XK) (g:Ds->Rs PyData):TE:=λσ H Q=>∃A δ,dq K H A δ σ/\hW K E A H (g δ) Q
def aD (K:PySem.W.Frag) (E:XK) (g:Ds->Rs (List PyData)):TA:=λσ H Q=>∃A δ,dq K H A δ σ/\M4 K E A H (g δ) Q
def cD (K:PySem.W.Frag) (E:XK) (g:Ds->Rs Bool):TT:=λσ H Q=>∃A δ,dq K H A δ σ/\xP E H (g δ) Q
def PD (X:Cx) (E:XK) (e:Expr) (g:Ds->Rs PyData):Prop:=PE X e (eD X.K E g)
def PAD (X:Cx) (E:XK) (es:List Expr) (g:Ds->Rs (List PyData)):Prop:=PA X es (aD X.K E g)/\∀δ ds,g δ=.ok ds->ds.length=es.length
def PCD (X:Cx) (E:XK) (e:Expr) (g:Ds->Rs Bool):Prop:=PT X e (cD X.K E g)
def PWD (X:Cx) (E:XK) (e:Expr) (g:Ds->Rs Bool):Prop:=PW X e (cD X.K E g)
theorem PE.imp {t t':TE} (h:PE X e t) (k:∀σ H Q,t' σ H Q->t σ H Q):PE X e t':=λpins s σ H Q I q=>h pins s σ H Q I (k σ H Q q)
theorem PT.imp {t t':TT} (h:PT X e t) (k:∀σ H Q,t' σ H Q->t σ H Q):PT X e t':=λpins s σ H Q I q=>h pins s σ H Q I (k σ H Q q)
theorem PW.imp {t t':TT} (h:PW X e t) (k:∀σ H Q,t' σ H Q->t σ H Q):PW X e t':=λw pins s σ H Q I q=>h w pins s σ H Q I (k σ H Q q)
theorem PA.imp {e:List Expr} {t t':TA} (h:PA X e t) (k:∀σ H Q,t' σ H Q->t σ H Q):PA X e t':=λp pins s σ H Q I q=>h p pins s σ H Q I (k σ H Q q)
theorem PS.imp {e:Stmt} {t t':TS} (h:PS X e t) (k:∀D σ H,t' D σ H->t D σ H):PS X e t':=λpins s σ H D I q=>h pins s σ H D I (k D σ H q)
theorem PSs.imp {e:List Stmt} {t t':TS} (h:PSs X e t) (k:∀D σ H,t' D σ H->t D σ H):PSs X e t':=λpins s σ H D I q=>h pins s σ H D I (k D σ H q)
theorem hW.mono {r:Rs PyData} {Q:VK} (h:hW K E A H r Q) (s:aw H H1):hW K E A H1 r Q:=by
 cases r with
 |ok d=>exact λv H' s' q=>h v H' (s.trans s') q
 |rz C=>exact λH' s'=>h H' (s.trans s')
 |no=>exact h
theorem xP.mono {r:Rs Bool} {Q:Bool->Hp->Prop} (h:xP E H r Q) (s:aw H H1):xP E H1 r Q:=by
 cases r with
 |ok d=>exact λH' s'=>h H' (s.trans s')
 |rz C=>exact λH' s'=>h H' (s.trans s')
 |no=>exact h
theorem eD.run {g:Ds->Rs PyData} {Q:VK} (R:dq K H A δ σ)
  (ok:∀d,g δ=.ok d->∀v H',aw H H'->dq K H' A δ σ->Is K (del H' A) d v->Q v H') (rz:∀C,g δ=.rz C->∀H',aw H H'->E (.ref C) none H') (no:g δ=.no->False):eD K E g σ H Q:=by
 refine⟨A,δ,R,?_⟩;cases e:g δ with
 |ok d=>exact λv H' s q=>ok d e v H' s (R.same s) q
 |rz C=>exact λH' s=>rz C e H' s
 |no=>exact no e
theorem aD.run {g:Ds->Rs (List PyData)} {Q:List V->Hp->Prop} (R:dq K H A δ σ)
  (ok:∀d,g δ=.ok d->∀v H',aw H H'->dq K H' A δ σ->Iss K (del H' A) d v->Q v H') (rz:∀C,g δ=.rz C->∀H',aw H H'->E (.ref C) none H') (no:g δ=.no->False):aD K E g σ H Q:=by
 refine⟨A,δ,R,?_⟩;cases e:g δ with
 |ok d=>exact λv H' s q=>ok d e v H' s (R.same s) q
 |rz C=>exact λH' s=>rz C e H' s
 |no=>exact no e
theorem cD.run {g:Ds->Rs Bool} {Q:Bool->Hp->Prop} (R:dq K H A δ σ)
  (ok:∀d,g δ=.ok d->∀H',aw H H'->dq K H' A δ σ->Q d H') (rz:∀C,g δ=.rz C->∀H',aw H H'->E (.ref C) none H') (no:g δ=.no->False):cD K E g σ H Q:=by
 refine⟨A,δ,R,?_⟩;cases e:g δ with
 |ok d=>exact λH' s=>ok d e H' s (R.same s)
 |rz C=>exact λH' s=>rz C e H' s
 |no=>exact no e
def af (i:Nat):Ds->Rs PyData:=λδ=>match δ[i]? with
 |some (some d)=>.ok d
 |_=>.no
def gC (d:PyData):Ds->Rs PyData:=λ_=>.ok d
def g1 (f:PyData->Option PyData) (a:Ds->Rs PyData):Ds->Rs PyData:=λδ=>(a δ).bind λx=>Rs.eE (f x)
def g2 (f:PyData->PyData->Option PyData) (a b:Ds->Rs PyData):Ds->Rs PyData:=λδ=>(a δ).bind λx=>(b δ).bind λy=>Rs.eE (f x y)
def gF (f:List PyData->Option PyData) (as:Ds->Rs (List PyData)):Ds->Rs PyData:=λδ=>(as δ).bind λds=>Rs.eE (f ds)
def ah:Ds->Rs (List PyData):=λ_=>.ok []
def ae (a:Ds->Rs PyData) (r:Ds->Rs (List PyData)):Ds->Rs (List PyData):=λδ=>(a δ).bind λx=>(r δ).bind λxs=>.ok (x::xs)
def hZ (as:Ds->Rs (List PyData)):Ds->Rs PyData:=λδ=>(as δ).bind λds=>.ok (.tuple ds)
def jN (as:Ds->Rs (List PyData)):Ds->Rs PyData:=λδ=>(as δ).bind λds=>.ok (.list ds)
def aq (gf:List PyData->Rs PyData) (as:Ds->Rs (List PyData)):Ds->Rs PyData:=λδ=>(as δ).bind gf
def truth:PyData->Rs Bool
 |.bool b=>.ok b
 |_=>.no
def gT (a:Ds->Rs PyData):Ds->Rs Bool:=λδ=>(a δ).bind truth
def gD (a:Ds->Rs Bool):Ds->Rs Bool:=λδ=>(a δ).bind λb=>.ok (!b)
def rL (a b:Ds->Rs Bool):Ds->Rs Bool:=λδ=>(a δ).bind λx=>if x=true then b δ else .ok false
def cOr (a b:Ds->Rs Bool):Ds->Rs Bool:=λδ=>(a δ).bind λx=>if x=true then .ok true else b δ
def BY (a b:Ds->Rs PyData):Ds->Rs PyData:=λδ=>(a δ).bind λx=>(truth x).bind λt=>if t=true then b δ else .ok (.bool false)
def gOr (a b:Ds->Rs PyData):Ds->Rs PyData:=λδ=>(a δ).bind λx=>(truth x).bind λt=>if t=true then .ok (.bool true) else b δ
def Na (a:Ds->Rs PyData):Ds->Rs PyData:=λδ=>(a δ).bind λx=>(truth x).bind λt=>.ok (.bool (!t))
def gIf (c:Ds->Rs Bool) (a b:Ds->Rs PyData):Ds->Rs PyData:=λδ=>(c δ).bind λx=>if x=true then a δ else b δ
section
variable {a b c:Expr} {ga gb gc:Ds->Rs PyData}
theorem IL (i:Nat) (c:X.N[i]?=some x) (hv:Vis X.env.scope x) (hd:(x==("__debug__":Str))=false)
  (a:(x==("__classdict__":Str))=false):PD X E (.Name x pos) (af i) :=
 (j6 c hv hd a).imp λσ H Q b=>by
  obtain⟨A,δ,R,o⟩:=b;unfold af at o;split at o
  ·rename_i d e;obtain⟨v,e1,h⟩:=R.get i d e;exact⟨v,e1,o v H (aw.refl H) h⟩
  ·exact o.elim
theorem Dh {d:PyData} (h:PE X e (tC v)) (hi:∀K H,Is K H d v):PD X E e (gC d):=h.imp λσ H Q a=>(by obtain⟨A,δ,R,o⟩:=a;exact o v H (aw.refl H) (hi _ _))
theorem KQ {i j pos}:PD X E (.Constant (.int i) j pos) (gC (.int i)):=Dh f6 λ_ _=>bE
theorem Lp {i j pos}:PD X E (.Constant (.bool i) j pos) (gC (.bool i)):=Dh Mo λ_ _=>is_bool
theorem KW {j pos}:PD X E (.Constant .none j pos) (gC .none):=Dh Ke λ_ _=>is_none
theorem IK {i j pos}:PD X E (.Constant (.str i) j pos) (gC (.str i)):=Dh Kg λ_ _=>Fz
theorem F6 {i:Int} (hm:∃t,X.mg x=some (.int i t)) (a:Gl X x) (hd:(x==("__debug__":Str))=false):PD X E (.Name x pos) (gC (.int i)):=by obtain⟨t,hm⟩:=hm;exact Dh (G2 (v:=.int i) a hm ⟨_,rfl⟩ hd) λ_ _=>bE
def OpD (K:PySem.W.Frag) (f:PyData->PyData->Option PyData) (r:R2):Prop :=
 ∀(d1 d2 d:PyData) (x y:V) (H:Hp) (A:List Addr) (Q:VK),f d1 d2=some d->Ls H A->Is K (del H A) d1 x->Is K (del H A) d2 y->(∀v H',aw H H'->Is K (del H' A) d v->Q v H')->r x y H Q
theorem g2.read {r:R2} {Q:VK} (b:OpD K f r) (R:dq K H A δ σ) (o:hW K E A H (g2 f ga gb δ) Q) :
  tOp r (eD K E ga) (eD K E gb) σ H Q:=by
 unfold g2 at o;refine eD.run R (λd1 e1 v H1 a c h1=>?_) (λC e1 H' s'=>?_) (λe1=>?_)
 ·rw[e1]at o;refine eD.run c (λd2 e2 u H2 s2 R2 h2=>?_) (λC e2 H' s'=>?_) (λe2=>?_)
  ·simp only[Rs.ag,e2]at o;cases e3:f d1 d2 with
   |none=>rw[e3]at o;exact o.elim
   |some d =>rw[e3]at o;exact b d1 d2 d v u H2 A Q e3 R2.ls (h1.same s2.del) h2 λw H' s q=>o w H' (a.trans (s2.trans s)) q
  ·simp only[Rs.ag,e2,Rs.dQ]at o;exact o H' (a.trans s')
  ·simp only[Rs.ag,e2,Rs.bq]at o;exact o
 ·rw[e1]at o;exact o H' s'
 ·rw[e1]at o;exact o
theorem gW {r:R2} (g:OpD X.K f r) (ha:PD X E a ga) (h:PD X E b gb) (mk:∀{ta tb:TE},PE X a ta->PE X b tb->PE X e (tOp r ta tb)):PD X E e (g2 f ga gb) :=
 (mk ha h).imp λσ H Q c=>(by obtain⟨A,δ,R,o⟩:=c;exact g2.read g R o)
theorem l5 {r:R2} (g:OpD X.K f r) (ha:PD X E a ga) (i:PD X E b gb) (mk:∀{ta tb:TE},PE X a ta->PE X b tb->PT X e (Iw (tOp r ta tb))):PCD X E e (gT (g2 f ga gb)) :=
 (mk ha i).imp λσ H Q c=>by
  obtain⟨A,δ,R,o⟩:=c;refine g2.read (Q:=λx H'=>∃k,x=.bl k/\Q k H') g R ?_;unfold gT at o;cases q:g2 f ga gb δ with
  |no=>rw[q]at o;exact o
  |rz C=>rw[q]at o;exact o
  |ok d =>
   rw[q]at o;cases d with
   |bool k=>exact λv H' s h=>⟨k,h.ofBool,o H' s⟩
   |_=>exact o.elim
def dI (f:Int->Int->Option PyData):PyData->PyData->Option PyData
 |.int i,.int j=>f i j
 |_,_=>none
theorem AB {f:Int->Int->Option PyData} {d1 d2 d:PyData} (h:dI f d1 d2=some d):∃i j,d1=.int i/\d2=.int j/\f i j=some d:=by
 unfold dI at h;split at h
 ·exact⟨_,_,rfl,rfl,h⟩
 ·cases h
def fo:=dI λi j=>some (.int (i-j))
def eI:=dI λi j=>if 0<j then some (.int (i % j)) else none
def iR:=dI λi j=>if 0<j/\j<1073741824 then some (.int (i / j)) else none
def EU:=dI λi j=>if 0<=j/\j<=1000000/\i.natAbs<2 ^ 64 then some (.int (i ^ j.toNat)) else none
def dLt:=dI λi j=>some (.bool (decide (i<j)))
def dLe:=dI λi j=>some (.bool (decide (i<=j)))
def dGt:=dI λi j=>some (.bool (decide (j<i)))
def dGe:=dI λi j=>some (.bool (decide (j<=i)))
theorem kj {f:Int->Int->PyData} {v:Int->Int->V} (hv:∀i j K H,Is K H (f i j) (v i j)):OpD K (dI λi j=>some (f i j)) (rI0 v):=λd1 d2 d x y H A Q e hA h1 h2 k=>by obtain⟨i,j,rfl,rfl,e⟩:=AB e;cases e;exact⟨i,j,h1.ofInt,h2.ofInt,k _ H (aw.refl H) (hv _ _ _ _)⟩
theorem Fl {C a:Int->Int->Prop} [∀i j,Decidable (a i j)] {f:Int->Int->PyData} {v:Int->Int->V} (hc:∀i j,a i j->C i j) (hv:∀i j K H,Is K H (f i j) (v i j)):OpD K (dI λi j=>if a i j then some (f i j) else none) (rI C v):=λd1 d2 d x y H A Q e hA h1 h2 k=>by
 obtain⟨i,j,rfl,rfl,e2⟩:=AB e;by_cases z:a i j
 ·simp only[if_pos z]at e2;cases e2;exact⟨i,j,h1.ofInt,h2.ofInt,hc i j z,k _ H (aw.refl H) (hv _ _ _ _)⟩
 ·simp only[if_neg z]at e2;cases e2
theorem IU (ha:PD X E a ga) (c:PD X E b gb):PD X E (.BinOp a .Sub b pos) (g2 fo ga gb):=gW (kj λ_ _ _ _=>bE) ha c (eR JZ)
theorem Ju (ha:PD X E a ga) (c:PD X E b gb):PD X E (.BinOp a .Mod b pos) (g2 eI ga gb):=gW (Fl (λ_ _ h=>h) λ_ _ _ _=>bE) ha c (eR qN)
theorem KN (ha:PD X E a ga) (c:PD X E b gb):PD X E (.BinOp a .FloorDiv b pos) (g2 iR ga gb):=gW (Fl (C:=Lm) (λ_ _ h=>h) λ_ _ _ _=>bE) ha c (eR Gj)
theorem Ki (ha:PD X E a ga) (c:PD X E b gb):PD X E (.BinOp a .Pow b pos) (g2 EU ga gb):=gW (Fl (C:=Lz) (λ_ _ h=>h) λ_ _ _ _=>bE) ha c (eR Kq)
theorem LB (ha:PD X E a ga) (c:PD X E b gb):PD X E (.Compare a [.Lt] [b] pos) (g2 dLt ga gb):=gW (kj λ_ _ _ _=>is_bool) ha c λh1 h2=>pe D0 h1 h2 (jn _)
theorem Mv (ha:PD X E a ga) (c:PD X E b gb):PD X E (.Compare a [.LtE] [b] pos) (g2 dLe ga gb):=gW (kj λ_ _ _ _=>is_bool) ha c λh1 h2=>pe Ap h1 h2 (jn _)
theorem Jc (ha:PD X E a ga) (c:PD X E b gb):PCD X E (.Compare a [.Lt] [b] pos) (gT (g2 dLt ga gb)):=l5 (kj λ_ _ _ _=>is_bool) ha c λh1 h2=>kx D0 h1 h2 (jn _)
theorem JB (ha:PD X E a ga) (c:PD X E b gb):PCD X E (.Compare a [.LtE] [b] pos) (gT (g2 dLe ga gb)):=l5 (kj λ_ _ _ _=>is_bool) ha c λh1 h2=>kx Ap h1 h2 (jn _)
theorem Jy (ha:PD X E a ga) (c:PD X E b gb):PCD X E (.Compare a [.Gt] [b] pos) (gT (g2 dGt ga gb)):=l5 (kj λ_ _ _ _=>is_bool) ha c λh1 h2=>kx LW h1 h2 (jn _)
open PySem.SeqAt in
def dEq (x y:PyData):Option PyData:=if aI x&&aI y&&shaped x&&shaped y then some (.bool (PyData.eqv x y)) else none
open PySem.SeqAt in
def dNe (x y:PyData):Option PyData:=if aI x&&aI y&&shaped x&&shaped y then some (.bool (!PyData.eqv x y)) else none
open PySem.SeqAt in
theorem Fw:OpD K dEq (λx y H Q=>∃d e,IsD K H d x/\IsD K H e y/\shaped d=true/\shaped e=true/\Q (.bl (PyData.eqv d e)) H):=λd1 d2 d x y H A Q e hA h1 h2 k=>by
 unfold dEq at e;split at e
 ·rename_i z;simp only[N6]at z;cases e;exact⟨d1,d2,(h1.same ax).isd z.1.1.1,(h2.same ax).isd z.1.1.2,z.1.2,z.2,k _ H (aw.refl H) is_bool⟩
 ·cases e
open PySem.SeqAt in
theorem IM:OpD K dNe (λx y H Q=>∃d e,IsD K H d x/\IsD K H e y/\shaped d=true/\shaped e=true/\Q (.bl (!PyData.eqv d e)) H):=λd1 d2 d x y H A Q e hA h1 h2 k=>by
 unfold dNe at e;split at e
 ·rename_i z;simp only[N6]at z;cases e;exact⟨d1,d2,(h1.same ax).isd z.1.1.1,(h2.same ax).isd z.1.1.2,z.1.2,z.2,k _ H (aw.refl H) is_bool⟩
 ·cases e
theorem LH (c:X.A.units+64<cLine) (ha:PD X E a ga) (e:PD X E b gb):PD X E (.Compare a [.Eq] [b] pos) (g2 dEq ga gb):=gW Fw ha e λh1 h2=>pe (yw c) h1 h2 (jn _)
theorem II (c:X.A.units+64<cLine) (ha:PD X E a ga) (e:PD X E b gb):PCD X E (.Compare a [.Eq] [b] pos) (gT (g2 dEq ga gb)):=l5 Fw ha e λh1 h2=>kx (yw c) h1 h2 (jn _)
theorem Jd (c:X.A.units+64<cLine) (ha:PD X E a ga) (e:PD X E b gb):PCD X E (.Compare a [.NotEq] [b] pos) (gT (g2 dNe ga gb)):=l5 IM ha e λh1 h2=>kx (JO c) h1 h2 (jn _)
def eY:PyData->Bool
 |.none=>true
 |_=>false
def nz (x:PyData):Option PyData:=some (.bool (eY x))
def iJ (x:PyData):Option PyData:=some (.bool (!eY x))
theorem g1.read {tt:(VK)->VK} {f:PyData->Option PyData} {Q:VK} (R:dq K H A δ σ) (o:hW K E A H (g1 f ga δ) Q)
  (b:∀d1 d x H',f d1=some d->Ls H' A->aw H H'->Is K (del H' A) d1 x->(∀v H2,aw H' H2->Is K (del H2 A) d v->Q v H2)->tt Q x H'):eD K E ga σ H (tt Q):=by
 unfold g1 at o;refine eD.run R (λd1 e1 v H1 a c h1=>?_) (λC e1 H' s'=>?_) (λe1=>?_)
 ·simp only[e1,Rs.ag]at o;cases e3:f d1 with
  |none=>rw[e3]at o;exact o.elim
  |some d=>rw[e3]at o;exact b d1 d v H1 e3 c.ls a h1 λw H' s q=>o w H' (a.trans s) q
 ·rw[e1]at o;exact o H' s'
 ·rw[e1]at o;exact o
theorem yl {d:PyData} (h:Is K H d v):decide (v=.non)=eY d:=by
 by_cases z:v=.non
 ·rw[decide_eq_true z,h.isNone.mp z];rfl
 ·rw[decide_eq_false z];have:d≠.none:=λq=>z (h.isNone.mpr q)
  cases d <;> first|(exact absurd rfl this)|rfl
theorem IC {j pos'} (ha:PD X E a ga):PD X E (.Compare a [.Is] [.Constant .none j pos'] pos) (g1 nz ga) :=
 (IV (EK ha)).imp λσ H Q ⟨A,δ,R,o⟩=>g1.read (tt:=λQ x H1=>Q (.bl (decide (x=.non))) H1) R o λd1 d x H' e _ _ h k=>by cases e;rw[yl h];exact k _ H' (aw.refl _) is_bool
theorem yC {t:TE} (h:PT X e (tB t)) (k:∀σ H Q,eD X.K E ga σ H Q->t σ H Q):PCD X E e (gT ga):=h.imp λσ H Q ⟨A,δ,R,o⟩=>k σ H _ ⟨A,δ,R,by
 unfold gT at o;cases q:ga δ with
 |no=>rw[q]at o;exact o
 |rz C=>rw[q]at o;exact o
 |ok d =>
  rw[q]at o;cases d with
  |bool c=>exact λv H' s h=>⟨c,h.ofBool,o H' s⟩
  |_=>exact o.elim⟩
theorem GD (h:PD X E e ga) (a:∀whole,isTrue e X.env whole=(do let v <-whole;standAt e.pos;holding [v] (truthy v))):PCD X E e (gT ga):=yC (JQ h a) λ_ _ _ h=>h
theorem HN {j pos'} (ha:PD X E a ga):PCD X E (.Compare a [.Is] [.Constant .none j pos'] pos) (gT (g1 nz ga)) :=
 yC (zC (EK ha)) λσ H Q ⟨A,δ,R,o⟩=>g1.read (tt:=λQ x H1=>Q (.bl (decide (x=.non))) H1) R o λd1 d x H' e _ _ h k=>by cases e;rw[yl h];exact k _ H' (aw.refl _) is_bool
theorem CG {j pos'} (ha:PD X E a ga):PCD X E (.Compare a [.IsNot] [.Constant .none j pos'] pos) (gT (g1 iJ ga)) :=
 yC (zC (FJ ha)) λσ H Q ⟨A,δ,R,o⟩=>g1.read (tt:=λQ x H1=>Q (.bl (!decide (x=.non))) H1) R o λd1 d x H' e _ _ h k=>by cases e;rw[yl h];exact k _ H' (aw.refl _) is_bool
theorem CI {ca:Ds->Rs Bool} {f:Bool->Rs Bool} {Q:Bool->Hp->Prop} {t:Bool->Hp->Prop} (R:dq K H A δ σ) (o:xP E H ((ca δ).bind f) Q)
  (k:∀b H1,aw H H1->dq K H1 A δ σ->xP E H1 (f b) Q->t b H1):cD K E ca σ H t:=by
 refine cD.run R (λb e H1 a c=>?_) (λC e H' s'=>?_) (λe=>?_)
 ·rw[e]at o;exact k b H1 a c (xP.mono (show xP E H (f b) Q from o) a)
 ·rw[e]at o;exact o H' s'
 ·rw[e]at o;exact o
variable {ca cb:Ds->Rs Bool} {rest:List Expr}
theorem FR (ha:PCD X E a ca):PCD X E (.UnaryOp .Not a pos) (gD ca):=(IB ha).imp λσ H Q c=>(by obtain⟨A,δ,R,o⟩:=c;exact CI R o λb H1 s1 R1 o=>o H1 (aw.refl _))
theorem EO (ha:PCD X E a ca):PWD X E (.BoolOp .And [a] pos) ca:=FW ha
theorem Hf (ha:PCD X E a ca):PWD X E (.BoolOp .Or [a] pos) ca:=IQ ha
theorem AO (ha:PCD X E a ca) (c:PWD X E (.BoolOp .And (b::rest) pos) cb):PWD X E (.BoolOp .And (a::b::rest) pos) (rL ca cb):=PW.imp (Kd ha c) λσ H Q ⟨A,δ,R,o⟩=>CI R o λb H1 s1 e o=>by
 cases b with
 |true=>exact⟨A,δ,e,o⟩
 |false=>exact o H1 (aw.refl _)
theorem EN (ha:PCD X E a ca) (c:PWD X E (.BoolOp .Or (b::rest) pos) cb):PWD X E (.BoolOp .Or (a::b::rest) pos) (cOr ca cb):=PW.imp (L4 ha c) λσ H Q ⟨A,δ,R,o⟩=>CI R o λb H1 s1 e o=>by
 cases b with
 |false=>exact⟨A,δ,e,o⟩
 |true=>exact o H1 (aw.refl _)
theorem Ih (h:PWD X E e ca):PCD X E e ca:=PW.pt h
theorem Iv {f:PyData->Rs PyData} {Q:VK} {t:VK} (R:dq K H A δ σ) (o:hW K E A H ((ga δ).bind f) Q)
  (k:∀d v H1,aw H H1->dq K H1 A δ σ->Is K (del H1 A) d v->hW K E A H1 (f d) Q->t v H1):eD K E ga σ H t:=by
 refine eD.run R (λd e v H1 a b h1=>?_) (λC e H' s'=>?_) (λe=>?_)
 ·rw[e]at o;exact k d v H1 a b h1 (hW.mono (show hW K E A H (f d) Q from o) a)
 ·rw[e]at o;exact o H' s'
 ·rw[e]at o;exact o
theorem qd {d:PyData} {f:Bool->Rs PyData} {Q:VK} (o:hW K E A H ((truth d).bind f) Q):∃t,d=.bool t/\hW K E A H (f t) Q:=by
 cases d with
 |bool t=>exact⟨t,rfl,o⟩
 |_=>exact o.elim
theorem IY {op} (ha:PD X E a ga):PD X E (.BoolOp op [a] pos) ga:=Kz ha
theorem Km (ha:PD X E a ga) (c:PD X E (.BoolOp .And (b::rest) pos) gb):PD X E (.BoolOp .And (a::b::rest) pos) (BY ga gb):=(Jr ha c).imp λσ H Q ⟨A,δ,R,o⟩=>Iv R o λd v H1 s1 e h1 o=>by
 obtain⟨t,rfl,o⟩:=qd o;refine⟨t,h1.ofBool,?_⟩;cases t with
 |true=>exact⟨A,δ,e,o⟩
 |false=>exact o _ H1 (aw.refl _) is_bool
theorem Lr (ha:PD X E a ga) (c:PD X E (.BoolOp .Or (b::rest) pos) gb):PD X E (.BoolOp .Or (a::b::rest) pos) (gOr ga gb):=(L0 ha c).imp λσ H Q ⟨A,δ,R,o⟩=>Iv R o λd v H1 s1 e h1 o=>by
 obtain⟨t,rfl,o⟩:=qd o;refine⟨t,h1.ofBool,?_⟩;cases t with
 |false=>exact⟨A,δ,e,o⟩
 |true=>exact o _ H1 (aw.refl _) is_bool
theorem Mw (hc:PCD X E c ca) (ha:PD X E a ga) (h:PD X E b gb):PD X E (.IfExp c a b pos) (gIf ca ga gb):=(CS hc ha h).imp λσ H Q f=>by
 obtain⟨A,δ,R,o⟩:=f;unfold gIf at o;refine cD.run R (λt e H1 i g=>?_) (λC e H' s'=>?_) (λe=>?_)
 ·rw[e]at o;have o:=hW.mono (show hW X.K E A H (if t=true then ga δ else gb δ) Q from o) i;cases t with
  |true=>exact⟨A,δ,g,o⟩
  |false=>exact⟨A,δ,g,o⟩
 ·rw[e]at o;exact o H' s'
 ·rw[e]at o;exact o
def mO:PyData->Option PyData
 |.int i=>some (.int (-i))
 |_=>none
theorem Kb (ha:PD X E a ga):PD X E (.UnaryOp .USub a pos) (g1 mO ga):=(L6 Kt ha).imp λσ H Q ⟨A,δ,R,o⟩=>g1.read (tt:=λQ x H1=>∃i,x=.int i/\Q (.int (-i)) H1) R o λd1 d x H' e _ _ h k=>by
 cases d1 with
 |int i=>cases e;exact⟨i,h.ofInt,k _ H' (aw.refl _) bE⟩
 |_=>cases e
theorem Ht:PAD X E [] ah:=⟨fV.imp λσ H Q a=>(by obtain⟨A,δ,R,o⟩:=a;exact o [] H (aw.refl _) cJ),λδ ds e=>by cases e;rfl⟩
theorem C0 (ha:PD X E a ga) (b:PAD X E es gs) (f:starEach (a::es) X.env=(false,eval a X.env)::starEach es X.env):PAD X E (a::es) (ae ga gs):=by
 refine⟨(eB ha b.1 f).imp λσ H Q ⟨A,δ,R,o⟩=>?_,λδ ds e=>?_⟩
 ·unfold ae at o;refine eD.run R (λd e v H1 c g h1=>?_) (λC e H' s'=>?_) (λe=>?_)
  ·simp only[e,Rs.ag]at o;refine aD.run g (λds e2 vs H2 s2 R2 h2=>?_) (λC e2 H' s'=>?_) (λe2=>?_)
   ·simp only[e2,Rs.ag]at o;exact o _ H2 (c.trans s2) (cw (h1.same s2.del) h2)
   ·simp only[e2,Rs.dQ]at o;exact o H' (c.trans s')
   ·simp only[e2,Rs.bq]at o;exact o
  ·simp only[e,Rs.dQ]at o;exact o H' s'
  ·simp only[e,Rs.bq]at o;exact o
 ·unfold ae at e;cases q:ga δ with
  |ok d =>
   cases q2:gs δ with
   |ok l =>simp only[q,q2,Rs.ag]at e;cases e;simp[b.2 δ l q2]
   |rz C=>simp only[q,q2,Rs.ag,Rs.dQ]at e;cases e
   |no=>simp only[q,q2,Rs.ag,Rs.bq]at e;cases e
  |rz C=>simp only[q,Rs.dQ]at e;cases e
  |no=>simp only[q,Rs.bq]at e;cases e
theorem sF {f:List PyData->Rs PyData} {Q:VK} {t:List V->Hp->Prop} (R:dq K H A δ σ) (o:hW K E A H ((gs δ).bind f) Q)
  (k:∀ds vs H1,gs δ=.ok ds->aw H H1->dq K H1 A δ σ->Iss K (del H1 A) ds vs->hW K E A H1 (f ds) Q->t vs H1):aD K E gs σ H t:=by
 refine aD.run R (λd e v H1 a b h1=>?_) (λC e H' s'=>?_) (λe=>?_)
 ·rw[e]at o;exact k d v H1 e a b h1 (hW.mono (show hW K E A H (f d) Q from o) a)
 ·rw[e]at o;exact o H' s'
 ·rw[e]at o;exact o
theorem JM {x1} (h:PAD X E es gs) (hl:es.length<=1000):PD X E (.Tuple es x1 pos) (hZ gs):=(Jx h.1).imp λσ H Q ⟨A,δ,R,o⟩=>sF R o λds vs H1 e s1 b h1 o=>by have n:=h.2 δ ds e;have m:=h1.length;exact⟨by rw[sizeLine_eq];omega,λp a=>o _ _ (bz a) (mw b.ls a h1)⟩
theorem IT (h:PAD X E es gs) (hl:es.length<=1000):PD X E (.List es pos) (jN gs):=(yH h.1).imp λσ H Q ⟨A,δ,R,o⟩=>sF R o λds vs H1 e s1 b h1 o=>by have n:=h.2 δ ds e;have m:=h1.length;exact⟨by rw[sizeLine_eq];omega,λp a=>o _ _ (bz a) (kq b.ls a h1)⟩
def spD (K:PySem.W.Frag) (n:Nat) (gf:List PyData->Rs PyData):Sp:=λvs H Q E=>∃A ds,Ls H A/\Iss K (del H A) ds vs/\ds.length=n/\hW K E A H (gf ds) Q
structure iC (P:Program) (w:World) (K:PySem.W.Frag) (mg:Str->Option Value) (base:Heap) (k:Nat) (x:Str) (n:Nat) (gf:List PyData->Rs PyData):Prop where
 ex:∃f fd ps,gB P w K mg base (CXW P w) k f fd ps (spD K n gf)/\mg x=some (.ref f)/\PySem.W.keepIn K (.ref f)=true/\Binds K fd ps []
theorem xj:Passes (CXW X.prog X.w) X E0:=λ_ _ _ _ _ _ _ a=>(by obtain⟨_,_,_,_,_,_,h,_⟩:=a;exact h.elim)
theorem F9 {k:Nat} (D:iC X.prog X.w X.K X.mg X.base k x (e::es).length gf) (h:cg j X.A) (i:Passes (CXW X.prog X.w) X E) (ha:PAD X E (e::es) gs) (l:k<=j) (m:Gl X x)
  (a:(x==("__debug__":Str))=false) (n:starEach (e::es) X.env=(false,eval e X.env)::starEach es X.env) (b:(backTo pos (starEach es X.env)).any (·.1)=false) :
  PD X E (.Call (.Name x p) (e::es) [] pos) (aq gf gs):=by
 obtain⟨f,fd,ps,F,hm,c,q⟩:=D.ex;refine (Az F (h.mono l) m hm c q .nil i ha.1 a n b).imp λσ H Q g=>?_
 obtain⟨A,δ,R,o⟩:=g;refine sF R o λds vs H1 e s1 r h1 o=>?_
 refine⟨A,ds,r.ls,by simpa using h1,ha.2 δ ds e,o⟩
def FnD (K:PySem.W.Frag) (f:List PyData->Option PyData) (r:List V->Hp->VK->Prop):Prop :=
 ∀(ds:List PyData) (d:PyData) (vs:List V) (H:Hp) (A:List Addr) (Q:VK),f ds=some d->Ls H A->Iss K (del H A) ds vs->(∀v H',aw H H'->Is K (del H' A) d v->Q v H')->r vs H Q
theorem e9 {r:List V->Hp->VK->Prop} {f:List PyData->Option PyData} (a:FnD X.K f r) (ha:PAD X E es gs) (mk:∀{t:TA},PA X es t->PE X e (tCB r t)):PD X E e (gF f gs) :=
 (mk ha.1).imp λσ H Q ⟨A,δ,R,o⟩=>sF R o λds vs H1 e s1 b h1 o=>by
  cases q:f ds with
  |none=>rw[q]at o;exact o.elim
  |some d=>rw[q]at o;exact a ds d vs H1 A Q q b.ls h1 o
end
section
variable {a b c:Expr} {ga gb gc:Ds->Rs PyData}
def Io (K:PySem.W.Frag):R2:=λx y H Q=>∃a b xs ys,x=.ref a/\y=.ref b/\SqT K H a xs/\SqT K H b ys/\xs.length+ys.length<=sizeLine /\
 (xs=[]->Q (.ref b) H)/\(xs≠[]->ys=[]->Q (.ref a) H)/\(xs≠[]->ys≠[]->∀p,H p=none->Q (.ref p) (upd H p (.tup (xs++ys))))
theorem Gx:OpR X (binaryOp .Add) (Io X.K):=by
 intro pins s σ H x y v u Q I i j h;obtain⟨a,b,xs,ys,rfl,rfl,ha,l,o,p,q,r⟩:=h;by_cases hx:xs=[]
 ·cases i;cases j;obtain⟨vs,w,p1,_⟩:=I.tuple ha;obtain⟨ws,r2,p2,_⟩:=I.tuple l;obtain⟨⟨cls,dd,data,z⟩,m,hc,n,hd⟩:=id p1;obtain⟨⟨cls2,f,data2,g⟩,c,e,n2,hd2⟩:=id p2;simp only at hc hd e hd2;subst hc hd e hd2;have hv:vs=[]:=w.nil_iff.mpr hx;exact concat_meets ⟨_,m,rfl⟩ ⟨_,c,rfl⟩ noFill_tuple_add seq_tuple_add PySem.F.slot_tuple_add PySem.F.entry_tuple_add (PySem.F.args_tuple_add_2 _ _)
   (tuple_addW0 a b vs.toArray ws.toArray n n2 dd f z g (by simp[hv])) ⟨m,c,⟨.ref b,H,I,rfl,p hx⟩⟩
 ·exact FN pins s σ H _ _ v u Q I i j ⟨a,b,xs,ys,rfl,rfl,ha,l,hx,o,q hx,r hx⟩
def aX:PyData->PyData->Option PyData
 |.int i,.int j=>some (.int (i+j))
 |.list x,.list y=>if x.length+y.length<=1000000 then some (.list (x++y)) else none
 |.tuple x,.tuple y=>if x.length+y.length<=1000000 then some (.tuple (x++y)) else none
 |_,_=>none
theorem HG:OpD K aX (λx y H Q=>rI0 (λi j=>.int (i+j)) x y H Q\/LR x y H Q\/Io K x y H Q):=λd1 d2 d x y H A Q e h h1 h2 k=>by
 unfold aX at e;split at e
 ·cases e;exact .inl ⟨_,_,h1.ofInt,h2.ofInt,k _ H (aw.refl _) bE⟩
 ·rename_i l1 l2;split at e
  ·rename_i l;cases e;obtain⟨p,xs,rfl,f,a⟩:=h1.ofLst;obtain⟨q,ys,rfl,g,b⟩:=h2.ofLst;refine .inr (.inl ⟨p,q,xs,ys,rfl,rfl,ax _ _ f,ax _ _ g,by rw[a.length,b.length,sizeLine_eq];omega,λr c=>k _ _ (bz c) (kq h c (a.append b))⟩)
  ·cases e
 ·rename_i l1 l2;split at e
  ·rename_i l;cases e;obtain⟨p,xs,rfl,f,a⟩:=h1.ofTup;obtain⟨q,ys,rfl,g,b⟩:=h2.ofTup;refine .inr (.inr ⟨p,q,xs,ys,rfl,rfl,SqT.of (ax _ _ f),SqT.of (ax _ _ g),by rw[a.length,b.length,sizeLine_eq];omega,λz=>?_,λ_ z=>?_,λ_ _ r c=>k _ _ (bz c) (mw h c (a.append b))⟩)
   ·subst z;have:l1=[]:=OE.mp (by rw[<-a.length];rfl);subst this;exact k _ H (aw.refl _) (iz g b)
   ·subst z;have:l2=[]:=OE.mp (by rw[<-b.length];rfl);subst this;rw[O8]at k;exact k _ H (aw.refl _) (iz f a)
  ·cases e
 ·cases e
theorem IH (ha:PD X E a ga) (c:PD X E b gb):PD X E (.BinOp a .Add b pos) (g2 aX ga gb):=gW HG ha c (eR (nX.or (JX.or Gx)))
def dIx:PyData->PyData->Option PyData
 |.list x,.int i=>atI x i
 |.tuple x,.int i=>atI x i
 |_,_=>none
theorem AW {i:Int} {d:PyData} (h:Iss K H ds vs) (e:atI ds i=some d):∃v,atI vs i=some v/\Is K H d v:=by
 unfold atI at e ⊢;rw[h.length];cases q:ixN ds.length i with
 |none=>rw[q]at e;cases e
 |some j=>rw[q]at e;exact h.getD e
theorem Kw:OpD K dIx (λx y H Q=>Lw K x y H Q\/LJ K x y H Q):=λd1 d2 d x y H A Q e hA h1 h2 k=>by
 unfold dIx at e;split at e
 ·obtain⟨p,xs,rfl,a,b⟩:=h1.ofLst;obtain⟨v,ev,hv⟩:=AW b e;exact .inl ⟨p,xs,_,v,rfl,h2.ofInt,SqL.of (ax _ _ a),ev,k _ H (aw.refl _) hv⟩
 ·obtain⟨p,xs,rfl,a,b⟩:=h1.ofTup;obtain⟨v,ev,hv⟩:=AW b e;exact .inr ⟨p,xs,_,v,rfl,h2.ofInt,SqT.of (ax _ _ a),ev,k _ H (aw.refl _) hv⟩
 ·cases e
theorem LO (ha:PD X E a ga) (c:PD X E b gb) (e:AN b):PD X E (.Subscript a b pos) (g2 dIx ga gb):=gW Kw ha c λh1 h2=>De (vD.or K9) h1 h2 e
def bY:List PyData->Option PyData
 |[.list x]=>some (.int x.length)
 |[.tuple x]=>some (.int x.length)
 |_=>none
theorem jR {d:PyData} (h:Iss K H [d] vs):∃v,vs=[v]/\Is K H d v:=by obtain⟨v,r,rfl,h1,h2⟩:=h.cons_of;rw[h2.nil_of];exact⟨v,rfl,h1⟩
theorem HK {d e:PyData} (h:Iss K H [d,e] vs):∃v u,vs=[v,u]/\Is K H d v/\Is K H e u:=by obtain⟨v,r,rfl,h1,h2⟩:=h.cons_of;obtain⟨u,rfl,a⟩:=jR h2;exact⟨v,u,rfl,h1,a⟩
theorem Ge:FnD K bY (λxs H Q=>∃p ys,xs=[.ref p]/\(SqL K H p ys\/SqT K H p ys)/\Q (.int ys.length) H):=λds d vs H A Q e hA h k=>by
 unfold bY at e;split at e
 ·cases e;obtain⟨v,rfl,a⟩:=jR h;obtain⟨p,xs,rfl,b,c⟩:=a.ofLst;exact⟨p,xs,rfl,.inl (SqL.of (ax _ _ b)),k _ H (aw.refl _) (by rw[c.length];exact bE)⟩
 ·cases e;obtain⟨v,rfl,a⟩:=jR h;obtain⟨p,xs,rfl,b,c⟩:=a.ofTup;exact⟨p,xs,rfl,.inr (SqT.of (ax _ _ b)),k _ H (aw.refl _) (by rw[c.length];exact bE)⟩
 ·cases e
theorem K8 (hm:X.mg "len"=none) (ha:PAD X E (a::es) gs) (c:Gl X "len") (e:starEach (a::es) X.env=(false,eval a X.env)::starEach es X.env) (b:(backTo pos (starEach es X.env)).any (·.1)=false) :
 PD X E (.Call (.Name "len" p) (a::es) [] pos) (gF bY gs):=e9 Ge ha λh=>eX i9 c hm PySem.boot_len h (by decide) (by decide) e b
theorem En:bootBuiltins "int"=some (.type "int"):=by decide +kernel
theorem vL:bootBuiltins "tuple"=some (.type "tuple"):=by decide +kernel
theorem vo:bootBuiltins "list"=some (.type "list"):=by decide +kernel
theorem BU:bootBuiltins "isinstance"=some (.builtin "isinstance"):=by decide +kernel
theorem Le:bootBuiltins "all"=some (.builtin "all"):=by decide +kernel
theorem J5:bootBuiltins "sum"=some (.builtin "sum"):=by decide +kernel
theorem Ji:bootBuiltins "min"=some (.builtin "min"):=by decide +kernel
theorem JL:bootBuiltins "max"=some (.builtin "max"):=by decide +kernel
def eS:List PyData->Option (List Int)
 |[]=>some []
 |.int i::r=>(eS r).map (i::·)
 |_::_=>none
theorem dC:∀{ds:List PyData} {ns:List Int},eS ds=some ns->ds=ns.map PyData.int
 |[],_,h=>by cases h;rfl
 |.int i::r,ns,h=>by
  unfold eS at h;cases q:eS r with
  |none=>rw[q]at h;cases h
  |some l=>rw[q]at h;cases h;rw[dC q];rfl
 |.none::_,_,h=>by cases h
 |.bool _::_,_,h=>by cases h
 |.str _::_,_,h=>by cases h
 |.list _::_,_,h=>by cases h
 |.tuple _::_,_,h=>by cases h
 |.dict _::_,_,h=>by cases h
theorem ee:∀(ns:List Int),eS (ns.map PyData.int)=some ns
 |[]=>rfl
 |n::r=>by rw[N0];unfold eS;rw[ee r];rfl
def iF:List PyData->Option (List Bool)
 |[]=>some []
 |.bool i::r=>(iF r).map (i::·)
 |_::_=>none
theorem oF:∀{ds:List PyData} {ns:List Bool},iF ds=some ns->ds=ns.map PyData.bool
 |[],_,h=>by cases h;rfl
 |.bool i::r,ns,h=>by
  unfold iF at h;cases q:iF r with
  |none=>rw[q]at h;cases h
  |some l=>rw[q]at h;cases h;rw[oF q];rfl
 |.none::_,_,h=>by cases h
 |.int _::_,_,h=>by cases h
 |.str _::_,_,h=>by cases h
 |.list _::_,_,h=>by cases h
 |.tuple _::_,_,h=>by cases h
 |.dict _::_,_,h=>by cases h
theorem rC:∀(ns:List Bool),iF (ns.map PyData.bool)=some ns
 |[]=>rfl
 |n::r=>by rw[N0];unfold iF;rw[rC r];rfl
def Cg:List PyData->Option PyData
 |[.list x]=>(eS x).map λns=>.int ns.sum
 |_=>none
def oN:List PyData->Option PyData
 |[.list x]=>(iF x).map λns=>.bool (ns.all id)
 |_=>none
theorem GL:FnD K Cg (λxs H Q=>∃(a:Addr) (ns:List Int),xs=[.ref a]/\SqL K H a (ns.map V.int)/\Q (.int ns.sum) H):=λds d vs H A Q e hA h k=>by
 unfold Cg at e;split at e
 ·rename_i x;cases q:eS x with
  |none=>rw[q]at e;cases e
  |some ns =>rw[q]at e;cases e;obtain⟨v,rfl,f⟩:=jR h;obtain⟨p,xs,rfl,b,c⟩:=f.ofLst;rw[dC q]at c;rw[c.ofInts]at b;exact⟨p,ns,rfl,SqL.of (ax _ _ b),k _ H (aw.refl _) bE⟩
 ·cases e
theorem GA:FnD K oN (λxs H Q=>∃(a:Addr) (ns:List Bool),xs=[.ref a]/\SqL K H a (ns.map V.bl)/\Q (.bl (ns.all id)) H):=λds d vs H A Q e hA h k=>by
 unfold oN at e;split at e
 ·rename_i x;cases q:iF x with
  |none=>rw[q]at e;cases e
  |some ns =>rw[q]at e;cases e;obtain⟨v,rfl,f⟩:=jR h;obtain⟨p,xs,rfl,b,c⟩:=f.ofLst;rw[oF q]at c;rw[c.ofBools]at b;exact⟨p,ns,rfl,SqL.of (ax _ _ b),k _ H (aw.refl _) is_bool⟩
 ·cases e
theorem JA (hc:X.calm=true) (hm:X.mg "sum"=none) (ha:PAD X E (a::es) gs) (c:Gl X "sum") (e:starEach (a::es) X.env=(false,eval a X.env)::starEach es X.env) (b:(backTo pos (starEach es X.env)).any (·.1)=false) :
 PD X E (.Call (.Name "sum" p) (a::es) [] pos) (gF Cg gs):=e9 GL ha λh=>eX (DI hc) c hm J5 h (by decide) (by decide) e b
theorem JR (hc:X.calm=true) (hm:X.mg "all"=none) (ha:PAD X E (a::es) gs) (c:Gl X "all") (e:starEach (a::es) X.env=(false,eval a X.env)::starEach es X.env) (b:(backTo pos (starEach es X.env)).any (·.1)=false) :
 PD X E (.Call (.Name "all" p) (a::es) [] pos) (gF oN gs):=e9 GA ha λh=>eX (Dl hc) c hm Le h (by decide) (by decide) e b
def kK:List PyData->Option PyData
 |[.int i,.int j]=>some (.int (if j<i then j else i))
 |_=>none
def iG:List PyData->Option PyData
 |[.int i,.int j]=>some (.int (if j>i then j else i))
 |_=>none
theorem D5:FnD K kK (λxs H Q=>∃i j,xs=[.int i,.int j]/\Q (.int (if j<i then j else i)) H):=λds d vs H A Q e hA h k=>by
 unfold kK at e;split at e
 ·cases e;obtain⟨v,u,rfl,h1,h2⟩:=HK h;rw[h1.ofInt,h2.ofInt];exact⟨_,_,rfl,k _ H (aw.refl _) bE⟩
 ·cases e
theorem Ey:FnD K iG (λxs H Q=>∃i j,xs=[.int i,.int j]/\Q (.int (if j>i then j else i)) H):=λds d vs H A Q e hA h k=>by
 unfold iG at e;split at e
 ·cases e;obtain⟨v,u,rfl,h1,h2⟩:=HK h;rw[h1.ofInt,h2.ofInt];exact⟨_,_,rfl,k _ H (aw.refl _) bE⟩
 ·cases e
theorem HR (hc:X.calm=true) (hm:X.mg "min"=none) (ha:PAD X E (a::es) gs) (c:Gl X "min") (e:starEach (a::es) X.env=(false,eval a X.env)::starEach es X.env) (b:(backTo pos (starEach es X.env)).any (·.1)=false) :
 PD X E (.Call (.Name "min" p) (a::es) [] pos) (gF kK gs):=e9 D5 ha λh=>eX (BM hc) c hm Ji h (by decide) (by decide) e b
theorem FK (hc:X.calm=true) (hm:X.mg "max"=none) (ha:PAD X E (a::es) gs) (c:Gl X "max") (e:starEach (a::es) X.env=(false,eval a X.env)::starEach es X.env) (b:(backTo pos (starEach es X.env)).any (·.1)=false) :
 PD X E (.Call (.Name "max" p) (a::es) [] pos) (gF iG gs):=e9 Ey ha λh=>eX (BX hc) c hm JL h (by decide) (by decide) e b
def BE:List PyData->Option PyData
 |[.int i]=>some (.int i)
 |[.bool k]=>some (.int (if k then 1 else 0))
 |_=>none
theorem GY:FnD K BE (λxs H Q=>(∃i,xs=[.int i]/\Q (.int i) H)\/∃k,xs=[.bl k]/\Q (.int (if k then 1 else 0)) H):=λds d vs H A Q e hA h k=>by
 unfold BE at e;split at e
 ·cases e;obtain⟨v,rfl,h1⟩:=jR h;rw[h1.ofInt];exact .inl ⟨_,rfl,k _ H (aw.refl _) bE⟩
 ·cases e;obtain⟨v,rfl,h1⟩:=jR h;rw[h1.ofBool];exact .inr ⟨_,rfl,k _ H (aw.refl _) bE⟩
 ·cases e
theorem Ea (hm:X.mg "int"=none) (ha:PAD X E (a::es) gs) (c:Gl X "int") (e:starEach (a::es) X.env=(false,eval a X.env)::starEach es X.env) (b:(backTo pos (starEach es X.env)).any (·.1)=false) :
 PD X E (.Call (.Name "int" p) (a::es) [] pos) (gF BE gs):=e9 GY ha λh=>nL B1 c hm En h (by decide) (by decide) e b
def jS:List PyData->Option PyData
 |[.list x]=>some (.tuple x)
 |[.tuple x]=>some (.tuple x)
 |_=>none
def vJ:List PyData->Option PyData
 |[.list x]=>some (.list x)
 |[.tuple x]=>some (.list x)
 |_=>none
theorem Cj:FnD K jS (λxs H Q=>∃p ys,xs=[.ref p]/\((SqL K H p ys/\∀l,H l=none->Q (.ref l) (upd H l (.tup ys)))\/(SqT K H p ys/\Q (.ref p) H))):=λds d vs H A Q e f h k=>by
 unfold jS at e;split at e
 ·cases e;obtain⟨v,rfl,b⟩:=jR h;obtain⟨p,xs,rfl,a,c⟩:=b.ofLst;exact⟨p,xs,rfl,.inl ⟨SqL.of (ax _ _ a),λl hl=>k _ _ (bz hl) (mw f hl c)⟩⟩
 ·cases e;obtain⟨v,rfl,b⟩:=jR h;obtain⟨p,xs,rfl,a,c⟩:=b.ofTup;exact⟨p,xs,rfl,.inr ⟨SqT.of (ax _ _ a),k _ H (aw.refl _) (iz a c)⟩⟩
 ·cases e
theorem Ff:FnD K vJ (λxs H Q=>∃p ys,xs=[.ref p]/\(SqL K H p ys\/SqT K H p ys)/\∀l,H l=none->Q (.ref l) (upd H l (.lst ys))):=λds d vs H A Q e f h k=>by
 unfold vJ at e;split at e
 ·cases e;obtain⟨v,rfl,a⟩:=jR h;obtain⟨p,xs,rfl,b,c⟩:=a.ofLst;exact⟨p,xs,rfl,.inl (SqL.of (ax _ _ b)),λl hl=>k _ _ (bz hl) (kq f hl c)⟩
 ·cases e;obtain⟨v,rfl,a⟩:=jR h;obtain⟨p,xs,rfl,b,c⟩:=a.ofTup;exact⟨p,xs,rfl,.inr (SqT.of (ax _ _ b)),λl hl=>k _ _ (bz hl) (kq f hl c)⟩
 ·cases e
theorem xW (hm:X.mg "tuple"=none) (ha:PAD X E (a::es) gs) (c:Gl X "tuple") (e:starEach (a::es) X.env=(false,eval a X.env)::starEach es X.env) (b:(backTo pos (starEach es X.env)).any (·.1)=false) :
 PD X E (.Call (.Name "tuple" p) (a::es) [] pos) (gF jS gs):=e9 Cj ha λh=>nL rF c hm vL h (by decide) (by decide) e b
theorem BJ (hm:X.mg "list"=none) (ha:PAD X E (a::es) gs) (c:Gl X "list") (e:starEach (a::es) X.env=(false,eval a X.env)::starEach es X.env) (b:(backTo pos (starEach es X.env)).any (·.1)=false) :
 PD X E (.Call (.Name "list" p) (a::es) [] pos) (gF vJ gs):=e9 Ff ha λh=>nL uJ c hm vo h (by decide) (by decide) e b
def k8 (T:String) (d:PyData):Option PyData:=if aI d then some (.bool (ur d T)) else none
theorem Ci {T:Str} {b:String} {c:Pos} (hm:X.mg "isinstance"=none) (f:X.mg T=none) (q:bootBuiltins T=some (.type b)) (r:b∈["bool", "int", "list", "tuple"]) (ha:PD X E a ga)
  (s:Gl X "isinstance") (g:Gl X T) (hn:T≠"__name__") (i:(T==("__debug__":Str))=false) (n:starEach [a,.Name T c] X.env=(false,eval a X.env)::starEach [.Name T c] X.env)
  (j:starEach [.Name T c] X.env=(false,eval (.Name T c) X.env)::starEach [] X.env) (l:(backTo pos (starEach [.Name T c] X.env)).any (·.1)=false) :
  PD X E (.Call (.Name "isinstance" p) [a,.Name T c] [] pos) (g1 (k8 b) ga):=by
 refine (eX xq s hm BU (eB ha (eB (Gn (v:=.ty b) g f q rfl hn i) fV j) n) (by decide) (by decide) n l).imp λσ H Q m=>?_
 obtain⟨A,δ,R,o⟩:=m;refine g1.read (tt:=λQ x H1=>∃d v T,[x,V.ty b]=[v,.ty T]/\IsD X.K H1 d v/\T∈["bool", "int", "list", "tuple"]/\Q (.bl (ur d T)) H1) R o λd1 d x H' e _ _ h k=>?_
 unfold k8 at e;split at e
 ·rename_i z;cases e;exact⟨d1,x,b,rfl,(h.same ax).isd z,r,k _ H' (aw.refl _) is_bool⟩
 ·cases e
end
def Bm (K:PySem.W.Frag) (J:It) (ds:List PyData) (G:Hp):Prop:=∀(H1:Hp) (B:List Addr),aw G H1->Ls H1 B->(∀b∈B,G b=none) ->
 (∀i,i<ds.length->J.go i H1)/\J.stop ds.length H1/\∀i x H2,i<ds.length->J.yld i H1 x H2->aw H1 H2/\∃d,ds[i]?=some d/\Is K (del H2 B) d x
def outI (K:PySem.W.Frag) (E:XK) (A:List Addr) (H:Hp) (r:Rs (List PyData)) (R:It->Hp->Prop):Prop:=match r with
 |.ok ds=>∀J H',aw H H'->Bm K J ds (del H' A)->R J H'
 |.rz C=>∀H',aw H H'->E (.ref C) none H'
 |.no=>False
def iD (K:PySem.W.Frag) (E:XK) (g:Ds->Rs (List PyData)):TI:=λσ H R=>∃A δ,dq K H A δ σ/\outI K E A H (g δ) R
def PID (X:Cx) (E:XK) (tg iter:Expr) (g:Ds->Rs (List PyData)):Prop:=PI X tg iter (iD X.K E g)
theorem PI.imp {it:Expr} {t t':TI} (h:PI X tg it t) (k:∀σ H R,t' σ H R->t σ H R):PI X tg it t':=λpins s σ H R I q=>h pins s σ H R I (k σ H R q)
theorem PI.or {it:Expr} {t t':TI} (h:PI X tg it t) (h':PI X tg it t'):PI X tg it (λσ H R=>t σ H R\/t' σ H R):=λpins s σ H R I q=>q.elim (h pins s σ H R I) (h' pins s σ H R I)
section
variable {a:Expr} {ga:Ds->Rs PyData}
def A7:PyData->Rs (List PyData)
 |.list ds=>.ok ds
 |.tuple ds=>.ok ds
 |_=>.no
theorem md (s:aw G H1) (hB:∀b∈B,G b=none):aw G (del H1 B):=λb o e=>by rw[aN (λz=>by rw[hB b z]at e;cases e)];exact s b o e
theorem BI {p:Addr} (b:G p=some (.lst xs)) (h:Iss K G ds xs):Bm K (Itl K p) ds G:=λH1 B s _ hB=>by have hl:=h.length;have a:SqL K H1 p xs:=SqL.of (s _ _ b);refine⟨λi hi=>⟨xs,xs[i]'(by omega),a,My _⟩,⟨xs,a,by omega⟩,λi x H2 hi y=>?_⟩;obtain⟨rfl,y⟩:=y;obtain⟨d,e,hd⟩:=h.get (y xs a);exact⟨aw.refl _,d,e,hd.same (md s hB)⟩
theorem CJ {p:Addr} (b:G p=some (.tup xs)) (h:Iss K G ds xs):Bm K (Itt K p) ds G:=λH1 B s _ hB=>by have hl:=h.length;have a:SqT K H1 p xs:=SqT.of (s _ _ b);refine⟨λi hi=>⟨xs,xs[i]'(by omega),a,My _⟩,⟨xs,a,by omega⟩,λi x H2 hi y=>?_⟩;obtain⟨rfl,y⟩:=y;obtain⟨d,e,hd⟩:=h.get (y xs a);exact⟨aw.refl _,d,e,hd.same (md s hB)⟩
def cz (g:Ds->Rs PyData):Ds->Rs (List PyData):=λδ=>(g δ).bind A7
theorem GP (h:PD X E a ga):PID X E tg a (cz ga):=(PI.or (HB h) (KS h)).imp λσ H R c=>by
 obtain⟨A,δ,f,o⟩:=c;unfold cz at o;cases q:ga δ with
 |no=>rw[q]at o;exact o.elim
 |rz C=>rw[q]at o;exact .inl (eD.run f (λd e=>by rw[q]at e;cases e) (λj e H' s=>by rw[q]at e;cases e;exact o H' s) (λe=>by rw[q]at e;cases e))
 |ok d =>
  rw[q]at o;cases d with
  |list ds =>refine .inl (eD.run f (λd e v H1 g l h1=>?_) (λj e=>by rw[q]at e;cases e) (λe=>by rw[q]at e;cases e));rw[q]at e;cases e;obtain⟨p,xs,rfl,b,i⟩:=h1.ofLst;exact⟨p,rfl,⟨xs,SqL.of (ax _ _ b)⟩,o _ H1 g (BI b i)⟩
  |tuple ds =>refine .inr (eD.run f (λd e v H1 g l h1=>?_) (λj e=>by rw[q]at e;cases e) (λe=>by rw[q]at e;cases e));rw[q]at e;cases e;obtain⟨p,xs,rfl,b,i⟩:=h1.ofTup;exact⟨p,rfl,⟨xs,SqT.of (ax _ _ b)⟩,o _ H1 g (CJ b i)⟩
  |_=>exact o.elim
def bG (lo:Int) (n:Nat):List PyData:=(List.range n).map λ(i:Nat)=>PyData.int (lo+(i:Int))
theorem dw (lo:Int) (n:Nat):(bG lo n).length=n:=by simp[bG]
theorem zB {lo:Int} {n:Nat}:Bm K (Itr lo n) (bG lo n) G:=λH1 B s _ hB=>by refine⟨λi hi=>by rw[dw]at hi;exact hi,by rw[dw];exact N7 _,λi x H2 hi y=>?_⟩;obtain⟨rfl,rfl⟩:=y;rw[dw]at hi;exact⟨aw.refl _,_,by simp[bG,hi],bE⟩
def Gd:List PyData->Rs (List PyData)
 |[.int j]=>if -(2 ^ 62)<=j/\j<2 ^ 62 then .ok (bG 0 j.toNat) else .no
 |_=>.no
def LS:List PyData->Rs (List PyData)
 |[.int i,.int j]=>if -(2 ^ 62)<=i/\i<2 ^ 62/\-(2 ^ 62)<=j/\j<2 ^ 62 then .ok (bG i (j-i).toNat) else .no
 |_=>.no
def fR (g:Ds->Rs (List PyData)):Ds->Rs (List PyData):=λδ=>(g δ).bind Gd
def Mg (g:Ds->Rs (List PyData)):Ds->Rs (List PyData):=λδ=>(g δ).bind LS
theorem yR {f:List PyData->Rs (List PyData)} {R:It->Hp->Prop} {t:List V->Hp->Prop} (b:dq K H A δ σ) (o:outI K E A H ((gs δ).bind f) R)
  (k:∀ds vs H1,gs δ=.ok ds->aw H H1->dq K H1 A δ σ->Iss K (del H1 A) ds vs->outI K E A H1 (f ds) R->t vs H1):aD K E gs σ H t:=by
 refine aD.run b (λd e v H1 a c h1=>?_) (λC e H' s'=>?_) (λe=>?_)
 ·rw[e]at o;refine k d v H1 e a c h1 ?_;have o:outI K E A H (f d) R:=o;cases q:f d with
  |ok ds=>rw[q]at o;exact λJ H' s j=>o J H' (a.trans s) j
  |rz C=>rw[q]at o;exact λH' s=>o H' (a.trans s)
  |no=>rw[q]at o;exact o
 ·rw[e]at o;exact o H' s'
 ·rw[e]at o;exact o
theorem ya (hm:X.mg "range"=none) (ha:PAD X E [a] gs) (b:Gl X "range") (c:starEach [a] X.env=[(false,eval a X.env)]) :
  PID X E tg (.Call (.Name "range" p) [a] [] pos) (fR gs):=(BS b hm ha.1 c).imp λσ H R ⟨A,δ,Rp,o⟩=>yR Rp o λds vs H1 e s1 R1 h1 o=>by
 unfold Gd at o;split at o
 ·split at o
  ·rename_i z;obtain⟨v,rfl,h⟩:=jR h1;rw[h.ofInt];exact⟨_,rfl,z.1,z.2,o _ H1 (aw.refl _) zB⟩
  ·exact o.elim
 ·exact o.elim
def TgD (K:PySem.W.Frag) (n0 n:Nat) (tgt:PyData->Option Ds) (g:TG):Prop:=∀(d:PyData) (v:V) (σ a:St) (H:Hp) (A:List Addr) (Q:St->Hp->Prop) (own:Ds),σ.length=n0->a.length=n->Ls H A->Is K (del H A) d v->tgt d=some own ->
 own.length=n/\((∀vs:St,vs.length=n->(∀(i:Nat) e,own[i]?=some (some e)->∃u,vs[i]?=some (some u)/\Is K (del H A) e u)->Q (σ++vs) H)->g v (σ++a) H Q)
def aZ:PyData->Option Ds:=λd=>some [some d]
theorem DC:TgD K n0 1 aZ (jO n0):=λd v σ a H A Q own h1 h2 hA hd e=>by
 cases e;refine⟨rfl,λk=>?_⟩;unfold jO;subst h1;rw[set_own σ none v a h2];refine k _ rfl λi e z=>?_
 match i,z with
 |0,z=>cases z;exact⟨v,rfl,hd⟩
def eO:PyData->Option Ds
 |.tuple [x,y]=>some [some x,some y]
 |_=>none
theorem vR:TgD K n0 2 eO (L2.Kv K 2 (L2.Aq (jO n0) (L2.Aq (jO (n0+1)) L2.J8))):=λd v σ a H A Q own h1 h2 hA hd e=>by
 unfold eO at e;split at e
 ·rename_i x y;cases e;refine⟨rfl,λk=>?_⟩;obtain⟨p,xs,rfl,b,c⟩:=hd.ofTup;obtain⟨u,w,rfl,f,hw⟩:=HK c;subst h1;refine⟨p,_,rfl,SqT.of (ax _ _ b),rfl,u,[w],rfl,w,[],rfl,rfl,?_⟩
  match a,h2 with
  |[s1,s2],_ =>
   have:((σ++[s1,s2]).set σ.length (some u)).set (σ.length+1) (some w)=σ++[some u,some w]:=by rw[P9 _ _ (N7 _),P9 _ _ (by omega)];simp
   rw[this];refine k _ rfl λi e z=>?_
   match i,z with
   |0,z=>cases z;exact⟨u,rfl,f⟩
   |1,z=>cases z;exact⟨w,rfl,hw⟩
 ·cases e
def eF (cond:Ds->Rs Bool) (elt:Ds->Rs PyData) (tgt:PyData->Option Ds) (δ:Ds):List PyData->Rs (List PyData)
 |[]=>.ok []
 |d::r=>match tgt d with
  |none=>.no
  |some own=>(cond (δ++own)).calm.bind λb=>if b=true then (elt (δ++own)).calm.bind λx=>(eF cond elt tgt δ r).bind λxs=>.ok (x::xs) else eF cond elt tgt δ r
def bw (n0:Nat) (src:Ds->Rs (List PyData)) (cond:Ds->Rs Bool) (elt:Ds->Rs PyData) (tgt:PyData->Option Ds):Ds->Rs (List PyData):=λδ=>if δ.length=n0 then (src δ).bind λds=>if ds.length<=1000000 then eF cond elt tgt δ ds else .no else .no
def bH:Ds->Rs Bool:=λ_=>.ok true
def Ha (K:PySem.W.Frag) (E:XK) (A:List Addr) (H:Hp) (r:Rs (List PyData)) (Q:VK):Prop:=match r with
 |.ok ds=>∀a xs H',H a=none->aw H H'->H' a=some (.lst xs)->Iss K (del H' (a::A)) ds xs->Q (.ref a) H'
 |.rz C=>∀H',aw H H'->E (.ref C) none H'
 |.no=>False
def lD (K:PySem.W.Frag) (E:XK) (g:Ds->Rs (List PyData)):TE:=λσ H Q=>∃A δ,dq K H A δ σ/\Ha K E A H (g δ) Q
def PLD (X:Cx) (E:XK) (e:Expr) (g:Ds->Rs (List PyData)):Prop:=PE X e (lD X.K E g)
def gL (g:Ds->Rs (List PyData)):Ds->Rs PyData:=λδ=>(g δ).bind λds=>.ok (.list ds)
theorem nh {a:Addr}:aw (del H (a::A)) (del H A):=λb o e=>by obtain⟨z,e⟩:=a9 e;rw[aN (λq=>z (N2 _ q))];exact e
theorem JK {g:Ds->Rs (List PyData)} (h:PLD X E e g):PD X E e (gL g):=PE.imp h λσ H Q ⟨A,δ,R,o⟩=>⟨A,δ,R,by
 unfold gL at o;cases q:g δ with
 |no=>rw[q]at o;exact o
 |rz C=>rw[q]at o;exact o
 |ok ds =>rw[q]at o;intro a xs H' hn s hl hi;exact o _ H' s (jK (by rw[aN (R.ls.new hn)];exact hl) (hi.same nh))⟩
theorem Gv (h:PAD X E es gs) (hl:es.length<=1000):PLD X E (.List es pos) gs:=(yH h.1).imp λσ H Q a=>by
 obtain⟨A,δ,R,o⟩:=a;refine aD.run R (λds e vs H1 f R1 h1=>?_) (λC e H' s'=>by rw[e]at o;exact o H' s') (λe=>by rw[e]at o;exact o);rw[e]at o;have n:=h.2 δ ds e;have m:=h1.length;refine⟨by rw[sizeLine_eq];omega,λp c=>o p vs _ (f.free c) (f.trans (bz c)) aE (h1.same ?_)⟩;refine λb o e=>?_
 obtain⟨z,e⟩:=a9 e;have:b≠p:=aJ e c;rw[aN (by simp[this,z]),az this];exact e
theorem EF {U:Ds->Rs (List PyData)} {tt:TT} (hT:TgD K n0 own.length tgt g) (X:∀σ H Q,cD K E0 cond σ H Q->tt σ H Q) :
  ∀σ H Q,lD K E (bw n0 U cond ge tgt) σ H Q->tLC own.length (iD K E U) g tt (eD K E0 ge) σ H Q:=by
 intro σ H Q ⟨A,δ,R,o⟩;unfold bw at o;by_cases hn0:δ.length=n0
 case neg=>rw[if_neg hn0]at o;exact o.elim
 rw[if_pos hn0]at o;have Y:σ.length=n0:=by rw[<-R.len];exact hn0
 refine⟨A,δ,R,?_⟩;cases q:U δ with
 |no=>rw[q]at o;exact o
 |rz C=>rw[q]at o;exact o
 |ok ds =>
  rw[q]at o;have o:Ha K E A H (if ds.length<=1000000 then eF cond ge tgt δ ds else .no) Q:=o;by_cases hz:ds.length<=1000000
  case neg=>rw[if_neg hz]at o;exact o.elim
  rw[if_pos hz]at o;intro J H1 Z hJ D p;have S:=R.same Z;have nD:D∉A:=S.ls.new p;cases qo:eF cond ge tgt δ ds with
  |rz C =>
   exfalso;have:∀l,eF cond ge tgt δ l≠.rz C:=by
    intro l
    induction l with
    |nil=>intro z;cases z
    |cons d r ih =>
     intro z;unfold eF at z;split at z
     ·cases z
     ·rename_i f _;cases c1:cond (δ++f) with
      |ok b =>
       simp only[c1,Rs.cW,Rs.ag]at z;split at z
       ·cases h:ge (δ++f) with
        |ok x =>
         simp only[h,Rs.cW,Rs.ag]at z;cases j:eF cond ge tgt δ r with
         |ok l=>simp only[j,Rs.ag]at z;cases z
         |rz C'=>simp only[j,Rs.dQ]at z;cases z;exact ih j
         |no=>simp only[j,Rs.bq]at z;cases z
        |rz C'=>simp only[h,Rs.calm,Rs.bq]at z;cases z
        |no=>simp only[h,Rs.calm,Rs.bq]at z;cases z
       ·exact ih z
      |rz C'=>simp only[c1,Rs.calm,Rs.bq]at z;cases z
      |no=>simp only[c1,Rs.calm,Rs.bq]at z;cases z
   exact this ds qo
  |no=>rw[qo]at o;exact o.elim
  |ok out =>
   rw[qo]at o;have base:aw (del H1 A) (del (upd H1 D (.lst [])) (D::A)):=λb o e=>by obtain⟨z,e⟩:=a9 e;have nb:b≠D:=aJ e p;rw[aN (by simp[nb,z]),az nb];exact e
   refine⟨λi m ys H'=>m=ds.length-i/\i<=ds.length/\aw H1 H'/\H' D=some (.lst ys)/\ys.length<=i/\∃B rest,eF cond ge tgt δ (ds.drop i)=.ok rest/\out=B++rest/\Iss K (del H' (D::A)) B ys,
    ⟨ds.length,by simp,NY _,bz p,aE,N7 _,[],out,qo,rfl,cJ⟩,?_⟩
   rintro i m ys H' ⟨rfl,hi,s,hl,hy,B,rest,c1,h,j⟩
   refine⟨hl,?_⟩;have sG:aw (del H1 A) H':=ax.trans s;have F:∀b∈D::A,(del H1 A) b=none:=λb G=>by
    rcases N5.mp G with z|z
    ·rw[z,aN nD];exact p
    ·exact gZ z
   obtain⟨jg,js,jy⟩:=hJ H' (D::A) sG (λb G=>by
    rcases N5.mp G with z|z
    ·exact⟨_,by rw[z];exact hl,rfl⟩
    ·exact (S.ls.same s) b z) F
   by_cases hlt:i<ds.length
   ·refine .inr ⟨jg i hlt,λx H2 σ' I y=>?_⟩;obtain⟨s2,d,ed,hd⟩:=jy i x H2 hlt y;have edr:ds.drop i=d::ds.drop (i+1):=by
     rw[Oz hlt];have:ds[i]=d:=by have:=My hlt;rw[this]at ed;exact Option.some.inj ed
     rw[this]
    rw[edr]at c1;unfold eF at c1;cases et:tgt d with
    |none=>rw[et]at c1;cases c1
    |some ow =>
     rw[et]at c1;have l2:H2 D=some (.lst ys):=s2 _ _ hl;have L:Ls H2 (D::A):=λb G=>by
      rcases N5.mp G with z|z
      ·exact⟨_,by rw[z];exact l2,rfl⟩
      ·exact (S.ls.same (s.trans s2)) b z
     obtain⟨hol,hgo⟩:=hT d x σ σ' H2 (D::A) (λc H2=>tt c H2 λb H3 =>
      if b=true then eD K E0 ge c H3 λv M=>M D=some (.lst ys)/\ys.length<sizeLine/\(∃a,c=σ++a/\a.length=own.length)/\∃m',m' < ds.length-i/\_
      else (∃a,c=σ++a/\a.length=own.length)/\∃m',m' < ds.length-i/\_) ow Y I L hd et
     refine hgo λvs n N=>?_
     have O:aw (del H1 A) (del H2 (D::A)):=md (sG.trans s2) F;have RE:dq K H2 (D::A) (δ++ow) (σ++vs):=by
      refine⟨L,by rw[Nl,Nl,R.len,n,hol],λk e T=>?_⟩;by_cases hk:k<δ.length
      ·rw[NB hk]at T;obtain⟨u,e1,hu⟩:=S.get k e T;exact⟨u,by rw[NB (by rw[<-R.len];exact hk)];exact e1,hu.same O⟩
      ·rw[NF (by omega)]at T;obtain⟨u,e1,hu⟩:=N _ e T;exact⟨u,by rw[NF (by rw[<-R.len];omega),<-R.len];exact e1,hu⟩
     have bad:∀r:Rs Bool,r=.rz 0->r.calm=.no:=λr e=>by rw[e];rfl
     refine X _ _ _ (cD.run RE (λb P H3 w R3=>?_) (λC P=>?_) (λP=>?_))
     ·simp only[P,Rs.cW,Rs.ag]at c1;cases b with
      |true =>
       simp only[if_true]at c1;refine eD.run R3 (λxd ex v M s4 R4 hv=>?_) (λC ex=>?_) (λex=>?_)
       ·simp only[ex,Rs.cW,Rs.ag]at c1;cases cr:eF cond ge tgt δ (ds.drop (i+1)) with
        |ok rs =>
         simp only[cr,Rs.ag]at c1;cases c1;have l4:M D=some (.lst ys):=s4 _ _ (w _ _ l2);have dU:del (upd M D (.lst (ys++[v]))) (D::A)=del M (D::A):=kz (N3);refine⟨l4,by rw[sizeLine_eq];omega,⟨vs,rfl,n⟩,ds.length-(i+1),by omega,rfl,hlt,?_,aE,by simp;omega,B++[xd],rs,cr,by rw[h];simp,?_⟩
         ·exact aw.put (((s.trans s2).trans w).trans s4) p
         ·rw[dU];exact (j.same (aw.del (s2.trans (w.trans s4)))).append (jd hv)
        |rz C=>simp only[cr,Rs.dQ]at c1;cases c1
        |no=>simp only[cr,Rs.bq]at c1;cases c1
       ·simp only[ex,Rs.calm,Rs.bq]at c1;cases c1
       ·simp only[ex,Rs.calm,Rs.bq]at c1;cases c1
      |false =>simp only[NC,if_false]at c1;exact⟨⟨vs,rfl,n⟩,ds.length-(i+1),by omega,rfl,hlt,(s.trans s2).trans w,w _ _ l2,by omega,B,rest,c1,h,j.same (aw.del (s2.trans w))⟩
     ·simp only[P,Rs.calm,Rs.bq]at c1;cases c1
     ·simp only[P,Rs.calm,Rs.bq]at c1;cases c1
   ·have e:i=ds.length:=by omega
    subst e;rw[Pp]at c1;cases c1;rw[O8]at h;subst h;exact .inl ⟨js,o D ys H' (Z.free p) (Z.trans s) hl j⟩
def fI:Expr->List Str
 |.Name x _=>[x]
 |.Tuple [.Name x _,.Name y _] _ _=>[x,y]
 |_=>[]
def IA (own N:List Str):List Str:=N.map λx=>bif own.elem x then x++"__" else x
abbrev bk (X:Cx) (tg:Expr) (scope:Scope):=blk X (IA (fI tg) X.N) scope (fI tg)
abbrev Jv (X:Cx) (tg:Expr) (scope:Scope):Bool:=tZ X.N (IA (fI tg) X.N) X.env.scope scope (fI tg)
inductive PIf (X:Cx):List Expr->(Ds->Rs Bool)->Prop
 |nil:PIf X [] bH
 |one {c:Expr} {g:Ds->Rs Bool} (h:PCD X E0 c g):PIf X [c] g
def Mc (K:PySem.W.Frag) (ifs:List Expr) (g:Ds->Rs Bool):TT:=match ifs with
 |[]=>vN
 |_=>cD K E0 g
theorem PIf.pts {g:Ds->Rs Bool} (h:PIf X ifs g):PTs X ifs (Mc X.K ifs g):=by
 cases h with
 |nil=>exact .nil
 |one h=>exact .one h
theorem PIf.tt {g:Ds->Rs Bool} (h:PIf X ifs g):∀σ H Q,cD K E0 g σ H Q->Mc K ifs g σ H Q:=by
 cases h with
 |nil=>exact λσ H Q a=>(by obtain⟨A,δ,R,o⟩:=a;exact o H (aw.refl _))
 |one h=>exact λ_ _ _ h=>h
theorem Fg {a:Ds->Rs (List PyData)} (hc:X.calm=true) (hi:PID X E tg iter a)
  (c:TgD X.K n0 (fI tg).length tgt g) (e:∀C s2 H2 fp,PG (bk X tg scope C s2 H2 fp) tg g) (b:∀C s2 H2 fp,PIf (bk X tg scope C s2 H2 fp) ifs cond) (f:∀C s2 H2 fp,PD (bk X tg scope C s2 H2 fp) E0 elt ge)
  (hB:Jv X tg scope=true) (h:∀x,foldedSetIterable iter X.env x=pure x):PLD X E (.ListComp elt [⟨tg,iter,ifs,0⟩] scope pos) (bw n0 a cond ge tgt) :=
 (Fd (own:=fI tg) (te:=eD X.K E0 ge) hc hi e (λC s2 H2 fp=>(b C s2 H2 fp).pts) (λC s2 H2 fp=>f C s2 H2 fp) hB h).imp (EF c (PIf.tt (b 0 X.s₀ X.H₀ [])))
def PLS (X:Cx) (E:XK) (i:Nat) (st:Stmt) (a:Ds->Rs (List PyData)):Prop:=PS X st (FD (lD X.K E a) (jO i))
theorem EC {c:Ds->Rs (List PyData)} (a:swapsWith (.ListComp elt [⟨tg,iter,ifs,0⟩] scope pos) (some (.Name x pos')) spos.line X.env=pure true) (hc:X.calm=true) (f:X.N.Nodup) (hi:PID X E tg iter c)
  (j:TgD X.K n0 (fI tg).length tgt g) (l:∀C s2 H2 fp,PG (bk X tg scope C s2 H2 fp) tg g) (e:∀C s2 H2 fp,PIf (bk X tg scope C s2 H2 fp) ifs cond) (m:∀C s2 H2 fp,PD (bk X tg scope C s2 H2 fp) E0 elt ge)
  (b:X.N[i]?=some x) (n:Loc X.env.scope x) (hB:Jv X tg scope=true) (o:∀x,foldedSetIterable iter X.env x=pure x) (p:X.fn x=true\/X.env.scope.names.lookup x=some .local) :
  PLS X E i (.Assign [.Name x pos'] (.ListComp elt [⟨tg,iter,ifs,0⟩] scope pos) spos) (bw n0 c cond ge tgt) :=
 PS.imp (pP (own:=fI tg) (te:=eD X.K E0 ge) hc f b n a hi l (λC s2 H2 fp=>(e C s2 H2 fp).pts) (λC s2 H2 fp=>m C s2 H2 fp) hB o p) λD σ H h=>EF j (PIf.tt (e 0 X.s₀ X.H₀ [])) σ H _ h
end
inductive Sr where
 |nx (δ:Ds)
 |rt (d:PyData)
 |rz (C:Addr)
 |bk (δ:Ds)
 |ct (δ:Ds)
 |no
def ik (K:PySem.W.Frag) (G:Hp):PyData->HO->Prop
 |.list ds,.lst xs=>Iss K G ds xs
 |.dict kvs,o=>He kvs o
 |_,_=>False
theorem ik.same {G':Hp} {d:PyData} (h:ik K G d o) (s:aw G G'):ik K G' d o:=by
 unfold ik at h ⊢;split at h
 ·exact Iss.same s h
 ·exact h
 ·exact h.elim
theorem ik.is {d:PyData} (h:ik K G d o) (ha:G a=some o):Is K G d (.ref a):=by
 unfold ik at h;split at h
 ·exact jK ha h
 ·unfold Is;exact .inl (.inr ⟨a,_,rfl,h,ha⟩)
 ·exact h.elim
theorem ik.lst (h:ik K G (.list ds) o):∃xs,o=.lst xs/\Iss K G ds xs:=by
 unfold ik at h;split at h
 ·rename_i e;cases e;exact⟨_,rfl,h⟩
 ·rename_i e;cases e
 ·exact h.elim
structure bQ (K:PySem.W.Frag) (H0:Hp) (A0:List Addr) (H:Hp) (A:List Addr) (O:List Nat) (δ:Ds) (σ:St):Prop where
 same:aw H0 H
 ls0:Ls H0 A0
 new:∀a∈A,H0 a=none
 ls:Ls H A
 len:δ.length=σ.length
 pl:∀(i:Nat) d,i∉O->δ[i]?=some (some d)->∃v,σ[i]?=some (some v)/\Is K (del H (A++A0)) d v
 own:∀(i:Nat) d,i∈O->δ[i]?=some (some d)->∃a o d',σ[i]?=some (some (.ref a))/\a∈A/\H a=some o/\d=d'/\ik K (del H (A++A0)) d' o
 inj:∀(i j:Nat) d e a,i∈O->j∈O->δ[i]?=some (some d)->δ[j]?=some (some e)->σ[i]?=some (some (.ref a))->σ[j]?=some (some (.ref a))->i=j
def mask (O:List Nat) (δ:Ds):Ds:=if O=[] then δ else δ.mapIdx λi d=>if i∈O then none else d
theorem lX (δ:Ds):mask [] δ=δ:=by simp[mask]
theorem CZ {d:PyData} (h:(mask O δ)[i]?=some (some d)):i∉O/\δ[i]?=some (some d):=by
 unfold mask at h;split at h
 ·rename_i z;subst z;exact⟨by simp,h⟩
 ·rw[Oo]at h;cases q:δ[i]? with
  |none=>rw[q]at h;cases h
  |some x =>
   rw[q]at h;simp only[Of,Option.some.injEq]at h;by_cases z:i∈O
   ·rw[if_pos z]at h;cases h
   ·rw[if_neg z]at h;exact⟨z,by rw[h]⟩
theorem wj:(mask O δ).length=δ.length:=by unfold mask;split <;> simp
theorem vP:aw (del H (A++B)) (del H B):=λb o e=>by obtain⟨z,e⟩:=a9 e;rw[aN (λq=>z (N8 _ q))];exact e
section
theorem bQ.lsA (R:bQ K H0 A0 H A O δ σ):Ls H (A++A0):=λa h=>(NI.mp h).elim (R.ls a) λz=>(R.ls0.same R.same) a z
theorem bQ.step (R:bQ K H0 A0 H A O δ σ) (s:aw H H1):bQ K H0 A0 H1 A O δ σ where
 same:=R.same.trans s
 ls0:=R.ls0
 new:=R.new
 ls:=R.ls.same s
 len:=R.len
 pl:=λi d h e=>by obtain⟨v,e1,h1⟩:=R.pl i d h e;exact⟨v,e1,h1.same s.del⟩
 own:=λi d h e=>by obtain⟨a,xs,ds,e1,h1,h2,b,c⟩:=R.own i d h e;exact⟨a,xs,ds,e1,h1,s _ _ h2,b,c.same s.del⟩
 inj:=R.inj
theorem bQ.apart (R:bQ K H0 A0 H A O δ σ) (h:a∈A):a∉A0:=λz=>by obtain⟨xs,e,_⟩:=R.ls0 a z;rw[R.new a h]at e;cases e
theorem bQ.ownL (R:bQ K H0 A0 H A O δ σ) (h:i∈O) (e:δ[i]?=some (some (.list ds))):∃a xs b,σ[i]?=some (some (.ref a))/\a∈A/\H a=some (.lst xs)/\PyData.list ds=.list b/\Iss K (del H (A++A0)) b xs:=by obtain⟨a,o,d',e1,h1,h2,c,f⟩:=R.own i _ h e;subst c;obtain⟨xs,rfl,g⟩:=f.lst;exact⟨a,xs,ds,e1,h1,h2,rfl,g⟩
theorem bQ.full (R:bQ K H0 A0 H A O δ σ):dq K H A0 δ σ where
 ls:=R.ls0.same R.same
 len:=R.len
 get:=λi d e=>by
  by_cases h:i∈O
  ·obtain⟨a,xs,ds,e1,h1,h2,b,c⟩:=R.own i d h e;subst b;exact⟨_,e1,(c.same vP).is (by rw[aN (R.apart h1)];exact h2)⟩
  ·obtain⟨v,e1,h1⟩:=R.pl i d h e;exact⟨v,e1,h1.same vP⟩
theorem bQ.part (R:bQ K H0 A0 H A O δ σ):dq K H (A++A0) (mask O δ) σ where
 ls:=R.lsA
 len:=by rw[wj];exact R.len
 get:=λi d e=>by obtain⟨h,e⟩:=CZ e;exact R.pl i d h e
theorem get_set {l:List α} {x y:α} (h:(l.set i x)[j]?=some y):(i=j/\y=x)\/(i≠j/\l[j]?=some y):=by
 by_cases z:i=j
 ·subst z;rw[List.getElem?_set_self']at h;cases q:l[i]? with
  |none=>rw[q]at h;cases h
  |some w=>rw[q]at h;simp at h;exact .inl ⟨rfl,h.symm⟩
 ·rw[NJ z]at h;exact .inr ⟨z,h⟩
theorem kr {l:List α} {x y:α} (hn:i≠j) (h:l[j]?=some y):(l.set i x)[j]?=some y:=by rw[NJ hn];exact h
theorem bQ.set {d:PyData} (R:bQ K H0 A0 H A O δ σ) (hi:i∉O) (hl:i<δ.length) (h:Is K (del H (A++A0)) d v):bQ K H0 A0 H A O (δ.set i (some d)) (σ.set i (some v)) where
 same:=R.same
 ls0:=R.ls0
 new:=R.new
 ls:=R.ls
 len:=by simp[R.len]
 pl:=λj e b q=>by
  rcases get_set q with⟨z,q⟩|⟨z,q⟩
  ·cases q;subst z;exact⟨v,by rw[NW (by rw[<-R.len];exact hl)],h⟩
  ·obtain⟨u,e1,h1⟩:=R.pl j e b q;exact⟨u,kr z e1,h1⟩
 own:=λj e b q=>by
  rcases get_set q with⟨z,q⟩|⟨z,q⟩
  ·subst z;exact absurd b hi
  ·obtain⟨a,xs,ds,e1,h1⟩:=R.own j e b q;exact⟨a,xs,ds,kr z e1,h1⟩
 inj:=λj k d' e a b c f g p1 p2=>by
  have n1:i≠j:=λz=>hi (z▸b)
  have n2:i≠k:=λz=>hi (z▸c)
  rw[NJ n1]at f p1;rw[NJ n2]at g p2;exact R.inj j k d' e a b c f g p1 p2
theorem bQ.setOwn (R:bQ K H0 A0 H A O δ σ) (hi:i∈O) (hl:i<δ.length) (hn:H a=none) (s:aw H H1) (ha:H1 a=some (.lst xs)) (h:Iss K (del H1 (a::(A++A0))) ds xs) :
  bQ K H0 A0 H1 (a::A) O (δ.set i (some (.list ds))) (σ.set i (some (.ref a))) where
 same:=R.same.trans s
 ls0:=R.ls0
 new:=λb m=>by
  rcases N5.mp m with z|z
  ·rw[z];exact R.same.free hn
  ·exact R.new b z
 ls:=λb m=>by
  rcases N5.mp m with z|z
  ·exact⟨_,by rw[z];exact ha,rfl⟩
  ·exact (R.ls.same s) b z
 len:=by simp[R.len]
 pl:=λj e c q=>by
  rcases get_set q with⟨z,q⟩|⟨z,q⟩
  ·subst z;exact absurd hi c
  ·obtain⟨u,e1,h1⟩:=R.pl j e c q;refine⟨u,kr z e1,h1.same λb o e=>?_⟩;obtain⟨y,e⟩:=a9 e;have n:b≠a:=aJ e hn;rw[aN (by simpa[n] using y)];exact s _ _ e
 own:=λj e c q=>by
  have r:∀b o,del H (A++A0) b=some o->del H1 (a::A++A0) b=some o:=λb o e=>by obtain⟨y,e⟩:=a9 e;have n:b≠a:=aJ e hn;rw[aN (by simpa[n] using y)];exact s _ _ e
  rcases get_set q with⟨z,q⟩|⟨z,q⟩
  ·cases q;subst z;exact⟨a,_,_,by rw[NW (by rw[<-R.len];exact hl)],N3,ha,rfl,h⟩
  ·obtain⟨b,ys,es,e1,h1,h2,v,w⟩:=R.own j e c q;exact⟨b,ys,es,kr z e1,N2 _ h1,s _ _ h2,v,w.same r⟩
 inj:=λj k d' e b c f g l p1 p2=>by
  have old:∀k,k∈O->i≠k->∀e,δ[k]?=some (some e)->σ[k]?=some (some (.ref a))->False:=λk f _ e q p=>by obtain⟨b,ys,es,e1,h1,h2,_⟩:=R.own k e f q;rw[p]at e1;cases e1;rw[hn]at h2;cases h2
  by_cases z1:i=j
  ·by_cases z2:i=k
   ·rw[<-z1,z2]
   ·subst z1;rw[NW (by rw[<-R.len];exact hl)]at p1;cases p1;rw[NJ z2]at l p2;exact (old k f z2 e l p2).elim
  ·by_cases z2:i=k
   ·subst z2;rw[NW (by rw[<-R.len];exact hl)]at p2;cases p2;rw[NJ z1]at g p1;exact (old j c z1 d' g p1).elim
   ·rw[NJ z1]at g p1;rw[NJ z2]at l p2;exact R.inj j k d' e b c f g l p1 p2
theorem bQ.put {l:PyData} (R:bQ K H0 A0 H A O δ σ) (hi:i∈O) (hd:δ[i]?=some (some l)) (p:σ[i]?=some (some (.ref a))) (ha:a∈A) (h:Iss K (del H (A++A0)) ds ys) :
  bQ K H0 A0 (upd H a (.lst ys)) A O (δ.set i (some (.list ds))) σ:=by
 have m:del (upd H a (.lst ys)) (A++A0)=del H (A++A0):=kz (NR _ ha);have hl:i<δ.length:=(ND.mp hd).1;refine⟨λb o e=>?_,R.ls0,R.new,λb s=>?_,by simp[R.len],λj e c q=>?_,λj e c q=>?_,λj k d' e b c r f g p1 p2=>?_⟩
 ·have n:b≠a:=λz=>by rw[z,R.new a ha]at e;cases e
  rw[az n];exact R.same b o e
 ·by_cases z:b=a
  ·exact⟨_,by rw[z,aE],rfl⟩
  ·rw[az z];exact R.ls b s
 ·rcases get_set q with⟨z,q⟩|⟨z,q⟩
  ·subst z;exact absurd hi c
  ·rw[m];exact R.pl j e c q
 ·rcases get_set q with⟨z,q⟩|⟨z,q⟩
  ·cases q;subst z;exact⟨a,_,_,p,ha,aE,rfl,by rw[m];exact h⟩
  ·obtain⟨b,zs,es,e1,h1,h2,u,v⟩:=R.own j e c q;have n:b≠a:=λw=>z (R.inj i j _ _ a hi c hd q p (by rw[<-w];exact e1))
   exact⟨b,zs,es,e1,h1,by rw[az n];exact h2,u,by rw[m];exact v⟩
 ·rcases get_set f with⟨z1,f⟩|⟨z1,f⟩ <;> rcases get_set g with⟨z2,g⟩|⟨z2,g⟩
  ·rw[<-z1,z2]
  ·subst z1;exact R.inj i k l e b hi r hd g p1 p2
  ·subst z2;exact R.inj j i d' l b c hi f hd p1 p2
  ·exact R.inj j k d' e b c r f g p1 p2
def un (H0 G:Hp):Hp:=λb=>match H0 b with|some o=>some o|none=>G b
theorem C8:aw H0 (un H0 G):=λb o e=>by unfold un;rw[e]
theorem ME (a:aw H0 H) (c:aw G H):aw G (un H0 G):=λb o e=>by
 unfold un;cases q:H0 b with
 |none=>exact e
 |some o2=>have h2:=a b o2 q;rw[c b o e]at h2;exact h2.symm
theorem Mj (a:aw H0 H) (c:aw G H):aw (un H0 G) H:=λb o e=>by
 unfold un at e;cases q:H0 b with
 |none=>rw[q]at e;exact c b o e
 |some o2=>rw[q]at e;rw[<-Option.some.inj e];exact a b o2 q
theorem bQ.more (R:bQ K H0 A0 H A O δ σ):bQ K (un H0 (del H (A++A0))) A0 H A O δ σ :=
 ⟨Mj R.same ax,R.ls0.same C8,λa h=>by unfold un;rw[R.new a h];exact gZ (NR _ h),R.ls,R.len,R.pl,R.own,R.inj⟩
theorem bQ.less {b:Hp} (R:bQ K b A0 H A O δ σ) (s:aw H0 b) (l:Ls H0 A0):bQ K H0 A0 H A O δ σ:=⟨s.trans R.same,l,λa h=>s.free (R.new a h),R.ls,R.len,R.pl,R.own,R.inj⟩
end
def nB (K:PySem.W.Frag) (E:XK) (H0:Hp) (A0:List Addr) (O:List Nat) (r:Sr) (D:Ends):Prop:=match r with
 |.nx δ=>∀A σ H,bQ K H0 A0 H A O δ σ->D.nx σ H
 |.rt d=>∀v H,aw H0 H->Is K (del H A0) d v->D.rt v H
 |.rz C=>∀H,aw H0 H->E (.ref C) none H
 |.bk δ=>∀A σ H,bQ K H0 A0 H A O δ σ->D.bk σ H
 |.ct δ=>∀A σ H,bQ K H0 A0 H A O δ σ->D.ct σ H
 |.no=>False
def sD (K:PySem.W.Frag) (E:XK) (O:List Nat) (G:Ds->Sr):TS:=λD σ H=>∃H0 A0 A δ,bQ K H0 A0 H A O δ σ/\nB K E H0 A0 O (G δ) D
def PSD (X:Cx) (E:XK) (O:List Nat) (s:Stmt) (G:Ds->Sr):Prop:=PS X s (sD X.K E O G)
def PBD (X:Cx) (E:XK) (O:List Nat) (ss:List Stmt) (G:Ds->Sr):Prop:=PSs X ss (sD X.K E O G)
def ba:Ds->Sr:=λδ=>.nx δ
def aF (a b:Ds->Sr):Ds->Sr:=λδ=>match a δ with
 |.nx δ'=>b δ'
 |r=>r
def ofR {α:Type} (r:Rs α) (k:α->Sr):Sr:=match r with
 |.ok a=>k a
 |.rz C=>.rz C
 |.no=>.no
@[simp]theorem av (a:α) (k:α->Sr):ofR (.ok a) k=k a:=rfl
@[simp]theorem jU (C:Addr) (k:α->Sr):ofR (.rz C) k=.rz C:=rfl
@[simp]theorem jT (k:α->Sr):ofR (.no:Rs α) k=.no:=rfl
def sIf (c:Ds->Rs Bool) (a b:Ds->Sr):Ds->Sr:=λδ=>ofR (c δ) λt=>if t=true then a δ else b δ
def bj (g:Ds->Rs PyData):Ds->Sr:=λδ=>ofR (g δ) .rt
def kO (g:Ds->Rs PyData):Ds->Sr:=λδ=>ofR (g δ) λ_=>.nx δ
def aQ (O:List Nat) (i:Nat) (g:Ds->Rs PyData):Ds->Sr:=λδ=>if i<δ.length then ofR (g (mask O δ)) λd=>.nx (δ.set i (some d)) else .no
def qT (i:Nat) (g:Ds->Rs PyData):Ds->Sr:=λδ=>if i<δ.length then ofR (g δ) λd=>if fz d then .nx (δ.set i (some d)) else .no else .no
def iL (O:List Nat) (i:Nat) (g:Ds->Rs (List PyData)):Ds->Sr:=λδ=>if i<δ.length then ofR (g (mask O δ)) λds=>.nx (δ.set i (some (.list ds))) else .no
def hV (O:List Nat) (i:Nat) (g:Ds->Rs PyData):Ds->Sr:=λδ=>match δ[i]? with
 |some (some (.list ds))=>ofR (g (mask O δ)) λd=>if ds.length<1000000 then .nx (δ.set i (some (.list (ds++[d])))) else .no
 |_=>.no
section
variable {ss:List Stmt} {G G':Ds->Sr} {a b c:Expr} {ga gb:Ds->Rs PyData} {ca:Ds->Rs Bool}
theorem uM:PBD X E O [] ba:=vt.imp λD σ H a=>(by obtain⟨H0,A0,A,δ,R,o⟩:=a;exact o A σ H R)
theorem iY (h1:PSD X E O st G) (h2:PBD X E O ss G'):PBD X E O (st::ss) (aF G G'):=(cx h1 h2).imp λD σ H ⟨H0,A0,A,δ,R,o⟩=>⟨H0,A0,A,δ,R,by
 unfold aF at o;cases q:G δ with
 |nx δ'=>rw[q]at o;exact λa σ' H' b=>⟨H0,A0,a,δ',b,o⟩
 |rt d=>rw[q]at o;exact o
 |rz C=>rw[q]at o;exact o
 |bk d=>rw[q]at o;exact o
 |ct d=>rw[q]at o;exact o
 |no=>rw[q]at o;exact o⟩
theorem oW (h1:PSD X E O st G):PBD X E O [st] G:=(ie h1).imp λD σ H h=>h
theorem Dx {a:List Stmt} (hc:PCD X E c ca) (h1:PBD X E O ss G) (h2:PBD X E O a G'):PSD X E O (.If c ss a pos) (sIf ca G G'):=(Ay hc h1 h2).imp λD σ H e=>by
 obtain⟨H0,A0,A,δ,R,o⟩:=e;unfold sIf at o;refine cD.run R.full (λt b H1 f R1=>?_) (λC b H' s'=>?_) (λb=>?_)
 ·rw[b]at o;cases t with
  |true=>exact⟨H0,A0,A,δ,R.step f,o⟩
  |false=>exact⟨H0,A0,A,δ,R.step f,o⟩
 ·rw[b]at o;exact o H' (R.same.trans s')
 ·rw[b]at o;exact o
theorem vE (h:PD X E e ga):PSD X E O (.Return (some e) pos) (bj ga):=(qZ h).imp λD σ H a=>by
 obtain⟨H0,A0,A,δ,R,o⟩:=a;unfold bj at o;refine eD.run R.full (λd c v H1 f R1 hv=>?_) (λC b H' s'=>?_) (λb=>?_)
 ·rw[c]at o;exact o v H1 (R.same.trans f) hv
 ·rw[b]at o;exact o H' (R.same.trans s')
 ·rw[b]at o;exact o
theorem EL (h:PD X E e ga) (c:swapsWith e none pos.line X.env=pure false):PSD X E O (.Expr e pos) (kO ga):=(pf h c).imp λD σ H a=>by
 obtain⟨H0,A0,A,δ,R,o⟩:=a;unfold kO at o;refine eD.run R.full (λd f v H1 g R1 hv=>?_) (λC b H' s'=>?_) (λb=>?_)
 ·rw[f]at o;exact o A σ H1 (R.step g)
 ·rw[b]at o;exact o H' (R.same.trans s')
 ·rw[b]at o;exact o
theorem HI (h:PD X E e ga) (c:X.N.Nodup) (f:i∉O) (hi:X.N[i]?=some x) (g:Loc X.env.scope x) (j:swapsWith e (some (.Name x pos')) pos.line X.env=pure false)
  (l:X.fn x=true\/X.env.scope.names.lookup x=some .local):PSD X E O (.Assign [.Name x pos'] e pos) (aQ O i ga):=(nN c hi g h j l).imp λD σ H a=>by
 obtain⟨H0,A0,A,δ,R,o⟩:=a;unfold aQ at o;split at o
 ·rename_i hl;refine eD.run R.part (λd m v H1 n R1 hv=>?_) (λC b H' s'=>?_) (λb=>?_)
  ·rw[m]at o;exact o A _ H1 ((R.step n).set f hl hv)
  ·rw[b]at o;exact o H' (R.same.trans s')
  ·rw[b]at o;exact o
 ·exact o.elim
theorem C4 (h:PD X E e ga) (f:X.N.Nodup) (g:i∉O) (hi:X.N[i]?=some x) (j:Loc X.env.scope x) (l:swapsWith e (some (.Name x pos')) pos.line X.env=pure false)
  (m:X.fn x=true\/X.env.scope.names.lookup x=some .local):PSD X E O (.Assign [.Name x pos'] e pos) (qT i ga):=(nN f hi j h l m).imp λD σ H a=>by
 obtain⟨H0,A0,A,δ,R,o⟩:=a;unfold qT at o;split at o
 ·rename_i hl;refine eD.run R.full (λd n v H1 c R1 hv=>?_) (λC b H' s'=>?_) (λb=>?_)
  ·rw[n]at o;have o:nB X.K E H0 A0 O (if fz d=true then .nx (δ.set i (some d)) else .no) D:=o;split at o
   ·rename_i hd;exact o A _ H1 ((R.step c).set g hl ((hv.same ax).dl (R.step c).lsA hd))
   ·exact o.elim
  ·rw[b]at o;exact o H' (R.same.trans s')
  ·rw[b]at o;exact o
 ·exact o.elim
theorem Gb {a:Ds->Rs (List PyData)} (h:PLD X E e a) (f:X.N.Nodup) (g:i∈O) (hi:X.N[i]?=some x) (j:Loc X.env.scope x) (l:swapsWith e (some (.Name x pos')) pos.line X.env=pure false)
  (m:X.fn x=true\/X.env.scope.names.lookup x=some .local):PSD X E O (.Assign [.Name x pos'] e pos) (iL O i a):=(nN f hi j h l m).imp λD σ H b=>by
 obtain⟨H0,A0,A,δ,R,o⟩:=b;unfold iL at o;split at o
 ·rename_i hl;refine⟨A++A0,mask O δ,R.part,?_⟩;cases q:a (mask O δ) with
  |ok ds =>rw[q]at o;exact λp xs H' hn s n c=>o (p::A) _ H' (R.setOwn g hl hn s n c)
  |rz C=>rw[q]at o;exact λH' s'=>o H' (R.same.trans s')
  |no=>rw[q]at o;exact o
 ·exact o.elim
theorem Dt {a:Ds->Rs (List PyData)} (h:PLS X E i st a) (f:i∉O):PSD X E O st (aQ O i (gL a)):=PS.imp h λD σ H b=>by
 obtain⟨H0,A0,A,δ,R,o⟩:=b;unfold aQ gL at o;split at o
 ·rename_i hl;have e:=R.part;refine⟨A++A0,mask O δ,e,?_⟩;cases q:a (mask O δ) with
  |ok ds =>rw[q]at o;intro p xs H' hn s g c;exact o A _ H' ((R.step s).set f hl (jK (by rw[aN (e.ls.new hn)];exact g) (c.same nh)))
  |rz C=>rw[q]at o;exact λH' s'=>o H' (R.same.trans s')
  |no=>rw[q]at o;exact o
 ·exact o.elim
theorem tyL {p:Addr} (h:H p=some (.lst xs)):tyV K "list" (.ref p) H:=.inl ⟨rfl,xs,SqL.of h⟩
theorem FT {j c:Pos} (h:PD X E e ga) (s:i∈O) (hi:X.N[i]?=some x) (hv:Vis X.env.scope x)
  (hd:(x==("__debug__":Str))=false) (l:(x==("__classdict__":Str))=false) (f:starEach [e] X.env=(false,eval e X.env)::starEach [] X.env)
  (a:attributeBase (.Name x pn) "append" X.env (eval (.Name x pn) X.env)=eval (.Name x pn) X.env)
  (g:((backTo c (starEach [e] X.env)).all (λx=>!x.1)&&(backToKw c (keywordEach [] X.env)).all (λx=>x.1.isSome)&&decide (([e]:List Expr).length+([]:List Keyword).length+(if ([]:List Keyword).isEmpty then 0 else 1)<30))=true)
  (b:(j.endLine==c.line)=true) (w:swapsWith (.Call (.Attribute (.Name x pn) "append" j) [e] [] c) none pos.line X.env=pure false) :
  PSD X E O (.Expr (.Call (.Attribute (.Name x pn) "append" j) [e] [] c) pos) (hV O i ga) :=
 (pf (Df PySem.F.plainAttrs_list PySem.F.slot_list_append PySem.F.type_list_append nF (j6 hi hv hd l) (eB h fV f) a g b f rfl) w).imp λD σ H m=>by
  obtain⟨H0,A0,A,δ,R,o⟩:=m;unfold hV at o;split at o
  ·rename_i ds q;obtain⟨p,xs,ds',e1,y,hl,e2,u⟩:=R.ownL s q;cases e2;refine⟨_,e1,tyL hl,?_⟩;refine eD.run R.part (λd z v H1 n R1 hv=>?_) (λC r H' s'=>?_) (λr=>?_)
   ·rw[z]at o;have o:nB X.K E H0 A0 O (if ds.length<1000000 then .nx (δ.set i (some (.list (ds++[d])))) else .no) D:=o;split at o
    ·rename_i hz;refine⟨p,xs,v,rfl,rfl,n _ _ hl,by rw[u.length,sizeLine_eq];omega,?_⟩;exact o A _ _ ((R.step n).put s q e1 y ((u.same n.del).append (jd hv)))
    ·exact o.elim
   ·rw[r]at o;exact o H' (R.same.trans s')
   ·rw[r]at o;exact o
  ·exact o.elim
def TgS (K:PySem.W.Frag) (O:List Nat) (tgt:PyData->Ds->Option Ds) (g:TG):Prop:=∀(d:PyData) (v:V) (H0:Hp) (A0:List Addr) (H:Hp) (A:List Addr) (δ a:Ds) (σ:St) (Q:St->Hp->Prop),bQ K H0 A0 H A O δ σ->Is K (del H (A++A0)) d v->tgt d δ=some a ->
 (∀b,bQ K H0 A0 H A O a b->Q b H)->g v σ H Q
def bB (i:Nat):PyData->Ds->Option Ds:=λd δ=>if i<δ.length then some (δ.set i (some d)) else none
theorem CP (hi:i∉O):TgS K O (bB i) (jO i):=λd v H0 A0 H A δ δ' σ Q R h e k=>by
 unfold bB at e;split at e
 ·rename_i hl;cases e;exact k _ (R.set hi hl h)
 ·cases e
def mS:List Nat->List PyData->Ds->Option Ds
 |[],[],δ=>some δ
 |i::is,d::ds,δ=>if i<δ.length then mS is ds (δ.set i (some d)) else none
 |_,_,_=>none
def iu (is:List Nat):PyData->Ds->Option Ds
 |.tuple ds,δ=>mS is ds δ
 |_,_=>none
def yK:List Nat->TGs
 |[]=>L2.J8
 |i::is=>L2.Aq (jO i) (yK is)
theorem oH {K:PySem.W.Frag}:∀(is:List Nat) (ds:List PyData) (vs:List V) (H0:Hp) (A0:List Addr) (H:Hp) (A:List Addr) (δ a:Ds) (σ:St) (Q:St->Hp->Prop),(∀i∈is,i∉O)->bQ K H0 A0 H A O δ σ->Iss K (del H (A++A0)) ds vs->mS is ds δ=some a ->
  (∀b,bQ K H0 A0 H A O a b->Q b H)->yK is vs σ H Q
 |[],[],vs,H0,A0,H,A,δ,a,σ,Q,_,R,h,e,k=>by cases e;exact⟨h.nil_of,k σ R⟩
 |i::is,d::ds,vs,H0,A0,H,A,δ,a,σ,Q,hO,R,h,e,k=>by
  obtain⟨v,r,rfl,h1,h2⟩:=h.cons_of;unfold mS at e;split at e
  ·rename_i hl;exact⟨v,r,rfl,oH is ds r H0 A0 H A _ a _ Q (λj c=>hO j (N2 _ c)) (R.set (hO i N3) hl h1) h2 e k⟩
  ·cases e
 |[],_::_,_,_,_,_,_,_,_,_,_,_,_,_,e,_=>by cases e
 |_::_,[],_,_,_,_,_,_,_,_,_,_,_,_,e,_=>by cases e
theorem qC:∀{is:List Nat} {ds:List PyData} {δ a:Ds},mS is ds δ=some a->ds.length=is.length
 |[],[],_,_,_=>rfl
 |_::is,_::ds,δ,a,e=>by
  unfold mS at e;split at e
  ·simp[qC e]
  ·cases e
 |[],_::_,_,_,e=>by cases e
 |_::_,[],_,_,e=>by cases e
theorem G4 {is:List Nat} (hi:∀i∈is,i∉O):TgS K O (iu is) (L2.Kv K is.length (yK is)):=λd v H0 A0 H A δ a σ Q R h e k=>by
 unfold iu at e;split at e
 ·obtain⟨p,xs,rfl,c,b⟩:=h.ofTup;exact⟨p,xs,rfl,SqT.of (ax _ _ c),by rw[b.length,qC e],oH is _ xs H0 A0 H A δ a σ Q hi R b e k⟩
 ·cases e
def forL (tgt:PyData->Ds->Option Ds) (body:Ds->Sr):List PyData->Ds->Sr
 |[],δ=>.nx δ
 |d::r,δ=>match tgt d δ with
  |none=>.no
  |some δ1=>match body δ1 with
   |.nx δ2=>forL tgt body r δ2
   |.ct δ2=>forL tgt body r δ2
   |.bk δ2=>.nx δ2
   |.rt v=>.rt v
   |.rz C=>.rz C
   |.no=>.no
def fW (O:List Nat) (src:Ds->Rs (List PyData)) (tgt:PyData->Ds->Option Ds) (body:Ds->Sr):Ds->Sr:=λδ=>ofR (src (mask O δ)) λds=>forL tgt body ds δ
theorem Hd {u:Ds->Rs (List PyData)} {tgt:PyData->Ds->Option Ds} (S:PassesOwn (model X.prog X.w) X.A X.env X.xe) (hc:X.calm=true) (hi:PID X E tg iter u) (T:TgS X.K O tgt g) (U:PG X tg g) (B:PBD X E O ss G)
  (W:∀x,foldedSetIterable iter X.env x=pure x):PSD X E O (.For tg iter ss [] pos) (fW O u tgt G):=(IX S hc hi U B W).imp λD σ H F=>by
 obtain⟨H0,A0,A,δ,R,o⟩:=F;unfold fW at o;refine⟨A++A0,mask O δ,R.part,?_⟩;cases q:u (mask O δ) with
 |no=>rw[q]at o;exact o
 |rz C=>rw[q]at o;exact λH' s'=>o H' (R.same.trans s')
 |ok ds =>
  rw[q]at o;intro J H1 N Y;have Z:=(R.step N).more;have o:nB X.K E H0 A0 O (forL tgt G ds δ) D:=o;refine⟨λi m f H'=>m=ds.length-i/\i<=ds.length/\∃l c,bQ X.K (un H0 (del H1 (A++A0))) A0 H' l O c f/\nB X.K E H0 A0 O (forL tgt G (ds.drop i) c) D,⟨ds.length,by simp,NY _,A,δ,Z,o⟩,?_⟩
  rintro i m f H' ⟨rfl,hi',l,c,n,o'⟩
  have P:aw (del H1 (A++A0)) (un H0 (del H1 (A++A0))):=ME (R.same.trans N) ax;have hB:∀b∈l++A0,(del H1 (A++A0)) b=none:=λb B=>by
   rcases NI.mp B with z|z
   ·exact P.free (n.new b z)
   ·exact gZ (N8 _ z)
  obtain⟨jg,js,jy⟩:=Y H' (l++A0) (P.trans n.same) n.lsA hB;by_cases hlt:i<ds.length
  ·refine .inr ⟨jg i hlt,?_⟩;have I:ds.drop i=ds[i]::ds.drop (i+1):=Oz hlt;rw[I]at o';unfold forL at o';refine⟨λp H2=>∃L a,bQ X.K (un H0 (del H1 (A++A0))) A0 H2 L O a p/\nB X.K E H0 A0 O (forL tgt G (ds.drop (i+1)) a) D,λp H2 ⟨L,a,R2,o2⟩=>⟨ds.length-(i+1),by omega,rfl,hlt,L,a,R2,o2⟩,λx H2 y=>?_⟩;obtain⟨s2,d,Q,hd⟩:=jy i x H2 hlt y;have:ds[i]=d:=by have:=My hlt;rw[this]at Q;exact Option.some.inj Q
   rw[this]at o';cases et:tgt d c with
   |none=>rw[et]at o';exact o'.elim
   |some δ1 =>
    simp only[et]at o';refine T d x _ _ _ _ _ _ _ _ (n.step s2) hd et λσ3 R3=>⟨_,_,_,_,R3,?_⟩
    cases eb:G δ1 with
    |nx a=>rw[eb]at o';exact λr h j s=>⟨r,a,s,o'⟩
    |ct a=>rw[eb]at o';exact λr h j s=>⟨r,a,s,o'⟩
    |bk a=>rw[eb]at o';exact λr h j s=>o' r h j (s.less C8 R.ls0)
    |rt v=>rw[eb]at o';exact λv4 j M h4=>o' v4 j (C8.trans M) h4
    |rz C=>rw[eb]at o';exact λj M=>o' j (C8.trans M)
    |no=>rw[eb]at o';exact o'
  ·have e:i=ds.length:=by omega
   subst e;rw[Pp]at o';exact .inl ⟨js,o' l f H' (n.less C8 R.ls0)⟩
end
section
variable {ss:List Stmt} {G G':Ds->Sr} {a b c:Expr} {ga gb gk:Ds->Rs PyData} {ca:Ds->Rs Bool}
def bL (c:Ds->Rs Bool) (b:Ds->Sr):Nat->Ds->Sr
 |0,_=>.no
 |n+1,δ=>ofR (c δ) λt=>if t=true then (match b δ with
  |.nx δ2=>bL c b n δ2
  |.ct δ2=>bL c b n δ2
  |.bk δ2=>.nx δ2
  |.rt v=>.rt v
  |.rz C=>.rz C
  |.no=>.no) else .nx δ
theorem Cf (fuel:Nat) (j:PassesOwn (model X.prog X.w) X.A X.env X.xe) (hc:PCD X E c ca) (l:PBD X E O ss G):PSD X E O (.While c ss [] pos) (λδ=>bL ca G fuel δ):=(xC j hc l).imp λD σ H e=>by
 obtain⟨H0,A0,A,δ,R,o⟩:=e;refine⟨λm σ H=>∃A δ,bQ X.K H0 A0 H A O δ σ/\nB X.K E H0 A0 O (bL ca G m δ) D,⟨fuel,A,δ,R,o⟩,?_⟩
 rintro m σ H ⟨A,δ,R,o⟩
 cases m with
 |zero=>exact o.elim
 |succ m =>
  unfold bL at o;refine cD.run R.full (λt a H1 i R1=>?_) (λC a H' s'=>?_) (λa=>?_)
  ·rw[a]at o;cases t with
   |false=>exact o A σ H1 (R.step i)
   |true =>
    refine⟨λb H'=>∃A δ,bQ X.K H0 A0 H' A O δ b/\nB X.K E H0 A0 O (bL ca G m δ) D,λb H' q=>⟨m,Ov m,q⟩,H0,A0,A,δ,R.step i,?_⟩;have o:nB X.K E H0 A0 O (match G δ with
     |.nx δ2=>bL ca G m δ2
     |.ct δ2=>bL ca G m δ2
     |.bk δ2=>.nx δ2
     |.rt v=>.rt v
     |.rz C=>.rz C
     |.no=>.no) D:=o
    cases eb:G δ with
    |nx δ2=>rw[eb]at o;exact λf g n h=>⟨f,δ2,h,o⟩
    |ct δ2=>rw[eb]at o;exact λf g n h=>⟨f,δ2,h,o⟩
    |bk δ2=>rw[eb]at o;exact o
    |rt v=>rw[eb]at o;exact o
    |rz C=>rw[eb]at o;exact o
    |no=>rw[eb]at o;exact o
  ·rw[a]at o;exact o H' (R.same.trans s')
  ·rw[a]at o;exact o
def Cc (i:Nat) (gk ge:Ds->Rs PyData):Ds->Sr:=λδ=>match δ[i]? with
 |some (some (.list ds))=>ofR (ge δ) λd=>ofR (gk δ) λk=>match k with
  |.int k=>match ixN ds.length k with
   |some j=>if fz d then .nx (δ.set i (some (.list (ds.set j d)))) else .no
   |none=>.no
  |_=>.no
 |_=>.no
theorem FQ {k:Expr} {ps:Pos} (h:PD X E e ga) (n:PD X E k gk) (g:i∈O) (hi:X.N[i]?=some x) (hv:Vis X.env.scope x)
  (hd:(x==("__debug__":Str))=false) (c:(x==("__classdict__":Str))=false)
  (ha:∀v,assign (.Subscript (.Name x pn) k ps) X.env v=(do
   let ov <-holding [v] (eval (.Name x pn) X.env);let iv <-holding [v,ov] (eval k X.env)
   standAt ps
   holding [v,ov,iv] (setItem ov iv v)
   release [v,ov,iv] []))
  (r:swapsWithSole [.Subscript (.Name x pn) k ps] e pos.line X.env=pure false) (hw:swappedStores [.Subscript (.Name x pn) k ps] e X.env=pure none)
  (h1:(assignEach [.Subscript (.Name x pn) k ps] X.env).map (·.2)=[assign (.Subscript (.Name x pn) k ps) X.env]):PSD X E O (.Assign [.Subscript (.Name x pn) k ps] e pos) (Cc i gk ga) :=
 (Jg h (Kl (j6 hi hv hd c) n set_list ha) r hw h1).imp λD σ H f=>by
  obtain⟨H0,A0,A,δ,R,o⟩:=f;unfold Cc at o;split at o
  ·rename_i ds q;obtain⟨p,xs,ds',e1,s,hl,e2,l⟩:=R.ownL g q;cases e2;refine eD.run R.full (λd w v H1 m y hv=>?_) (λC b H' s'=>?_) (λb=>?_)
   ·simp only[w,av]at o;refine⟨_,e1,?_⟩;refine eD.run y (λkd z u H2 s2 R2 B=>?_) (λC b H' s'=>?_) (λb=>?_)
    ·simp only[z,av]at o;split at o
     ·rename_i F;split at o
      ·rename_i j G;split at o
       ·rename_i hn;have a:=m.trans s2;refine⟨p,xs,F,j,rfl,B.ofInt,a _ _ hl,by rw[l.length];exact G,?_⟩;exact o A _ _ ((R.step a).put g q e1 s (Iss.set (((hv.same s2.del).same ax).dl (R.step a).lsA hn) j (l.same a.del)))
       ·exact o.elim
      ·exact o.elim
     ·exact o.elim
    ·simp only[b,jU]at o;exact o H' (R.same.trans (m.trans s'))
    ·simp only[b,jT]at o;exact o
   ·simp only[b,jU]at o;exact o H' (R.same.trans s')
   ·simp only[b,jT]at o;exact o
  ·exact o.elim
structure rZ (K:PySem.W.Frag) (mg:Str->Option Value) (x:Str) (C:Addr):Prop where
 m:mg x=some (.ref C)
 e:PySem.W.excIn K C [.type "ValueError",.type "Exception",.type "BaseException",.type "object"] "ValueError.__new__"=true
def jv (C:Addr) (gs:Ds->Rs (List PyData)):Ds->Sr:=λδ=>ofR (gs δ) λ_=>.rz C
theorem Cb {i:Pos} (hc:X.calm=true) (M:zF X E) (g:rZ X.K X.mg x C) (ha:PAD X E (e::es) gs) (hl:(e::es).length<=1000) (j:Gl X x)
  (a:(x==("__debug__":Str))=false) (l:starEach (e::es) X.env=(false,eval e X.env)::starEach es X.env) (b:(backTo cpos (starEach es X.env)).any (·.1)=false) :
  PSD X E O (.Raise (some (.Call (.Name x i) (e::es) [] cpos)) none pos) (jv C gs) :=
 (El hc M PySem.F.excBase_ValueError j g.m g.e ha.1 a l b).imp λD σ H c=>by
  obtain⟨H0,A0,A,δ,R,o⟩:=c;unfold jv at o;refine aD.run R.full (λds h vs H1 n R1 hv=>?_) (λC f H' s'=>?_) (λf=>?_)
  ·simp only[h,av]at o;exact⟨by rw[hv.length,ha.2 δ ds h,sizeLine_eq];omega,o H1 (R.same.trans n)⟩
  ·simp only[f,jU]at o;exact o H' (R.same.trans s')
  ·simp only[f,jT]at o;exact o
end
section
theorem l7 {f:Addr} {k:Nat} (F:Fun K x qual st f fd) (S:cX N ps (aC st)) (len:∀vs H Q E,sp vs H Q E->vs.length=ps.length)
  (a:∀(cdv:Value) (A:Around) (outer:List Env) (s:Shared) (H:Hp) (vs:List V) (Q:VK) (E:XK),cg k (A.deeper (envOfC qual (aC st) s.heap.objs.size f cdv))->sp vs H Q E ->
   ∃t,PSs (c9 CX P w K mg base N qual (aC st) f cdv A outer s H E) (bV st) t/\t { nx:=λ_ H'=>Q .non H',rt:=Q } (start N vs) H):gB P w K mg base CX (k+1) f fd ps sp:=by
 obtain⟨oc,od,kV,doc,pm,an,cdv,ct,osl,rfl,e,b⟩:=F.ex;exact CL e b S len λA outer s H vs Q E g c=>a cdv A outer s H vs Q E g c
def a8:Sr->Rs PyData
 |.rt d=>.ok d
 |.nx _=>.ok .none
 |.rz C=>.rz C
 |_=>.no
theorem J9 {f:Addr} {A:Around}:zF (c9 (CXW P w) P w K mg base N qual scope f cd A outer s H E) E :=
 λ_ _ _ _ _ _ _ _ I a b=>wD (CX:=CX0) I a b
theorem bQ.start (f:Ls H A0) (hi:Iss K (del H A0) ds vs) (hl:ds.length=ps.length) (c:∀i∈O,ps.length<=i) :
  bQ K H A0 H [] O (ds.map some++List.replicate (N.length-ps.length) none) (L2.start N vs):=by
 have hv:=hi.length;have at':∀(i:Nat) d,(ds.map some++List.replicate (N.length-ps.length) none)[i]?=some (some d)->i<ds.length/\ds[i]?=some d:=λi d e=>by
  by_cases h:i<ds.length
  ·rw[NB (by simpa using h),Nx]at e;refine⟨h,?_⟩;cases q:ds[i]? with
   |none=>rw[q]at e;cases e
   |some z=>rw[q]at e;simp at e;rw[e]
  ·rw[NF (by simpa using h),P0]at e;split at e <;> cases e
 refine⟨aw.refl _,f,(λa h=>by cases h),(λa h=>by cases h),?_,λi d _ e=>?_,λi d h e=>?_,λi j d e a h _ q _ _ _=>?_⟩
 ·unfold L2.start;simp[hv,hl]
 ·obtain⟨b,e⟩:=at' i d e;obtain⟨v,ev,hd⟩:=hi.getD e;refine⟨v,?_,hd⟩;unfold L2.start;rw[NB (by simp;omega),Nx,ev];rfl
 ·obtain⟨b,_⟩:=at' i d e;exact absurd (c i h) (by omega)
 ·obtain⟨b,_⟩:=at' i d q;exact absurd (c i h) (by omega)
theorem iC.of {f:Addr} {k:Nat} {G:Ds->Sr} (F:Fun K x qual st f fd) (S:cX N ps (aC st)) (b:Binds K fd ps []) (m:mg x=some (.ref f)) (e:∀i∈O,ps.length<=i)
  (body:∀(cdv:Value) (A:Around) (outer:List Env) (s:Shared) (H:Hp) (E:XK),cg k (A.deeper (envOfC qual (aC st) s.heap.objs.size f cdv))->PBD (c9 (CXW P w) P w K mg base N qual (aC st) f cdv A outer s H E) E O (bV st) G)
  (g:∀ds,ds.length=ps.length->gf ds≠.no->a8 (G (ds.map some++List.replicate (N.length-ps.length) none))=gf ds):iC P w K mg base (k+1) x ps.length gf:=by
 refine⟨f,fd,ps,l7 F S (λvs H Q E h=>?_) (λcdv A outer s H vs Q E j h=>?_),m,F.kp,b⟩
 ·obtain⟨A,ds,c,hi,hl,o⟩:=h;rw[hi.length,hl]
 ·obtain⟨A0,ds,c,hi,hl,o⟩:=h;refine⟨_,body cdv A outer s H E j,H,A0,[],_,bQ.start c hi hl e,?_⟩;have a:=g ds hl (λz=>by rw[z]at o;exact o);cases q:G (ds.map some++List.replicate (N.length-ps.length) none) with
  |rt d=>rw[q]at a;rw[<-a]at o;exact λv H' s' hv=>o v H' s' hv
  |nx δ=>rw[q]at a;rw[<-a]at o;exact λA' σ H' l=>o .non H' l.same is_none
  |rz C=>rw[q]at a;rw[<-a]at o;exact λH' s'=>o H' s'
  |bk δ=>rw[q]at a;rw[<-a]at o;exact o.elim
  |ct δ=>rw[q]at a;rw[<-a]at o;exact o.elim
  |no=>rw[q]at a;rw[<-a]at o;exact o.elim
theorem iC.old {f:Addr} {k:Nat} (F:gB P w K mg base CX0 k f fd ps sp) (m:mg x=some (.ref f)) (kp:PySem.W.keepIn K (.ref f)=true) (b:Binds K fd ps [])
  (h:∀ds,ds.length=ps.length->gf ds≠.no->∃d,gf ds=.ok d/\gj d=true/\∀vs H Q,Iss K H ds vs->(∀v H',aw H H'->IsD K H' d v->Q v H')->sp vs H Q E0):iC P w K mg base k x ps.length gf:=by
 refine⟨f,fd,ps,⟨λvs H Q E h'=>?_,λA outer s H args us vs Q E j l n hv h'=>?_⟩,m,kp,b⟩
 ·obtain⟨A,ds,g,hi,hl,o⟩:=h';rw[hi.length,hl]
 ·obtain⟨A0,ds,g,hi,hl,o⟩:=h';obtain⟨d,e,i,c⟩:=h ds hl (λz=>by rw[z]at o;exact o);rw[e]at o;refine codeAny_mono (F.run A outer s H args us vs Q E0 j l n hv (c vs H Q (hi.same ax) λv H' s' hd=>o v H' s' ((hd.is i).dl (g.same s') (yZ i)))) λr s' a=>?_
  cases r with
  |error ev=>exact False.elim a
  |ok fl =>
   cases fl with
   |ret u=>exact a
   |next=>exact False.elim a
   |brk=>exact False.elim a
   |cont=>exact False.elim a
end
open AutoSeq1 (wpAny_loadPart')
theorem mM:fillsNumberSlot (.type "tuple") "mul"=pure false :=
 PySem.fillsNumberSlot_seq (id:="tuple.__mul__") (r:=some (.builtin "tuple.__rmul__")) PySem.F.slot_tuple_mul.lookup (by decide +kernel) PySem.F.slot_tuple_rmul.lookup (by decide +kernel)
theorem uy:seqRepeat? (.type "tuple")=pure (some (.builtin "tuple.__mul__")):=by unfold seqRepeat?;rw[PySem.seqSlot_of (T:="tuple") (name:="__mul__") (id:="tuple.__mul__") PySem.F.slot_tuple_mul.lookup (by decide +kernel),PySem.seqSlot_of (T:="tuple") (name:="__rmul__") (id:="tuple.__rmul__") PySem.F.slot_tuple_rmul.lookup (by decide +kernel)];rfl
theorem uR (a:Int) (t:Tok) (l:Addr) (items:Array Value) (n:Nat) (dd:Option Addr) (b:Array (Option Value)) :
  Meets (Builtin.«int.__rmul__» ⟨[.int a t,.ref l],[]⟩) (λ_ R s=>s.heap.get? l=some { cls:=.type "tuple",dict:=dd,data:=.seq items n,slots:=b }/\R (.ok (.ret Value.notImplemented)) s) :=
 .of_wp λprog w A R s h=>by obtain⟨hp,g,d,tk,os⟩:=s;obtain⟨hl,h⟩:=h;wp_walk;exact⟨_,rfl,h⟩
theorem CU (l:Addr) (items:Array Value) (n:Nat) (x:Int) (u:Tok) (dd:Option Addr) (a:Array (Option Value)) (h1:(decide (x < -(2 ^ 63))||decide (x≥2 ^ 63))=false) (h2:(items.isEmpty||x==1)=false) (h3:(decide (x<=0)||items.isEmpty)=false)
  (b:decide ((items.size:Int)*x>(2 ^ 63-1) / 8)=false) (h5:Builtin.Tuple.tupleTooMany ((items.size:Int)*x)=false) (hsz:(List.foldl (λx1 x2=>x1++x2) #[] (List.replicate x.toNat items)).size<=sizeLine) :
  Meets (Builtin.«tuple.__mul__» ⟨[.ref l,.int x u],[]⟩) (λ_ R s=>s.heap.get? l=some { cls:=.type "tuple",dict:=dd,data:=.seq items n,slots:=a }/\R (.ok (.ret (Value.ref s.heap.objs.size))) { s with heap:=s.heap.push { cls:=Value.type "tuple",data:=Data.seq (List.foldl (λx1 x2=>x1++x2) #[] (List.replicate x.toNat items)) } }) :=
 .of_wp λprog w A R s h=>by
  obtain⟨hp,g,d,tk,os⟩:=s;obtain⟨hl,h⟩:=h;have f1:=AutoSeq1.idx_int;have f2:=AutoSeq1.sub_tuple_tuple
  wp_walk using wpAny_loadPart' hl
  refine wpAny_ite_false (by rw[h1];rfl) ?_
  wp_walk using wpAny_loadPart' hl
  refine wpAny_ite_false b ?_
  wp_walk using wpAny_loadPart' hl
  exact⟨_,rfl,h⟩
section
variable {a b c:Expr} {ga gb gc:Ds->Rs PyData}
def Ik (K:PySem.W.Frag):R2:=λx y H Q=>∃l k xs,x=.ref l/\y=.int k/\SqT K H l xs/\xs≠[]/\2<=k/\k<1000000/\xs.length*k.toNat<=1000000/\∀p,H p=none->Q (.ref p) (upd H p (.tup (List.replicate k.toNat xs).flatten))
theorem HV:OpR X (binaryOp .Mult) (Ik X.K):=by
 intro pins s σ H x y v u Q I m p h;obtain⟨l,k,xs,rfl,rfl,hl,i,hk1,hk2,w,q⟩:=h;cases m;obtain⟨t,rfl⟩:=p;obtain⟨a,r,p1,_⟩:=I.tuple hl;obtain⟨⟨cls,dd,data,j⟩,g,hc,n,hd⟩:=id p1;simp only at hc hd;subst hc hd;have hlen:=r.length;have e:a≠[]:=λz=>i (r.nil_iff.mp z)
 have hpos:0<a.length:=Oh.mpr e;have c:List.foldl (λx1 x2=>x1++x2) #[] (List.replicate k.toNat a.toArray)=(List.replicate k.toNat a).flatten.toArray:=by have:=foldl_rep a k.toNat [];rw[NT]at this;exact this
 have f:a.toArray.isEmpty=false:=by simp[e]
 have hmul:(a.length:Int)*k<=1000000:=by
  have e1:((a.length*k.toNat:Nat):Int)=(a.length:Int)*k:=by rw[Int.natCast_mul,OC (by omega)]
  rw[<-e1,<-hlen];omega
 have hsz2:(List.replicate k.toNat a).flatten.length<=1000000:=by rw[len_rep,Nat.mul_comm,<-hlen];exact w
 refine wpAny_binaryOp_repeat_ref (T:="tuple") (U:="int") (by decide) ⟨_,g,rfl⟩ (λs'=>typeIs_int s' k t) mM PySem.F.fills_int_mul PySem.F.slot_int_rmul uy PySem.F.slot_int_index.lookup
  (call_meets PySem.F.slot_int_rmul (typeIs_int s k t) PySem.F.entry_int_rmul (PySem.F.args_int_rmul_2 _ _) (uR k t l a.toArray n dd j)
   ⟨g,rfl,⟨_,g,rfl⟩,call_meets PySem.F.slot_tuple_mul ⟨_,g,rfl⟩ PySem.F.entry_tuple_mul (PySem.F.args_tuple_mul_2 _ _) (CU l a.toArray n k t dd j ?_ ?_ ?_ ?_ ?_ ?_) ⟨g,?_⟩⟩)
 ·rw[decide_eq_false (by omega),decide_eq_false (by omega)];rfl
 ·rw[f,Bool.false_or];simp;omega
 ·rw[f,Bool.or_false];exact decide_eq_false (by omega)
 ·rw[Nm];exact decide_eq_false (by omega)
 ·rw[Nm];unfold Builtin.Tuple.tupleTooMany;rw[sizeLine_eq];exact decide_eq_false (by omega)
 ·rw[c,Nm,sizeLine_eq];omega
 ·rw[c];refine⟨.ref s.heap.objs.size,_,I.laid (t':=s.toks) (o:=.tup (List.replicate k.toNat xs).flatten) (λb ob q=>N1 _ q) (N7 _) ?_,rfl,q _ (I.hok.fresh (N7 _))⟩;exact⟨by rw[len_rep,Nat.mul_comm,sizeLine_eq];omega,_,r.rep k.toNat,vn.new _ _⟩
def eJ:PyData->PyData->Option PyData
 |.int i,.int j=>if (-(2 ^ 64)<i/\i<2 ^ 64)\/(-(2 ^ 64)<j/\j<2 ^ 64) then some (.int (i*j)) else none
 |.list x,.int k=>if 0<=k/\k<1000000/\x.length*k.toNat<=1000000 then some (.list (List.replicate k.toNat x).flatten) else none
 |.tuple x,.int k=>if x≠[]/\2<=k/\k<1000000/\x.length*k.toNat<=1000000 then some (.tuple (List.replicate k.toNat x).flatten) else none
 |_,_=>none
theorem HM:OpD K eJ (λx y H Q=>rI GI (λi j=>.int (i*j)) x y H Q\/Mb x y H Q\/Ik K x y H Q):=λd1 d2 d x y H A Q e f h1 h2 k=>by
 unfold eJ at e;split at e
 ·split at e
  ·rename_i z;cases e;exact .inl ⟨_,_,h1.ofInt,h2.ofInt,z,k _ H (aw.refl _) bE⟩
  ·cases e
 ·split at e
  ·rename_i z;cases e;obtain⟨p,xs,rfl,c,a⟩:=h1.ofLst;exact .inr (.inl ⟨p,_,xs,rfl,h2.ofInt,ax _ _ c,by omega,by omega,by rw[a.length,sizeLine_eq];omega,λr b=>k _ _ (bz b) (kq f b (a.rep _))⟩)
  ·cases e
 ·split at e
  ·rename_i z;cases e;obtain⟨p,xs,rfl,c,a⟩:=h1.ofTup;refine .inr (.inr ⟨p,_,xs,rfl,h2.ofInt,SqT.of (ax _ _ c),λq=>z.1 ?_,z.2.1,z.2.2.1,by rw[a.length];exact z.2.2.2,λr b=>k _ _ (bz b) (mw f b (a.rep _))⟩);exact OE.mp (by rw[<-a.length,q];rfl)
  ·cases e
 ·cases e
theorem IZ (ha:PD X E a ga) (c:PD X E b gb):PD X E (.BinOp a .Mult b pos) (g2 eJ ga gb):=gW HM ha c (eR (nM.or (K4.or HV)))
end
section
variable {A:Around} {E:Value->Shared->Prop}
theorem kG {t:Addr} {i j:Value} (a:IsTup s.heap t items) (l:s.heap.IsSliceOf c i j .none) (pl:IsPart i lo) (n:IsPart j hi)
  (hw:HT.sIx items.size 0 lo=0/\HT.sIx items.size items.size hi=items.size) (h:Q (.ref t) s):wpAny (model prog w) A (getItem (.ref t) (.ref c)) Q E s:=by
 obtain⟨os,e,f,hds⟩:=id l;have g:s.TypeIs (.ref c) "slice":=⟨os,e,f⟩
 unfold getItem
 try with_reducible refine wpAny_holding ?_
 first|refine wpAny_bind (wpAny_pure ?_)|skip
 refine wpAny_bind (wpAny_sequenceKey a.typeIs (by decide) ?_);refine wpAny_bind (wpAny_callSpecial?_slot (name:=Str.ofString "__getitem__") a.typeIs PyProof.Rows.slot_tuple_getitem
  (wpAny_call_entry PyProof.Rows.slot_tuple_getitem a.typeIs entry_tuple_getitem ?_ (args_tuple_getitem _ _)))
 show wpAny _ _ (Builtin.Tuple.tupleItemsOf (.ref t) >>= _) _ _ s;refine wpAny_bind (tupleItemsOf_ a ?_);refine wpAny_bind (wpAny_typeOf g ?_);rw[if_pos (by decide)];refine wpAny_bind (HT.iW l pl n ?_);have b:(((HT.sIx items.size 0 lo:Nat):Int)==0&&(1:Int)==1&&(HT.sIx items.size items.size hi-HT.sIx items.size 0 lo)==items.size)=true:=by rw[hw.1,hw.2];simp
 show wpAny _ _ (if (((HT.sIx items.size 0 lo:Nat):Int)==0&&(1:Int)==1&&(HT.sIx items.size items.size hi-HT.sIx items.size 0 lo)==items.size)=true then _ else _) _ _ s;rw[if_pos b];refine wpAny_bind (m:=Builtin.Tuple.tupleIsExact (.ref t)) (wpAny_bind (wpAny_typeOf a.typeIs (wpAny_pure ?_)));rw[if_pos (by decide)]
 first
  |exact wpAny_bind (wpAny_rule (wpAny_pure ⟨_,rfl,wpAny_pure h⟩))
  |(refine wpAny_bind (wpAny_rule ?_);trace_state;exact wpAny_pure ⟨_,rfl,wpAny_pure h⟩)
end
end L2
variable {δ:L2.Ds} {gf:List PyData->L2.Rs PyData} {gs gi src:L2.Ds->L2.Rs (List PyData)} {cond:L2.Ds->L2.Rs Bool} {tgt:PyData->Option L2.Ds} {ga gb:L2.Ds->L2.Rs PyData}
namespace L2
open PySem PySem.Spec PyProof.Rows
section
variable {E:XK} {a b c e:Expr} {gc:Ds->Rs PyData} {es:List Expr}
def Lj (K:PySem.W.Frag):V->Option Int->Option Int->Hp->VK->Prop:=λx lo hi H Q=>∃a xs,x=.ref a/\SqT K H a xs/\(HT.sIx xs.length 0 lo=0/\HT.sIx xs.length xs.length hi=xs.length)/\Q (.ref a) H
theorem HE:SlR X (Lj X.K):=by
 intro pins s σ H x v vl vu lo hi sl Q I e f pl g h;obtain⟨a,xs,rfl,i,hw,q⟩:=h;cases e;obtain⟨b,r,c,hz⟩:=I.tuple i;have hlen:b.toArray.size=xs.length:=by rw[Nm,r.length]
 refine⟨"tuple",_,PyProof.Rows.slot_tuple_getitem.lookup,c.typeIs,?_⟩;exact kG c f pl g (by rw[hlen];exact hw) ⟨.ref a,H,I,rfl,q⟩
def cutD (xs:List PyData) (lo hi:Option Int):List PyData:=(xs.drop (HT.sIx xs.length 0 lo)).take (HT.sIx xs.length xs.length hi-HT.sIx xs.length 0 lo)
def Hg:PyData->Option Int->Option Int->Option PyData
 |.list x,lo,hi=>some (.list (cutD x lo hi))
 |.tuple x,lo,hi=>some (.tuple (cutD x lo hi))
 |_,_,_=>none
def E1:PyData->Rs (Option Int)
 |.int i=>.ok (some i)
 |_=>.no
def km:Ds->Rs (Option Int):=λ_=>.ok none
def qr (g:Ds->Rs PyData):Ds->Rs (Option Int):=λδ=>(g δ).bind E1
def Nc (E:XK) (H:Hp) (r:Rs (Option Int)) (Q:Option Int->Hp->Prop):Prop:=match r with
 |.ok o=>∀H',aw H H'->Q o H'
 |.rz C=>∀H',aw H H'->E (.ref C) none H'
 |.no=>False
def oD (K:PySem.W.Frag) (E:XK) (g:Ds->Rs (Option Int)):TO:=λσ H Q=>∃A δ,dq K H A δ σ/\Nc E H (g δ) Q
def POD (X:Cx) (E:XK) (e:Option Expr) (g:Ds->Rs (Option Int)):Prop:=PO X e (oD X.K E g)
theorem PO.imp {e:Option Expr} {t t':TO} (h:PO X e t) (k:∀σ H Q,t' σ H Q->t σ H Q):PO X e t':=λpins s σ H Q I q=>h pins s σ H Q I (k σ H Q q)
theorem Dv:POD X E none km:=Hl.imp λσ H Q a=>(by obtain⟨A,δ,R,o⟩:=a;exact o H (aw.refl _))
theorem DS (h:PD X E e ga):POD X E (some e) (qr ga):=(HZ h).imp λσ H Q ⟨A,δ,R,o⟩=>⟨A,δ,R,by
 unfold qr at o;cases q:ga δ with
 |no=>rw[q]at o;exact o
 |rz C=>rw[q]at o;exact o
 |ok d =>
  rw[q]at o;cases d with
  |int i=>exact λv H' s h=>⟨i,h.ofInt,o H' s⟩
  |_=>exact o.elim⟩
theorem oD.run {g:Ds->Rs (Option Int)} {Q:Option Int->Hp->Prop} (R:dq K H A δ σ)
  (ok:∀d,g δ=.ok d->∀H',aw H H'->dq K H' A δ σ->Q d H') (rz:∀C,g δ=.rz C->∀H',aw H H'->E (.ref C) none H') (no:g δ=.no->False):oD K E g σ H Q:=by
 refine⟨A,δ,R,?_⟩;cases e:g δ with
 |ok d=>exact λH' s=>ok d e H' s (R.same s)
 |rz C=>exact λH' s=>rz C e H' s
 |no=>exact no e
def lj (g:Ds->Rs PyData) (lo hi:Ds->Rs (Option Int)):Ds->Rs PyData:=λδ=>(g δ).bind λd=>(lo δ).bind λl=>(hi δ).bind λh=>Rs.eE (Hg d l h)
theorem Iss.cut (h:Iss K H ds vs) (lo hi:Option Int):Iss K H (cutD ds lo hi) (xQ vs lo hi):=by unfold cutD xQ;rw[h.length];exact (h.drop _).take _
theorem Dw {lo hi:Option Expr} {n r:Ds->Rs (Option Int)} (w:PD X E e ga) (hl:POD X E lo n) (x:POD X E hi r):PD X E (.Subscript e (.Slice lo hi none p2) pos) (lj ga n r) :=
 (DA (GJ.or (K6.or HE)) w hl x).imp λσ H Q j=>by
  obtain⟨A,δ,R,o⟩:=j;unfold lj at o;refine eD.run R (λd y v H1 m z hv=>?_) (λC a H' s'=>by rw[a]at o;exact o H' s') (λa=>by rw[a]at o;exact o);simp only[y,Rs.ag]at o;refine oD.run z (λl B H2 s2 R2=>?_) (λC a H' s'=>by rw[a]at o;exact o H' (m.trans s')) (λa=>by rw[a]at o;exact o);simp only[B,Rs.ag]at o;refine oD.run R2 (λh D H3 s u=>?_) (λC a H' s'=>by rw[a]at o;exact o H' (m.trans (s2.trans s'))) (λa=>by rw[a]at o;exact o);simp only[D,Rs.ag]at o;have f:=hv.same (s2.trans s).del;have b:=m.trans (s2.trans s);cases d with
  |list ds =>obtain⟨p,xs,rfl,g,c⟩:=f.ofLst;exact .inl ⟨p,xs,rfl,SqL.of (ax _ _ g),λq i=>o _ _ (b.trans (bz i)) (kq u.ls i (c.cut l h))⟩
  |tuple ds =>
   obtain⟨p,xs,rfl,g,c⟩:=f.ofTup;by_cases hw:HT.sIx xs.length 0 l=0/\HT.sIx xs.length xs.length h=xs.length
   ·refine .inr (.inr ⟨p,xs,rfl,SqT.of (ax _ _ g),hw,o _ _ b ?_⟩);have e:cutD ds l h=ds:=by unfold cutD;rw[<-c.length,hw.1,hw.2];simp[c.length]
    show Is X.K _ (.tuple (cutD ds l h)) _;rw[e];exact iz g c
   ·exact .inr (.inl ⟨p,xs,rfl,SqT.of (ax _ _ g),hw,λq i=>o _ _ (b.trans (bz i)) (mw u.ls i (c.cut l h))⟩)
  |_=>exact o.elim
def toV:PyData->V
 |.none=>.non
 |.bool b=>.bl b
 |.int i=>.int i
 |.str x=>.str x
 |_=>.non
def inD (x:PyData) (xs:List PyData):Bool:=inV (toV x) (xs.map toV)
def Ei (neg:Bool):PyData->PyData->Option PyData
 |x,.list xs=>if gj x&&xs.all gj then some (.bool (if neg then !inD x xs else inD x xs)) else none
 |x,.tuple xs=>if gj x&&xs.all gj then some (.bool (if neg then !inD x xs else inD x xs)) else none
 |_,_=>none
theorem Is.flat {d:PyData} (h:Is K H d v) (f:gj d=true):v=toV d/\jw v=true:=by
 cases d with
 |none=>rw[h.ofNone];exact⟨rfl,rfl⟩
 |bool b=>rw[h.ofBool];exact⟨rfl,rfl⟩
 |int i=>rw[h.ofInt];exact⟨rfl,rfl⟩
 |str x=>rw[h.ofStr];exact⟨rfl,rfl⟩
 |_=>cases f
theorem Iss.flat {K:PySem.W.Frag} {H:Hp}:∀{ds:List PyData} {vs:List V},Iss K H ds vs->ds.all gj=true->vs=ds.map toV/\vs.all jw=true
 |[],_,h,_=>by rw[h.nil_of];exact⟨rfl,rfl⟩
 |d::ds,_,h,f=>by rw[OL,N6]at f;obtain⟨v,r,rfl,h1,h2⟩:=h.cons_of;obtain⟨e1,f1⟩:=h1.flat f.1;obtain⟨e2,f2⟩:=Iss.flat h2 f.2;exact⟨by rw[e1,e2];rfl,by rw[OL,f1,f2];rfl⟩
theorem IW {neg:Bool}:OpD K (Ei neg) (rIn K neg):=λd1 d2 d x y H A Q e hA h1 h2 k=>by
 unfold Ei at e;split at e
 ·split at e
  ·rename_i z;rw[N6]at z;cases e;obtain⟨p,xs,rfl,a,b⟩:=h2.ofLst;obtain⟨e1,f1⟩:=h1.flat z.1;obtain⟨e2,f2⟩:=b.flat z.2;refine⟨p,xs,rfl,.inl (SqL.of (ax _ _ a)),f1,f2,?_⟩;rw[e1,e2];exact k _ H (aw.refl _) is_bool
  ·cases e
 ·split at e
  ·rename_i z;rw[N6]at z;cases e;obtain⟨p,xs,rfl,a,b⟩:=h2.ofTup;obtain⟨e1,f1⟩:=h1.flat z.1;obtain⟨e2,f2⟩:=b.flat z.2;refine⟨p,xs,rfl,.inr (SqT.of (ax _ _ a)),f1,f2,?_⟩;rw[e1,e2];exact k _ H (aw.refl _) is_bool
  ·cases e
 ·cases e
theorem Mh (ha:PD X E a ga) (c:PD X E b gb) (hm:behindInMarks .In b=false):PD X E (.Compare a [.In] [b] pos) (g2 (Ei false) ga gb):=gW IW ha c λh1 h2=>pe Bu h1 h2 hm
def nH (f e:PyData->PyData->Option PyData) (a b c:Ds->Rs PyData):Ds->Rs PyData:=λδ=>(a δ).bind λx=>(b δ).bind λy=>(Rs.eE (f x y)).bind λz=>(truth z).bind λt=>if t=true then (c δ).bind λw=>Rs.eE (e y w) else .ok (.bool false)
theorem FF {g:CmpOp} {r p:R2} {f i:PyData->PyData->Option PyData} (y:OpR X (compareOp op) r) (l:OpR X (compareOp g) p) (B:OpD X.K f r) (m:OpD X.K i p) (ha:PD X E a ga) (D:PD X E b gb) (hc:PD X E c gc)
  (hm:lastMarks [op,g] [b,c]=false:=by with_unfolding_all rfl):PD X E (.Compare a [op,g] [b,c] pos) (nH f i ga gb gc):=(D7 y l ha D hc hm).imp λσ H Q n=>by
 obtain⟨A,δ,R,o⟩:=n;unfold nH at o;refine eD.run R (λd1 e1 v H1 j F h1=>?_) (λC e H' s'=>by rw[e]at o;exact o H' s') (λe=>by rw[e]at o;exact o);simp only[e1,Rs.ag]at o;refine eD.run F (λd2 e2 u H2 s2 R2 h2=>?_) (λC e H' s'=>by rw[e]at o;exact o H' (j.trans s')) (λe=>by rw[e]at o;exact o);simp only[e2,Rs.ag]at o;cases e3:f d1 d2 with
 |none=>rw[e3]at o;exact o.elim
 |some z =>
  simp only[e3,Rs.ai,Rs.ag]at o;refine B d1 d2 z v u H2 A _ e3 R2.ls (h1.same s2.del) h2 λw G h I=>?_
  obtain⟨t,rfl,o⟩:=qd o;refine⟨t,I.ofBool,?_⟩;cases t with
  |false=>exact o _ G (j.trans (s2.trans h)) is_bool
  |true =>
   have o:hW X.K E A H ((gc δ).bind λw=>Rs.eE (i d2 w)) Q:=o;refine eD.run (R2.same h) (λq J L M s N O=>?_) (λC e H' s'=>by rw[e]at o;exact o H' (j.trans (s2.trans (h.trans s')))) (λe=>by rw[e]at o;exact o);simp only[J,Rs.ag]at o;cases e5:i d2 q with
   |none=>rw[e5]at o;exact o.elim
   |some d=>rw[e5]at o;exact m d2 q d u L M A Q e5 N.ls (h2.same (h.trans s).del) O λx P S T=>o x P (j.trans (s2.trans (h.trans (s.trans S)))) T
theorem GH (ha:PD X E a ga) (e:PD X E b gb) (hc:PD X E c gc) (hm:lastMarks [.LtE,.LtE] [b,c]=false):PD X E (.Compare a [.LtE,.LtE] [b,c] pos) (nH dLe dLe ga gb gc):=FF Ap Ap (kj λ_ _ _ _=>is_bool) (kj λ_ _ _ _=>is_bool) ha e hc hm
end
section
variable {E:XK} {a b c:Expr}
def MH (i j c:Int):Nat:=(Builtin.Range.rangeSize i j c).toNat
def JW (i j c:Int):Bool:=decide (-(1000000)<=i/\i<=1000000/\-(1000000)<=j/\j<=1000000/\-(1000000)<=c/\c<=1000000/\c≠0)&&Builtin.Range.small i j c
def KH (lo c:Int) (n:Nat):List PyData:=(List.range n).map λ(i:Nat)=>PyData.int (lo+(i:Int)*c)
def L9:List PyData->Rs (List PyData)
 |[.int i,.int j,.int c]=>if JW i j c then .ok (KH i c (MH i j c)) else .no
 |_=>.no
def Ln (g:Ds->Rs (List PyData)):Ds->Rs (List PyData):=λδ=>(g δ).bind L9
def tLR (ta:TA):TE:=λσ H Q=>ta σ H λvs H1=>∃j:Int,vs=[.int j]/\0<=j/\j<=1000000/\∀p,H1 p=none->Q (.ref p) (upd H1 p (.lst ((List.range j.toNat).map λ(i:Nat)=>V.int (i:Int))))
theorem KO {s2:Shared} {Q:VK} {j:Int} {tk:Nat} {a:Array Value} {c':Nat} (c:Inv X pins σ H1 s2) (g:∀b o,s2.heap.get? b=some o->h'.get? b=some o)
 (hl:h'.get? s2.heap.objs.size=some { cls:=.type "list",dict:=none,data:=.seq a c',slots:=#[] }) (hi:ItemsOf (λi v=>∃t,v=.int ((0:Int)+(i:Int)*1) t) a j.toNat) (q1:0<=j) (q2:j<=1000000)
 (q:∀p,H1 p=none->Q (.ref p) (upd H1 p (.lst ((List.range j.toNat).map λ(i:Nat)=>V.int (i:Int))))):EP X pins σ Q (.ref s2.heap.objs.size) { s2 with heap:=h',toks:=tk }:=by
 have hv:Vals ((List.range j.toNat).map λ(i:Nat)=>V.int (i:Int)) a.toList:=by
  have aux:∀(l:List Value) (k:Nat),(∀(m:Nat) v,l[m]?=some v->∃t,v=.int ((0:Int)+((k+m:Nat):Int)*1) t)->Vals ((List.range' k l.length).map λ(i:Nat)=>V.int (i:Int)) l:=by
   intro l
   induction l with
   |nil=>intro k _;exact .nil
   |cons x r ih =>
    intro k f;rw[Nu,Pq,N0];refine .cons ?_ (ih (k+1) λm v hm=>?_)
    ·obtain⟨t,e⟩:=f 0 x rfl;exact⟨t,by rw[e];simp⟩
    ·obtain⟨t,e⟩:=f (m+1) v (by simpa using hm);exact⟨t,by rw[e,show k+(m+1)=k+1+m by omega]⟩
  have h1:=aux a.toList 0 (λm v hm=>by obtain⟨t,e⟩:=hi.2 m v (by rw[<-P8];exact hm);exact⟨t,by rw[e];simp⟩)
  rw[NX,hi.1]at h1;rw[List.range_eq_range'];exact h1
 exact⟨.ref s2.heap.objs.size,_,c.laid (t':=tk) g (N7 _) (show dh X.prog X.w _ h' _ (.lst ((List.range j.toNat).map λ(i:Nat)=>V.int (i:Int))) from⟨by rw[N4,Pl,sizeLine_eq];omega,a.toList,c',hv,by simpa using hl⟩),rfl,q _ (c.hok.fresh (N7 _))⟩
theorem u3 {c:Pos} (hc:X.calm=true) (v:Gl X "range") (hm:X.mg "range"=none) (g:Gl X "list") (i:X.mg "list"=none) (ha:PA X [a] ta) (w:starEach [a] X.env=[(false,eval a X.env)]:=by rfl)
  (f:starEach [.Call (.Name "range" p) [a] [] pos] X.env=[(false,eval (.Call (.Name "range" p) [a] [] pos) X.env)]:=by rfl) :
  PE X (.Call (.Name "list" p2) [.Call (.Name "range" p) [a] [] pos] [] c) (tLR ta):=by
 intro pins s σ H Q I h;refine Call_ (fY I g i vo (PyProof.Rows.callWith_type1 ?_ f rfl));rw[f];show wpAny _ _ (spliced ((false,eval (.Call (.Name "range" p) [a] [] pos) X.env)::backTo c [])) _ _ s;refine Calls.spliced_cons (Call_ (fY I v hm boot_range (PyProof.Rows.callWith_type1 (thn (ha pos pins s σ H _ I h) λus s1 l=>?_) w rfl)));obtain⟨vs,H1,u,x,m⟩:=l;obtain⟨j,e,m,y,q⟩:=m;subst e;cases x with
 |cons r rr =>
  cases rr;obtain⟨t,rfl⟩:=r;refine call_range_1 (Calls.spliced_nil ?_);have e2:Builtin.Range.rangeSize 0 j 1=((j.toNat:Nat):Int):=by rw[rangeSize_one];split <;> omega
  refine call_list_range (n:=j.toNat) (u.ok.hd hc) (IsRange.new ..) (small_one (by omega) (by omega) (by omega) (by omega)) e2 (by omega) λh' tk acc' c' z hl hi=>?_
  exact KO (u.kept λb o e=>N1 _ e) z hl hi m y q
def vm:List PyData->Rs (List PyData)
 |[.int j]=>if 0<=j/\j<=1000000 then .ok (bG 0 j.toNat) else .no
 |_=>.no
def gLR (g:Ds->Rs (List PyData)):Ds->Rs (List PyData):=λδ=>(g δ).bind vm
theorem Cp {b:Pos} (hc:X.calm=true) (hm:X.mg "range"=none) (c:X.mg "list"=none) (ha:PAD X E [a] gs) (r:Gl X "range") (f:Gl X "list") (s:starEach [a] X.env=[(false,eval a X.env)])
  (g:starEach [.Call (.Name "range" p) [a] [] pos] X.env=[(false,eval (.Call (.Name "range" p) [a] [] pos) X.env)]):PLD X E (.Call (.Name "list" p2) [.Call (.Name "range" p) [a] [] pos] [] b) (gLR gs) :=
 (u3 hc r hm f c ha.1 s g).imp λσ H Q l=>by
  obtain⟨A,δ,R,o⟩:=l;unfold gLR at o;refine aD.run R (λds e vs H1 m R1 h1=>?_) (λC e H' s'=>by rw[e]at o;exact o H' s') (λe=>by rw[e]at o;exact o);simp only[e,Rs.ag]at o;unfold vm at o;split at o
  ·split at o
   ·rename_i j z;obtain⟨v,rfl,h⟩:=jR h1;rw[h.ofInt];refine⟨j,rfl,z.1,z.2,λq n=>o q _ _ (m.free n) (m.trans (bz n)) aE ?_⟩;have:bG 0 j.toNat=((List.range j.toNat).map λ(i:Nat)=>(i:Int)).map PyData.int:=by unfold bG;rw[Nz];congr 1;funext i;simp
    rw[this,show ((List.range j.toNat).map λ(i:Nat)=>V.int (i:Int))=((List.range j.toNat).map λ(i:Nat)=>(i:Int)).map V.int by rw[Nz];rfl];exact xg _
   ·exact o.elim
  ·exact o.elim
end
theorem wB (t:Addr) (xs:Array Value):Meets (Builtin.«enumerate.__new__» ⟨[.type "enumerate",.ref t],[]⟩) (λ_ R s=>s.heap.IsTuple t xs /\
   R (.ok (.ret (.ref (s.heap.push { cls:=.type "tuple_iterator",data:=.fields #[.ref t,.int 0 0] }).objs.size)))
    { s with heap:=(s.heap.push { cls:=.type "tuple_iterator",data:=.fields #[.ref t,.int 0 0] }).push { cls:=.type "enumerate",data:=.fields #[.none,.bool false,.ref s.heap.objs.size,rawInt 0,.none,.none] } }) :=
 .of_wp λprog w A R s h=>by
  obtain⟨b,g,d,tk,os⟩:=s;obtain⟨hl,h⟩:=h;have hsub:=sub_enumerate;have a:Heap.IsTuple (Shared.heap ⟨b,g,d,tk,os⟩) t xs:=hl
  wp_walk
  refine wpAny_stack_any λst=>wpAny_pure ?_
  split
  ·rename_i c _ _ _ _ _;cases (c==Value.type "enumerate")
   ·wp_walk using wpAny_pyIter_tuple a
    exact⟨_,rfl,h⟩
   ·wp_walk using wpAny_pyIter_tuple a
    exact⟨_,rfl,h⟩
  ·wp_walk using wpAny_pyIter_tuple a
   exact⟨_,rfl,h⟩
theorem zu {A:Around} {l:Addr} (f:s.heap.IsTuple l items)
  (h:∀h',IsEnum h' (s.heap.objs.size+1) s.heap.objs.size 0 .none->h'.IsTupleIter s.heap.objs.size l 0->(∀b o,s.heap.get? b=some o->h'.get? b=some o)->Q (.ref (s.heap.objs.size+1)) { s with heap:=h' }) :
  wpAny (model prog w) A (call (.type "enumerate") [.ref l]) Q E s:=by
 refine callType_new PySem.F.called_enumerate (by decide) (PySem.F.typeCall_enumerate_1 _) (PySem.F.newCall_enumerate_1 _) (λobj=>PySem.F.args_object_init_2 obj _) PySem.F.entry_enumerate_new (wB l items) ⟨f,?_⟩;have a:(s.heap.push { cls:=.type "tuple_iterator",data:=.fields #[.ref l,.int 0 0] }).objs.size=s.heap.objs.size+1:=Heap.size_push ..;show _/\_;rw[a];have c:IsEnum ((s.heap.push { cls:=.type "tuple_iterator",data:=.fields #[.ref l,.int 0 0] }).push
   { cls:=.type "enumerate",data:=.fields #[.none,.bool false,.ref s.heap.objs.size,rawInt 0,.none,.none] }) (s.heap.objs.size+1) s.heap.objs.size 0 .none:=by
  have:=Np (s.heap.push { cls:=.type "tuple_iterator",data:=.fields #[.ref l,.int 0 0] })
   (o:={ cls:=.type "enumerate",data:=.fields #[.none,.bool false,.ref s.heap.objs.size,rawInt 0,.none,.none] }) rfl
  rw[a]at this;exact this
 refine⟨⟨_,c,rfl⟩,h _ c ⟨_,N1 _ (Np _ rfl),rfl,rfl⟩ λb o e=>N1 _ (N1 _ e)⟩
def Ite (P:Hp->List V->Prop) (n:Nat):It :=
 ⟨λi H=>i<n/\∃xs,P H xs/\xs.length=n,
  λi H v H'=>∃t x,v=.ref t/\H t=none/\H'=upd H t (.tup [.int i,x])/\∀xs,P H xs->xs[i]?=some x,
  λi H=>i=n/\∃xs,P H xs/\xs.length=n⟩
theorem tO {e:Addr} {n:Nat} {r:Hp->List V->Prop} {S:Nat->Heap->Prop} {B:Heap->Array Value->Prop} (f:e≠it) (C:e≠a)
  (M:∀(A:Around),A.handled=none->∀b:Array Value,Draws P w A it [it,a] b.size (λi v=>b[i]?=some v) (λi h=>S i h/\B h b))
  (hB:∀(X:Cx),X.prog=P->X.w=w->X.K=K->∀{pins:List (Addr×Obj)} {s:Shared} {σ:St} {H:Hp} {xs:List V},Inv X pins σ H s->r H xs->∃b:List Value,Vals xs b/\B s.heap b.toArray)
  (R:∀(X:Cx),X.prog=P->X.w=w->X.K=K->∀{pins:List (Addr×Obj)} {s:Shared} {σ:St} {H:Hp} {xs ys:List V},Inv X pins σ H s->r H xs->r H ys->xs=ys)
  (N:∀i h,S i h->∃o,h.get? it=some o/\∀v,o.data≠.cell v) (hK:∀i h h',S i h->(∀o,h.get? it=some o->h'.get? it=some o)->S i h') :
  Turn P w K (.Tuple elts x1 tp) (Ite r n) [e,it] e (λi h=>(∃old,IsEnum h e it i old)/\S i h) where
 mem:=by simp
 obj:=λi h st c hc=>by
  obtain⟨⟨old,h1⟩,h2⟩:=st;simp only[N5,Ny,or_false]at hc;rcases hc with rfl|rfl
  ·exact⟨_,h1,λv q=>by cases q⟩
  ·exact N i h h2
 keep:=λi h h' st k=>by obtain⟨⟨old,h1⟩,h2⟩:=st;exact⟨⟨old,k e (by simp) _ h1⟩,hK i h h' h2 λo q=>k it (by simp) o q⟩
 item:=by
  intro X D hw g hc i pins s σ H E I u st F;subst D hw g;obtain⟨hi,xs,y,T⟩:=F;obtain⟨⟨old,h1⟩,h2⟩:=st;obtain⟨b,z,G⟩:=hB X rfl rfl rfl I y;have la:=z.length;refine wpAny_pyNext_enum_itemD (M X.A.in1 (I.ok.hd hc) b.toArray) h1 ⟨h2,G⟩ (by simp;omega) f (by simp[f,C]) λx h' tk U Y Z hT hsz hk=>⟨_,rfl,?_⟩
  refine wpAny_letOwnedTupleGo_enum (s:={ s with heap:=h',toks:=tk+1 }) Y λJ d1 d2=>?_
  have O:e<s.heap.objs.size:=Nk h1;have il:it<s.heap.objs.size:=by obtain⟨o,q,_⟩:=N i _ h2;exact Nk q
  have L:∀c o,c≠e->h'.get? c=some o->J.get? c=some o:=λc o hc q=>(d2.2 c hc).trans q
  obtain⟨l,ex,rx⟩:∃l,xs[i]?=some l/\RelV l x:=by
   have m:i<xs.length:=by omega
   obtain⟨u',e1,e2⟩:=z.get (My m);refine⟨xs[i],My m,?_⟩;have p:b[i]?=some x:=by simpa using U
   rw[e1]at p;cases p;exact e2
  have fr:H s.heap.objs.size=none:=I.hok.fresh (N7 _);refine⟨.ref s.heap.objs.size,upd H s.heap.objs.size (.tup [.int i,l]),?_,rfl,⟨_,l,rfl,fr,rfl,λys h=>by rw[R X rfl rfl rfl I h y];exact ex⟩,?_,λc j=>?_⟩
  ·refine I.turnLay (t':=tk+1) (ch:=[e,it]) u (N7 _) (λc o hn q=>?_) ⟨by show 2<=sizeLine;decide,[.int i tk,x],.cons ⟨tk,rfl⟩ (.cons rx .nil),⟨_,L _ _ (O9 O) hT,rfl,rfl,_,rfl⟩⟩;simp only[N5,Ny,or_false,not_or]at hn;exact L c o hn.1 (hk c o hn.1 hn.2 q)
  ·exact⟨⟨x,by simpa using d1⟩,hK _ _ _ Z.1 λo q=>L it o f.symm q⟩
  ·have Q:=(u c j).1;simp only[N5,Ny,or_false]at j;rcases j with rfl|rfl
   ·rw[az (Nq O)];exact Q
   ·rw[az (Nq il)];exact Q
 done:=by
  intro X D hw g hc i pins s σ H E I u st F;subst D hw g;obtain⟨hi,xs,y,T⟩:=F;obtain⟨⟨old,h1⟩,h2⟩:=st;obtain⟨b,z,G⟩:=hB X rfl rfl rfl I y;have la:=z.length;have e':b.toArray.size=i:=by simp;omega
  refine wpAny_pyNext_enum_endD (M X.A.in1 (I.ok.hd hc) b.toArray) h1 ⟨by rw[e'];exact h2,G⟩ λh' k=>⟨rfl,?_⟩
  refine I.turneds (t':=s.toks) (ch:=[e,it]) u λc o hn q=>?_
  simp only[N5,Ny,or_false,not_or]at hn;exact k c o hn.2 q
 self:=λ_ _ _ _ _ st h=>by obtain⟨⟨old,h1⟩,_⟩:=st;exact wpAny_pyIter_enum h1 h
theorem GV:bootBuiltins "enumerate"=some (.type "enumerate"):=by decide +kernel
def LK (K:PySem.W.Frag) (ta:TA):TI:=λσ H R=>ta σ H λvs H1=>∃a xs,vs=[.ref a]/\((SqT K H1 a xs/\R (Ite (λH ys=>SqT K H a ys) xs.length) H1)\/(SqL K H1 a xs/\R (Ite (λH ys=>SqL K H a ys) xs.length) H1))
theorem G1 {a:Expr} (G:Gl X "enumerate") (hm:X.mg "enumerate"=none) (ha:PA X [a] ta) (J:starEach [a] X.env=[(false,eval a X.env)]:=by rfl) :
  PI X (.Tuple elts x1 tp) (.Call (.Name "enumerate" p) [a] [] pos) (LK X.K ta):=by
 intro pins s σ H R I h;refine Call_ (fY I G hm GV (PyProof.Rows.callWith_type1 (thn (ha pos pins s σ H _ I h) λus f y=>?_) J rfl));obtain⟨vs,H1,l,L,M⟩:=y;obtain⟨j,xs,e,q⟩:=M;subst e;obtain⟨u1,e1,N⟩:=vals1 L;subst e1;cases N;have big:∀c∈[f.heap.objs.size+1,f.heap.objs.size],f.heap.objs.size<=c:=λc hc=>by
  simp only[N5,Ny,or_false]at hc;rcases hc with rfl|rfl
  ·exact OO _
  ·exact N7 _
 have m:f.heap.objs.size+1≠f.heap.objs.size:=Nat.succ_ne_self _;rcases q with⟨z,q⟩|⟨z,q⟩
 ·obtain⟨b,n,pt,_⟩:=l.tuple z;have u:f.heap.IsTuple j b.toArray:=pt;have w:j<f.heap.objs.size:=by obtain⟨_,g,_⟩:=u;exact Nk g
  refine zu u λh' x hit C=>wpAny_pyIter_enum x ?_
  have D:Inv X pins σ H1 { f with heap:=h' }:=l.kept (t':=f.toks) C;refine⟨_,_,_,_,H1,rfl,D,tO (a:=j) (S:=λi h=>h.IsTupleIter f.heap.objs.size j i) (B:=λh b=>h.IsTuple j b) m (O9 (O7 w)) (λA E b=>mQ E f.heap.objs.size j (Nq w) b)
   (λX' _ _ hK {_ _ _ _ _} I h=>?_) (λX' _ _ hK {_ _ _ _ _ _} I h1 h2=>?_) (λi h st=>?_) (λi h F st k=>?_),⟨⟨_,x⟩,hit⟩,λc hc=>l.fpOk (big c hc) (l.hok.fresh (big c hc)),q⟩
  ·rw[<-hK]at h;obtain⟨b,n,p,_⟩:=I.tuple h;exact⟨b,n,p⟩
  ·rw[<-hK]at h1 h2;exact I.tuple_inj h1 h2
  ·obtain⟨o,g,_,d⟩:=st;exact⟨o,g,λv q=>by rw[d]at q;cases q⟩
  ·obtain⟨o,g,r⟩:=st;exact⟨o,k o g,r⟩
 ·obtain⟨b,n,pl,_⟩:=l.list z;have w:j<f.heap.objs.size:=by obtain⟨_,_,g,_⟩:=pl;exact Nk g
  refine call_enumerate_list pl.isList λh' x hit hz C=>wpAny_pyIter_enum x ?_
  have D:Inv X pins σ H1 { f with heap:=h' }:=l.kept (t':=f.toks) C;refine⟨_,_,_,_,H1,rfl,D,tO (a:=j) (S:=λi h=>h.IsListIter f.heap.objs.size j i) (B:=λh b=>h.IsList j b) m (O9 (O7 w)) (λA E b=>Draws.list E f.heap.objs.size j (Nq w) b)
   (λX' _ _ hK {_ _ _ _ _} I h=>?_) (λX' _ _ hK {_ _ _ _ _ _} I h1 h2=>?_) (λi h st=>?_) (λi h F st k=>?_),⟨⟨_,x⟩,hit⟩,λc hc=>l.fpOk (big c hc) (l.hok.fresh (big c hc)),q⟩
  ·rw[<-hK]at h;obtain⟨b,n,p,_⟩:=I.list h;exact⟨b,n,p.isList⟩
  ·rw[<-hK]at h1 h2;exact I.list_inj h1 h2
  ·obtain⟨o,g,_,d⟩:=st;exact⟨o,g,λv q=>by rw[d]at q;cases q⟩
  ·obtain⟨o,g,r⟩:=st;exact⟨o,k o g,r⟩
def fO (ds:List PyData):List PyData:=ds.mapIdx λi d=>.tuple [.int i,d]
theorem iK (ds:List PyData):(fO ds).length=ds.length:=by simp[fO]
theorem si {f:Hp->List V->Prop} (h:Iss K G ds xs) (a:∀H1,aw G H1->f H1 xs):Bm K (Ite f xs.length) (fO ds) G:=λH1 B s j hB=>by have hl:=h.length;rw[iK];refine⟨λi hi=>⟨by omega,xs,a H1 s,rfl⟩,⟨hl.symm,xs,a H1 s,rfl⟩,λi x H2 hi y=>?_⟩;obtain⟨t,x0,rfl,c,rfl,l⟩:=y;obtain⟨d,e,hd⟩:=h.get (l xs (a H1 s));refine⟨bz c,.tuple [.int i,d],by unfold fO;rw[Oo,e];rfl,?_⟩;have m:t∉B:=j.new c;exact iz (by rw[aN m];exact aE) (cw bE (jd (hd.same (λb o q=>by have g:=s b o q;have n:b≠t:=aJ g c;rw[aN (λz=>by rw[hB b z]at q;cases q),az n];exact g))))
section
variable {E:XK} {a b c e k:Expr} {gk:Ds->Rs PyData} {es:List Expr}
def qG:List PyData->Rs (List PyData)
 |[.list ds]=>.ok (fO ds)
 |[.tuple ds]=>.ok (fO ds)
 |_=>.no
def fw (g:Ds->Rs (List PyData)):Ds->Rs (List PyData):=λδ=>(g δ).bind qG
theorem DU (hm:X.mg "enumerate"=none) (ha:PAD X E [a] gs) (f:Gl X "enumerate") (g:starEach [a] X.env=[(false,eval a X.env)]) :
  PID X E (.Tuple elts x1 tp) (.Call (.Name "enumerate" p) [a] [] pos) (fw gs):=(G1 f hm ha.1 g).imp λσ H R ⟨A,δ,Rp,o⟩=>yR Rp o λds vs H1 e s1 R1 h1 o=>by
 unfold qG at o;split at o
 ·obtain⟨v,rfl,h⟩:=jR h1;obtain⟨p,xs,rfl,b,c⟩:=h.ofLst;exact⟨p,xs,rfl,.inr ⟨SqL.of (ax _ _ b),o _ H1 (aw.refl _) (si c λH2 s2=>SqL.of (s2 _ _ b))⟩⟩
 ·obtain⟨v,rfl,h⟩:=jR h1;obtain⟨p,xs,rfl,b,c⟩:=h.ofTup;exact⟨p,xs,rfl,.inl ⟨SqT.of (ax _ _ b),o _ H1 (aw.refl _) (si c λH2 s2=>SqT.of (s2 _ _ b))⟩⟩
 ·exact o.elim
def je (y x:Nat) (gk:Ds->Rs PyData):Ds->Sr:=λδ=>match δ[y]?,δ[x]? with
 |some (some (.list ys)),some (some (.list xs))=>ofR (gk δ) λk=>match k with
  |.int k=>if -(1000000)<=k/\k<=1000000/\ys.length<1000000 then (match ixN xs.length k with
   |some j=>match xs[j]? with
    |some d=>.nx ((δ.set x (some (.list (xs.eraseIdx j)))).set y (some (.list (ys++[d]))))
    |none=>.no
   |none=>.no) else .no
  |_=>.no
 |_,_=>.no
theorem yB {y x:Nat} {a nx:Str} {v M B b h c:Pos} (hk:PD X E k gk) (G:x≠y) (i:y∈O) (l:x∈O) (P:X.N[y]?=some a) (Q:X.N[x]?=some nx)
  (S:Vis X.env.scope a) (T:Vis X.env.scope nx)
  (U:(a==("__debug__":Str))=false) (I:(a==("__classdict__":Str))=false) (W:(nx==("__debug__":Str))=false) (J:(nx==("__classdict__":Str))=false)
  (K:starEach [k] X.env=(false,eval k X.env)::starEach [] X.env) (g:starEach [.Call (.Attribute (.Name nx b) "pop" h) [k] [] c] X.env=(false,eval (.Call (.Attribute (.Name nx b) "pop" h) [k] [] c) X.env)::starEach [] X.env)
  (m:attributeBase (.Name nx b) "pop" X.env (eval (.Name nx b) X.env)=eval (.Name nx b) X.env) (e:attributeBase (.Name a v) "append" X.env (eval (.Name a v) X.env)=eval (.Name a v) X.env)
  (L:((backTo c (starEach [k] X.env)).all (λx=>!x.1)&&(backToKw c (keywordEach [] X.env)).all (λx=>x.1.isSome)&&decide (([k]:List Expr).length+([]:List Keyword).length+(if ([]:List Keyword).isEmpty then 0 else 1)<30))=true)
  (n:((backTo B (starEach [.Call (.Attribute (.Name nx b) "pop" h) [k] [] c] X.env)).all (λx=>!x.1)&&(backToKw B (keywordEach [] X.env)).all (λx=>x.1.isSome)&&decide (([.Call (.Attribute (.Name nx b) "pop" h) [k] [] c]:List Expr).length+([]:List Keyword).length+(if ([]:List Keyword).isEmpty then 0 else 1)<30))=true)
  (q:(h.endLine==c.line)=true) (f:(M.endLine==B.line)=true)
  (hs:swapsWith (.Call (.Attribute (.Name a v) "append" M) [.Call (.Attribute (.Name nx b) "pop" h) [k] [] c] [] B) none pos.line X.env=pure false) :
  PSD X E O (.Expr (.Call (.Attribute (.Name a v) "append" M) [.Call (.Attribute (.Name nx b) "pop" h) [k] [] c] [] B) pos) (je y x gk) :=
 (pf (Df PySem.F.plainAttrs_list PySem.F.slot_list_append PySem.F.type_list_append nF (j6 P S U I) (eB (Df PySem.F.plainAttrs_list PySem.F.slot_list_pop PySem.F.type_list_pop Fi (j6 Q T W J) (eB hk fV K) m L q K rfl) fV g) e n f g rfl) hs).imp λD σ H Y=>by
  obtain⟨H0,A0,A,δ,R,o⟩:=Y;unfold je at o;split at o
  ·rename_i ys xs Z qx;obtain⟨p,vy,dy,e1,hp,hl,e2,hx⟩:=R.ownL i Z;cases e2;obtain⟨r,vx,dx,f1,hr,hm,f2,hz⟩:=R.ownL l qx;cases f2;have npr:p≠r:=λz=>G (R.inj x y _ _ p l i qx Z (by rw[z];exact f1) e1)
   refine⟨_,e1,tyL hl,_,f1,tyL hm,?_⟩;refine eD.run R.full (λkd ek u H1 s R1 hu=>?_) (λC et H' s'=>by rw[et]at o;exact o H' (R.same.trans s')) (λet=>by rw[et]at o;exact o);simp only[ek,av]at o;split at o
   ·rename_i kk;split at o
    ·rename_i hb;split at o
     ·rename_i j hj;split at o
      ·rename_i d hd;obtain⟨w,hw,hwd⟩:=hz.getD hd;have hj':=hj;obtain⟨g1,g2,g3,g4⟩:=va hj;have RS:=R.step s;have RS2:=RS.put (ds:=xs.eraseIdx j) (ys:=vx.eraseIdx j) l qx f1 hr ((hz.same s.del).eraseIdx j);refine⟨r,vx,kk,j,w,rfl,by rw[hu.ofInt],s _ _ hm,by omega,by omega,by rw[hz.length];exact g1,hw,?_⟩;have dU:del (upd H1 r (.lst (vx.eraseIdx j))) (A++A0)=del H1 (A++A0):=kz (NR _ hr);refine⟨p,vy,w,rfl,rfl,by rw[az npr];exact s _ _ hl,by rw[hx.length,sizeLine_eq];omega,?_⟩;refine o A _ _ (RS2.put (ds:=ys++[d]) i (by rw[NJ G];exact Z) e1 hp ?_);rw[dU];exact (hx.same s.del).append (jd (hwd.same s.del))
      ·exact o.elim
     ·exact o.elim
    ·exact o.elim
   ·exact o.elim
  ·exact o.elim
end
theorem xm:isSubtype (.type "tuple") (.type "set")=pure false:=by rw[isSubtype_type];kernel_rfl
theorem wa:isSubtype (.type "tuple") (.type "frozenset")=pure false:=by rw[isSubtype_type];kernel_rfl
section
variable {A:Around}
def seen (ns:List Int) (n:Nat):List Int:=firstMet (λi=>ns.getD i 0) n
theorem Cu {a:Array Value} (G:A.handled=none) (H:s.heap.IsTuple f a) (hi:IntsAre a.toList ns) (l:a.size+1<scanBound)
  (I:∀(h':Heap) (tk:Nat),h'.SetOf (intKind prog w) s.heap.objs.size (λk=>(seen ns a.size).any (·==k)) (seen ns a.size).length->(∀b o,b<s.heap.objs.size->s.heap.get? b=some o->h'.get? b=some o)->Q (.ref s.heap.objs.size) { s with heap:=h',toks:=tk }) :
  wpAny (model prog w) A (call (.type "set") [.ref f]) Q E s:=by
 obtain⟨c,tl,mro⟩:=PySem.F.called_set.mro;have m1:=PySem.F.called_set.made;have m2:=PySem.F.called_set.sub;refine wpAny_call (codeAny_of_tree ?_);show wpAny _ _ (callAny (.type "set") _) _ _ _;refine wpAny_pure ⟨Code.quiet_builtin _ (by decide +kernel),codeAny_builtin PySem.F.entry_type_call ?_⟩;rw[Around.under_plain (weight_type_call_type "set" [.ref f] []) rfl];have m3:=PySem.F.called_set.notType;have m4:=PySem.F.called_set.canCreate;have m5:=PySem.F.typeCall_set_1 (.ref f)
 repeat (any_goals (first|assumption|wp_step))
 refine codeAny_mono (PySem.code_set_new_1 (.ref f) (E:=E) (Q₁:=λy z=>∃led:Bool,y=.ref s.heap.objs.size/\z={ s with heap:=s.heap.push { cls:=.type "set",dict:=none,data:=.set #[] 0 (.fresh 0 0 led) } }) λled=>⟨led,rfl,rfl⟩) λr z n=>?_
 cases r with
 |error ev=>exact n
 |ok fl =>
  cases fl with
  |ret y =>
   obtain⟨led,rfl,rfl⟩:=n;have B:(s.heap.push { cls:=.type "set",dict:=none,data:=.set #[] 0 (.fresh 0 0 led) }).get? s.heap.objs.size=some { cls:=.type "set",dict:=none,data:=.set #[] 0 (.fresh 0 0 led) }:=Np _ rfl;have J:Shared.TypeIs { s with heap:=s.heap.push { cls:=.type "set",dict:=none,data:=.set #[] 0 (.fresh 0 0 led) } } (.ref s.heap.objs.size) "set":=⟨_,B,rfl⟩
   have m6:=PySem.F.called_set.init.lookup;have m7:=PySem.F.called_set.init.bind (.ref s.heap.objs.size)
   repeat (any_goals (first|assumption|wp_step))
   refine codeAny_mono (codeAny_call_builtin (R:=wants (λC s2=>C=.none/\∃h' tk,s2={ s with heap:=h',toks:=tk }/\h'.SetOf (intKind prog w) s.heap.objs.size (λk=>(seen ns a.size).any (·==k)) (seen ns a.size).length /\
     (∀b o,b<s.heap.objs.size->s.heap.get? b=some o->h'.get? b=some o)) E) PySem.F.called_set.init.plain PySem.F.entry_set_init (PySem.check_set_init_1 J ?_)) λK s2 g=>?_
   ·obtain⟨⟨oc,od,oda,osl⟩,go,gc,p,D⟩:=H;simp only at gc D;subst gc;subst D;have go':(s.heap.push { cls:=.type "set",dict:=none,data:=.set #[] 0 (.fresh 0 0 led) }).get? f=some { cls:=.type "tuple",dict:=od,data:=.seq a p,slots:=osl }:=N1 _ go;have n1:=xm;have n2:=wa;have n3:(Value.type "tuple"==Value.type "dict")=false:=by decide
    have L:(s.heap.push { cls:=.type "set",dict:=none,data:=.set #[] 0 (.fresh 0 0 led) }).IsTuple f a:=⟨_,go',rfl,p,rfl⟩
    unfold Builtin.«set.__init__» noKeywords Builtin.Frozenset.updateFrom;generalize zz:pyIter=PI
    wp_walk
    subst zz;refine wpAny_pyIter_tuple L (wpAny_bind (wpAny_runValue ?_));have j:f<s.heap.objs.size:=Nk go;have M:A.in1.in1.in1.handled=none:=by simp[G]
    have ne1:f≠(s.heap.push { cls:=.type "set",dict:=none,data:=.set #[] 0 (.fresh 0 0 led) }).objs.size:=by rw[Heap.size_push];exact Nq (O7 j)
    have q:s.heap.objs.size∉[(s.heap.push { cls:=.type "set",dict:=none,data:=.set #[] 0 (.fresh 0 0 led) }).objs.size,f]:=by rw[Heap.size_push];simp only[N5,N9,Ny,or_false,not_or];exact⟨Nq (Ov _),O9 j⟩
    have N:∀(i:Nat) (v:Value),a[i]?=some v->∃t,v=.int ((λi=>ns.getD i 0) i) t:=λi v hv=>IntsAre.int_at hi i v (by rw[P8];exact hv)
    refine codeAny_set_update_loopS ((Walks.tuple M _ f ne1 a).toS) s.heap.objs.size q (λi=>ns.getD i 0) N l (a.size-0) 0 _ (by omega) (NY _) ⟨⟨_,Np _ rfl,rfl,rfl⟩,⟨_,N1 _ go',rfl,p,rfl⟩⟩ ?_ ?_
    ·have O:((s.heap.push { cls:=.type "set",dict:=none,data:=.set #[] 0 (.fresh 0 0 led) }).push { cls:=.type "tuple_iterator",data:=.fields #[.ref f,.int 0 0] }).get? s.heap.objs.size=some { cls:=.type "set",dict:=none,data:=.set #[] 0 (.fresh 0 0 led) }:=N1 _ B;exact SetOf_congr ((setObjOf_fresh (knd:=intKind prog w) led).setOf O (by unfold scanBound;omega)) (λ_=>rfl) rfl
    ·intro s' m h;obtain⟨h',g',d',u,x⟩:=s';have e1:g'=s.gens:=m.gens;have e2:d'=s.drawn:=m.drawn;have P:x=s.os:=m.os;subst e1;subst e2;subst P;show wpAny _ _ _ _ _ _;refine wpAny_pure ?_;show wpAny _ _ (ret Value.none) _ _ _;refine wpAny_pure ⟨rfl,h',u,rfl,h,λb o l e=>?_⟩;have S:b≠(s.heap.push { cls:=.type "set",dict:=none,data:=.set #[] 0 (.fresh 0 0 led) }).objs.size:=by rw[Heap.size_push];exact Nq (O7 l)
     exact m.heap b o (by simp only[N5,N9,Ny,or_false,not_or];exact⟨Nq l,S⟩) (N1 _ (N1 _ e))
   ·cases K with
    |error ev=>exact g
    |ok fl2 =>
     cases fl2 with
     |ret C =>
      obtain⟨rfl,h',tk,rfl,h,T⟩:=g
      repeat (any_goals (first|assumption|wp_step))
      exact I _ _ h T
     |_=>exact g.elim
  |_=>exact n.elim
end
section
variable {E:XK} {a b c e:Expr} {gc:Ds->Rs PyData} {es:List Expr}
theorem J0:bootBuiltins "set"=some (.type "set"):=by decide +kernel
def tLS (K:PySem.W.Frag) (ta:TA):TE:=λσ H Q=>ta σ H λvs H1=>∃(p:Addr) (ns:List Int),vs=[.ref p]/\SqT K H1 p (ns.map V.int)/\ns.length<=1000/\Q (.int (seen ns ns.length).length) H1
theorem Bq {c:Pos} (hc:X.calm=true) (y:Gl X "set") (hm:X.mg "set"=none) (i:Gl X "len") (j:X.mg "len"=none) (ha:PA X [a] ta) (z:starEach [a] X.env=[(false,eval a X.env)]:=by rfl)
  (f:starEach [.Call (.Name "set" p) [a] [] pos] X.env=(false,eval (.Call (.Name "set" p) [a] [] pos) X.env)::starEach [] X.env:=by rfl) (l:(backTo c (starEach [] X.env)).any (·.1)=false:=by rfl) :
  PE X (.Call (.Name "len" p2) [.Call (.Name "set" p) [a] [] pos] [] c) (tLS X.K ta):=by
 intro pins s σ H Q I h;refine wpAny_Call_Name_kw (fY I i j PySem.boot_len ?_);refine PyProof.Rows.callWith_builtin1 ?_ f l;rw[f];show wpAny _ _ (spliced ((false,eval (.Call (.Name "set" p) [a] [] pos) X.env)::backTo c [])) _ _ s;refine Calls.spliced_cons (Call_ (fY I y hm J0 (PyProof.Rows.callWith_type1 (thn (ha pos pins s σ H _ I h) λus v m=>?_) z rfl)));obtain⟨vs,H1,n,A,B⟩:=m;obtain⟨q,ns,e,C,hz,fin⟩:=B;subst e;obtain⟨u,rfl,D⟩:=vals1 A;cases D;obtain⟨g,w,pt,_⟩:=n.tuple C;have hl:=w.length;rw[N4]at hl;refine Cu (n.ok.hd hc) (show v.heap.IsTuple q g.toArray from pt) (intsAre_of w) (by rw[Nm];unfold scanBound;omega) λh' tk x E=>Calls.spliced_nil ?_
 have F:Inv X pins σ H1 { v with heap:=h',toks:=tk }:=n.kept λb o e=>E b o (Nk e) e
 have r:g.toArray.size=ns.length:=by rw[Nm];exact hl.symm
 rw[r]at x;obtain⟨o,es',ep,t,G,ex,hd,_,_,J,L,hsz⟩:=x;refine PySem.call_len_set G ex hd L (by unfold scanBound at J;omega) ⟨.int (seen ns ns.length).length,H1,F.tok _,⟨_,by rw[hsz]⟩,fin⟩
def lZ:List PyData->Option PyData
 |[.tuple x]=>(eS x).bind λns=>if ns.length<=1000 then some (.int (seen ns ns.length).length) else none
 |_=>none
theorem Bz {b:Pos} (hc:X.calm=true) (hm:X.mg "set"=none) (c:X.mg "len"=none) (ha:PAD X E [a] gs) (l:Gl X "set") (f:Gl X "len") (m:starEach [a] X.env=[(false,eval a X.env)])
  (g:starEach [.Call (.Name "set" p) [a] [] pos] X.env=(false,eval (.Call (.Name "set" p) [a] [] pos) X.env)::starEach [] X.env) (h:(backTo b (starEach [] X.env)).any (·.1)=false) :
  PD X E (.Call (.Name "len" p2) [.Call (.Name "set" p) [a] [] pos] [] b) (gF lZ gs):=(Bq hc l hm f c ha.1 m g h).imp λσ H Q ⟨A,δ,R,o⟩=>sF R o λds vs H1 e s1 R1 h1 o=>by
 unfold lZ at o;split at o
 ·rename_i x;cases q:eS x with
  |none=>rw[q]at o;exact o.elim
  |some ns =>
   rw[q]at o;obtain⟨v,rfl,n⟩:=jR h1;obtain⟨p,xs,rfl,i,j⟩:=n.ofTup;rw[dC q]at j;rw[j.ofInts]at i;by_cases z:ns.length<=1000
   ·simp only[OK,if_pos z]at o;exact⟨p,ns,rfl,SqT.of (ax _ _ i),z,o _ H1 (aw.refl _) bE⟩
   ·simp only[OK,if_neg z]at o;exact o.elim
 ·exact o.elim
end
open AutoSeq1 (wpAny_loadPart')
open SeqAt (EqAt)
theorem xB {prog:Program} {w:World} {A:Around} {E:Value->Shared->Prop} {s:Shared} {a:Array Value} {x:Value} {e:Value->Bool} {j:Nat} {Q:Option PySem.Fin×Unit->Shared->Prop} (f:j<a.size) (hit:e a[j]=true) (c:∀m (hm:m<a.size),m<j->e a[m]=false)
  (g:∀y,y∈a->EqAt A s y x (e y)) (h:Q (some (.done (.ret (.int j s.toks))),()) { s with toks:=s.toks+1 }):∀(k i m:Nat),i+k=j->j<i+m ->
  wpAny (model prog w) A (forIn (List.range' i m) ((none:Option PySem.Fin),()) λ(i:Nat) _=>match a[i]? with
   |some y=>do
    let b <-eqBool y x
    if b=true then do
      let r <-retInt (i:Int)
      pure (ForInStep.done (some r,()))
     else pure (ForInStep.yield (none,()))
   |_=>pure (ForInStep.yield (none,()))) Q E s
 |0,i,0,h1,h2=>by omega
 |0,i,m+1,h1,h2=>by
  have:i=j:=by omega
  subst this;rw[Pq,OV];have q:a[i]?=some a[i]:=by simp[f]
  simp only[q];refine wpAny_bind (wpAny_bind (g _ (Array.getElem_mem f) prog w _ _ ?_));rw[hit,if_pos rfl];unfold retInt;exact wpAny_bind (wpAny_bind (wpAny_mkInt (wpAny_pure (wpAny_pure (wpAny_pure h)))))
 |k+1,i,0,h1,h2=>by omega
 |k+1,i,m+1,h1,h2=>by
  have hi:i<a.size:=by omega
  rw[Pq,OV];have q:a[i]?=some a[i]:=by simp[hi]
  simp only[q];refine wpAny_bind (wpAny_bind (g _ (Array.getElem_mem hi) prog w _ _ ?_));rw[c i hi (by omega),if_neg NA];exact wpAny_pure (xB f hit c g h k (i+1) m (by omega) (by omega))
theorem BZ (c:Addr) (a:Array Value) (n:Nat) (dd:Option Addr) (f:Array (Option Value)) (x:Value) (e:Value->Bool) (j:Nat) (h:j<a.size) (hit:e a[j]=true) (b:∀m (hm:m<a.size),m<j->e a[m]=false) :
  Meets (Builtin.«tuple.index» ⟨[.ref c,x],[]⟩)
   (λA R s=>s.heap.get? c=some { cls:=.type "tuple",dict:=dd,data:=.seq a n,slots:=f }/\(∀y,y∈a->EqAt A.in1 s y x (e y))/\R (.ok (.ret (.int j s.toks))) { s with toks:=s.toks+1 }):=by
 intro prog w A R s i;obtain⟨hp,g,d,tk,os⟩:=s;obtain⟨hl,l,o⟩:=i;unfold Builtin.«tuple.index»;simp only[Std.Legacy.Range.forIn_eq_forIn_range',Std.Legacy.Range.size];generalize hF:(@forIn Sem (List Nat))=F
 wp_walk using wpAny_loadPart' hl
 subst hF;refine xB h hit b l ?_ j 0 _ (by omega) (by simp;omega);exact wpAny_pure o
section
variable {E:XK} {a o e:Expr} {go:Ds->Rs PyData} {es:List Expr}
def Ja:V->List V->Hp->VK->Prop:=λx vs H Q=>∃l xs y j,x=.ref l/\vs=[y]/\H l=some (.tup xs)/\jw y=true/\xs.all jw=true/\(xs.findIdx? λz=>eqV z y)=some j/\Q (.int j) H
def tIx (to:TE) (t:TA):TE:=λσ H Q=>to σ H λx H1=>(∃l xs,x=.ref l/\H1 l=some (.tup xs))/\t σ H1 λvs H2=>Ja x vs H2 Q
theorem Dk {to:TE} {t:TA} {apos:Pos} (U:PE X o to) (ha:PA X [e] t) (c:attributeBase o "index" X.env (eval o X.env)=eval o X.env:=by rfl)
  (r:((backTo cpos (starEach [e] X.env)).all (λx=>!x.1)&&(backToKw cpos (keywordEach [] X.env)).all (λx=>x.1.isSome)&&decide (([e]:List Expr).length+([]:List Keyword).length+(if ([]:List Keyword).isEmpty then 0 else 1)<30))=true:=by rfl)
  (f:(apos.endLine==cpos.line)=true:=by rfl) (W:starEach [e] X.env=(false,eval e X.env)::starEach [] X.env:=by rfl) (b:(backTo cpos (starEach [] X.env)).any (·.1)=false:=by rfl) :
  PE X (.Call (.Attribute o "index" apos) [e] [] cpos) (tIx to t):=by
 intro pins s σ H Q I h;refine wpAny_Call_method_late c r f rfl (thn (U pins s σ H _ I h) λv Y g=>?_);obtain⟨x,H1,O,Z,⟨l,xs,hx,hl⟩,q1⟩:=g;subst hx;cases Z;obtain⟨P,its,rv,R,ge,gc,gd,n,gq⟩:=O.hok l _ hl;refine⟨"tuple", "tuple.index",PySem.F.plainAttrs_tuple,PySem.F.slot_tuple_index,PySem.F.type_tuple_index,⟨R,ge,gc⟩,λa ea=>by cases ea;exact⟨R,ge,gd⟩,?_⟩;have S:=ha cpos pins Y σ H1 _ O q1;rw[W]at S ⊢;refine Calls.callWith_builtin (by show (false||(backTo cpos (starEach [] X.env)).any (·.1))=false;rw[b];rfl) (Calls.evalArgs_plain ?_);refine thn S λus s2 g=>?_
 obtain⟨vs,H2,T,r2,q2⟩:=g;obtain⟨l',i,y,j,e1,e2,D,fy,fs,hj,q⟩:=q2;cases e1;subst e2;obtain⟨hz',its',p,E,w,A,B,n',C⟩:=T.hok l _ D;obtain⟨u,rfl,ru⟩:=vals1 r2;obtain⟨oc,od,oda,osl⟩:=E;simp only at A B C;subst A B C;have hlen:=p.length;obtain⟨G,J,K⟩:=List.findIdx?_eq_some_iff_getElem.mp hj;have at':∀(m:Nat) (hm:m<i.length),eqU y (its'[m]'(by omega))=eqV i[m] y:=λm hm=>by
  obtain⟨w',hw,L⟩:=p.get (My hm);have:its'[m]'(by omega)=w':=by have h2:=My (show m<its'.length by omega);rw[h2]at hw;exact Option.some.inj hw
  rw[this];exact yk L (Nr.mp fs _ (NL hm))
 refine call_meets PySem.F.slot_tuple_index ⟨_,w,rfl⟩ PySem.F.entry_tuple_index (PySem.F.args_tuple_index_2 _ _) (BZ l its'.toArray n' none osl u (eqU y) j (by simp;omega) (by simpa[at' j G] using J) (λm hm M=>?_)) ⟨w,λz P=>mB ru fy p fs z (by simpa using P),⟨.int j,H2,T.tok _,⟨_,rfl⟩,q⟩⟩;have N:m<i.length:=by simp at hm;omega
 have:=K m M;simpa[at' m N] using this
def mV (xs:List PyData) (y:PyData):Option PyData:=if gj y&&xs.all gj then ((xs.map toV).findIdx? λz=>eqV z (toV y)).map λj=>.int j else none
def rm (go ga:Ds->Rs PyData):Ds->Rs PyData:=λδ=>(go δ).bind λd=>match d with
 |.tuple xs=>(ga δ).bind λy=>Rs.eE (mV xs y)
 |_=>.no
theorem Ef {apos:Pos} (r:PD X E o go) (ha:PD X E e ga) (c:attributeBase o "index" X.env (eval o X.env)=eval o X.env)
  (h:((backTo cpos (starEach [e] X.env)).all (λx=>!x.1)&&(backToKw cpos (keywordEach [] X.env)).all (λx=>x.1.isSome)&&decide (([e]:List Expr).length+([]:List Keyword).length+(if ([]:List Keyword).isEmpty then 0 else 1)<30))=true)
  (f:(apos.endLine==cpos.line)=true) (l:starEach [e] X.env=(false,eval e X.env)::starEach [] X.env) (b:(backTo cpos (starEach [] X.env)).any (·.1)=false) :
  PD X E (.Call (.Attribute o "index" apos) [e] [] cpos) (rm go ga):=(Dk r (eB ha fV l) c h f l b).imp λσ H Q i=>by
 obtain⟨A,δ,R,a⟩:=i;unfold rm at a;refine eD.run R (λd1 e1 v H1 m s h1=>?_) (λC g H' s'=>by rw[g]at a;exact a H' s') (λg=>by rw[g]at a;exact a);simp only[e1,Rs.ag]at a;cases d1 with
 |tuple xs =>
  obtain⟨p,vs,rfl,n,w⟩:=h1.ofTup;refine⟨⟨p,vs,rfl,ax _ _ n⟩,?_⟩;have a:hW X.K E A H ((ga δ).bind λy=>Rs.eE (mV xs y)) Q:=a;refine eD.run s (λd2 e2 u H2 s2 R2 h2=>?_) (λC g H' s'=>by rw[g]at a;exact a H' (m.trans s')) (λg=>by rw[g]at a;exact a);simp only[e2,Rs.ag]at a;unfold mV at a;split at a
  ·rename_i z;rw[N6]at z;obtain⟨f1,f2⟩:=h2.flat z.1;obtain⟨B,D⟩:=w.flat z.2;cases q:((xs.map toV).findIdx? λz=>eqV z (toV d2)) with
   |none=>rw[q]at a;exact a.elim
   |some j =>rw[q]at a;exact⟨p,vs,u,j,rfl,rfl,s2 _ _ (ax _ _ n),f2,D,by rw[f1,B];exact q,a _ H2 (m.trans s2) bE⟩
  ·exact a.elim
 |_=>exact a.elim
end
end L2
namespace L2
open PySem PySem.Spec PyProof.Rows
def lV:List Int->Option Int
 |[]=>none
 |x::r=>some (r.foldl (λa b=>if b>a then b else a) x)
theorem fold_max:∀(r:List Int) (x:Int),(r.foldl (λa b=>if b>a then b else a) x)∈x::r/\∀a∈x::r,a<=r.foldl (λa b=>if b>a then b else a) x
 |[],x=>⟨N3,λa ha=>by cases N9.mp ha;exact Ob _⟩
 |y::r,x=>by
  obtain⟨h1,h2⟩:=fold_max r (if y>x then y else x);rw[OU];have c:=h2 _ N3;refine⟨?_,λa ha=>?_⟩
  ·rcases N5.mp h1 with z|z
   ·rw[z];split <;> simp
   ·exact N2 _ (N2 _ z)
  ·have e:x<=(if y>x then y else x):=by split <;> omega
   have f:y<=(if y>x then y else x):=by split <;> omega
   rcases N5.mp ha with rfl|ha
   ·exact Int.le_trans e c
   ·rcases N5.mp ha with rfl|ha
    ·exact Int.le_trans f c
    ·exact h2 a (N2 _ ha)
theorem A3 {M m:Int} (h1:M∈ns) (h2:∀a∈ns,a<=M) (e:lV ns=some m):M=m:=by
 cases ns with
 |nil=>cases e
 |cons x r =>cases e;obtain⟨g1,g2⟩:=fold_max r x;have a1:=h2 _ g1;have a2:=g2 _ h1;omega
section
variable {E:XK} {a:Expr} {es:List Expr}
theorem Bn (hc:X.calm=true):jz X (.builtin "max") (λxs H Q=>∃(a:Addr) (ns:List Int) (m:Int),xs=[.ref a]/\SqL X.K H a (ns.map V.int)/\lV ns=some m/\Q (.int m) H):=by
 intro pins s σ H xs us Q I r h;obtain⟨a,ns,m,rfl,x,hm,q⟩:=h;obtain⟨u,rfl,y⟩:=vals1 r;cases y;obtain⟨f,z,p,_⟩:=I.list x;have hi:IntsAre f ns:=intsAre_of z;have g:0<ns.length:=by cases ns with|nil=>cases hm|cons _ _=>simp
 obtain⟨xs,n⟩:=hi.allInts.items;have c:ns=xs.toList.map (·.1):=by rw[<-hi.numsOf,<-nums_intItems,<-n]
 have hsz:0<xs.size:=by have o:=g;rw[c,N4,NX]at o;exact o
 have l:s.heap.IsList a (intItems xs):=n▸p.isList;refine max_intList (I.ok.hd hc) l hsz λv h' tk hv A=>?_
 obtain⟨t,rfl⟩:=intItems_at hv;obtain⟨h1,h2⟩:=argBest_gt (numAt xs) (xs.size-1);have e:numAt xs (argBest (λi j=>decide (numAt xs i>numAt xs j)) (xs.size-1))=m:=by
  refine A3 ?_ (λb w=>?_) hm
  ·rw[c,numAt_eq];exact getD_mem (by rw[N4,NX];omega)
  ·rw[c]at w;obtain⟨j,B,rfl⟩:=mem_getD w;rw[N4,NX]at B;rw[<-numAt_eq];exact h2 j (by omega)
 exact⟨.int m,H,I.kept A,⟨_,by rw[<-e]⟩,q⟩
def lW:List PyData->Option PyData
 |[.list x]=>(eS x).bind λns=>(lV ns).map PyData.int
 |_=>none
theorem FH:FnD K lW (λxs H Q=>∃(a:Addr) (ns:List Int) (m:Int),xs=[.ref a]/\SqL K H a (ns.map V.int)/\lV ns=some m/\Q (.int m) H):=λds d vs H A Q e hA h k=>by
 unfold lW at e;split at e
 ·rename_i x;obtain⟨ns,q,e⟩:=Option.bind_eq_some_iff.mp e;obtain⟨m,f,rfl⟩:=O6.mp e;obtain⟨v,rfl,g⟩:=jR h;obtain⟨p,xs,rfl,b,c⟩:=g.ofLst;rw[dC q]at c;rw[c.ofInts]at b;exact⟨p,ns,m,rfl,SqL.of (ax _ _ b),f,k _ H (aw.refl _) bE⟩
 ·cases e
theorem AU:bootBuiltins "max"=some (.builtin "max"):=by decide +kernel
theorem Hq:bootBuiltins "min"=some (.builtin "min"):=by decide +kernel
theorem GG (hc:X.calm=true) (hm:X.mg "max"=none) (ha:PAD X E (a::es) gs) (c:Gl X "max") (e:starEach (a::es) X.env=(false,eval a X.env)::starEach es X.env) (b:(backTo pos (starEach es X.env)).any (·.1)=false) :
 PD X E (.Call (.Name "max" p) (a::es) [] pos) (gF lW gs):=e9 FH ha λh=>eX (Bn hc) c hm AU h (by decide) (by decide) e b
end
section
variable {E:XK}
end
section
variable {E:XK} {a b c:Expr} {gc:Ds->Rs PyData}
end
section
variable {E:XK} {a:Expr} {es:List Expr}
end
section
variable {E:XK} {a:Expr}
end
end L2
namespace PyProof.Rows
open PySem
section
variable {A:Around}
end
end PyProof.Rows
namespace L2
open PySem PySem.Spec PyProof.Rows
section
variable {E:XK} {a:Expr} {es:List Expr}
end
end L2
namespace L2
open PySem PySem.Spec PySem.Calls PyProof.Rows PySem.W PySem.Builtin PySem.Builtin.ObjectAttr PySem.Builtin.Getset_descriptor
section
variable {A:Around} {K:Frag} {x:Addr} {ox:Obj}
structure Ij (h:Heap) (x:Addr) (D:Addr):Prop where
 ex:∃o,h.get? x=some o/\o.cls=.ref D
theorem Ij.type {M:Model} (I:Ij h x D):Looks M h (typeOf (.ref x)) (.ref D):=by obtain⟨o,h1,h2⟩:=I.ex;exact h2▸(Looks.ld h1).andThen .now
end
end L2
namespace L2
open PySem PySem.Spec PyProof.Rows
section
variable {E:XK} {ea:Addr} {oe:Obj}
end
section
variable {E:XK} {ea:Addr} {oe:Obj}
end
variable {G:List Addr->Ds->Sr} {m:Str} {xs:List (List Key×Addr×Value)}
def yq (O:List Nat) (i:Nat) (g:Ds->Rs PyData):Ds->Sr:=λδ=>match δ[i]? with
 |some (some (.int a))=>ofR (g (mask O δ)) λd=>match d with
  |.int b=>.nx (δ.set i (some (.int (a+b))))
  |_=>.no
 |_=>.no
section
variable {E:XK} {e a b:Expr} {es:List Expr}
theorem Gy (h:PD X E e ga) (g:X.N.Nodup) (c:i∉O) (hi:X.N[i]?=some x) (j:Loc X.env.scope x)
  (l:X.fn x=true\/X.env.scope.names.lookup x=some .local):PSD X E O (.AugAssign (.Name x pos') .Add e pos) (yq O i ga):=(Kr g hi j h K0 l).imp λD σ H a=>by
 obtain⟨H0,A0,A,δ,R,o⟩:=a;unfold yq at o;split at o
 ·rename_i z f;obtain⟨v,ev,hv⟩:=R.pl i _ c f;have hl:i<δ.length:=(ND.mp f).1;refine⟨v,ev,?_⟩;refine eD.run R.part (λd m u H1 n R1 p=>?_) (λC b H' s'=>?_) (λb=>?_)
  ·rw[m,av]at o;split at o
   ·refine⟨_,_,hv.ofInt,p.ofInt,o A _ H1 ((R.step n).set c hl bE)⟩
   ·exact o.elim
  ·rw[b,jU]at o;exact o H' (R.same.trans s')
  ·rw[b,jT]at o;exact o
 ·exact o.elim
def jG (f:Str):List (PyData×PyData)->Option PyData
 |[]=>none
 |(k,d)::r=>match k with
  |.str g=>if g=f then some d else jG f r
  |_=>none
def br (C:Addr) (f:Str):PyData->Option PyData
 |.dict (k::r)=>match k with
  |(.str z,.int c)=>if z=""/\c=(C:Int) then jG f r else none
  |_=>none
 |_=>none
theorem Isk.jG {K:PySem.W.Frag} {H:Hp}:∀{r:List (PyData×PyData)} {fs:List (Str×V)} {f:Str} {d:PyData},Isk K H r fs->L2.jG f r=some d->∃v,fs.lookup f=some v/\Is K H d v
 |[],_,f,d,_,l=>by simp[L2.jG]at l
 |(k,x)::r,fs,f,d,h,l=>by
  unfold Isk at h;obtain⟨g,v,fs',rfl,rfl,h1,h2⟩:=h;simp only[L2.jG]at l;rw[NG];by_cases z:g=f
  ·subst z;rw[if_pos rfl]at l;cases l;exact⟨v,by simp,h1⟩
  ·rw[if_neg z]at l;have:(f==g)=false:=by simpa using λq=>z q.symm
   rw[this];exact Isk.jG h2 l
theorem Hi {f:Str} {d x:PyData} (s:f≠"@") (e:br C f d=some x) (h:Is K H d v):∃a dx fs u,v=.ref a/\H a=some (.ins C dx fs)/\fs.lookup f=some u/\Is K H x u:=by
 unfold br at e;split at e
 ·rename_i k r;split at e
  ·rename_i z c;split at e
   ·rename_i q;obtain⟨rfl,rfl⟩:=q;unfold Is at h;rcases h with (⟨a,ns,_,b,_⟩|⟨a,l,_,b,_⟩)|⟨a,p,dx,fs,ev,h1,hn,h2|h2⟩
    ·injection b with b _;cases b
    ·rcases b with⟨m,b,_⟩|⟨m,b,_⟩ <;> first|(cases b;done)|(cases m <;> cases b)
    ·unfold Isk at h2;obtain⟨g,u,fs',e1,e2,j,n⟩:=h2;cases e1;have i:=j.ofInt;injection i with i
     obtain rfl:p=C:=Int.ofNat.inj i;obtain⟨u,l,o⟩:=n.jG e;exact⟨a,dx,fs,u,ev,h1,l,o⟩
    ·unfold Isk at h2;obtain⟨g,u,fs',e1,e2,j,n⟩:=h2;cases e1;have i:=j.ofInt;injection i with i
     obtain rfl:p=C:=Int.ofNat.inj i;obtain⟨u,l,o⟩:=n.jG e;rw[NG,show (f==("@":Str))=false by simpa using s]at l;exact⟨a,dx,fs,u,ev,h1,l,o⟩
   ·cases e
  ·cases e
 ·cases e
theorem IJ {f:Str} (cl:Cls X.K C) (n:fg X.K C f) (ha:PD X E a ga) (b:attributeBase a f X.env (eval a X.env)=eval a X.env) (c:f≠"@"):PD X E (.Attribute a f pos) (g1 (br C f) ga) :=
 (JU ha b).imp λσ H Q ⟨A,δ,R,o⟩=>g1.read (tt:=λQ x H1=>∃a C dx fs v,x=.ref a/\H1 a=some (.ins C dx fs)/\Cls X.K C/\fg X.K C f/\fs.lookup f=some v/\Q v H1) R o λd1 d x H' e _ _ h k=>by obtain⟨p,dx,fs,u,rfl,g,l,i⟩:=Hi c e h;exact⟨p,C,dx,fs,u,rfl,ax _ _ g,cl,n,l,k _ H' (aw.refl _) i⟩
def Kh (C:Addr) (names:List Str):Sp:=λvs H Q _=>∃(x dx:Addr) (args:List V),vs=.ref x::args/\args.length=names.length/\H x=some (.ins C dx []) /\
 ∀H':Hp,(∀b,b≠x->H' b=H b)->H' x=some (.ins C dx (names.zip args))->Q .non H'
structure qw (P:Program) (w:World) (K:PySem.W.Frag) (mg:Str->Option Value) (base:Heap) (k:Nat) (x:Str) (C:Addr) (names:List Str):Prop where
 ex:∃f fd ps,Mk K C f/\gB P w K mg base (CXW P w) k f fd ps (Kh C names)/\Binds K fd ps []/\mg x=some (.ref C)
def tG (C:Addr) (names:List Str):List PyData->Rs PyData:=λds=>if ds.length=names.length then .ok (EW C (names.zip ds)) else .no
theorem uC {K:PySem.W.Frag} {H:Hp}:∀{names:List Str} {ds:List PyData} {vs:List V},Iss K H ds vs->Isk K H ((names.zip ds).map λp=>(.str p.1,p.2)) (names.zip vs)
 |[],_,_,_=>by simpa using oT
 |_::_,[],_,h=>by rw[h.nil_of];simpa using oT
 |n::ns,d::ds,_,h=>by obtain⟨v,r,rfl,h1,h2⟩:=h.cons_of;simp only[OW,N0];exact dS h1 (uC h2)
theorem yA {f:Str}:∀{names:List Str} {vs:List V},f∉names->(names.zip vs).lookup f=none
 |[],_,_=>rfl
 |_::_,[],_=>rfl
 |n::ns,v::vs,h=>by rw[OW,NG,show (f==n)=false by simpa using λq=>h (by rw[q];exact N3)];exact yA λq=>h (N2 _ q)
theorem GX {k:Nat} (D:qw X.prog X.w X.K X.mg X.base k x C names) (m:cg j X.A) (n:Passes (CXW X.prog X.w) X E) (ha:PAD X E (e::es) gs) (r:k+1<=j) (s:Gl X x)
  (a:(x==("__debug__":Str))=false) (u:starEach (e::es) X.env=(false,eval e X.env)::starEach es X.env) (c:(backTo pos (starEach es X.env)).any (·.1)=false) (hn:("@":Str)∉names) :
  PD X E (.Call (.Name x p) (e::es) [] pos) (aq (tG C names) gs):=by
 obtain⟨f,fd,ps,M,F,v,hm⟩:=D.ex;refine (Ab M F (m.mono r) s hm v .nil n ha.1 a u c).imp λσ H Q g=>?_
 obtain⟨A,δ,R,o⟩:=g;refine sF R o λds vs H1 e s1 y h1 o=>?_
 unfold tG at o;split at o
 ·rename_i hl;intro x dx nx h ne;refine⟨x,dx,vs++[],rfl,by rw[O8,h1.length,hl],aE,λH' k1 k2=>⟨rfl,?_⟩⟩;rw[O8]at k2;have l:aw H1 H':=λb q i=>by have n1:b≠x:=aJ i nx;rw[k1 b n1,az n1,az (aJ i h)];exact i
  refine o (.ref x) H' l (Je (dx:=dx) (fs:=names.zip vs) ?_ (yA hn) (uC (h1.same l.del)));rw[aN (y.ls.new nx)];exact k2
 ·exact o.elim
def xR:PyData->PyData->Option PyData
 |.list x,.int d=>(eS x).map λns=>.int ((lV ns).getD d)
 |_,_=>none
end
section
variable {A:Around} {R:Result->Shared->Prop} {I:Addr} {wr:List Addr} {n:Nat} {T:Nat->Value->Prop} {St:Nat->Heap->Prop} {dv:Value}
theorem Dg (a v:Value):argsOk "max" ⟨[a],[(Str.ofString "default",v)]⟩:=by unfold argsOk;kernel_rfl
theorem uX:(toString "max"++toString ".loop":String)="max.loop":=by decide
theorem qb (W:Walks prog w A.in1 I fp wr n T St) (g:Nat->Nat->Bool) (hc:CmpOf prog w A.in1 .Gt T g) (S:Addr) (m:S∉fp):∀(k j:Nat) (s:Shared) (f:Value) (c:Nat),n=j+1+k->St (j+1) s.heap->T (argBest g j) f ->
  s.heap.get? S=some { cls:=.type "list",dict:=none,data:=.seq #[f,f] c,slots:=#[] }->(∀v h' tk,T (argBest g (n-1)) v->(∀b o,b∉wr->b≠S->s.heap.get? b=some o->h'.get? b=some o)->R (.ok (.ret v)) { s with heap:=h',toks:=tk }) ->
  codeAny (model prog w) A (.builtin "max.loop" ⟨[.ref I,.none,.ref S],[(Str.ofString "default",dv)]⟩) R s
 |0,j,s,f,c,hn,hst,hb,hS,hR=>by
  have r:S∉wr:=λh=>m (W.sub _ h)
  refine codeAny_builtin F.entry_max_loop ?_;rw[Around.under_plainId F.plain_max_loop _];show wpAny _ A.in1 (seqItems? (.ref S) >>= _) _ _ s;refine wpAny_bind (wpAny_seqItems hS rfl ?_);show wpAny _ A.in1 (tryCatch (pyNext (.ref I)) _ >>= _) _ _ s;refine wpAny_bind (wpAny_tryCatch (W.done s _ _ (by rw[show n=j+1 from hn];exact hst) λh1 B k1=>?_));have a:=k1 S _ r hS;show wpAny _ A.in1 (updateSeq S (λ_=>#[]) >>= _) _ _ _;refine wpAny_bind (wpAny_updateSeq a rfl (wpAny_bind (wpAny_letGo (wpAny_pure ?_))));exact hR f _ B (by rw[show n-1=j by omega];exact hb) λb o i l z=>(NZ _ _ (Ne.symm l)).trans (k1 b o i z)
 |k+1,j,s,f,c,hn,hst,hb,hS,hR=>by
  have r:S∉wr:=λh=>m (W.sub _ h)
  refine codeAny_builtin F.entry_max_loop ?_;rw[Around.under_plainId F.plain_max_loop _];show wpAny _ A.in1 (seqItems? (.ref S) >>= _) _ _ s;refine wpAny_bind (wpAny_seqItems hS rfl ?_);show wpAny _ A.in1 (tryCatch (pyNext (.ref I)) _ >>= _) _ _ s;refine wpAny_bind (wpAny_tryCatch (W.item (j+1) s _ _ (by omega) hst λv h1 B hv p k1=>?_));have a:=k1 S _ r hS;show wpAny _ A.in1 (tryCatch (holding [v,v] (richCompare .Gt v f >>= _)) _ >>= _) _ _ _;refine wpAny_bind (wpAny_tryCatch (wpAny_holding (wpAny_bind (hc (j+1) (argBest g j) v f _ _ _ hv hb (wpAny_bind (wpAny_holding (wpAny_truthy_bool (wpAny_bind (wpAny_letGo (wpAny_pure ?_))))))))));cases q:g (j+1) (argBest g j) with
  |true =>
   rw[if_pos rfl];refine wpAny_bind (wpAny_updateSeq a rfl (wpAny_bind (wpAny_letGo ?_)));rw[uX];refine wpAny_pure ⟨plainId_quiet F.plain_max_loop _,qb W g hc S m k (j+1) _ v _ (by omega) (W.frame _ _ _ p λb u o e=>?_) (by unfold argBest;rw[q];exact hv) (OH _ a rfl) λx h2 y p2 k2=>?_⟩
   ·exact (NZ _ _ (λz:S=b=>m (z▸u))).trans e
   ·exact hR x h2 y p2 λb o i l z=>k2 b o i l ((NZ _ _ (Ne.symm l)).trans (k1 b o i z))
  |false =>rw[if_neg (by decide)];refine wpAny_bind (wpAny_letGo ?_);rw[uX];refine wpAny_pure ⟨plainId_quiet F.plain_max_loop _,qb W g hc S m k (j+1) _ f c (by omega) p (by unfold argBest;rw[q];exact hb) a λx h2 y p2 k2=>?_⟩;exact hR x h2 y p2 λb o i l z=>k2 b o i l (k1 b o i z)
variable {l:Addr} {xs:Array (Int×Tok)}
theorem CQ (u:A.handled=none) (hl:s.heap.IsList l (intItems xs))
  (x:xs.size=0->∀h' tk,(∀b o,s.heap.get? b=some o->h'.get? b=some o)->Q dv { s with heap:=h',toks:=tk })
  (h:0<xs.size->∀v h' tk,(intItems xs)[argBest (λi j=>decide (numAt xs i>numAt xs j)) (xs.size-1)]?=some v->(∀b o,s.heap.get? b=some o->h'.get? b=some o)->Q v { s with heap:=h',toks:=tk }) :
  wpAny (model prog w) A (call (.builtin "max") [.ref l] [(Str.ofString "default",dv)]) Q E s:=by
 refine kmk_tree F.kind_max F.plain_max F.entry_max (Dg _ _) ?_;show wpAny _ A.in1 (Builtin.Builtins.bindParams "max" ["key", "default"] 0 ⟨[],[(Str.ofString "default",dv)]⟩ >>= _) _ _ s;refine wpAny_bind (wpAny_of_eq (show Builtin.Builtins.bindParams "max" ["key", "default"] 0 ⟨[],[(Str.ofString "default",dv)]⟩=pure [none,some dv] from rfl) (wpAny_bind (wpAny_pure ?_)));refine wpAny_bind (iter_intList hl λs2 e st g m=>wpAny_bind (wpAny_newObj_type ?_));subst e;have W:=Walks.list (prog:=prog) (w:=w) (A:=A.in1) u s.heap.objs.size l m (intItems xs);have hsz:(intItems xs).size=xs.size:=by simp[intItems]
 have a:(s.heap.push { cls:=.type "list_iterator",data:=.fields #[.ref l,.int 0 0] }).objs.size∉[s.heap.objs.size,l]:=λhm=>Oj _ (g _ hm)
 rw[uX];refine wpAny_pure ⟨plainId_quiet F.plain_max_loop _,codeAny_builtin F.entry_max_loop ?_⟩;rw[Around.under_plainId F.plain_max_loop _];show wpAny _ A.in1 (seqItems? (.ref _) >>= _) _ _ _;refine wpAny_bind (wpAny_seqItems (Np _ rfl) rfl ?_);show wpAny _ A.in1 (tryCatch (pyNext (.ref _)) _ >>= _) _ _ _;have c:=W.frame _ _ _ st λb _ o e=>N1 { cls:=.type "list",data:=.seq #[] } e
 have y:(s.heap.push { cls:=.type "list_iterator",data:=.fields #[.ref l,.int 0 0] }).objs.size∉[s.heap.objs.size]:=λz=>a (N5.mpr (.inl (N9.mp z)))
 have kp:∀b o,s.heap.get? b=some o->b∉[s.heap.objs.size]/\((s.heap.push { cls:=.type "list_iterator",data:=.fields #[.ref l,.int 0 0] }).push { cls:=.type "list",data:=.seq #[] }).get? b=some o/\b≠(s.heap.push { cls:=.type "list_iterator",data:=.fields #[.ref l,.int 0 0] }).objs.size:=λb o e=>by
  have n:b<s.heap.objs.size:=Nk e;refine⟨λz=>?_,N1 _ (N1 _ e),?_⟩
  ·rw[N9.mp z]at n;exact Oj _ n
  ·rw[Heap.size_push];exact Nq (O7 n)
 by_cases hz:xs.size=0
 ·refine wpAny_bind (wpAny_tryCatch (W.done _ _ _ (by rw[hsz,hz];exact c) λh1 r k1=>?_));show wpAny _ A.in1 (rule _ >>= _) _ _ _;refine wpAny_bind (wpAny_rule (wpAny_pure ?_));exact x hz h1 r λb o e=>k1 b o (kp b o e).1 (kp b o e).2.1
 ·refine wpAny_bind (wpAny_tryCatch (W.item 0 _ _ _ (by rw[hsz];omega) c λv h1 r hv p k1=>?_));have f:=k1 _ _ y (Np _ rfl);show wpAny _ A.in1 (updateSeq _ (λ_=>#[v,v]) >>= _) _ _ _;refine wpAny_bind (wpAny_updateSeq f rfl ?_);rw[uX];refine wpAny_pure ⟨plainId_quiet F.plain_max_loop _,qb W _ (CmpOf.ints_gt (numAt xs) λ_ _=>intItems_at) _ a (xs.size-1) 0 _ v _ (by rw[hsz];omega) (W.frame _ _ _ p λb q o e=>?_) hv (OH _ f rfl) λB h2 C p2 k2=>?_⟩
  ·exact (NZ _ _ (λz:(s.heap.push { cls:=.type "list_iterator",data:=.fields #[.ref l,.int 0 0] }).objs.size=b=>a (by rw[z];exact q))).trans e
  ·refine h (by omega) B h2 C (by rw[hsz]at p2;exact p2) λb o e=>k2 b o (kp b o e).1 (kp b o e).2.2 ?_
   exact (NZ _ _ (Ne.symm (kp b o e).2.2)).trans (k1 b o (kp b o e).1 (kp b o e).2.1)
end
section
variable {E:XK} {e a b:Expr} {es:List Expr}
theorem Bx (h:ns.length=0) (d:Int):(lV ns).getD d=d:=by cases ns with|nil=>rfl|cons _ _=>simp at h
theorem eD.weak {g:Ds->Rs PyData} {Q a:VK} (h:eD K E g σ H Q) (k:∀v H',Q v H'->a v H'):eD K E g σ H a:=by
 obtain⟨A,δ,R,o⟩:=h;refine⟨A,δ,R,?_⟩;cases q:g δ with
 |ok d=>rw[q]at o;exact λv H' b h1=>k v H' (o v H' b h1)
 |rz C=>rw[q]at o;exact o
 |no=>rw[q]at o;exact o
theorem GR (hc:X.calm=true) (hm:X.mg "max"=none) (ha:PD X E a ga) (g:PD X E b gb) (G:Gl X "max") (r:starEach [a] X.env=[(false,eval a X.env)]) :
  PD X E (.Call (.Name "max" p) [a] [⟨some "default",b,kp⟩] pos) (g2 xR ga gb):=by
 have key:PE X (.Call (.Name "max" p) [a] [⟨some "default",b,kp⟩] pos) (tOp (λx y H Q=>∃(p:Addr) (ns:List Int) (d:Int),x=.ref p/\y=.int d/\SqL X.K H p (ns.map V.int)/\Q (.int ((lV ns).getD d)) H) (eD X.K E ga) (eD X.K E gb)):=by
  intro pins s σ H Q I h;refine wpAny_Call_Name_kw (fY I G hm AU ?_ (by decide) (by decide));refine callWith_kw ?_ (by rw[r];rfl) (by rw[r];rfl) rfl rfl;refine thn ((eB ha fV r) pos pins s σ H (λvs H1=>∃x,vs=[x]/\eD X.K E gb σ H1 λy H2=>∃(p:Addr) (ns:List Int) (d:Int),x=.ref p/\y=.int d/\SqL X.K H2 p (ns.map V.int)/\Q (.int ((lV ns).getD d)) H2) I
   (eD.weak h λx H1 q=>⟨x,rfl,q⟩)) λus s1 ⟨vs,H1,I1,r1,x,q0,q1⟩=>?_
  subst q0;obtain⟨u,rfl,J⟩:=vals1 r1;refine thn ((AI g EM) pos pins s1 σ H1 (λvs H2=>∃y,vs=[y]/\∃(p:Addr) (ns:List Int) (d:Int),x=.ref p/\y=.int d/\SqL X.K H2 p (ns.map V.int)/\Q (.int ((lV ns).getD d)) H2) I1
   (eD.weak q1 λy H2 q=>⟨y,rfl,q⟩)) λws s2 ⟨zs,H2,I2,r2,y,q2,p,ns,d,ex,ey,hS,q3⟩=>?_
  subst q2;obtain⟨v,rfl,L⟩:=vals1 r2;subst ex ey;obtain rfl:u=Value.ref p:=J;obtain⟨td,rfl⟩:=(show ∃t,v=Value.int d t from L)
  obtain⟨w,M,pl,_⟩:=I2.list hS;have hi:IntsAre w ns:=intsAre_of M;obtain⟨xs,f⟩:=hi.allInts.items;have c:ns=xs.toList.map (·.1):=by rw[<-hi.numsOf,<-nums_intItems,<-f]
  have z:s2.heap.IsList p (intItems xs):=f▸pl.isList;have B:ns.length=xs.size:=by rw[c,N4,NX]
  refine CQ (I2.ok.hd hc) z (λN h' tk C=>?_) λN v h' tk hv C=>?_
  ·rw[Bx (by omega) d]at q3;exact⟨.int d,H2,I2.kept C,⟨_,rfl⟩,q3⟩
  ·obtain⟨t,rfl⟩:=intItems_at hv;obtain⟨h1,h2⟩:=argBest_gt (numAt xs) (xs.size-1);obtain⟨m,D⟩:∃m,lV ns=some m:=by
    cases ns with
    |nil=>simp at B;omega
    |cons _ _=>exact⟨_,rfl⟩
   have e:numAt xs (argBest (λi j=>decide (numAt xs i>numAt xs j)) (xs.size-1))=m:=by
    refine A3 ?_ (λb g=>?_) D
    ·rw[c,numAt_eq];exact getD_mem (by rw[N4,NX];omega)
    ·rw[c]at g;obtain⟨j,O,rfl⟩:=mem_getD g;rw[N4,NX]at O;rw[<-numAt_eq];exact h2 j (by omega)
   rw[D]at q3;exact⟨.int m,H2,I2.kept C,⟨_,by rw[<-e]⟩,q3⟩
 exact key.imp λσ H Q ⟨A,δ,R,o⟩=>g2.read (λd1 d2 d x y H' A' Q' n hA h1 h2 k=>by
  unfold xR at n;split at n
  ·rename_i l dd;obtain⟨ns,q,rfl⟩:=O6.mp n;obtain⟨p,xs,rfl,F,f⟩:=h1.ofLst;rw[dC q]at f;rw[f.ofInts]at F;exact⟨p,ns,dd,rfl,h2.ofInt,SqL.of (ax _ _ F),k _ H' (aw.refl _) bE⟩
  ·cases n) R o
end
theorem F0 {b:Array (Option Value)} {kV e:Value}
  (g:∀(kV doc pm:Value) (an:Option Addr) (cdv ct:Value) (us:List Value),us.length=ps.length->bindArgs (PySem.W.fnOf "__init__" qual (fc st) (bV st) (aC st) .none kV doc pm an cdv ct) ⟨us,[]⟩=pure (ps.zip us))
  (a:PySem.W.findIn K (.ref C) "__init__"=some (some (.ref f))) (i:PySem.W.isFn K (.ref f)=true)
  (l:K.lookup f=some ⟨oc,od,.func (PySem.W.fnOf "__init__" qual (fc st) (bV st) (aC st) .none kV e pm an cd ct),b⟩)
  (c:PySem.W.codeIn K cd qual=true) (k:PySem.W.keepIn K (.ref f)=true) (mk:PySem.W.makesIn K C=true) (h:PySem.W.keepIn K (.ref C)=true):∃f fd,Mk K C f/\Fun K "__init__" qual st f fd/\Binds K fd ps [] :=
 have F:=xZ (st:=st) l c k
 ⟨f,_,⟨mk,a,i,h⟩,F,F.binds g⟩
section
variable {E:XK} {a b:Expr}
end
section
variable {E:XK}
end
structure i4 (P:Program) (w:World) (K:PySem.W.Frag) (mg:Str->Option Value) (base:Heap) (k:Nat) (C:Addr) (m:Str) (n:Nat) (gf:List PyData->Rs PyData):Prop where
 ex:∃f fd ps,Cls K C/\Meth K C m f/\gB P w K mg base (CXW P w) k f fd ps (spD K n gf)/\Binds K fd ps []
def jA (m:Str):List (PyData×PyData)->Bool
 |[]=>true
 |(k,_)::r=>match k with
  |.str g=>decide (g≠m)&&jA m r
  |_=>false
def isC (C:Addr) (m:Str):PyData->Bool
 |.dict (k::r)=>match k with
  |(.str z,.int c)=>decide (z="")&&decide (c=(C:Int))&&jA m r
  |_=>false
 |_=>false
theorem Isk.jA {K:PySem.W.Frag} {H:Hp} {m:Str}:∀{r:List (PyData×PyData)} {fs:List (Str×V)},Isk K H r fs->L2.jA m r=true->fs.lookup m=none
 |[],_,h,_=>by unfold Isk at h;rw[h];rfl
 |(k,d)::r,fs,h,n=>by unfold Isk at h;obtain⟨f,v,fs',rfl,rfl,h1,h2⟩:=h;simp only[L2.jA,N6,decide_eq_true_eq]at n;rw[NG,show (m==f)=false by simpa using λq=>n.1 q.symm];exact Isk.jA h2 n.2
theorem IG {d:PyData} (e:isC C m d=true) (h:Is K H d v):∃a dx fs,v=.ref a/\H a=some (.ins C dx fs)/\fs.lookup m=none:=by
 unfold isC at e;split at e
 ·rename_i k r;split at e
  ·rename_i z c;simp only[N6,decide_eq_true_eq]at e;obtain⟨⟨rfl,rfl⟩,n⟩:=e;unfold Is at h;rcases h with (⟨a,ns,_,b,_⟩|⟨a,l,_,b,_⟩)|⟨a,o,dx,fs,ev,h1,hn,h2|h2⟩
   ·injection b with b _;cases b
   ·rcases b with⟨m,b,_⟩|⟨m,b,_⟩ <;> first|(cases b;done)|(cases m <;> cases b)
   ·unfold Isk at h2;obtain⟨g,u,fs',e1,e2,i,j⟩:=h2;cases e1;have f:=i.ofInt;injection f with f
    obtain rfl:o=C:=Int.ofNat.inj f;exact⟨a,dx,fs,ev,h1,j.jA n⟩
   ·unfold Isk at h2;obtain⟨g,u,fs',e1,e2,i,j⟩:=h2;cases e1;have f:=i.ofInt;injection f with f
    obtain rfl:o=C:=Int.ofNat.inj f;have l:=j.jA n;rw[NG]at l;cases q:(m==("@":Str)) with
    |true=>rw[q]at l;cases l
    |false=>rw[q]at l;exact⟨a,dx,fs,ev,h1,l⟩
  ·cases e
 ·cases e
def bp (C:Addr) (m:Str) (gf:List PyData->Rs PyData) (ga:Ds->Rs PyData) (gs:Ds->Rs (List PyData)):Ds->Rs PyData:=λδ=>(ga δ).bind λd=>if isC C m d then (gs δ).bind λds=>gf (d::ds) else .no
section
variable {E:XK} {o e:Expr} {es:List Expr} {apos:Pos}
theorem bp.read {n:Nat} {Q:VK} (hn:∀δ ds,gs δ=.ok ds->ds.length+1=n) (R:dq X.K H A δ σ) (b:hW X.K E A H (bp C m gf ga gs δ) Q):AK C m (spD X.K n gf) [] E (eD X.K E ga) (aD X.K E gs) σ H Q:=by
 unfold bp at b;refine eD.run R (λd f v H1 e g h1=>?_) (λC c H' s'=>?_) (λc=>?_)
 ·simp only[f,Rs.ag]at b;split at b
  ·rename_i hc;obtain⟨a,dx,fs,rfl,h,l⟩:=IG hc h1;refine⟨a,dx,fs,rfl,ax _ _ h,l,?_⟩;refine aD.run g (λds e2 vs H2 s2 R2 h2=>?_) (λC c H' s'=>?_) (λc=>?_)
   ·simp only[e2,Rs.ag]at b;refine⟨A,d::ds,R2.ls,?_,hn δ ds e2,b.mono (e.trans s2)⟩;rw[O8];exact cw (h1.same s2.del) h2
   ·rw[c]at b;exact b H' (e.trans s')
   ·rw[c]at b;exact b
  ·exact b.elim
 ·rw[c]at b;exact b H' s'
 ·rw[c]at b;exact b
theorem Gm {k:Nat} {pl:Sem Bool} (D:i4 X.prog X.w X.K X.mg X.base k C m (es.length+2) gf) (c:cg j X.A) (g:Passes (CXW X.prog X.w) X E) (h:PD X E o ga) (ha:PAD X E (e::es) gs) (i:k<=j)
  (a:starEach (e::es) X.env=(false,eval e X.env)::starEach es X.env) (b:(backTo pos (starEach es X.env)).any (·.1)=false)
  (l:eval (.Call (.Attribute o m apos) (e::es) [] pos) X.env=(do
   let ov <-eval o X.env
   standAt apos.atName
   let (f,first) <-holding [ov] (getMethod ov m pl)
   callWith pos f first (backTo pos (starEach (e::es) X.env)) (backToKw pos (keywordEach [] X.env)))) :
  PD X E (.Call (.Attribute o m apos) (e::es) [] pos) (bp C m gf ga gs):=by
 obtain⟨f,fd,ps,cl,hm,F,n⟩:=D.ex;exact (GN h cl hm F (c.mono i) n .nil g ha.1 a b l).imp λσ H Q ⟨A,δ,R,ou⟩=>bp.read (λδ ds e=>by rw[ha.2 δ ds e];rfl) R ou
theorem D8 {k:Nat} {pl:Sem Bool} (D:i4 X.prog X.w X.K X.mg X.base k C m 1 gf) (c:cg j X.A) (g:Passes (CXW X.prog X.w) X E) (i:PD X E o ga) (p:k<=j)
  (r:eval (.Call (.Attribute o m apos) [] [] pos) X.env=(do
   let ov <-eval o X.env
   standAt apos.atName
   let (f,first) <-holding [ov] (getMethod ov m pl)
   callWith pos f first (backTo pos (starEach [] X.env)) (backToKw pos (keywordEach [] X.env)))) :
  PD X E (.Call (.Attribute o m apos) [] [] pos) (bp C m gf ga ah):=by
 obtain⟨f,fd,ps,cl,hm,F,s⟩:=D.ex;refine (v5 i cl hm F (c.mono p) s .nil g r).imp λσ H Q b=>?_
 obtain⟨A,δ,R,u⟩:=b;have h:=bp.read (gs:=ah) (X:=X) (n:=1) (λδ ds e=>by cases e;rfl) R u;unfold AK at h ⊢;exact h.weak λv H1 ⟨a,dx,fs,e,hp,l,q⟩=>⟨a,dx,fs,e,hp,l,by obtain⟨A',δ',R',o'⟩:=q;exact o' [] H1 (aw.refl _) cJ⟩
end
section
mutual
theorem Is.off {C dx:Addr} {fs:List (Str×V)} (ha:H a=some (.ins C dx fs)):∀{d:PyData} {v:V},aI d=true->Is K H d v->Is K (del H [a]) d v
 |.none,_,_,h=>by unfold Is at h ⊢;exact h
 |.bool _,_,_,h=>by unfold Is at h ⊢;exact h
 |.int _,_,_,h=>by unfold Is at h ⊢;exact h
 |.str _,_,_,h=>by unfold Is at h ⊢;exact h
 |.dict _,_,n,_=>by unfold aI at n;cases n
 |.list ds,_,n,h=>by unfold aI at n;obtain⟨b,xs,e,h1,h2⟩:=h.ofLst;subst e;exact jK (by rw[aN (λz=>by rw[N9.mp z,ha]at h1;cases h1)];exact h1) (Iss.off ha n h2)
 |.tuple ds,_,n,h=>by unfold aI at n;obtain⟨b,xs,e,h1,h2⟩:=h.ofTup;subst e;exact iz (by rw[aN (λz=>by rw[N9.mp z,ha]at h1;cases h1)];exact h1) (Iss.off ha n h2)
theorem Iss.off {C dx:Addr} {fs:List (Str×V)} (ha:H a=some (.ins C dx fs)):∀{ds:List PyData} {vs:List V},dB ds=true->Iss K H ds vs->Iss K (del H [a]) ds vs
 |[],_,_,h=>by rw[h.nil_of];exact cJ
 |d::ds,_,n,h=>by unfold dB at n;obtain⟨n1,n2⟩:=O3.mp n;obtain⟨v,r,e,h1,h2⟩:=h.cons_of;subst e;exact cw (Is.off ha n1 h1) (Iss.off ha n2 h2)
end
def lr:List (PyData×PyData)->Bool
 |[]=>true
 |(_,d)::r=>aI d&&lr r
theorem Isk.off {C dx:Addr} {fs:List (Str×V)} (ha:H a=some (.ins C dx fs)):∀{ds:List (PyData×PyData)} {gs:List (Str×V)},lr ds=true->Isk K H ds gs->Isk K (del H [a]) ds gs
 |[],_,_,h=>by unfold Isk at h ⊢;exact h
 |(k,d)::ds,_,n,h=>by unfold lr at n;obtain⟨n1,n2⟩:=O3.mp n;unfold Isk at h ⊢;obtain⟨f,v,r,e1,e2,h1,h2⟩:=h;exact⟨f,v,r,e1,e2,Is.off ha n1 h1,Isk.off ha n2 h2⟩
def kf:List (PyData×PyData)->Option Int
 |(.str x,.int _)::(.str y,.int b)::r=>if x=""/\y="@"/\lr r then some b else none
 |_=>none
mutual
def objs:PyData->Bool
 |.list ds=>jJ ds
 |.tuple ds=>jJ ds
 |.dict kvs=>(kf kvs).isSome
 |_=>true
def jJ:List PyData->Bool
 |[]=>true
 |d::ds=>objs d&&jJ ds
end
mutual
def fq (a:Addr) (nd:PyData):PyData->PyData
 |.list ds=>.list (jE a nd ds)
 |.tuple ds=>.tuple (jE a nd ds)
 |.dict kvs=>if kf kvs=some (a:Int) then nd else .dict kvs
 |d=>d
def jE (a:Addr) (nd:PyData):List PyData->List PyData
 |[]=>[]
 |d::ds=>fq a nd d::jE a nd ds
end
end
def kW (a:Addr) (nd:PyData) (δ:Ds):Ds:=δ.map λd=>d.map (fq a nd)
theorem mh {d:PyData} (h:(kW a nd δ)[i]?=some (some d)):∃b,δ[i]?=some (some b)/\d=fq a nd b:=by
 unfold kW at h;rw[Nx]at h;cases e:δ[i]? with
 |none=>rw[e]at h;cases h
 |some x=>cases x with
  |none=>rw[e]at h;cases h
  |some b=>rw[e]at h;cases h;exact⟨b,rfl,rfl⟩
theorem wJ (h:a∉B):del (upd H a o) B=upd (del H B) a o:=by
 funext b;by_cases z:b=a
 ·subst z;rw[aN h,aE,aE]
 ·rw[az z];by_cases y:b∈B
  ·rw[gZ y,gZ y]
  ·rw[aN y,aN y,az z]
section
theorem i5 {fs:List (Str×V)} (e:aw (del H [a]) H') (ha:H a=some (.ins C dx fs)) (f:H b=some o) (c:b≠a):H' b=some o :=
 e _ _ (by rw[aN (λz=>c (N9.mp z))];exact f)
mutual
theorem Is.mutH {C dx:Addr} {fs:List (Str×V)} {nd:PyData} (ha:H a=some (.ins C dx fs)) (j:aw (del H [a]) H') (hn:Is K H' nd (.ref a)):∀{d:PyData} {v:V},objs d=true->Is K H d v->Is K H' (fq a nd d) v
 |.none,_,_,h=>by unfold fq;unfold Is at h ⊢;exact h
 |.bool _,_,_,h=>by unfold fq;unfold Is at h ⊢;exact h
 |.int _,_,_,h=>by unfold fq;unfold Is at h ⊢;exact h
 |.str _,_,_,h=>by unfold fq;unfold Is at h ⊢;exact h
 |.list ds,_,n,h=>by unfold objs at n;obtain⟨b,xs,e,h1,h2⟩:=h.ofLst;subst e;unfold fq;exact jK (i5 j ha h1 (λz=>by rw[z,ha]at h1;cases h1)) (Iss.mutH ha j hn n h2)
 |.tuple ds,_,n,h=>by unfold objs at n;obtain⟨b,xs,e,h1,h2⟩:=h.ofTup;subst e;unfold fq;exact iz (i5 j ha h1 (λz=>by rw[z,ha]at h1;cases h1)) (Iss.mutH ha j hn n h2)
 |.dict kvs,v,n,h=>by
  unfold objs at n;unfold fq;unfold kf at n ⊢;split at n
  case h_2=>cases n
  rename_i x I y b r;split at n
  case isFalse=>cases n
  rename_i J;obtain⟨rfl,rfl,D⟩:=J;have L:∃(g:Addr) (o c:Addr) (gs:List (Str×V)),v=.ref g/\b=(g:Int)/\I=(o:Int)/\H g=some (.ins o c gs)/\gs.lookup ("@":Str)=none/\Isk K H r gs:=by
   unfold Is at h;rcases h with (⟨s,ns,_,e,_⟩|⟨s,l,_,e,_⟩)|⟨s,o,c,gs,e,h1,i,h2|h2⟩
   ·cases e
   ·rcases e with⟨m,e,_⟩|⟨m,e,_⟩ <;> first|(cases e;done)|(cases m <;> cases e)
   ·unfold Isk at h2;obtain⟨f,u,w,e1,e2,E,p⟩:=h2;cases e1;unfold Isk at p;obtain⟨f,u,w,e1,e2,F,G⟩:=p;injection e2 with e2
    subst e2 e1;rw[NG]at i;simp at i
   ·unfold Isk at h2;obtain⟨f,u,w,e1,e2,E,p⟩:=h2;cases e1;have A:=E.ofInt;injection A with A
    unfold Isk at p;obtain⟨f,u,w,e1,e2,F,G⟩:=p;cases e1;have B:=F.ofInt;injection B with B
    exact⟨s,o,c,gs,e,B.symm,A.symm,h1,i,G⟩
  obtain⟨g,o,c,gs,rfl,rfl,rfl,h1,hl,h2⟩:=L;simp only[D,and_self,if_true];by_cases z:g=a
  ·subst z;rw[if_pos rfl];exact hn
  ·have zz:¬ (some (g:Int)=some (a:Int)):=λq=>z (Int.ofNat.inj (Option.some.inj q))
   rw[if_neg zz];unfold Is;refine .inr ⟨g,o,c,gs,rfl,i5 j ha h1 z,hl,.inr (dS bE (dS bE ?_))⟩;exact (Isk.off ha D h2).same j
theorem Iss.mutH {C dx:Addr} {fs:List (Str×V)} {nd:PyData} (ha:H a=some (.ins C dx fs)) (b:aw (del H [a]) H') (hn:Is K H' nd (.ref a)):∀{ds:List PyData} {vs:List V},jJ ds=true->Iss K H ds vs->Iss K H' (jE a nd ds) vs
 |[],_,_,h=>by rw[h.nil_of];unfold jE;exact cJ
 |d::ds,_,n,h=>by unfold jJ at n;obtain⟨n1,n2⟩:=O3.mp n;obtain⟨v,r,e,h1,h2⟩:=h.cons_of;subst e;unfold jE;exact cw (Is.mutH ha b hn n1 h1) (Iss.mutH ha b hn n2 h2)
end
theorem Hc:aw (del H [a]) H'->aw (del (del H B) [a]) (del H' B):=λc b o e=>by obtain⟨e1,e2⟩:=a9 e;obtain⟨f,g⟩:=a9 e2;rw[aN f];exact c b o (by rw[aN e1];exact g)
theorem bQ.mutH {fs:List (Str×V)} (R:bQ K H0 A0 H A O δ σ)
  (ha:H a=some (.ins C dx fs)) (s:H0 a=none) (n:∀(i:Nat) d,δ[i]?=some (some d)->objs d=true) (l:aw (del H [a]) H') (hn:Is K (del H' (A++A0)) nd (.ref a)):bQ K H0 A0 H' A O (kW a nd δ) σ:=by
 have o:Ls H A0:=R.ls0.same R.same;have na:a∉A++A0:=λz=>by
  rcases NI.mp z with z|z
  ·obtain⟨xs,e,q⟩:=R.ls a z;rw[ha]at e;cases e;cases q
  ·obtain⟨xs,e,q⟩:=o a z;rw[ha]at e;cases e;cases q
 have hd:del H (A++A0) a=some (.ins C dx fs):=by rw[aN na];exact ha
 have g:aw (del (del H (A++A0)) [a]) (del H' (A++A0)):=Hc l;refine⟨λb u e=>?_,R.ls0,R.new,λb p=>?_,?_,λi d hi e=>?_,λi d hi e=>?_,λi j d e b hi w e1 e2 x y=>?_⟩
 ·exact i5 l ha (R.same b u e) (λz=>by rw[z,s]at e;cases e)
 ·obtain⟨xs,e,q⟩:=R.ls b p;exact⟨xs,i5 l ha e (λz=>by rw[z,ha]at e;cases e;cases q),q⟩
 ·unfold kW;rw[N4];exact R.len
 ·obtain⟨c,f,rfl⟩:=mh e;obtain⟨v,e1,h1⟩:=R.pl i c hi f;exact⟨v,e1,Is.mutH hd g hn (n i c f) h1⟩
 ·obtain⟨c,f,rfl⟩:=mh e;obtain⟨b,o',d1,e1,p,r,rfl,h1⟩:=R.own i c hi f;have h:=n i _ f;obtain⟨ds,xs,rfl,rfl⟩:∃ds xs,c=.list ds/\o'=.lst xs:=by
   unfold ik at h1;split at h1
   ·exact⟨_,_,rfl,rfl⟩
   ·exfalso;rcases h1 with⟨m,rfl,_⟩|⟨m,rfl,_⟩ <;> unfold objs kf at h <;> cases m <;> simp at h
   ·exact h1.elim
  have h1:Iss K _ ds xs:=h1;have:=n i _ f;unfold objs at this;exact⟨b,.lst xs,.list (jE a nd ds),e1,p,i5 l ha r (λz=>by rw[z,ha]at r;cases r),by unfold fq;rfl,Iss.mutH hd g hn this h1⟩
 ·obtain⟨c,B,_⟩:=mh e1;obtain⟨d1,D,_⟩:=mh e2;exact R.inj i j c d1 b hi w B D x y
end
def sDN (as:List Addr) (K:PySem.W.Frag) (E:XK) (O:List Nat) (G:Ds->Sr):TS:=λD σ H=>∃H0 A0 A δ,(∀a∈as,H0 a=none)/\bQ K H0 A0 H A O δ σ/\nB K E H0 A0 O (G δ) D
def PSN (as:List Addr) (X:Cx) (E:XK) (O:List Nat) (s:Stmt) (G:Ds->Sr):Prop:=PS X s (sDN as X.K E O G)
def PBN (as:List Addr) (X:Cx) (E:XK) (O:List Nat) (ss:List Stmt) (G:Ds->Sr):Prop:=PSs X ss (sDN as X.K E O G)
section
variable {E:XK} {ss:List Stmt} {G G':Ds->Sr} {c:Expr} {ca:Ds->Rs Bool}
theorem Jl (h:PSD X E O st G):PSN as X E O st G:=h.imp λD σ H a=>(by obtain⟨H0,A0,A,δ,_,R,o⟩:=a;exact⟨H0,A0,A,δ,R,o⟩)
theorem Kj (h:PBD X E O ss G):PBN as X E O ss G:=h.imp λD σ H a=>(by obtain⟨H0,A0,A,δ,_,R,o⟩:=a;exact⟨H0,A0,A,δ,R,o⟩)
theorem FV:PBN as X E O [] ba:=Kj uM
theorem xA (h1:PSN as X E O st G) (h2:PBN as X E O ss G'):PBN as X E O (st::ss) (aF G G'):=(cx h1 h2).imp λD σ H ⟨H0,A0,A,δ,hn,R,o⟩=>⟨H0,A0,A,δ,hn,R,by
 unfold aF at o;cases q:G δ with
 |nx δ'=>rw[q]at o;exact λa σ' H' b=>⟨H0,A0,a,δ',hn,b,o⟩
 |rt d=>rw[q]at o;exact o
 |rz C=>rw[q]at o;exact o
 |bk d=>rw[q]at o;exact o
 |ct d=>rw[q]at o;exact o
 |no=>rw[q]at o;exact o⟩
theorem AJ (h1:PSN as X E O st G):PBN as X E O [st] G:=(ie h1).imp λD σ H h=>h
theorem JG {a:List Stmt} (hc:PCD X E c ca) (h1:PBN as X E O ss G) (h2:PBN as X E O a G'):PSN as X E O (.If c ss a pos) (sIf ca G G'):=(Ay hc h1 h2).imp λD σ H e=>by
 obtain⟨H0,A0,A,δ,hn,R,o⟩:=e;unfold sIf at o;refine cD.run R.full (λt b H1 f R1=>?_) (λC b H' s'=>?_) (λb=>?_)
 ·rw[b]at o;cases t with
  |true=>exact⟨H0,A0,A,δ,hn,R.step f,o⟩
  |false=>exact⟨H0,A0,A,δ,hn,R.step f,o⟩
 ·rw[b]at o;exact o H' (R.same.trans s')
 ·rw[b]at o;exact o
theorem Bv (fuel:Nat) (j:PassesOwn (model X.prog X.w) X.A X.env X.xe) (hc:PCD X E c ca) (l:PBN as X E O ss G):PSN as X E O (.While c ss [] pos) (λδ=>bL ca G fuel δ):=(xC j hc l).imp λD σ H e=>by
 obtain⟨H0,A0,A,δ,hn,R,o⟩:=e;refine⟨λm σ H=>∃A δ,bQ X.K H0 A0 H A O δ σ/\nB X.K E H0 A0 O (bL ca G m δ) D,⟨fuel,A,δ,R,o⟩,?_⟩
 rintro m σ H ⟨A,δ,R,o⟩
 cases m with
 |zero=>exact o.elim
 |succ m =>
  unfold bL at o;refine cD.run R.full (λt a H1 i R1=>?_) (λC a H' s'=>?_) (λa=>?_)
  ·rw[a]at o;cases t with
   |false=>exact o A σ H1 (R.step i)
   |true =>
    refine⟨λb H'=>∃A δ,bQ X.K H0 A0 H' A O δ b/\nB X.K E H0 A0 O (bL ca G m δ) D,λb H' q=>⟨m,Ov m,q⟩,H0,A0,A,δ,hn,R.step i,?_⟩;have o:nB X.K E H0 A0 O (match G δ with
     |.nx δ2=>bL ca G m δ2
     |.ct δ2=>bL ca G m δ2
     |.bk δ2=>.nx δ2
     |.rt v=>.rt v
     |.rz C=>.rz C
     |.no=>.no) D:=o
    cases eb:G δ with
    |nx δ2=>rw[eb]at o;exact λf g n h=>⟨f,δ2,h,o⟩
    |ct δ2=>rw[eb]at o;exact λf g n h=>⟨f,δ2,h,o⟩
    |bk δ2=>rw[eb]at o;exact o
    |rt v=>rw[eb]at o;exact o
    |rz C=>rw[eb]at o;exact o
    |no=>rw[eb]at o;exact o.elim
  ·rw[a]at o;exact o H' (R.same.trans s')
  ·rw[a]at o;exact o
end
def k7:List (PyData×PyData)->Option (List (Str×PyData))
 |[]=>some []
 |(.str f,d)::r=>(k7 r).map λl=>(f,d)::l
 |_=>none
theorem tM:∀{r:List (PyData×PyData)} {fds:List (Str×PyData)},k7 r=some fds->r=fds.map λp=>(.str p.1,p.2)
 |[],fds,e=>by cases e;rfl
 |(k,d)::r,fds,e=>by
  cases k <;> first|(cases e;done)|skip
  rename_i f;unfold k7 at e;cases q:k7 r with
  |none=>rw[q]at e;cases e
  |some l=>rw[q]at e;cases e;rw[tM q];rfl
theorem q9:∀fds:List (Str×PyData),k7 (fds.map λp=>(.str p.1,p.2))=some fds
 |[]=>rfl
 |p::r=>by rw[N0];unfold k7;rw[q9 r];rfl
def objOf:PyData->Option (Addr×Addr×List (Str×PyData))
 |.dict ((.str x,.int c)::(.str y,.int b)::r)=>if x=""/\y="@"/\0<=c/\0<=b then (k7 r).map λl=>(c.toNat,b.toNat,l) else none
 |_=>none
theorem Ek {d:PyData} {fds:List (Str×PyData)} (e:objOf d=some (C,a,fds)):d=ck C a fds:=by
 unfold objOf at e;split at e
 ·rename_i x c y b r;split at e
  ·rename_i h;obtain⟨rfl,rfl,f,h1⟩:=h;obtain⟨l,q,e⟩:=O6.mp e;cases e;rw[tM q];unfold ck;rw[OC f,OC h1]
  ·cases e
 ·cases e
theorem tK (C a:Addr) (fds:List (Str×PyData)):objOf (ck C a fds)=some (C,a,fds):=by unfold ck objOf;simp only[OX,and_self,if_true,q9,Of,NM]
def nZ (f:Str):List (Str×PyData)->Option PyData
 |[]=>none
 |(g,d)::r=>if g=f then some d else nZ f r
def qc (f:Str) (v:PyData):List (Str×PyData)->List (Str×PyData)
 |[]=>[(f,v)]
 |(g,x)::r=>if g=f then (g,v)::r else (g,x)::qc f v r
theorem Isk.put {K:PySem.W.Frag} {H:Hp} {f:Str} {d:PyData} {v:V} (hv:Is K H d v):∀{fds:List (Str×PyData)} {gs:List (Str×V)},Isk K H (fds.map λp=>(.str p.1,p.2)) gs->Isk K H ((qc f d fds).map λp=>(.str p.1,p.2)) (iE f v gs)
 |[],gs,h=>by rw[Oi]at h;unfold Isk at h;subst h;exact dS hv oT
 |(g,x)::r,gs,h=>by
  rw[N0]at h;unfold Isk at h;obtain⟨g',u,a,rfl,e,h1,h2⟩:=h;injection e with e
  subst e;show Isk K H ((if g=f then (g,d)::r else (g,x)::qc f d r).map _) (if g=f then (g,v)::a else (g,u)::iE f v a);by_cases z:g=f
  ·rw[if_pos z,if_pos z];exact dS hv h2
  ·rw[if_neg z,if_neg z];exact dS h1 (Isk.put hv h2)
theorem Isk.look {K:PySem.W.Frag} {H:Hp} {f:Str} {d:PyData}:∀{fds:List (Str×PyData)} {gs:List (Str×V)},Isk K H (fds.map λp=>(.str p.1,p.2)) gs->nZ f fds=some d->∃v,gs.lookup f=some v/\Is K H d v
 |[],gs,h,e=>by cases e
 |(g,x)::r,gs,h,e=>by
  rw[N0]at h;unfold Isk at h;obtain⟨g',u,gs',rfl,e2,h1,h2⟩:=h;injection e2 with e2
  subst e2;unfold nZ at e;rw[NG];by_cases z:g=f
  ·rw[if_pos z]at e;cases e;subst z;simp only[beq_self_eq_true];exact⟨u,rfl,h1⟩
  ·rw[if_neg z]at e;rw[show (f==g)=false by simpa using λq=>z q.symm];exact Isk.look h2 e
theorem Isk.len {K:PySem.W.Frag} {H:Hp}:∀{fds:List (PyData×PyData)} {gs:List (Str×V)},Isk K H fds gs->gs.length=fds.length
 |[],_,h=>by unfold Isk at h;rw[h];rfl
 |(k,d)::r,_,h=>by unfold Isk at h;obtain⟨_,_,_,rfl,_,_,h2⟩:=h;rw[Nu,Nu,Isk.len h2]
theorem Is.atObj {fds:List (Str×PyData)} (h:Is K H (ck C a fds) v):v=.ref a/\∃dx gs,H a=some (.ins C dx gs)/\gs.lookup ("@":Str)=none/\Isk K H (fds.map λp=>(.str p.1,p.2)) gs:=by
 unfold ck at h;unfold Is at h;rcases h with (⟨g,ns,_,e,_⟩|⟨g,l,_,e,_⟩)|⟨g,w,i,gs,e,h1,b,h2|h2⟩
 ·cases e
 ·rcases e with⟨m,e,_⟩|⟨m,e,_⟩ <;> first|(cases e;done)|(cases m <;> cases e)
 ·unfold Isk at h2;obtain⟨f,u,j,e1,e2,q,c⟩:=h2;cases e1;unfold Isk at c;obtain⟨f,u,j,e1,e2,r,s⟩:=c;injection e2 with e2
  subst e2 e1;rw[NG]at b;simp at b
 ·unfold Isk at h2;obtain⟨f,u,j,e1,e2,q,c⟩:=h2;cases e1;have n:=q.ofInt;injection n with n
  obtain rfl:w=C:=Int.ofNat.inj n;unfold Isk at c;obtain⟨f,u,j,e1,e2,r,s⟩:=c;cases e1;have o:=r.ofInt;injection o with o
  obtain rfl:g=a:=Int.ofNat.inj o;exact⟨e,i,gs,h1,b,s⟩
def f7 (fds:List (Str×PyData)):Bool:=lr (fds.map λp=>(.str p.1,p.2))
theorem wx (C a:Addr) (fds:List (Str×PyData)):objs (ck C a fds)=f7 fds:=by unfold ck objs kf f7;cases h:lr (fds.map λp=>(PyData.str p.1,p.2)) <;> simp[h]
def gr (δ:Ds):Bool:=δ.all λo=>match o with|some d=>objs d|none=>true
theorem jM (h:gr δ=true) (i:Nat) (d:PyData) (e:δ[i]?=some (some d)):objs d=true:=by have:=Nr.mp h _ (NV e);exact this
theorem Fp {fds:List (Str×PyData)} {gs:List (Str×V)} {f:Str} {z:Int} (hB:a∉B) (ha:H a=some (.ins C dx gs)) (hl:gs.lookup ("@":Str)=none) (c:f≠"@") (g:f7 fds=true) (h:Isk K (del H B) (fds.map λp=>(.str p.1,p.2)) gs) :
  Is K (del (upd H a (.ins C dx (iE f (.int z) gs))) B) (ck C a (qc f (.int z) fds)) (.ref a):=by
 rw[wJ hB];refine Fy (dx:=dx) (fs:=iE f (.int z) gs) (aE) (by rw[jQ,if_neg (λq=>c q.symm)];exact hl) (Isk.put bE ?_);have hd:del H B a=some (.ins C dx gs):=by rw[aN hB];exact ha
 refine (Isk.off hd g h).same λb o e=>?_
 obtain⟨e1,e2⟩:=a9 e;rw[az (λq=>e1 (by rw[q];exact N9.mpr rfl))];exact e2
theorem vI:aw (del H [a]) (upd H a o):=λb u e=>by obtain⟨e1,e2⟩:=a9 e;rw[az (λq=>e1 (by rw[q];exact N9.mpr rfl))];exact e2
def n8 (as:List Addr) (C:Addr) (i:Nat) (δ:Ds):Option (Addr×List (Str×PyData)):=match δ[i]? with
 |some (some d)=>(match objOf d with
  |some (C',a,fds)=>if C'=C/\a∈as/\gr δ=true/\f7 fds=true/\fds.length<1000 then some (a,fds) else none
  |none=>none)
 |_=>none
theorem nQ {fds:List (Str×PyData)} (h:n8 as C i δ=some (a,fds)):δ[i]?=some (some (ck C a fds))/\a∈as/\gr δ=true/\f7 fds=true/\fds.length<1000:=by
 unfold n8 at h;split at h
 ·rename_i d e;split at h
  ·rename_i C' a' fds' q;split at h
   ·rename_i c;cases h;obtain⟨rfl,c1,b,f,g⟩:=c;rw[e,Ek q];exact⟨rfl,c1,b,f,g⟩
   ·cases h
  ·cases h
 ·cases h
def lP (as:List Addr) (C:Addr) (i:Nat) (f:Str) (g:Ds->Rs PyData):Ds->Sr:=λδ=>match n8 as C i δ with
 |some (a,fds)=>ofR (g δ) λd=>match d with
  |.int z=>.nx (kW a (ck C a (qc f (.int z) fds)) δ)
  |_=>.no
 |none=>.no
def eN (as:List Addr) (C:Addr) (i:Nat) (f:Str) (g:Ds->Rs PyData):Ds->Sr:=λδ=>match n8 as C i δ with
 |some (a,fds)=>(match nZ f fds with
  |some (.int n)=>ofR (g δ) λd=>match d with
   |.int z=>.nx (kW a (ck C a (qc f (.int (n+z)) fds)) δ)
   |_=>.no
  |_=>.no)
 |none=>.no
section
variable {E:XK} {o value:Expr} {g:Ds->Rs PyData} {tpos:Pos} {f:Str}
theorem Gk (J:PD X E o (af i)) (hv:PD X E value g) (cl:Cls X.K C) (na:fg X.K C f) (hi:i∉O) (L:f≠"@") (M:swapsWith value (some (.Attribute o f pos')) pos.line X.env=pure false):PSN as X E O (.Assign [.Attribute o f pos'] value pos) (lP as C i f g):=(fU J hv M).imp λD σ H s=>by
 obtain⟨H0,A0,A,δ,hn,R,b⟩:=s;unfold lP at b;split at b
 case h_2=>exact b.elim
 rename_i a fds q;obtain⟨e,ha,u,w,x⟩:=nQ q;refine eD.run R.full (λd N v H1 I R1 hv=>?_) (λC c H' s'=>?_) (λc=>?_)
 ·rw[N]at b;cases d with
  |int z =>
   have y:=hv.ofInt;subst y;have e2:af i δ=.ok (ck C a fds):=by unfold af;rw[e]
   refine eD.run (R.step I).full (λd2 j v2 H2 s2 R2 B=>?_) (λC c H' s'=>?_) (λc=>?_)
   ·rw[e2]at j;cases j;obtain⟨rfl,dx,gs,hp,hl,hk⟩:=B.atObj;have l:=R.step (I.trans s2);obtain⟨v3,e3,P⟩:=l.pl i _ hi e;obtain⟨rfl,m,n,p,F,r⟩:=P.atObj;have h:H2 a=some (.ins C m n):=(a9 p).2;have G:a∉A++A0:=(a9 p).1;refine⟨a,C,m,n,rfl,h,cl,na,by rw[r.len,N4];exact x,?_⟩;exact b A σ _ (l.mutH h (hn a ha) (jM u) vI (Fp G h F L w r))
   ·rw[e2]at c;cases c
   ·rw[e2]at c;cases c
  |_=>exact b.elim
 ·rw[c]at b;exact b H' (R.same.trans s')
 ·rw[c]at b;exact b
theorem yD (Q:PD X E o (af i)) (hv:PD X E value g) (cl:Cls X.K C) (na:fg X.K C f) (hi:i∉O) (S:f≠"@"):PSN as X E O (.AugAssign (.Attribute o f tpos) .Add value pos) (eN as C i f g):=(Br Q hv KZ).imp λD σ H u=>by
 obtain⟨H0,A0,A,δ,hn,R,b⟩:=u;unfold eN at b;split at b
 case h_2=>exact b.elim
 rename_i a fds q;obtain⟨e,ha,x,y,B⟩:=nQ q;split at b
 case h_2=>exact b.elim
 rename_i n F;have e2:af i δ=.ok (ck C a fds):=by unfold af;rw[e]
 refine eD.run R.full (λd2 j v2 H1 G R1 I=>?_) (λC c H' s'=>?_) (λc=>?_)
 ·rw[e2]at j;cases j;obtain⟨rfl,dx,gs,T,hl,U⟩:=I.atObj;obtain⟨v,ev,J⟩:=U.look F;have L:=J.ofInt;subst L;refine⟨a,C,dx,gs,.int n,rfl,(a9 T).2,cl,na,ev,?_⟩;refine eD.run (R.step G).full (λd W w H2 s2 R2 hw=>?_) (λC c H' s'=>?_) (λc=>?_)
  ·rw[W]at b;cases d with
   |int z =>have M:=hw.ofInt;subst M;refine⟨n,z,rfl,rfl,?_⟩;have l:=R.step (G.trans s2);obtain⟨v3,e3,Y⟩:=l.pl i _ hi e;obtain⟨rfl,m,p,r,N,s⟩:=Y.atObj;have h:H2 a=some (.ins C m p):=(a9 r).2;have P:a∉A++A0:=(a9 r).1;refine⟨m,p,h,by rw[s.len,N4];exact B,?_⟩;exact b A σ _ (l.mutH h (hn a ha) (jM x) vI (Fp P h N S y s))
   |_=>exact b.elim
  ·rw[c]at b;exact b H' (R.same.trans (G.trans s'))
  ·rw[c]at b;exact b
 ·rw[e2]at c;cases c
 ·rw[e2]at c;cases c
end
def spM (K:PySem.W.Frag) (C:Addr) (g:List (Str×PyData)->Option (List (Str×PyData))):Sp:=λvs H Q E=>∃A a fds b,vs=[.ref a]/\Ls H A/\Is K (del H A) (ck C a fds) (.ref a)/\f7 fds=true/\fds.length<1000/\g fds=some b /\
 ∀H',aw (del H [a]) H'->Is K (del H' A) (ck C a b) (.ref a)->Q .non H'
structure jZ (P:Program) (w:World) (K:PySem.W.Frag) (mg:Str->Option Value) (base:Heap) (k:Nat) (C:Addr) (m:Str) (g:List (Str×PyData)->Option (List (Str×PyData))):Prop where
 ex:∃f fd ps,Cls K C/\Meth K C m f/\gB P w K mg base (CXW P w) k f fd ps (spM K C g)/\Binds K fd ps []
theorem qU {K:PySem.W.Frag} {H:Hp} {f:Str}:∀{fds:List (Str×PyData)} {gs:List (Str×V)},Isk K H (fds.map λp=>(.str p.1,p.2)) gs->nZ f fds=none->gs.lookup f=none
 |[],gs,h,_=>by rw[Oi]at h;unfold Isk at h;rw[h];rfl
 |(g,x)::r,gs,h,e=>by
  rw[N0]at h;unfold Isk at h;obtain⟨g',u,gs',rfl,e2,h1,h2⟩:=h;injection e2 with e2
  subst e2;unfold nZ at e;rw[NG];by_cases z:g=f
  ·rw[if_pos z]at e;cases e
  ·rw[if_neg z]at e;rw[show (f==g)=false by simpa using λq=>z q.symm];exact qU h2 e
def k6 (as:List Addr) (C:Addr) (m:Str) (i:Nat) (g:List (Str×PyData)->Option (List (Str×PyData))):Ds->Sr:=λδ=>match n8 as C i δ with
 |some (a,fds)=>if nZ m fds=none then (match g fds with
  |some fds'=>.nx (kW a (ck C a fds') δ)
  |none=>.no) else .no
 |none=>.no
section
variable {E:XK} {o:Expr} {apos:Pos}
theorem Fq {k:Nat} {pl:Sem Bool} (D:jZ X.prog X.w X.K X.mg X.base k C m g) (I:cg j X.A) (J:Passes (CXW X.prog X.w) X E) (L:PD X E o (af i)) (p:k<=j) (hi:i∉O)
  (M:eval (.Call (.Attribute o m apos) [] [] pos) X.env=(do
   let ov <-eval o X.env
   standAt apos.atName
   let (f,first) <-holding [ov] (getMethod ov m pl)
   callWith pos f first (backTo pos (starEach [] X.env)) (backToKw pos (keywordEach [] X.env))))
  (N:swapsWith (.Call (.Attribute o m apos) [] [] pos) none spos.line X.env=pure false) :
  PSN as X E O (.Expr (.Call (.Attribute o m apos) [] [] pos) spos) (k6 as C m i g):=by
 obtain⟨f,fd,ps,cl,hm,F,P⟩:=D.ex;refine (pf (v5 L cl hm F (I.mono p) P .nil J M) N).imp λD σ H r=>?_
 obtain⟨H0,A0,A,δ,hn,R,b⟩:=r;unfold k6 at b;split at b
 case h_2=>exact b.elim
 rename_i a fds q;obtain⟨e,ha,s,u,v⟩:=nQ q;split at b
 case isFalse=>exact b.elim
 rename_i x;split at b
 case h_2=>exact b.elim
 rename_i h Q;have e2:af i δ=.ok (ck C a fds):=by unfold af;rw[e]
 refine eD.run R.full (λd2 l v2 H1 S R1 y=>?_) (λC n H' s'=>?_) (λn=>?_)
 ·rw[e2]at l;cases l;obtain⟨rfl,dx,gs,T,hl,p⟩:=y.atObj;have c:=R.step S;obtain⟨v3,e3,G⟩:=c.pl i _ hi e;obtain⟨rfl,dx',gs',z,hl',hk'⟩:=G.atObj;refine⟨a,dx,gs,rfl,(a9 T).2,qU p x,?_⟩;refine⟨A++A0,a,fds,h,rfl,c.lsA,G,u,v,Q,λH' U B=>?_⟩;exact b A σ H' (c.mutH (a9 z).2 (hn a ha) (jM s) U B)
 ·rw[e2]at n;cases n
 ·rw[e2]at n;cases n
end
theorem jZ.of {p:Str} {k:Nat} (F:Fun K m qual st f fd) (S:cX N [p] (aC st)) (b:Binds K fd [p] []) (cl:Cls K C) (hm:Meth K C m f)
  (body:∀(as:List Addr) (cdv:Value) (A:Around) (outer:List Env) (s:Shared) (H:Hp) (E:XK),cg k (A.deeper (envOfC qual (aC st) s.heap.objs.size f cdv))->PBN as (c9 (CXW P w) P w K mg base N qual (aC st) f cdv A outer s H E) E [] (bV st) (G as))
  (L:∀a fds c,f7 fds=true->fds.length<1000->g fds=some c->∃δ,G [a] (some (ck C a fds)::List.replicate (N.length-1) none)=.nx δ/\δ[0]?=some (some (ck C a c))):jZ P w K mg base (k+1) C m g:=by
 refine⟨f,fd,[p],cl,hm,l7 F S (λvs H Q E h=>?_) (λcdv A outer s H vs Q E M h=>?_),b⟩
 ·obtain⟨A,a,fds,c,rfl,_⟩:=h;rfl
 ·obtain⟨A0,a,fds,c,rfl,I,hi,n,r,x,o⟩:=h;obtain⟨_,dx,gs,O,hl,hk⟩:=hi.atObj;have ha:=a9 O;obtain⟨δ,e1,e2⟩:=L a fds c n r x;have l:bQ K H A0 H [] [] (some (ck C a fds)::List.replicate (N.length-1) none) (L2.start N [.ref a]):=bQ.start (ps:=[p]) (ds:=[ck C a fds]) I (cw hi cJ) rfl (λi h=>by cases h);have y:Ls (del H [a]) A0:=λb j=>by
   obtain⟨xs,e,q⟩:=I b j;exact⟨xs,by
    have B:b∉[a]:=λz=>ha.1 (by rw[<-N9.mp z];exact j)
    rw[aN B];exact e,q⟩
  refine⟨_,body [a] cdv A outer s H E M,del H [a],A0,[],_,λb j=>by rw[N9.mp j];exact gZ (N9.mpr rfl),⟨ax,y,λb j=>(Ny j).elim,l.ls,l.len,l.pl,l.own,l.inj⟩,?_⟩;rw[e1];intro A' σ' H' J;refine o H' J.same ?_;obtain⟨v,_,h2⟩:=J.pl 0 _ (by simp) e2;have D:=h2.same (H':=del H' A0) (λb u e=>by obtain⟨R,T⟩:=a9 e;rw[aN (λz=>R (N8 _ z))];exact T)
  rw[D.atObj.1]at D;exact D
def MR (C:Addr) (names:List Str) (tl:List (Str×Int)):Sp:=λvs H Q _=>∃(x dx:Addr) (args:List V),vs=.ref x::args/\args.length=names.length/\H x=some (.ins C dx []) /\
 ∀H':Hp,(∀b,b≠x->H' b=H b)->H' x=some (.ins C dx (names.zip args++tl.map λp=>(p.1,.int p.2)))->Q .non H'
structure MkD (P:Program) (w:World) (K:PySem.W.Frag) (mg:Str->Option Value) (base:Heap) (k:Nat) (x:Str) (C:Addr) (names:List Str) (tl:List (Str×Int)):Prop where
 ex:∃f fd ps,Mk K C f/\gB P w K mg base (CXW P w) k f fd ps (MR C names tl)/\Binds K fd ps []/\mg x=some (.ref C)
def tlD (tl:List (Str×Int)):List (Str×PyData):=tl.map λp=>(p.1,.int p.2)
theorem EH {K:PySem.W.Frag} {H:Hp}:∀tl:List (Str×Int),Isk K H ((tlD tl).map λp=>(.str p.1,p.2)) (tl.map λp=>(p.1,.int p.2))
 |[]=>oT
 |p::r=>dS bE (EH r)
theorem AH {K:PySem.W.Frag} {H:Hp} {e:List (PyData×PyData)} {gs:List (Str×V)} (h2:Isk K H e gs):∀{d:List (PyData×PyData)} {fs:List (Str×V)},Isk K H d fs->Isk K H (d++e) (fs++gs)
 |[],fs,h=>by unfold Isk at h;subst h;exact h2
 |(k,x)::r,fs,h=>by unfold Isk at h;obtain⟨f,v,fs',rfl,rfl,h1,a⟩:=h;exact dS h1 (AH h2 a)
theorem pV {f:Str} {b:List (Str×V)} (c:b.lookup f=none):∀{a:List (Str×V)},a.lookup f=none->(a++b).lookup f=none
 |[],_=>c
 |(g,x)::r,h=>by
  rw[NU,NG];rw[NG]at h;cases q:(f==g) with
  |true=>rw[q]at h;cases h
  |false=>rw[q]at h;exact pV c h
theorem Iq {f:Str}:∀{tl:List (Str×Int)},(f∉tl.map (·.1))->(tl.map λp=>((p.1,V.int p.2):Str×V)).lookup f=none
 |[],_=>rfl
 |p::r,h=>by rw[N0,NG,show (f==p.1)=false by simpa using λq=>h (by rw[q];exact N3)];exact Iq λq=>h (N2 _ q)
def eMk (K:PySem.W.Frag) (E:XK) (C:Addr) (names:List Str) (tl:List (Str×Int)) (gs:Ds->Rs (List PyData)):TE:=λσ H Q=>∃A δ,dq K H A δ σ/\(match gs δ with
 |.ok ds=>ds.length=names.length/\∀x H',H x=none->aw H H'->Is K (del H' A) (ck C x (names.zip ds++tlD tl)) (.ref x)->Q (.ref x) H'
 |.rz C'=>∀H',aw H H'->E (.ref C') none H'
 |.no=>False)
section
variable {E:XK} {e:Expr} {es:List Expr}
theorem Lv {k:Nat} (D:MkD X.prog X.w X.K X.mg X.base k x C names tl) (s:cg j X.A) (u:Passes (CXW X.prog X.w) X E) (ha:PAD X E (e::es) gs) (v:k+1<=j:=by decide) (y:Gl X x:=by rfl)
  (a:(x==("__debug__":Str))=false:=by decide) (z:starEach (e::es) X.env=(false,eval e X.env)::starEach es X.env:=by rfl) (c:(backTo pos (starEach es X.env)).any (·.1)=false:=by rfl) (hn:("@":Str)∉names:=by decide) (g:("@":Str)∉tl.map (·.1):=by decide) :
  PE X (.Call (.Name x p) (e::es) [] pos) (eMk X.K E C names tl gs):=by
 obtain⟨f,fd,ps,M,F,B,hm⟩:=D.ex;refine (Ab M F (s.mono v) y hm B .nil u ha.1 a z c).imp λσ H Q h=>?_
 obtain⟨A,δ,R,o⟩:=h;refine aD.run R (λds e1 vs H1 n G h1=>?_) (λC i H' s'=>?_) (λi=>?_)
 ·rw[e1]at o;obtain⟨hl,o⟩:=o;intro x dx nx l ne;refine⟨x,dx,vs++[],rfl,by rw[O8,h1.length,hl],aE,λH' k1 k2=>⟨rfl,?_⟩⟩;rw[O8]at k2;have r:aw H1 H':=λb q m=>by have n1:b≠x:=aJ m nx;rw[k1 b n1,az n1,az (aJ m l)];exact m
  refine o x H' (n.free nx) (n.trans r) (Fy (dx:=dx) (fs:=names.zip vs++tl.map λp=>(p.1,.int p.2)) ?_ (pV (Iq g) (yA hn)) ?_)
  ·rw[aN (G.ls.new nx)];exact k2
  ·rw[NQ];exact AH (EH tl) (uC (h1.same r.del))
 ·rw[i]at o;exact o H' s'
 ·rw[i]at o;exact o
end
def kI (C:Addr) (names:List Str) (tl:List (Str×Int)) (as:List Addr) (a:List (List PyData)):List PyData:=(as.zip a).map λp=>ck C p.1 (names.zip p.2++tlD tl)
def lJ (K:PySem.W.Frag) (E:XK) (C:Addr) (names:List Str) (tl:List (Str×Int)) (n0:Nat) (e gs:Ds->Rs (List PyData)) (tgt:PyData->Option Ds):TE:=λσ H Q=>∃A δ,dq K H A δ σ/\δ.length=n0/\∃ds b,e δ=.ok ds/\ds.length<=1000000/\b.length=ds.length /\
 (∀(i:Nat) d,ds[i]?=some d->∃c fs,tgt d=some c/\b[i]?=some fs/\gs (δ++c)=.ok fs/\fs.length=names.length) /\
 ∀(as:List Addr) (D:Addr) (H':Hp),as.length=ds.length->as.Nodup->(∀a∈as,H a=none)->aw H H'->Is K (del H' A) (.list (kI C names tl as b)) (.ref D)->Q (.ref D) H'
theorem JC {E:XK} {g:TG} (hT:TgD K n0 own.length tgt g) :
  ∀σ H Q,lJ K E C names tl n0 gi gs tgt σ H Q->tLC own.length (iD K E gi) g vN (eMk K E0 C names tl gs) σ H Q:=by
 intro σ H Q ⟨A,δ,R,Y,ds,j,q,hz,Z,hel,o⟩;have hσ:σ.length=n0:=by rw[<-R.len];exact Y
 refine⟨A,δ,R,?_⟩;rw[q];intro J H1 s1 hJ D S;have T:=R.same s1;have nD:D∉A:=T.ls.new S;refine⟨λi m ys H'=>m=ds.length-i/\i<=ds.length/\aw H1 H'/\H' D=some (.lst ys)/\∃as:List Addr,as.length=i/\ys=as.map V.ref/\as.Nodup/\(∀a∈as,H1 a=none/\a≠D/\∃u,H' a=some u)/\Iss K (del H' (D::A)) (kI C names tl as (j.take i)) ys,
  ⟨ds.length,by simp,NY _,bz S,aE,[],rfl,rfl,Pd,λa h=>(Ny h).elim,cJ⟩,?_⟩
 rintro i m ys H' ⟨rfl,hi,B,hl,as,n,rfl,nd,l,c3⟩
 refine⟨hl,?_⟩;have sG:aw (del H1 A) H':=ax.trans B;have G:∀b∈D::A,(del H1 A) b=none:=λb r=>by
  rcases N5.mp r with z|z
  ·rw[z,aN nD];exact S
  ·exact gZ z
 obtain⟨jg,js,jy⟩:=hJ H' (D::A) sG (λb r=>by
  rcases N5.mp r with z|z
  ·exact⟨_,by rw[z];exact hl,rfl⟩
  ·exact (T.ls.same B) b z) G
 by_cases hlt:i<ds.length
 ·refine .inr ⟨jg i hlt,λx H2 σ' I y=>?_⟩;obtain⟨s2,d,ed,hd⟩:=jy i x H2 hlt y;obtain⟨ow,fs,et,ef,eg,hfs⟩:=hel i d ed;have l2:H2 D=some (.lst (as.map V.ref)):=s2 _ _ hl;have L:Ls H2 (D::A):=λb r=>by
   rcases N5.mp r with z|z
   ·exact⟨_,by rw[z];exact l2,rfl⟩
   ·exact (T.ls.same (B.trans s2)) b z
  obtain⟨hol,hgo⟩:=hT d x σ σ' H2 (D::A) (λs H2=>vN s H2 λb H3 =>
   if b=true then eMk K E0 C names tl gs s H3 λv F=>F D=some (.lst (as.map V.ref))/\(as.map V.ref).length<sizeLine/\(∃f,s=σ++f/\f.length=own.length)/\∃m',m' < ds.length-i/\_
   else (∃f,s=σ++f/\f.length=own.length)/\∃m',m' < ds.length-i/\_) ow hσ I L hd et
  refine hgo λvs M N=>?_
  have O:aw (del H1 A) (del H2 (D::A)):=md (sG.trans s2) G;have RE:dq K H2 (D::A) (δ++ow) (σ++vs):=by
   refine⟨L,by rw[Nl,Nl,R.len,M,hol],λk e U=>?_⟩;by_cases hk:k<δ.length
   ·rw[NB hk]at U;obtain⟨u,e1,w⟩:=T.get k e U;exact⟨u,by rw[NB (by rw[<-R.len];exact hk)];exact e1,w.same O⟩
   ·rw[NF (by omega)]at U;obtain⟨u,e1,w⟩:=N _ e U;exact⟨u,by rw[NF (by rw[<-R.len];omega),<-R.len];exact e1,w⟩
  unfold vN;have hI:∀{p q:Prop},p->(if true=true then p else q):=λh=>by rw[if_pos rfl];exact h
  refine hI ?_;refine⟨D::A,δ++ow,RE,?_⟩;rw[eg];refine⟨hfs,λa F na X ha=>?_⟩;have l4:F D=some (.lst (as.map V.ref)):=X _ _ l2;have P:a≠D:=λz=>by rw[z,l2]at na;cases na
  have naA:a∉as:=λz=>by obtain⟨_,_,u,w⟩:=l a z;rw[s2 _ _ w]at na;cases na
  have dU:del (upd F D (.lst (as.map V.ref++[.ref a]))) (D::A)=del F (D::A):=kz (N3);have h4a:∃u,F a=some u:=by obtain⟨_,dx,gs',hp,_⟩:=ha.atObj;exact⟨_,(a9 hp).2⟩
  have hex:kI C names tl (as++[a]) (j.take (i+1))=kI C names tl as (j.take i)++[ck C a (names.zip fs++tlD tl)]:=by
   have ht:j.take (i+1)=j.take i++[fs]:=by rw[List.take_add_one,ef];rfl
   unfold kI;rw[ht,List.zip_append (by rw[n,OI];omega),NQ];rfl
  refine⟨l4,by rw[sizeLine_eq,N4,n];omega,⟨vs,rfl,M⟩,ds.length-(i+1),by omega,rfl,hlt,?_,aE,as++[a],by rw[Nl,n];rfl,by rw[NQ];rfl,?_,λb r=>?_,?_⟩
  ·exact aw.put ((B.trans s2).trans X) S
  ·exact Pm.mpr ⟨nd,by simp,λb r c hc e=>by rw[N9.mp hc]at e;exact naA (e▸r)⟩
  ·rcases NI.mp r with z|z
   ·obtain⟨h1,h2,u,w⟩:=l b z;refine⟨h1,h2,u,?_⟩;rw[az h2];exact X _ _ (s2 _ _ w)
   ·cases N9.mp z;obtain⟨u,w⟩:=h4a;refine⟨(B.trans s2).free na,P,u,?_⟩;rw[az P];exact w
  ·rw[dU,hex];exact (c3.same (aw.del (s2.trans X))).append (jd ha)
 ·have e:i=ds.length:=by omega
  subst e;rw[<-Z,List.take_length]at c3;refine .inl ⟨js,o as D H' (by rw[n]) nd (λa ha=>s1.free (l a ha).1) (s1.trans B) ?_⟩;have hs:aw (del H' (D::A)) (del H' A):=λb u eb=>by obtain⟨q1,q2⟩:=a9 eb;rw[aN (λz=>q1 (N2 _ z))];exact q2
  exact jK (by rw[aN nD];exact hl) (c3.same hs)
section
variable {E:XK} {ss:List Stmt}
theorem FO {r:Ds->Rs (List PyData)} {e:Ds->Sr} (v:PS X st (FD (lJ X.K E C names tl n0 r gs tgt) (jO i))) (f:∀as,PBN as X E O ss (G as)) (hi:i∉O)
  (g:∀δ,e δ≠.no->∃d ds b,e δ=.rt d/\i<δ.length/\δ.length=n0/\r (mask O δ)=.ok ds/\ds.length<=1000000/\b.length=ds.length/\(∀(i:Nat) d,ds[i]?=some d->∃u fs,tgt d=some u/\b[i]?=some fs/\gs (mask O δ++u)=.ok fs/\fs.length=names.length) /\
   ∀as:List Addr,as.length=ds.length->as.Nodup->G as (δ.set i (some (.list (kI C names tl as b))))=.rt d):PBD X E O (st::ss) e:=by
 have h2:PSs X ss (λD σ H=>∃as,sDN as X.K E O (G as) D σ H):=λpins s σ H D I j=>(by obtain⟨as,h⟩:=j;exact f as pins s σ H D I h)
 refine (cx v h2).imp λD σ H l=>?_
 obtain⟨H0,A0,A,δ,R,o⟩:=l;by_cases z:e δ=.no
 ·rw[z]at o;exact o.elim
 obtain⟨d,ds,b,e1,hl,hn,e2,w,x,m,y⟩:=g δ z;rw[e1]at o;have n:(mask O δ).length=n0:=by rw[wj];exact hn
 refine⟨A++A0,mask O δ,R.part,n,ds,b,e2,w,x,m,λas Dd H' p nd c B q=>?_⟩;refine⟨as,H0,A0,A,_,λa ha=>R.same.free (c a ha),(R.step B).set hi hl q,?_⟩;rw[y as p nd];exact o
end
section
variable {κ:Type} [DecidableEq κ]
def kE (kvs:List (κ×V)) (k:κ):Option V:=(kvs.find? λa=>decide (a.1=k)).map (·.2)
def putK (kvs:List (κ×V)) (k:κ) (v:V):List (κ×V) :=
 if (kvs.any λa=>decide (a.1=k))=true then kvs.map (λa=>if a.1=k then (a.1,v) else a) else kvs++[(k,v)]
theorem qB {p:κ×V} {r:List (κ×V)} {k:κ} (e:p.1=k):kE (p::r) k=some p.2:=by simp[kE,NN,e]
theorem pL {p:κ×V} {r:List (κ×V)} {k:κ} (e:¬ p.1=k):kE (p::r) k=kE r k:=by simp[kE,NN,e]
theorem xt (k:κ):∀kvs:List (κ×V),(kvs.any λa=>decide (a.1=k))=(kE kvs k).isSome
 |[]=>rfl
 |p::r=>by
  rw[Oy];by_cases e:p.1=k
  ·simp only[qB e,decide_eq_true e,Bool.true_or,Option.isSome_some]
  ·rw[pL e,decide_eq_false e,Bool.false_or];exact xt k r
theorem oh (kvs:List (κ×V)) (k:κ) (v:V):(putK kvs k v).length<=kvs.length+1:=by
 unfold putK;split
 ·rw[N4];omega
 ·rw[Nl,Nu,Om];omega
theorem jH.isSome_eq {o:Option V} {u:Option Value} (r:jH o u):o.isSome=u.isSome:=by
 cases o with
 |none=>cases u with
  |none=>rfl
  |some _=>exact (show False from r).elim
 |some _=>cases u with
  |none=>exact (show False from r).elim
  |some _=>rfl
theorem jH.getD {o:Option V} {u:Option Value} {d:V} {d':Value} (r:jH o u) (a:RelV d d'):RelV (o.getD d) (u.getD d'):=by
 cases o with
 |none=>cases u with
  |none=>exact a
  |some _=>exact (show False from r).elim
 |some _=>cases u with
  |none=>exact (show False from r).elim
  |some _=>exact r
theorem KV.val {kvs:List (κ×V)} {vs:List (κ×Value)} (r:KV kvs vs) (k:κ):jH (kE kvs k) (valueAt vs k):=by
 unfold KV at r
 induction r with
 |nil=>exact True.intro
 |@cons p q ps qs h t ih =>
  obtain⟨h1,h2⟩:=h;by_cases e:p.1=k
  ·have a:q.1=k:=h1.symm.trans e;have b:valueAt (q::qs) k=some q.2:=by simp[valueAt,NN,a]
   rw[qB e,b];exact h2
  ·have a:¬ q.1=k:=λz=>e (h1.trans z)
   have b:valueAt (q::qs) k=valueAt qs k:=by simp[valueAt,NN,a]
   rw[pL e,b];exact ih
theorem KV.any {kvs:List (κ×V)} {vs:List (κ×Value)} (r:KV kvs vs) (k:κ):(kvs.any λa=>decide (a.1=k))=vs.any λa=>decide (a.1=k):=by
 unfold KV at r
 induction r with
 |nil=>rfl
 |cons h t ih=>rw[Oy,Oy,ih,h.1]
theorem KV.repl {kvs:List (κ×V)} {vs:List (κ×Value)} (r:KV kvs vs) (k:κ) (b:RelV y u) :
  KV (kvs.map λa=>if a.1=k then (a.1,y) else a) (vs.map λa=>if a.1=k then (a.1,u) else a):=by
 unfold KV at r ⊢
 induction r with
 |nil=>exact .nil
 |@cons p q ps qs h t ih =>
  rw[N0,N0];refine .cons ?_ ih;obtain⟨h1,h2⟩:=h;by_cases e:p.1=k
  ·rw[if_pos e,if_pos (h1.symm.trans e)];exact⟨h1,b⟩
  ·rw[if_neg e,if_neg (λz=>e (h1.trans z))];exact⟨h1,h2⟩
theorem KV.put {kvs:List (κ×V)} {vs:List (κ×Value)} (r:KV kvs vs) (k:κ) (a:RelV y u):KV (putK kvs k y) (stored vs k u):=by
 unfold putK stored;rw[r.any k];by_cases e:(vs.any λb=>decide (b.1=k))=true
 ·rw[if_pos e,if_pos e];exact r.repl k a
 ·rw[if_neg e,if_neg e];exact Paired.snoc r ⟨rfl,a⟩
theorem KV.length {kvs:List (κ×V)} {vs:List (κ×Value)} (r:KV kvs vs):kvs.length=vs.length:=Paired.length r
end
theorem AL {k:Key} (r:RelV (kV k) u):(dz P w).is k u=true:=by
 cases k with
 |inl i=>obtain⟨t,e⟩:=(show ∃t,u=Value.int i t from r);subst e;exact xn P w i t
 |inr x=>obtain⟨t,e⟩:=(show ∃t,u=Value.str x t from r);subst e;exact wc P w x t
theorem t9 {P:Program} {w:World}:∀{ks:List Key} {us:List Value},Vals (ks.map kV) us->ItemsAre (dz P w) ks us
 |[],_,r=>by rw[Oi]at r;cases r;exact .nil
 |k::ks,_,r=>by
  rw[N0]at r;cases r with
  |cons h t=>exact .cons (AL h) (t9 t)
abbrev KT (H:Hp):List (List Key×V)->List (List Key×Addr×Value)->Prop:=Paired λp q=>p.1=q.1/\H q.2.1=some (.tup (p.1.map kV))/\RelV p.2 q.2.2
theorem KT.val (r:KT H kvs xs) (k:List Key):jH (kE kvs k) ((atKey xs k).map (·.2)):=by
 induction r with
 |nil=>exact True.intro
 |@cons p q ps qs h t ih =>
  obtain⟨h1,_,h2⟩:=h;by_cases e:p.1=k
  ·have a:q.1=k:=h1.symm.trans e;have b:atKey (q::qs) k=some q.2:=by simp[atKey,NN,a]
   rw[qB e,b];exact h2
  ·have a:¬ q.1=k:=λz=>e (h1.trans z)
   have b:atKey (q::qs) k=atKey qs k:=by simp[atKey,NN,a]
   rw[pL e,b];exact ih
theorem KT.repl (r:KT H kvs xs) (k:List Key) (b:RelV y u) :
  KT H (kvs.map λa=>if a.1=k then (a.1,y) else a) (xs.map (putAt k u)):=by
 induction r with
 |nil=>exact .nil
 |@cons p q ps qs h t ih =>
  rw[N0,N0];refine .cons ?_ ih;obtain⟨h1,h2,c⟩:=h;unfold putAt;by_cases e:p.1=k
  ·rw[if_pos e,if_pos (h1.symm.trans e)];exact⟨h1,h2,b⟩
  ·rw[if_neg e,if_neg (λz=>e (h1.trans z))];exact⟨h1,h2,c⟩
theorem KT.put (r:KT H kvs xs) (k:List Key) (c:H b=some (.tup (k.map kV))) (a:RelV y u) :
  KT H (putK kvs k y) (storedH xs k b u):=by
 have e:(kvs.any λf=>decide (f.1=k))=(atKey xs k).isSome:=by rw[xt,(r.val k).isSome_eq,Option.isSome_map]
 unfold putK storedH;rw[e];by_cases q:(atKey xs k).isSome=true
 ·rw[if_pos q,if_pos q];exact r.repl k a
 ·rw[if_neg q,if_neg q];exact Paired.snoc r ⟨rfl,c,a⟩
theorem KT.keeps (r:KT H kvs xs) (a:∀b ys,H b=some (.tup ys)->H' b=some (.tup ys)):KT H' kvs xs :=
 Paired.mapP r λ_ _ z=>⟨z.1,a _ _ z.2.1,z.2.2⟩
section
theorem Il {u:HO} (ok:HOk P w H h) (e:Rd H a u):dh P w H h a u:=e.ok ok
theorem xi {kvs:List (Key×V)} (ok:HOk P w H h) (e:Rd H a (.dK kvs)):kvs.length<=sizeLine/\(a==sysModules)=false/\∃vs,KV kvs vs/\h.DictOf (dz P w) a vs :=
 show dh P w H h a (.dK kvs) from Il ok e
theorem LZ {kvs:List (Key×V)} (ok:HOk P w H h) (e:H a=some (.dK kvs)):kvs.length<=sizeLine/\(a==sysModules)=false/\∃vs,KV kvs vs/\h.DictOf (dz P w) a vs:=xi ok (.inl e)
theorem vA {ks:List Key} (ok:HOk P w H h) (e:H a=some (.tup (ks.map kV))):(tupleKind (dz P w)).is h ks a:=by
 obtain⟨_,b,r,o,h1,h2,_,n,c⟩:=(show dh P w H h a (.tup (ks.map kV)) from ok a _ e)
 exact⟨o,b.toArray,n,h1,h2,c,by simpa using t9 r⟩
theorem wG (ok:HOk P w H h) (e:Rd H a (.dT kvs)):kvs.length<=sizeLine/\(a==sysModules)=false /\
  ∃xs,KT H kvs xs/\h.DictOfH (tupleKind (dz P w)) a xs:=by
 obtain⟨z,y,xs,r,o,es,c,h1,h2,f,g,i⟩:=(show dh P w H h a (.dT kvs) from Il ok e)
 refine⟨z,y,xs,r,o,es,c,h1,h2,f,g,λx b=>?_,i⟩;have all:∀{l:List (List Key×V)} {m:List (List Key×Addr×Value)},KT H l m->∀x∈m,(tupleKind (dz P w)).is h x.1 x.2.1:=by
  intro l m q
  induction q with
  |nil=>intro x b;exact nomatch b
  |@cons p q ps qs hq t ih =>
   intro x b;rcases N5.mp b with e|b
   ·subst e;exact vA ok (by rw[<-hq.1];exact hq.2.1)
   ·exact ih x b
 exact all r x b
theorem Ml (ok:HOk P w H h) (e:H a=some (.dT kvs)):kvs.length<=sizeLine/\(a==sysModules)=false /\
 ∃xs,KT H kvs xs/\h.DictOfH (tupleKind (dz P w)) a xs:=wG ok (.inl e)
end
def pw (H:Hp) (a:Addr) (y:V) (r:Option V):Prop :=
 (∃kvs k,Rd H a (.dK kvs)/\y=kV k/\r=kE kvs k)\/∃kvs k b,Rd H a (.dT kvs)/\y=.ref b/\H b=some (.tup (k.map kV))/\r=kE kvs k
def xa (H:Hp) (a:Addr) (y v:V) (H':Hp):Prop :=
 (∃kvs k,H a=some (.dK kvs)/\y=kV k/\kvs.length<sizeLine/\H'=upd H a (.dK (putK kvs k v))) \/
 ∃kvs k b,H a=some (.dT kvs)/\y=.ref b/\H b=some (.tup (k.map kV))/\kvs.length<sizeLine/\H'=upd H a (.dT (putK kvs k v))
theorem pw.k {kvs:List (Key×V)} {k:Key} (e:H a=some (.dK kvs)):pw H a (kV k) (kE kvs k):=.inl ⟨kvs,k,.inl e,rfl,rfl⟩
theorem pw.t {k:List Key} (e:H a=some (.dT kvs)) (c:H b=some (.tup (k.map kV))):pw H a (.ref b) (kE kvs k):=.inr ⟨kvs,k,b,.inl e,rfl,c,rfl⟩
theorem xa.k {kvs:List (Key×V)} {k:Key} (e:H a=some (.dK kvs)) (hl:kvs.length<sizeLine):xa H a (kV k) v (upd H a (.dK (putK kvs k v))):=.inl ⟨kvs,k,e,rfl,hl,rfl⟩
theorem xa.t {k:List Key} (e:H a=some (.dT kvs)) (c:H b=some (.tup (k.map kV))) (hl:kvs.length<sizeLine) :
 xa H a (.ref b) v (upd H a (.dT (putK kvs k v))):=.inr ⟨kvs,k,b,e,rfl,c,hl,rfl⟩
section
variable {r:Value} {o:Option V} {A:Around}
theorem Inv.big (I:Inv X pins σ H s):sysModules<s.heap.objs.size:=by have h:mainGlobals<s.heap.objs.size:=(I.mod.glob.keeps I.bk).lt;exact Nat.lt_trans (by decide) h
theorem Ce (n:A.units+1<cLine) (I:Inv X pins σ H s) (g:pw H a y (some v)) (m:RelV y u) (h:∀f s',Inv X pins σ H s'->RelV v f->Q f s') :
  wpAny (model X.prog X.w) A (getItem (.ref a) u) Q E s:=by
 rcases g with⟨kvs,k,e,i,l⟩|⟨kvs,k,b,e,i,q,l⟩
 ·subst i;obtain⟨z,hd,vs,rel,dd⟩:=xi I.hok e;obtain⟨f,hw,c⟩:=jH.some_of (v:=v) (o:=valueAt vs k) (by rw[l];exact rel.val k);exact wpAny_getItem_of (AL m) dd.mapOf hw (h f _ (I.tok _) c)
 ·subst i;cases (show u=Value.ref b from m);obtain⟨z,hd,xs,rel,dd⟩:=wG I.hok e;obtain⟨f,hw,c⟩:=jH.some_of (v:=v) (o:=(atKey xs k).map (·.2)) (by rw[l];exact rel.val k);obtain⟨p,r,j⟩:=O6.mp hw;refine wpAny_getItem_heap (tupleKind_room_in1 n) (vA I.hok q) dd r ?_;rw[j];exact h f _ (I.tok _) c
theorem Aa {t':Nat} {c:HO} (I:Inv X pins σ H s) (f:Mut (H a)) (g:Heap.SameBut a s.heap h') (h:∃q,h'.get? a=some q) (new:dh X.prog X.w (upd H a c) h' a c) :
  Inv X pins σ (upd H a c) { s with heap:=h',toks:=t' } :=
 I.write (x:=a) (e:=a) f (.inl rfl) (λb q i z=>(g.2 b i).trans z) h new
theorem IS {kvs:List (Key×V)} {vs:List (Key×Value)} (z:kvs.length<=sizeLine) (hd:(a==sysModules)=false) (rel:KV kvs vs) (dd:h'.DictOf (dz P w) a vs) :
 dh P w H' h' a (.dK kvs):=⟨z,hd,vs,rel,dd⟩
theorem BK {Q:Unit->Shared->Prop} (D:A.units+1<cLine) (I:Inv X pins σ H s) (g:xa H a y v H') (p:RelV y u) (x:RelV v r) (h:∀s',Inv X pins σ H' s'->Q () s') :
  wpAny (model X.prog X.w) A (setItem (.ref a) u r) Q E s:=by
 rcases g with⟨kvs,k,e,j,l,m⟩|⟨kvs,k,b,e,j,B,l,m⟩
 ·subst j m;obtain⟨z,hd,vs,rel,dd⟩:=LZ I.hok e;have n:vs.length<=sizeLine:=by rw[<-rel.length];exact z
  have hl:(putK kvs k v).length<=sizeLine:=by have:=oh kvs k v;omega
  refine wpAny_setItem_pairs (hsz:=n) (AL p) dd λh' f o=>h _ ?_
  have F:∃q,h'.get? a=some q:=let ⟨q,_,_,i,_⟩:=f;⟨q,i⟩;exact Aa I (by rw[e];exact True.intro) o F (IS hl hd (rel.put k x) f)
 ·subst j m;cases (show u=Value.ref b from p);obtain⟨z,hd,xs,rel,dd⟩:=Ml I.hok e;have n:xs.length<=sizeLine:=by rw[<-Paired.length rel];exact z
  have hl:(putK kvs k v).length<=sizeLine:=by have:=oh kvs k v;omega
  refine wpAny_setItem_heap (hsz:=n) (tupleKind_room_in1 D) (vA I.hok B) dd λh' f o=>h _ ?_
  obtain⟨q,es,G,i,h2,J,K,_,L⟩:=f;refine Aa I (by rw[e];exact True.intro) o ⟨q,i⟩ ⟨hl,hd,_,(rel.put k B x).keeps λc ys C=>?_,q,es,G,i,h2,J,K,L⟩;rw[az (Ll C e (λz=>nomatch z))];exact C
end
section
variable {kvs:List (Key×V)} {k:Key} {A:Around}
end
def Ky (i:Expr):Prop:=∀a b,subscripted i false a b=operate [a,b] (getItem a b)
theorem HJ {A:Around} {value slice:Expr} {T id:String}
  (hl:typeLookup (.type T) "__getitem__"=pure (some (.builtin id))) (l:Ky slice)
  (h:wpAny (model prog w) A (eval value env) (λo c=>wpAny (model prog w) A (eval slice env) (λi a=>a.TypeIs o T/\wpAny (model prog w) A (getItem o i) Q E a) E c) E s) :
  wpAny (model prog w) A (eval (.Subscript value slice pos) env) Q E s:=by
 refine Subscript_ (wpAny_mono h (λo c f=>wpAny_mono f (λi a b=>?_) λ_ _ x=>x) λ_ _ x=>x);obtain⟨j,b⟩:=b;unfold subscriptTail;refine wpAny_bind ?_;rw[getitemInPython_of_ne j.not_modules];refine wpAny_bind (wpAny_specialOf j hl ?_);have fin:wpAny (model prog w) A (subscripted slice false o i) (λr e=>wpAny (model prog w) A (letTemporaryGo value o r >>= λ_=>pure r) Q E e) E a:=by rw[l o i];exact wpAny_operating (wpAny_mono b (λr e g=>wpAny_bind (wpAny_letTemporaryGo (wpAny_pure g))) λ_ _ x=>x)
 first
  |exact wpAny_pure (wpAny_bind fin)
  |exact wpAny_bind (wpAny_pure (wpAny_bind fin))
  |exact wpAny_bind fin
theorem wL {o:Option V} (I:Inv X pins σ H s) (g:pw H a y o):s.TypeIs (.ref a) "dict":=by
 rcases g with⟨kvs,k,e,_,_⟩|⟨kvs,k,b,e,_,_,_⟩
 ·obtain⟨_,_,vs,_,dd⟩:=xi I.hok e;exact dd.typeIs
 ·obtain⟨_,_,xs,_,dd⟩:=wG I.hok e;exact dd.typeIs
def LM (td ty:TE):TE:=λσ H Q=>td σ H λx H1=>ty σ H1 λy H2=>∃a v,x=.ref a/\pw H2 a y (some v)/\Q v H2
def LL (td ty tv:TE):TS:=λD σ H=>tv σ H λv H1=>td σ H1 λx H2=>ty σ H2 λy c=>∃a b,x=.ref a/\xa c a y v b/\D.nx σ b
section
variable {o i e value:Expr} {tpos:Pos} {td ty tv:TE}
theorem Gh (f:X.A.units+1<cLine) (j:PE X o td) (hi:PE X i ty) (l:Ky i):PE X (.Subscript o i pos) (LM td ty):=by
 intro pins s σ H Q I h;refine HJ PySem.F.slot_dict_getitem.lookup l (thn (j pins s σ H _ I h) λu m b=>?_);obtain⟨x,H1,n,p,q⟩:=b;refine thn (hi pins m σ H1 _ n q) λiv s2 b=>?_
 obtain⟨y,H2,e,r,a,v,ex,g,w⟩:=b;subst ex;obtain rfl:u=Value.ref a:=p;exact⟨wL e g,Ce f e g r λw' s3 z c=>⟨v,H2,z,c,w⟩⟩
theorem A5 (c:X.A.units+1<cLine) (e:PE X o td) (hi:PE X i ty) (hv:PE X value tv) (f:swapsWith value (some (.Subscript o i pos')) pos.line X.env=pure false) :
  PS X (.Assign [.Subscript o i pos'] value pos) (LL td ty tv):=by
 intro pins s σ H D I h;refine wpAny_Assign_Subscript (thn (hv pins s σ H _ I h) λr j b=>?_) f;obtain⟨v,H1,l,m,n⟩:=b;refine thn (e pins j σ H1 _ l n) λu s2 b=>?_
 obtain⟨x,H2,p,q,w⟩:=b;refine thn (hi pins s2 σ H2 _ p w) λiv s3 b=>?_
 obtain⟨y,H3,z,B,a,C,ex,g,E⟩:=b;subst ex;obtain rfl:u=Value.ref a:=q;exact BK c z g B m λs4 F=>⟨σ,C,F,E⟩
end
theorem EG (h:Heap) (a:sysModules<h.objs.size):dh P w H (h.push { cls:=.type "dict",data:=.dict #[] }) h.objs.size (.dK []) :=
 ⟨NY _,beq_eq_false_iff_ne.mpr (Ne.symm (Nq a)),[],.nil,Heap.DictOf.new h⟩
theorem DO (h:Heap) (a:sysModules<h.objs.size):dh P w H (h.push { cls:=.type "dict",data:=.dict #[] }) h.objs.size (.dT []) :=
 ⟨NY _,beq_eq_false_iff_ne.mpr (Ne.symm (Nq a)),[],.nil,_,#[],0,Np _ rfl,⟨rfl,rfl,rfl⟩,rfl,rfl,Pd⟩
def IF:TE:=λ_ H Q=>∀p,H p=none->Q (.ref p) (upd H p (.dK []))
def ID:TE:=λ_ H Q=>∀p,H p=none->Q (.ref p) (upd H p (.dT []))
section
theorem wR:PE X (.Dict [] [] pos) IF:=λpins s σ H Q I h =>
 wpAny_Dict_empty ⟨.ref s.heap.objs.size,_,I.laid (a:=s.heap.objs.size) (o:=.dK []) (t':=s.toks) (λ_ _ q=>N1 _ q) (N7 _) (EG s.heap I.big),rfl,h _ (I.hok.fresh (N7 _))⟩
theorem CY:PE X (.Dict [] [] pos) ID:=λpins s σ H Q I h =>
 wpAny_Dict_empty ⟨.ref s.heap.objs.size,_,I.laid (a:=s.heap.objs.size) (o:=.dT []) (t':=s.toks) (λ_ _ q=>N1 _ q) (N7 _) (DO s.heap I.big),rfl,h _ (I.hok.fresh (N7 _))⟩
end
structure M2 (X:Cx) (o:Expr) (m:Str) (apos:Pos) (e f:Expr) (cpos:Pos):Prop where
 base:attributeBase o m X.env (eval o X.env)=eval o X.env
 few:((backTo cpos (starEach [e,f] X.env)).all (λx=>!x.1)&&(backToKw cpos (keywordEach [] X.env)).all (λx=>x.1.isSome)
 &&decide (([e,f]:List Expr).length+([]:List Keyword).length+(if ([]:List Keyword).isEmpty then 0 else 1)<30))=true
 line:(apos.endLine==cpos.line)=true
 trees:backTo cpos (starEach [e,f] X.env)=[(false,eval e X.env),(false,eval f X.env)]
def Lu (H:Hp) (a:Addr):Prop:=(∃kvs,Rd H a (.dK kvs))\/∃kvs,Rd H a (.dT kvs)
theorem IP (I:Inv X pins σ H s) (d:Lu H a) :
  s.TypeIs (.ref a) "dict"/\(∀b,Value.ref a=.ref b->∃c,s.heap.get? b=some c/\c.dict=none)/\(a==sysModules)=false:=by
 rcases d with⟨kvs,e⟩|⟨kvs,e⟩
 ·obtain⟨_,hd,vs,_,dd⟩:=xi I.hok e;refine⟨dd.typeIs,λb q=>?_,hd⟩;cases q;obtain⟨c,_,_,h1,h2,_⟩:=dd;exact⟨c,h1,h2.2.1⟩
 ·obtain⟨_,hd,xs,_,dd⟩:=wG I.hok e;refine⟨dd.typeIs,λb q=>?_,hd⟩;cases q;obtain⟨c,_,_,h1,h2,_⟩:=dd;exact⟨c,h1,h2.2.1⟩
section
variable {d:V} {r:Value} {o:Option V} {A:Around}
theorem Ld (m:A.units+1<cLine) (I:Inv X pins σ H s) (g:pw H a y o) (f:RelV y u) (i:RelV d r) (h:∀j s',Inv X pins σ H s'->RelV (o.getD d) j->Q j s') :
  wpAny (model X.prog X.w) A (call (.builtin "dict.get") [.ref a,u,r]) Q E s:=by
 rcases g with⟨kvs,k,e,c,l⟩|⟨kvs,k,b,e,c,n,l⟩
 ·subst c;obtain⟨z,hd,vs,rel,dd⟩:=xi I.hok e;refine call_meetsIn PySem.F.slot_dict_get dd.typeIs PySem.F.entry_dict_get (PySem.F.args_dict_get_3 _ _ _) (meets_dict_get_default (dz X.prog X.w) a (AL f) hd r) ⟨_,dd.mapOf,h _ _ (I.tok _) ?_⟩;rw[l];exact (rel.val k).getD i
 ·subst c;cases (show u=Value.ref b from f);obtain⟨z,hd,xs,rel,dd⟩:=wG I.hok e;refine call_meetsIn PySem.F.slot_dict_get dd.typeIs PySem.F.entry_dict_get (PySem.F.args_dict_get_3 _ _ _) (meetsH_dict_get_default (tupleKind (dz X.prog X.w)) a b hd r) ⟨tupleKind_room_in1 m,k,xs,vA I.hok n,dd,h _ _ (I.tok _) ?_⟩;rw[l];exact (rel.val k).getD i
end
def Kk (td ty tx:TE):TE:=λσ H Q=>td σ H λx H1=>∃a,x=.ref a/\Lu H1 a/\ty σ H1 λy H2=>tx σ H2 λz b=>∃o,pw b a y o/\Q (o.getD z) b
section
variable {o e f:Expr} {apos:Pos} {td ty tx:TE}
theorem Di (j:X.A.units+1<cLine) (l:PE X o td) (n:PE X e ty) (p:PE X f tx) (m:M2 X o "get" apos e f cpos):PE X (.Call (.Attribute o "get" apos) [e,f] [] cpos) (Kk td ty tx):=by intro pins s σ H Q I h;refine wpAny_Call_method m.base m.few m.line PySem.F.plainAttrs_dict PySem.F.slot_dict_get PySem.F.type_dict_get (thn (l pins s σ H _ I h) λu q b=>?_);obtain⟨x,H1,i,r,a,ex,d,v⟩:=b;subst ex;obtain rfl:u=Value.ref a:=r;obtain⟨w,B,_⟩:=IP i d;refine⟨w,B,?_⟩;rw[m.trees];refine Calls.callWith_builtin rfl (Calls.evalArgs_plain (Calls.spliced_cons (thn (n pins q σ H1 _ i v) λiv s2 b=>?_)));obtain⟨y,H2,C,D,E⟩:=b;refine Calls.spliced_cons (thn (p pins s2 σ H2 _ C E) λfv s3 b=>?_);obtain⟨z,G,J,rz,ov,g,K⟩:=b;refine Calls.spliced_nil ?_;exact Ld j J g D rz λw' s4 L c=>⟨_,G,L,c,K⟩
end
section
variable {kvs:List (Key×V)} {A:Around}
end
section
variable {A:Around}
end
section
theorem bQ.setOwnO {v:PyData} (R:bQ K H0 A0 H A O δ σ) (hi:i∈O) (hl:i<δ.length) (hn:H a=none) (s:aw H H1) (ha:H1 a=some o) (m:Kx o=true) (h:ik K (del H1 (a::(A++A0))) v o) :
  bQ K H0 A0 H1 (a::A) O (δ.set i (some v)) (σ.set i (some (.ref a))) where
 same:=R.same.trans s
 ls0:=R.ls0
 new:=λb n=>by
  rcases N5.mp n with z|z
  ·rw[z];exact R.same.free hn
  ·exact R.new b z
 ls:=λb n=>by
  rcases N5.mp n with z|z
  ·exact⟨_,by rw[z];exact ha,m⟩
  ·exact (R.ls.same s) b z
 len:=by simp[R.len]
 pl:=λj e c q=>by
  rcases get_set q with⟨z,q⟩|⟨z,q⟩
  ·subst z;exact absurd hi c
  ·obtain⟨u,e1,h1⟩:=R.pl j e c q;refine⟨u,kr z e1,h1.same λb o e=>?_⟩;obtain⟨y,e⟩:=a9 e;have r:b≠a:=aJ e hn;rw[aN (by simpa[r] using y)];exact s _ _ e
 own:=λj e c q=>by
  have w:∀b o,del H (A++A0) b=some o->del H1 (a::A++A0) b=some o:=λb o e=>by obtain⟨y,e⟩:=a9 e;have r:b≠a:=aJ e hn;rw[aN (by simpa[r] using y)];exact s _ _ e
  rcases get_set q with⟨z,q⟩|⟨z,q⟩
  ·cases q;subst z;exact⟨a,_,_,by rw[NW (by rw[<-R.len];exact hl)],N3,ha,rfl,h⟩
  ·obtain⟨b,ys,es,e1,h1,h2,x,B⟩:=R.own j e c q;exact⟨b,ys,es,kr z e1,N2 _ h1,s _ _ h2,x,B.same w⟩
 inj:=λj k d' e b c f g l p1 p2=>by
  have old:∀k,k∈O->i≠k->∀e,δ[k]?=some (some e)->σ[k]?=some (some (.ref a))->False:=λk f _ e q p=>by obtain⟨b,ys,es,e1,h1,h2,_⟩:=R.own k e f q;rw[p]at e1;cases e1;rw[hn]at h2;cases h2
  by_cases z1:i=j
  ·by_cases z2:i=k
   ·rw[<-z1,z2]
   ·subst z1;rw[NW (by rw[<-R.len];exact hl)]at p1;cases p1;rw[NJ z2]at l p2;exact (old k f z2 e l p2).elim
  ·by_cases z2:i=k
   ·subst z2;rw[NW (by rw[<-R.len];exact hl)]at p2;cases p2;rw[NJ z1]at g p1;exact (old j c z1 d' g p1).elim
   ·rw[NJ z1]at g p1;rw[NJ z2]at l p2;exact R.inj j k d' e b c f g l p1 p2
theorem bQ.putO {d1 l:PyData} (R:bQ K H0 A0 H A O δ σ) (hi:i∈O) (hd:δ[i]?=some (some l)) (r:σ[i]?=some (some (.ref a))) (ha:a∈A) (m:Kx o=true) (h:ik K (del H (A++A0)) d1 o) :
  bQ K H0 A0 (upd H a o) A O (δ.set i (some d1)) σ:=by
 have n:del (upd H a (o)) (A++A0)=del H (A++A0):=kz (NR _ ha);have hl:i<δ.length:=(ND.mp hd).1;refine⟨λb o e=>?_,R.ls0,R.new,λb u=>?_,by simp[R.len],λj e c q=>?_,λj e c q=>?_,λj k d' e b c s f g p1 p2=>?_⟩
 ·have p:b≠a:=λz=>by rw[z,R.new a ha]at e;cases e
  rw[az p];exact R.same b o e
 ·by_cases z:b=a
  ·exact⟨_,by rw[z,aE],m⟩
  ·rw[az z];exact R.ls b u
 ·rcases get_set q with⟨z,q⟩|⟨z,q⟩
  ·subst z;exact absurd hi c
  ·rw[n];exact R.pl j e c q
 ·rcases get_set q with⟨z,q⟩|⟨z,q⟩
  ·cases q;subst z;exact⟨a,_,_,r,ha,aE,rfl,by rw[n];exact h⟩
  ·obtain⟨b,zs,es,e1,h1,h2,v,x⟩:=R.own j e c q;have p:b≠a:=λw=>z (R.inj i j _ _ a hi c hd q r (by rw[<-w];exact e1))
   exact⟨b,zs,es,e1,h1,by rw[az p];exact h2,v,by rw[n];exact x⟩
 ·rcases get_set f with⟨z1,f⟩|⟨z1,f⟩ <;> rcases get_set g with⟨z2,g⟩|⟨z2,g⟩
  ·rw[<-z1,z2]
  ·subst z1;exact R.inj i k l e b hi s hd g p1 p2
  ·subst z2;exact R.inj j i d' l b c hi f hd p1 p2
  ·exact R.inj j k d' e b c s f g p1 p2
end
def cL (l:List (Int×Int)):PyData:=.dict (l.map λp=>(PyData.int p.1,PyData.int p.2))
def dkO (l:List (Int×Int)):HO:=.dK (l.map λp=>(.inl p.1,V.int p.2))
theorem pX:∀{l m:List (Int×Int)},l.map (λp=>(PyData.int p.1,PyData.int p.2))=m.map (λp=>(PyData.int p.1,PyData.int p.2))->l=m
 |[],[],_=>rfl
 |[],_::_,h=>by simp at h
 |_::_,[],h=>by simp at h
 |(a,b)::l,(c,d)::m,h=>by simp only[N0,List.cons.injEq,Prod.mk.injEq,PyData.int.injEq]at h;obtain⟨⟨rfl,rfl⟩,h⟩:=h;rw[pX h]
theorem Is.ofDic (h:Is K H (cL l) v):∃a,v=.ref a/\H a=some (dkO l):=by
 unfold cL Is at h;rcases h with (⟨a,ns,_,e,_⟩|⟨a,m,e1,e,h2⟩)|⟨a,C,dx,fs,_,_,_,h|h⟩
 ·cases l with
  |nil=>simp at e
  |cons p l=>simp at e
 ·rcases e with⟨b,e,rfl⟩|⟨b,e,rfl⟩
  ·rw[pX e];exact⟨a,e1,h2⟩
  ·cases l <;> cases e
 ·cases l with
  |nil=>unfold Isk at h;simp at h
  |cons p l=>rw[N0]at h;unfold Isk at h;obtain⟨f,_,_,_,q,_⟩:=h;cases q
 ·cases l with
  |nil=>unfold Isk at h;simp at h
  |cons p l=>rw[N0]at h;unfold Isk at h;obtain⟨f,_,_,_,q,_⟩:=h;cases q
theorem JE (h:H a=some (dkO l)):Is K H (cL l) (.ref a):=by unfold cL Is;exact .inl (.inr ⟨a,_,rfl,.inl ⟨l,rfl,rfl⟩,h⟩)
def lg:List (PyData×PyData)->Option (List (Int×Int))
 |[]=>some []
 |(.int a,.int b)::r=>(lg r).map λl=>(a,b)::l
 |_=>none
theorem tV:∀{r:List (PyData×PyData)} {l:List (Int×Int)},lg r=some l->r=l.map λp=>(PyData.int p.1,PyData.int p.2)
 |[],l,e=>by cases e;rfl
 |(a,b)::r,l,e=>by
  cases a <;> cases b <;> first|(cases e;done)|skip
  unfold lg at e;cases q:lg r with
  |none=>rw[q]at e;cases e
  |some m=>rw[q]at e;cases e;rw[tV q];rfl
theorem qu:∀l:List (Int×Int),lg (l.map λp=>(PyData.int p.1,PyData.int p.2))=some l
 |[]=>rfl
 |p::r=>by rw[N0];unfold lg;rw[qu r];rfl
def xG:PyData->Option (List (Int×Int))
 |.dict kvs=>lg kvs
 |_=>none
theorem wm {d:PyData} (h:xG d=some l):d=cL l:=by
 unfold xG at h;split at h
 ·unfold cL;rw[tV h]
 ·cases h
theorem tH (l:List (Int×Int)):xG (cL l)=some l:=qu l
def lH (l:List (Int×Int)) (k:Int):Option Int:=(l.find? λp=>decide (p.1=k)).map (·.2)
def yS (l:List (Int×Int)) (k v:Int):List (Int×Int):=if (l.any λp=>decide (p.1=k))=true then l.map (λp=>if p.1=k then (p.1,v) else p) else l++[(k,v)]
theorem EI (l:List (Int×Int)) (k:Int):kE (l.map λp=>((.inl p.1,V.int p.2):Key×V)) (.inl k)=(lH l k).map V.int:=by
 unfold kE lH
 induction l with
 |nil=>rfl
 |cons p r ih =>
  rw[N0,NN,NN];by_cases z:p.1=k
  ·have h1:decide ((Sum.inl p.1:Key)=.inl k)=true:=decide_eq_true (by rw[z]);simp only[h1,decide_eq_true z];rfl
  ·have h1:decide ((Sum.inl p.1:Key)=.inl k)=false:=decide_eq_false λq=>z (Sum.inl.inj q)
   simp only[h1,decide_eq_false z];exact ih
theorem Ga (l:List (Int×Int)) (k v:Int):putK (l.map λp=>((.inl p.1,V.int p.2):Key×V)) (.inl k) (.int v)=(yS l k v).map λp=>(.inl p.1,V.int p.2):=by
 have ha:((l.map λp=>((.inl p.1,V.int p.2):Key×V)).any λa=>decide (a.1=.inl k))=l.any λp=>decide (p.1=k):=by
  rw[List.any_map];congr 1;funext p;by_cases z:p.1=k
  ·simp[z]
  ·have:¬ ((Sum.inl p.1:Key)=.inl k):=λq=>z (Sum.inl.inj q)
   simp[z,this]
 unfold putK yS;rw[ha];split
 ·rw[Nz,Nz];refine Nv λp _=>?_
  by_cases z:p.1=k
  ·simp[z]
  ·have:¬ ((Sum.inl p.1:Key)=.inl k):=λq=>z (Sum.inl.inj q)
   simp[z,this]
 ·rw[NQ];rfl
section
variable {E:XK} {o e f i' value:Expr} {go ge gf:Ds->Rs PyData} {apos:Pos}
theorem FZ:PD X E (.Dict [] [] pos) (gC (cL [])):=(wR).imp λσ H Q ⟨A,δ,R,o⟩=>λp a=>o (.ref p) _ (bz a) (JE (l:=[]) (by rw[aN (R.ls.new a)];exact aE))
def mx (go ge gf:Ds->Rs PyData):Ds->Rs PyData:=λδ=>(go δ).bind λd=>match xG d with
 |some l=>(ge δ).bind λk=>(gf δ).bind λz=>(match k,z with
  |.int k,.int z=>.ok (.int ((lH l k).getD z))
  |_,_=>.no)
 |none=>.no
end
section
variable {E:XK} {o e f k value:Expr} {go ge gf gk gv:Ds->Rs PyData} {apos:Pos}
theorem Ib (q:X.A.units+1<cLine) (r:PD X E o go) (s:PD X E e ge) (w:PD X E f gf) (m:M2 X o "get" apos e f cpos):PD X E (.Call (.Attribute o "get" apos) [e,f] [] cpos) (mx go ge gf) :=
 (Di q r s w m).imp λσ H Q i=>by
  obtain⟨A,δ,R,b⟩:=i;unfold mx at b;refine eD.run R (λd x v H1 j y h1=>?_) (λC c H' s'=>?_) (λc=>?_)
  ·simp only[x,Rs.ag]at b;split at b
   ·rename_i l hl;rw[wm hl]at h1;obtain⟨a,rfl,ha⟩:=h1.ofDic;have g:H1 a=some (dkO l):=ax _ _ ha;refine⟨a,rfl,.inl ⟨_,.inl g⟩,?_⟩;refine eD.run y (λkd B u H2 s2 R2 n=>?_) (λC c H' s'=>?_) (λc=>?_)
    ·simp only[B,Rs.ag]at b;refine eD.run R2 (λzd D z F p R3 G=>?_) (λC c H' s'=>?_) (λc=>?_)
     ·simp only[D,Rs.ag]at b;split at b
      ·rename_i h zz;have e1:=n.ofInt;have e2:=G.ofInt;subst e1 e2;refine⟨_,pw.k (k:=.inl h) (p _ _ (s2 _ _ g)),?_⟩;rw[EI];have:((lH l h).map V.int).getD (.int zz)=.int ((lH l h).getD zz):=by cases lH l h <;> rfl
       rw[this];exact b _ F (j.trans (s2.trans p)) bE
      ·exact b.elim
     ·simp only[c,Rs.dQ]at b;exact b H' (j.trans (s2.trans s'))
     ·simp only[c,Rs.bq]at b;exact b
    ·simp only[c,Rs.dQ]at b;exact b H' (j.trans s')
    ·simp only[c,Rs.bq]at b;exact b
   ·exact b.elim
  ·simp only[c,Rs.dQ]at b;exact b H' s'
  ·simp only[c,Rs.bq]at b;exact b
def vO (i:Nat):Ds->Sr:=λδ=>if i<δ.length then .nx (δ.set i (some (cL []))) else .no
theorem E5 (c:X.N.Nodup) (e:i∈O) (hi:X.N[i]?=some x) (f:Loc X.env.scope x) (g:swapsWith (.Dict [] [] pos') (some (.Name x apos)) pos.line X.env=pure false)
  (h:X.fn x=true\/X.env.scope.names.lookup x=some .local):PSD X E O (.Assign [.Name x apos] (.Dict [] [] pos') pos) (vO i):=(nN c hi f wR g h).imp λD σ H a=>by
 obtain⟨H0,A0,A,δ,R,o⟩:=a;unfold vO at o;split at o
 ·rename_i hl;intro p b;exact o (p::A) _ _ (R.setOwnO (o:=dkO []) e hl b (bz b) aE rfl (.inl ⟨[],rfl,rfl⟩))
 ·exact o.elim
def qt (i:Nat) (gk gv:Ds->Rs PyData):Ds->Sr:=λδ=>match δ[i]? with
 |some (some d)=>(match xG d with
  |some l=>ofR (gv δ) λv=>ofR (gk δ) λk=>(match k,v with
   |.int k,.int v=>if l.length<1000000 then .nx (δ.set i (some (cL (yS l k v)))) else .no
   |_,_=>.no)
  |none=>.no)
 |_=>.no
theorem Eo (F:X.A.units+1<cLine) (h:PD X E value gv) (G:PD X E k gk) (y:i∈O) (hi:X.N[i]?=some x) (hv:Vis X.env.scope x)
  (hd:(x==("__debug__":Str))=false) (f:(x==("__classdict__":Str))=false) (I:swapsWith value (some (.Subscript (.Name x pn) k pos')) pos.line X.env=pure false):PSD X E O (.Assign [.Subscript (.Name x pn) k pos'] value pos) (qt i gk gv) :=
 (A5 F (j6 hi hv hd f) G h I).imp λD σ H g=>by
  obtain⟨H0,A0,A,δ,R,a⟩:=g;unfold qt at a;split at a
  ·rename_i d q;split at a
   ·rename_i l hl;rw[wm hl]at q;obtain⟨p,o',d',e1,J,j,e2,n⟩:=R.own i _ y q;subst e2;have r:o'=dkO l:=by
     have n:He _ o':=n;rcases n with⟨m,c,rfl⟩|⟨m,c,_⟩
     ·rw[pX c];rfl
     ·cases l <;> cases c
    subst r;refine eD.run R.full (λvd K v H1 z L s=>?_) (λC b H' s'=>?_) (λb=>?_)
    ·simp only[K,av]at a;refine⟨_,e1,?_⟩;refine eD.run L (λkd M u H2 s2 R2 w=>?_) (λC b H' s'=>?_) (λb=>?_)
     ·simp only[M,av]at a;split at a
      ·rename_i B P;split at a
       ·rename_i hlen;have c:=w.ofInt;have Q:=s.ofInt;subst c Q;have e:=z.trans s2;refine⟨p,_,rfl,xa.k (k:=.inl B) (e _ _ j) (by rw[N4,sizeLine_eq];omega),?_⟩;rw[Ga];exact a A _ _ ((R.step e).putO (o:=dkO (yS l B P)) y q e1 J rfl (.inl ⟨_,rfl,rfl⟩))
       ·exact a.elim
      ·exact a.elim
     ·simp only[b,jU]at a;exact a H' (R.same.trans (z.trans s'))
     ·simp only[b,jT]at a;exact a
    ·simp only[b,jU]at a;exact a H' (R.same.trans s')
    ·simp only[b,jT]at a;exact a
   ·exact a.elim
  ·exact a.elim
end
section
variable {E:XK} {k:Expr} {gk:Ds->Rs PyData} {apos:Pos}
end
section
variable {E:XK} {e:Expr}
end
abbrev PTl:=List ((Int×Int)×Int)
def dtD (l:PTl):PyData:=.dict (dtK l)
def kT (p:Int×Int):List Key:=[.inl p.1,.inl p.2]
theorem Ew {p r:Int×Int} (h:kT p=kT r):p=r:=by unfold kT at h;simp only[List.cons.injEq,Sum.inl.injEq,and_true]at h;exact Prod.ext h.1 h.2
def dO (l:PTl) (k:Int×Int):Option Int:=(l.find? λp=>decide (p.1=k)).map (·.2)
def qM (l:PTl) (k:Int×Int) (v:Int):PTl:=if (l.any λp=>decide (p.1=k))=true then l.map (λp=>if p.1=k then (p.1,v) else p) else l++[(k,v)]
theorem BD (l:PTl) (k:Int×Int):kE (l.map λp=>(([.inl p.1.1,.inl p.1.2],V.int p.2):List Key×V)) (kT k)=(dO l k).map V.int:=by
 unfold kE dO
 induction l with
 |nil=>rfl
 |cons p r ih =>
  rw[N0,NN,NN];by_cases z:p.1=k
  ·have h1:decide (([.inl p.1.1,.inl p.1.2]:List Key)=kT k)=true:=decide_eq_true (by rw[<-z];rfl);simp only[h1,decide_eq_true z];rfl
  ·have h1:decide (([.inl p.1.1,.inl p.1.2]:List Key)=kT k)=false:=decide_eq_false λq=>z (Ew (p:=p.1) q)
   simp only[h1,decide_eq_false z];exact ih
theorem C1 (l:PTl) (k:Int×Int) (v:Int):putK (l.map λp=>(([.inl p.1.1,.inl p.1.2],V.int p.2):List Key×V)) (kT k) (.int v)=(qM l k v).map λp=>([.inl p.1.1,.inl p.1.2],V.int p.2):=by
 have a:∀p:(Int×Int)×Int,(([.inl p.1.1,.inl p.1.2]:List Key)=kT k)↔p.1=k:=λp=>⟨λq=>Ew (p:=p.1) q,λq=>by rw[<-q];rfl⟩
 have ha:((l.map λp=>(([.inl p.1.1,.inl p.1.2],V.int p.2):List Key×V)).any λb=>decide (b.1=kT k))=l.any λp=>decide (p.1=k):=by rw[List.any_map];congr 1;funext p;show decide (([.inl p.1.1,.inl p.1.2]:List Key)=kT k)=_;exact decide_eq_decide.mpr (a p)
 unfold putK qM;rw[ha];split
 ·rw[Nz,Nz];refine Nv λp _=>?_
  show (if ([.inl p.1.1,.inl p.1.2]:List Key)=kT k then _ else _)=_;by_cases z:p.1=k
  ·rw[if_pos ((a p).mpr z)];simp[z]
  ·rw[if_neg λq=>z ((a p).mp q)];simp[z]
 ·rw[NQ];rfl
theorem vM:∀{l m:PTl},l.map (λp=>((.tuple [.int p.1.1,.int p.1.2],.int p.2):PyData×PyData))=m.map (λp=>(.tuple [.int p.1.1,.int p.1.2],.int p.2))->l=m
 |[],[],_=>rfl
 |[],_::_,h=>by simp at h
 |_::_,[],h=>by simp at h
 |((a,b),c)::l,((a',b'),c')::m,h=>by simp only[N0,List.cons.injEq,Prod.mk.injEq,PyData.int.injEq,PyData.tuple.injEq,and_true]at h;obtain⟨⟨⟨rfl,rfl⟩,rfl⟩,h⟩:=h;rw[vM h]
theorem D4 {l:PTl} (h:He (dtK l) o):o=dtO l:=by
 rcases h with⟨m,e,_⟩|⟨m,e,rfl⟩
 ·cases m <;> cases e
 ·rw[vM (List.cons.inj e).2]
theorem Is.ofDt {l:PTl} (h:Is K H (dtD l) v):∃a,v=.ref a/\H a=some (dtO l):=by
 unfold dtD Is at h;rcases h with (⟨a,ns,_,e,_⟩|⟨a,o,e1,e,h2⟩)|⟨a,C,dx,fs,_,_,_,h|h⟩
 ·cases e
 ·rw[D4 e]at h2;exact⟨a,e1,h2⟩
 ·unfold Isk at h;obtain⟨f,_,_,_,q,_⟩:=h;cases q
 ·unfold Isk at h;obtain⟨f,_,_,_,q,_⟩:=h;cases q
def lu:List (PyData×PyData)->Option PTl
 |[]=>some []
 |(.tuple [.int a,.int b],.int c)::r=>(lu r).map λl=>((a,b),c)::l
 |_=>none
theorem tw:∀{r:List (PyData×PyData)} {l:PTl},lu r=some l->r=l.map λp=>(.tuple [.int p.1.1,.int p.1.2],.int p.2)
 |[],l,e=>by cases e;rfl
 |x::r,l,e=>by
  unfold lu at e;split at e
  ·rename_i z;cases z
  ·rename_i z;injection z with z1 z2
   subst z1 z2;cases q:lu r with
   |none=>rw[q]at e;cases e
   |some m=>rw[q]at e;cases e;rw[tw q];rfl
  ·cases e
theorem p9:∀l:PTl,lu (l.map λp=>(.tuple [.int p.1.1,.int p.1.2],.int p.2))=some l
 |[]=>rfl
 |p::r=>by rw[N0];unfold lu;rw[p9 r];rfl
def zE:PyData->Option PTl
 |.dict ((.bool true,.none)::kvs)=>lu kvs
 |_=>none
theorem zT {d:PyData} {l:PTl} (h:zE d=some l):d=dtD l:=by
 unfold zE at h;split at h
 ·unfold dtD dtK;rw[tw h]
 ·cases h
theorem Ac (l:PTl):zE (dtD l)=some l:=p9 l
def iZ:PyData->Option (Int×Int)
 |.tuple [.int a,.int b]=>some (a,b)
 |_=>none
theorem w6 {d:PyData} {k:Int×Int} (h:iZ d=some k):d=.tuple [.int k.1,.int k.2]:=by
 unfold iZ at h;split at h
 ·cases h;rfl
 ·cases h
theorem Is.ofPair {k:Int×Int} (h:Is K H (.tuple [.int k.1,.int k.2]) v):∃b,v=.ref b/\H b=some (.tup ((kT k).map kV)):=by obtain⟨b,xs,rfl,a,h⟩:=h.ofTup;unfold Iss at h;obtain⟨v1,r,rfl,h1,h⟩:=h;unfold Iss at h;obtain⟨v2,r,rfl,h2,h⟩:=h;unfold Iss at h;subst h;rw[h1.ofInt,h2.ofInt]at a;exact⟨b,rfl,a⟩
section
variable {E:XK} {o e f k value:Expr} {go ge gf gk gv:Ds->Rs PyData} {apos:Pos}
def DK (go gk:Ds->Rs PyData):Ds->Rs PyData:=λδ=>(go δ).bind λd=>(gk δ).bind λk=>match zE d,iZ k with
 |some l,some k=>(match dO l k with
  |some v=>.ok (.int v)
  |none=>.no)
 |_,_=>.no
theorem JS (m:X.A.units+1<cLine) (n:PD X E o go) (h:PD X E k gk) (p:Ky k):PD X E (.Subscript o k pos) (DK go gk) :=
 (Gh m n h p).imp λσ H Q i=>by
  obtain⟨A,δ,R,c⟩:=i;unfold DK at c;refine eD.run R (λd q v H1 j r h1=>?_) (λC e H' s'=>?_) (λe=>?_)
  ·simp only[q,Rs.ag]at c;refine eD.run r (λkd s u H2 s2 R2 f=>?_) (λC e H' s'=>?_) (λe=>?_)
   ·simp only[s,Rs.ag]at c;split at c
    ·rename_i l k hl h;rw[zT hl]at h1;rw[w6 h]at f;obtain⟨a,rfl,ha⟩:=h1.ofDt;obtain⟨b,rfl,x⟩:=f.ofPair;split at c
     ·rename_i w hw;have g:=pw.t (k:=kT k) (s2 _ _ (ax _ _ ha)) (ax _ _ x);rw[BD,hw]at g;exact⟨a,_,rfl,g,c _ H2 (j.trans s2) bE⟩
     ·exact c.elim
    ·exact c.elim
   ·simp only[e,Rs.dQ]at c;exact c H' (j.trans s')
   ·simp only[e,Rs.bq]at c;exact c
  ·simp only[e,Rs.dQ]at c;exact c H' s'
  ·simp only[e,Rs.bq]at c;exact c
def zZ (i:Nat):Ds->Sr:=λδ=>if i<δ.length then .nx (δ.set i (some (dtD []))) else .no
theorem EV (c:X.N.Nodup) (e:i∈O) (hi:X.N[i]?=some x) (f:Loc X.env.scope x) (g:swapsWith (.Dict [] [] pos') (some (.Name x apos)) pos.line X.env=pure false)
  (h:X.fn x=true\/X.env.scope.names.lookup x=some .local):PSD X E O (.Assign [.Name x apos] (.Dict [] [] pos') pos) (zZ i):=(nN c hi f CY g h).imp λD σ H a=>by
 obtain⟨H0,A0,A,δ,R,o⟩:=a;unfold zZ at o;split at o
 ·rename_i hl;intro p b;exact o (p::A) _ _ (R.setOwnO (o:=dtO []) e hl b (bz b) aE rfl (.inr ⟨[],rfl,rfl⟩))
 ·exact o.elim
def nE (i:Nat) (gk gv:Ds->Rs PyData):Ds->Sr:=λδ=>match δ[i]? with
 |some (some d)=>(match zE d with
  |some l=>ofR (gv δ) λv=>ofR (gk δ) λk=>(match iZ k,v with
   |some k,.int v=>if l.length<1000000 then .nx (δ.set i (some (dtD (qM l k v)))) else .no
   |_,_=>.no)
  |none=>.no)
 |_=>.no
theorem B4 (B:X.A.units+1<cLine) (h:PD X E value gv) (F:PD X E k gk) (w:i∈O) (hi:X.N[i]?=some x) (hv:Vis X.env.scope x)
  (hd:(x==("__debug__":Str))=false) (g:(x==("__classdict__":Str))=false) (G:swapsWith value (some (.Subscript (.Name x pn) k pos')) pos.line X.env=pure false):PSD X E O (.Assign [.Subscript (.Name x pn) k pos'] value pos) (nE i gk gv) :=
 (A5 B (j6 hi hv hd g) F h G).imp λD σ H j=>by
  obtain⟨H0,A0,A,δ,R,a⟩:=j;unfold nE at a;split at a
  ·rename_i d q;split at a
   ·rename_i l hl;rw[zT hl]at q;obtain⟨p,o',d',e1,I,m,e2,J⟩:=R.own i _ w q;subst e2;have n:o'=dtO l:=D4 J;subst n;refine eD.run R.full (λvd K v H1 y L r=>?_) (λC c H' s'=>?_) (λc=>?_)
    ·simp only[K,av]at a;refine⟨_,e1,?_⟩;refine eD.run L (λkd M u H2 s2 R2 e=>?_) (λC c H' s'=>?_) (λc=>?_)
     ·simp only[M,av]at a;split at a
      ·rename_i z P s;split at a
       ·rename_i hlen;rw[w6 s]at e;obtain⟨b,rfl,Q⟩:=e.ofPair;have S:=r.ofInt;subst S;have f:=y.trans s2;refine⟨p,_,rfl,xa.t (k:=kT z) (f _ _ m) (ax _ _ Q) (by rw[N4,sizeLine_eq];omega),?_⟩;rw[C1];exact a A _ _ ((R.step f).putO (o:=dtO (qM l z P)) w q e1 I rfl (.inr ⟨_,rfl,rfl⟩))
       ·exact a.elim
      ·exact a.elim
     ·simp only[c,jU]at a;exact a H' (R.same.trans (y.trans s'))
     ·simp only[c,jT]at a;exact a
    ·simp only[c,jU]at a;exact a H' (R.same.trans s')
    ·simp only[c,jT]at a;exact a
   ·exact a.elim
  ·exact a.elim
end
def sW (CX:CXT) (P:Program) (w:World) (K:PySem.W.Frag) (mg:Str->Option Value) (base:Heap) (N:List Str) (qual:Str) (scope:Scope) (f:Addr) (cd:Value) (cl:List (Str×Addr)) (A:Around) (outer:List Env) (s:Shared) (H:Hp) (E:XK):Cx where
 prog:=P
 w:=w
 K:=K
 mg:=mg
 base:=base
 A:=A.deeper (PySem.W.envX qual scope s.heap.objs.size f cd cl)
 N:=N
 s₀:=s
 H₀:=H
 env:=PySem.W.envX qual scope s.heap.objs.size f cd cl
 outer:=outer
 stack:=PySem.W.envX qual scope s.heap.objs.size f cd cl::outer
 ex:=[]
 calm:=true
 fn:=λ_=>false
 pn:=[]
 xe:=λe s'=>wpAny (model P w) (A.deeper (PySem.W.envX qual scope s.heap.objs.size f cd cl)) (leaving (PySem.W.envX qual scope s.heap.objs.size f cd cl) e) (λ_ a=>CX outer H s E e a) (λb a=>CX outer H s E b a) s'
theorem tX {α:Type} {y:Str} {u:α}:∀{l:List (Str×α)},(l.map (·.1)).Nodup->(y,u)∈l->l.lookup y=some u
 |[],_,h=>by cases h
 |(z,w)::l,nd,h=>by
  rw[NG];rw[N0,NP]at nd;rcases N5.mp h with h|h
  ·cases h;simp
  ·have m:y∈l.map (·.1):=List.mem_map_of_mem (f:=(·.1)) h;have:y≠z:=λq=>nd.1 (by subst q;exact m)
   rw[show (y==z)=false by simpa using this];exact tX nd.2 h
theorem CA {y:Str} {u:α} {us:List α} (nd:ps.Nodup) (hl:us.length=ps.length) (h1:ps[i]?=some y) (h2:us[i]?=some u):(ps.zip us).reverse.lookup y=some u:=by
 refine tX ?_ ?_
 ·rw[List.map_reverse,List.map_fst_zip (by omega)];exact (List.reverse_perm ps).symm.nodup nd
 ·rw[List.mem_reverse];refine NV (i:=i) ?_;rw[List.getElem?_zip_eq_some];exact⟨h1,h2⟩
structure mj (N ps:List Str) (sc:Scope):Prop where
 kind:sc.kind=.function
 co:sc.isCoroutine=false
 gen:sc.isGenerator=false
 nd:N.Nodup
 pre:N.take ps.length=ps
 par:∀x∈ps,sc.names.lookup x=some .local
 nocell:∀x∈sc.names,x.2≠.cell
structure J7 (s:Shared) (H:Hp) (cl:List (Str×Addr)) (sc:Scope) (N:List Str) (n:Nat) (ws:List (Option V)):Prop where
 inj:∀x y c,cl.lookup x=some c->cl.lookup y=some c->x=y
 has:∀x,sc.names.lookup x=some .free->∃c,cl.lookup x=some c
 cell:∀x c,cl.lookup x=some c->∃v,s.heap.IsCell c v
 free:∀x c,cl.lookup x=some c->H c=none
 len:N.length=n+ws.length
 val:∀(i:Nat) (x:Str) (v:V),N[n+i]?=some x->ws[i]?=some (some v)->∃u c,RelV v u/\sc.names.lookup x=some .free/\cl.lookup x=some c/\s.heap.IsCell c (some u)
theorem HW {A:Around} {E:XK} {h1:Heap} {tk:Nat}
  (S:mj N ps scope) (hd:A.handled=none) (g:uB P w K mg base A outer s H) (hl:vs.length=ps.length) (r:Vals vs us) (C:J7 s H cl scope N ps.length ws)
  (B:h1.Ns s.heap.objs.size (λx=>(ps.zip us).reverse.lookup x)) (D:∀b o,s.heap.get? b=some o->h1.get? b=some o) :
  Inv (sW CX P w K mg base N qual scope f cd cl A outer s H E) [] (vs.map some++ws) H { s with heap:=h1,toks:=tk }:=by
 have j:∀b:Addr,b∉(sW CX P w K mg base N qual scope f cd cl A outer s H E).ex:=λb z=>absurd (show b∈([]:List Addr) from z) (by simp)
 have I:∀c v,s.heap.IsCell c v->h1.IsCell c v:=λc v q=>by obtain⟨o,e,d⟩:=q;exact⟨o,D _ _ e,d⟩
 refine⟨⟨g.mod,S.kind,rfl,rfl,N7 _,λy z c h1 h2=>C.inj y z c h1 h2,λy m=>?_,λy c z _=>(by cases z),λ_=>hd,Around.frames_deeper g.frames,.inr ⟨rfl,rfl⟩,λb z=>absurd z (j b),g.bs,g.bsz,λb _ _=>j b,λb z=>absurd z (j b),g.funs,g.frf⟩,
  rfl,g.bare,Un.kept D,⟨_,B,λi y v h1 h2 h3=>?_⟩,λy c h=>?_,g.hok.fresh (N7 _),λy c h=>C.free y c h,λp n=>absurd (show p∈([]:List (Addr×Obj)) from n) (by simp),g.hok.kept D,?_,g.tab⟩
 ·have m:scope.names.lookup y=some .cell\/scope.names.lookup y=some .free:=m;rcases m with m|m
  ·exact absurd rfl (S.nocell _ (PySem.mem_of_lookup m))
  ·exact C.has y m
 ·have h1:N[i]?=some y:=h1;by_cases hi:i<vs.length
  ·have ha:vs[i]?=some v:=by
    rw[NB (by simpa using hi),Nx]at h2;cases e:vs[i]? with
    |none=>rw[e]at h2;cases h2
    |some a=>rw[e]at h2;cases h2;rfl
   obtain⟨u,J,F⟩:=r.get ha;have n:ps[i]?=some y:=by rw[<-S.pre,List.getElem?_take_of_lt (by omega)];exact h1
   have G:ps.Nodup:=by rw[<-S.pre];exact S.nd.sublist (List.take_sublist _ _)
   refine⟨u,F,.inl ⟨S.par y (NV n),?_⟩⟩;exact CA G (by rw[<-r.length,hl]) n J
  ·rw[NF (by simpa using hi),N4]at h2;have e:N[ps.length+(i-vs.length)]?=some y:=by rw[<-hl,Nat.add_sub_cancel' (by omega)];exact h1
   obtain⟨u,c,F,k,l,q⟩:=C.val _ _ _ e h2;exact⟨u,F,.inr ⟨.inr k,c,l,I _ _ q⟩⟩
 ·obtain⟨v,q⟩:=C.cell y c h;exact⟨v,I _ _ q⟩
 ·show _=N.length;rw[Nl,N4,hl,C.len]
theorem G9 {k:Nat} {name:Str} {c':Addr} {h:Value} {A:Around} {Q:VK} {E:XK} {t:TE}
  (S:mj N ps scope) (x:cg (k+1) A) (l:uB P w K mg base A outer s H) (hl:vs.length=ps.length) (r:Vals vs us) (C:J7 s H cl scope N ps.length ws)
  (z:s.heap.get? f=some (PySem.W.kla_obj name qual params body scope cl pm c' h)) (m:s.heap.CodeRec (.ref c') qual)
  (B:bindArgs (PySem.W.kla_fn name qual params body scope cl pm (.ref c') h) ⟨us,[]⟩=pure (ps.zip us))
  (c:PE (sW CX P w K mg base N qual scope f (.ref c') cl A outer s H E) body t) (D:t (vs.map some++ws) H Q) :
  codeAny (model P w) A (.call (.ref f) ⟨us,[]⟩) (CR CX outer P w H s Q E) s:=by
 have lim:s.heap.NoLimit:=l.mod.nolimit.keeps λb o e=>(l.bs b o e).1
 refine PySem.W.kla_callFunE x.depth z rfl S.co S.gen rfl m ?_;rw[B];refine wpAny_pure (wpAny_newFunctionEnv S.nocell (λy F=>S.par y.1 (OT (a:=y.1) (b:=y.2) F).1) (λi n j=>⟨lim.fresh _ j,?_⟩) S.kind);have g:∀b o,s.heap.get? b=some o->i.get? b=some o:=λb o e=>j.extBut b o (Nq (Nk e)) (N1 _ e)
 have I:=HW (CX:=CX) (qual:=qual) (f:=f) (cd:=.ref c') (E:=E) (tk:=s.toks+(ps.zip us).length) S x.hd l hl r C n g;exact PySem.W.kla_codeExpr (wpAny_mono (c [] _ _ H Q I D) (λu s' p=>(by obtain⟨v,H',J,G,q⟩:=p;exact⟨v,H',J.os,J.bare,J.base,J.hok,G,q⟩)) λ_ _ y=>y)
structure Fm (X:Cx) (c P:Addr):Prop where
 tab:TabOf X.K P (X.env.qual++"<lambda>")
 code:X.env.code=.ref c
 hd:PySem.W.CodeHd X.base c P
 bl:∃bm o,X.mg "__builtins__"=some (.ref bm)/\bm≠builtinsNs/\bm≠mainGlobals/\X.base.get? bm=some o/\o.cls=.type "module"/\o.dict=some builtinsNs/\o.data=.plain
theorem lM {a b:Int} {t u:Nat} {c:Value}:∀{l:List Value},TriplesOk l->TriplesOk (l++[.int a t,.int b u,c])
 |[],_=>by simp[TriplesOk]
 |[_],h=>by simp[TriplesOk]at h
 |[x,y],h=>by cases x <;> cases y <;> (unfold TriplesOk at h;exact h.elim)
 |x::y::z::r,h=>by
  cases x <;> first|(unfold TriplesOk at h;exact h.elim)|skip
  cases y <;> first|(unfold TriplesOk at h;exact h.elim)|skip
  unfold TriplesOk at h;show TriplesOk (_::_::_::(r++_));unfold TriplesOk;exact lM h
theorem qf {pos:Pos} {a b:Int} {t u:Nat} {c f:Value}:∀{l:List Value},TriplesOk l->codeAmong pos (l++[.int a t,.int b u,c])=some f->codeAmong pos l=some f\/f=c
 |[],_,e=>by
  simp only[NT,codeAmong]at e;split at e
  ·cases e;exact .inr rfl
  ·cases e
 |[_],h,_=>by simp[TriplesOk]at h
 |[x,y],h,_=>by cases x <;> cases y <;> (unfold TriplesOk at h;exact h.elim)
 |x::y::z::r,h,e=>by
  cases x <;> first|(unfold TriplesOk at h;exact h.elim)|skip
  cases y <;> first|(unfold TriplesOk at h;exact h.elim)|skip
  unfold TriplesOk at h;simp only[NU,codeAmong]at e ⊢;split at e
  ·rename_i q;rw[if_pos q];exact .inl e
  ·rename_i q;rw[if_neg q];exact qf h e
def MF (qual:Str) (mk:Addr->Value->Obj):TE:=λ_ H Q=>∀f c' a H',H f=none->H' f=some (.frz (mk c' a) (.own f))->aw H H' ->
 (∃o vs t,H' c'=some (.frz o (.own c'))/\o.data=.fields vs/\vs[1]?=some (.str qual t))->Q (.ref f) H'
theorem JD {P:Addr} {g:List (Str×Addr)} (T:Fm X c P) (x:closureFor scope X.env=pure g) (A:defaultsOf params X.env=([],[]):=by rfl) :
  PE X (.Lambda params body scope pos) (MF (X.env.qual++"<lambda>") λc' f=>PySem.W.kla_obj "<lambda>" (X.env.qual++"<lambda>") params body scope g ((X.mg "__name__").getD .none) c' f):=by
 intro pins s σ H Q I h;have i:=I.tab P _ T.tab;obtain⟨ps,B,L,hc⟩:=I.hok P _ i;obtain⟨bm,ob,b1,b2,b3,R,b5,b6,b7⟩:=T.bl;have S:∀b o,X.base.get? b=some o->b≠P:=λb o e z=>by have:=(I.bs b o e).2;rw[z,i]at this;cases this
 have C:s.heap.BuiltinsAt X.mg P:=⟨bm,ob,b1,b2,b3,S _ _ R,I.bk _ _ R,b5,b6,b7⟩
 have U:s.heap.Ns mainGlobals X.mg:=I.mod.glob.keeps I.bk;have M:mainGlobals≠P:=by obtain⟨o,es,Y,e,_⟩:=I.mod.glob;exact S _ _ e
 have Z:=T.hd.keeps I.bk;have fin:∀{H1:Hp} {h1:Heap} {tk:Nat} {o:Obj},Inv X pins σ H1 { s with heap:=h1,toks:=tk }->o.isFreed=false->Inv X pins σ (upd H1 h1.objs.size (.frz o (.own h1.objs.size))) { s with heap:=h1.push o,toks:=tk }:=λ{H1 h1 tk o} J j =>
  J.laid (h':=h1.push o) (t':=tk) (λb u q=>N1 _ q) (N7 _) ⟨Np _ j,o,Np _ j⟩
 refine PySem.W.kla_eval A ?_;cases hf:codeAmong pos ps.toList with
 |some N =>
  obtain⟨c',o,vs,t,rfl,D,d1,d2⟩:=hc pos N hf;refine PySem.W.kla_makeFunctionHit (mg:=X.mg) x I.ok.glob U T.code Z B L hf C λf h' tk hk hsz=>?_
  have n:H h'.objs.size=none:=I.hok.fresh hsz;exact⟨.ref _,_,fin (I.kept (h':=h') (t':=tk) hk) rfl,rfl,h _ c' f _ n aE (g9 n) ⟨o,vs,t,by rw[az (aJ D n)];exact D,d1,d2⟩⟩
 |none =>
  refine PySem.W.kla_makeFunction (mg:=X.mg) x I.ok.glob U T.code Z B L hf M C λc' f h' tk E l O F G=>?_
  obtain⟨c₂,oc,vs,t,e2,K,hd,hv⟩:=F;cases e2;have hn:H c'=none:=I.hok.fresh l;have cP:c'≠P:=λz=>by rw[z,i]at hn;cases hn
  have a:∀b u,H b=some u->b≠c':=λb u e z=>by rw[z,hn]at e;cases e
  have J:Inv X pins σ (upd H c' (.frz oc (.own c'))) { s with heap:=h',toks:=tk }:=by
   refine I.step (g':=s.gens) (d':=s.drawn) (ch:=[]) (λ_ z=>nomatch z) (λb o _ _ _ e n=>?_) (λb o _ _ _ e n=>⟨o.slots,?_⟩) (λb o _ e n=>?_) (λb o _ e=>?_) (λb xs e=>?_) (λb o u e=>?_) (λb qs e=>?_) (λm hm=>?_) (λb u e=>?_) I.bare
   ·exact E b o (λz=>by rw[z,i]at n;cases n) e
   ·exact E b o (λz=>by rw[z,i]at n;cases n) e
   ·rw[az (Nq (Nt (Nk e) l))];exact n
   ·by_cases z:b=P
    ·subst z;exact⟨_,G⟩
    ·exact⟨o,E b o z e⟩
   ·rw[az (a b _ e)];exact e
   ·rw[az (a b _ e)];exact e
   ·rw[az (a b _ e)];exact e
   ·obtain⟨o,es,Y,ho,r⟩:=hm;refine⟨o,es,Y,E _ o (λz=>?_) ho,r⟩;have:=I.free;rw[z,i]at this;cases this
   ·by_cases z:b=c'
    ·subst z;rw[aE]at e;cases e;exact⟨K,oc,K⟩
    ·rw[az z]at e;by_cases y:b=P
     ·subst y;rw[i]at e;cases e;refine⟨ps++#[rawInt pos.line,rawInt pos.col,.ref c'],G,?_,λpos' N e=>?_⟩
      ·rw[Array.toList_append];exact lM L
      ·rw[Array.toList_append]at e;rcases qf L e with e|rfl
       ·obtain⟨c2,o,vs,t,rfl,q,d⟩:=hc pos' N e;exact⟨c2,o,vs,t,rfl,by rw[az (a _ _ q)];exact q,d⟩
       ·exact⟨c',oc,vs,t,rfl,aE,hd,hv⟩
     ·refine (I.hok b u e).stay (λp v w q=>E p v (λy'=>?_) q) (λp q=>?_) (λp xs q=>?_) λp o' u' q=>?_
      ·subst y';rcases w with w|w
       ·exact y w.symm
       ·rw[i]at w;cases w
      ·rw[az (a p _ q)];exact q
      ·rw[az (a p _ q)];exact q
      ·rw[az (a p _ q)];exact q
  have n:upd H c' (.frz oc (.own c')) h'.objs.size=none:=J.hok.fresh (N7 _);have n0:H h'.objs.size=none:=I.hok.fresh (O4 l (Po O));exact⟨.ref _,_,fin J rfl,rfl,h _ c' f _ n0 aE ((g9 hn).trans (g9 n)) ⟨oc,vs,t,by rw[az (aJ aE n)];exact aE,hd,hv⟩⟩
abbrev Cx.in1 (X:Cx):Cx:={ X with A:=X.A.in1 }
section
theorem Inv.in1 (I:Inv X pins σ H s):Inv X.in1 pins σ H s :=
 ⟨⟨I.ok.mod,I.ok.kind,I.ok.glob,I.ok.blt,I.ok.above,I.ok.inj,I.ok.has,I.ok.cab,I.ok.hd,I.ok.frames,I.ok.stk,I.ok.exf,I.ok.bs,I.ok.bsz,I.ok.noex,I.ok.exfs,I.ok.funs,I.ok.frf⟩,I.os,I.bare,I.base,I.loc,I.cell,I.free,I.freeC,I.pin,I.hok,I.len,I.tab⟩
theorem Inv.of1 (I:Inv X.in1 pins σ H s):Inv X pins σ H s :=
 ⟨⟨I.ok.mod,I.ok.kind,I.ok.glob,I.ok.blt,I.ok.above,I.ok.inj,I.ok.has,I.ok.cab,I.ok.hd,I.ok.frames,I.ok.stk,I.ok.exf,I.ok.bs,I.ok.bsz,I.ok.noex,I.ok.exfs,I.ok.funs,I.ok.frf⟩,I.os,I.bare,I.base,I.loc,I.cell,I.free,I.freeC,I.pin,I.hok,I.len,I.tab⟩
end
def bst (lt:Nat->Nat->Bool):Nat->Nat
 |0=>0
 |j+1=>if lt (j+1) (bst lt j) then j+1 else bst lt j
theorem uV (lt:Nat->Nat->Bool):∀j,bst lt j<=j
 |0=>N7 _
 |j+1=>by
  unfold bst;split
  ·exact N7 _
  ·exact Nat.le_succ_of_le (uV lt j)
structure lY (X:Cx) (σ:St) (pins:List (Addr×Obj)) (q l:Addr) (xs:List V) (Φ:Hp->Prop) (κ:Nat->V->Hp->Prop) (lt:Nat->Nat->Bool):Prop where
 lst:∀H,Φ H->H l=some (.lst xs)
 turn:∀(i:Nat) (x:V),xs[i]?=some x->∀(pins':List (Addr×Obj)) (H:Hp) (s:Shared) (u:Value),(∀p∈pins,p∈pins')->Inv X.in1 pins' σ H s->Φ H->RelV x u ->
  wpAny (model X.prog X.w) X.A.in1 (call (.ref q) [u]) (EP X.in1 pins' σ λv H'=>Φ H'/\κ i v H'/\∀j v',κ j v' H->κ j v' H') (λ_ _=>False) s
 cmp:∀(i j:Nat) (x y:V) (pins':List (Addr×Obj)) (H:Hp) (s:Shared) (u v:Value),Inv X.in1 pins' σ H s->Φ H->κ i x H->κ j y H->RelV x u->RelV y v ->
  wpAny (model X.prog X.w) X.A.in1 (richCompare .Lt u v) (λr s'=>r=.bool (lt i j)/\Inv X.in1 pins' σ H s') (λ_ _=>False) s
section
variable {q l:Addr} {xs:List V} {Φ:Hp->Prop} {lt:Nat->Nat->Bool} {R:Result->Shared->Prop}
theorem Inv.turnPin {ps:List (Addr×Obj)} {o o':Obj} {t':Nat} (I:Inv X ((it,o)::ps) σ H s) (k:∀b u,b≠it->s.heap.get? b=some u->h'.get? b=some u) (f:h'.get? it=some o')
  (h1:X.s₀.heap.objs.size<=it) (g:∀p∈X.pn++ps,p.1≠it) (hc:∀v,o'.data≠.cell v):Inv X ((it,o')::ps) σ H { s with heap:=h',toks:=t' }:=by
 obtain⟨e,n,ne,h,d⟩:=I.pin (it,o) (N8 _ (.head _));have i:Inv X ps σ H s:=I.pins_of λp a=>I.pin p (N8 _ (.tail _ a))
 have J:Inv X ps σ H { s with heap:=h',toks:=t' }:=i.turned k n ne (.inr h1) (λx c hl z=>by obtain⟨v,o2,e2,d2⟩:=I.cell x c hl;subst z;rw[e]at e2;cases e2;exact d v d2) g
 refine J.pins_of λp a=>?_
 rcases N5.mp a with rfl|a
 ·exact⟨f,n,ne,h,hc⟩
 ·exact J.pin p (N8 _ a)
theorem Inv.swap {ps:List (Addr×Obj)} {a b:Addr×Obj} (I:Inv X (a::b::ps) σ H s):Inv X (b::a::ps) σ H s:=I.pins_of λp c=>I.pin p (N8 _ (by
 rcases N5.mp c with rfl|c
 ·exact .tail _ (.head _)
 ·rcases N5.mp c with rfl|c
  ·exact .head _
  ·exact .tail _ (.tail _ c)))
theorem Ia (KK:lY X σ pins q l xs Φ κ lt) (hh:X.A.handled=none)
  (hR:∀H' s' x u,xs[bst lt (xs.length-1)]?=some x->RelV x u->Inv X pins σ H' s'->Φ H'->R (.ok (.ret u)) s') :
  ∀(r j:Nat) (H:Hp) (s:Shared) (h g:Value) (xb kb:V) (c:Nat) (It S:Addr) (G:Obj),xs.length-(j+1)=r->j+1<=xs.length->X.s₀.heap.objs.size<=It->X.s₀.heap.objs.size<=S->S≠It ->
   (∀p∈X.pn++pins,p.1≠It)->(∀p∈X.pn++pins,p.1≠S) ->
   Inv X.in1 ((S,seqObj "list" #[h,g] c)::(It,G)::pins) σ H s->G.cls=.type "list_iterator"->G.data=.fields #[.ref l,.int ((j+1:Nat):Int) 0]->Φ H->xs[bst lt j]?=some xb->RelV xb h->κ (bst lt j) kb H->RelV kb g ->
   codeAny (model X.prog X.w) X.A (.builtin "min.loop" ⟨[.ref It,.ref q,.ref S],[]⟩) R s:=by
 have B:(toString "min"++toString ".loop":String)="min.loop":=by decide
 intro r
 induction r with
 |zero =>
  intro j H s h g xb kb c It S G hr hj zI zS i O nS I P Q C hb rb T rk;have hin:j+1=xs.length:=by omega
  have pS:=I.pin (S,seqObj "list" #[h,g] c) (N8 _ (.head _));have K:=I.pin (It,G) (N8 _ (.tail _ (.head _)));have hl:=KK.lst H C;obtain⟨m,n,rv,eL,_⟩:=I.lst hl;have U:l≠It:=aJ hl K.2.1;have hsz:m.toArray.size=xs.length:=by rw[Nm,<-rv.length]
  have W:=Walks.list (prog:=X.prog) (w:=X.w) (A:=X.A.in1) hh It l U m.toArray;refine codeAny_builtin PySem.F.entry_min_loop ?_;rw[Around.under_plainId PySem.F.plain_min_loop _];show wpAny _ X.A.in1 (seqItems? (.ref S) >>= _) _ _ _;refine wpAny_bind (wpAny_seqItems pS.1 rfl ?_);show wpAny _ X.A.in1 (tryCatch (pyNext (.ref It)) _ >>= _) _ _ _;refine wpAny_bind (wpAny_tryCatch (W.done _ _ _ ⟨by rw[hsz,<-hin];exact⟨G,K.1,P,Q⟩,⟨_,eL,rfl,n,rfl⟩⟩ λh' y Y=>?_));have I1:Inv X.in1 ((S,seqObj "list" #[h,g] c)::pins) σ H { s with heap:=h',toks:=y }:=by
   have I0:Inv X.in1 ((S,seqObj "list" #[h,g] c)::pins) σ H s:=I.pins_of λp a=>I.pin p (N8 _ (by
    rcases N5.mp a with rfl|a
    ·exact .head _
    ·exact .tail _ (.tail _ a)))
   refine I0.turned (λb o Z e=>Y b o (by simpa using Z) e) K.2.1 K.2.2.1 (.inr zI) (λx cc hcl z=>?_) λp a=>?_
   ·obtain⟨v,o2,e2,d2⟩:=I.cell x cc hcl;subst z;rw[K.1]at e2;cases e2;exact K.2.2.2.2 v d2
   ·rcases NI.mp a with a|a
    ·exact O p (NR _ a)
    ·rcases N5.mp a with rfl|a
     ·exact i
     ·exact O p (N8 _ a)
  have D:=I1.pin (S,seqObj "list" #[h,g] c) (N8 _ (.head _));have s1:=Heap.SameBut.update h' S (Obj.mapSeq λ_=>(#[]:Array Value));show wpAny _ X.A.in1 (updateSeq S (λ_=>#[]) >>= _) _ _ _;refine wpAny_bind ?_;refine wpAny_updateSeq D.1 rfl (wpAny_bind (wpAny_letGo (wpAny_pure ?_)));have I2:Inv X.in1 pins σ H { s with heap:=h'.update S (Obj.mapSeq λ_=>(#[]:Array Value)),toks:=y }:=by
   have I0:Inv X.in1 pins σ H { s with heap:=h',toks:=y }:=I1.pins_of λp a=>I1.pin p (N8 _ (.tail _ a))
   refine I0.turned (h':=h'.update S (Obj.mapSeq λ_=>(#[]:Array Value))) (t':=y) (λb o Z e=>(s1.2 b Z).trans e) D.2.1 D.2.2.1 (.inr zS) (λx cc hcl z=>?_) nS;obtain⟨v,o2,e2,d2⟩:=I1.cell x cc hcl;subst z;rw[D.1]at e2;cases e2;exact D.2.2.2.2 v d2
  exact hR H _ xb h (by rw[<-hin];exact hb) rb I2.of1 C
 |succ r ih =>
  intro j H s h g xb kb c It S G hr hj zI zS i O nS I P Q C hb rb T rk;have L:j+1<xs.length:=by omega
  have pS:=I.pin (S,seqObj "list" #[h,g] c) (N8 _ (.head _));have K:=I.pin (It,G) (N8 _ (.tail _ (.head _)));have hl:=KK.lst H C;obtain⟨m,n,rv,eL,_⟩:=I.lst hl;have U:l≠It:=aJ hl K.2.1;have hsz:m.toArray.size=xs.length:=by rw[Nm,<-rv.length]
  have W:=Walks.list (prog:=X.prog) (w:=X.w) (A:=X.A.in1) hh It l U m.toArray;refine codeAny_builtin PySem.F.entry_min_loop ?_;rw[Around.under_plainId PySem.F.plain_min_loop _];show wpAny _ X.A.in1 (seqItems? (.ref S) >>= _) _ _ _;refine wpAny_bind (wpAny_seqItems pS.1 rfl ?_);show wpAny _ X.A.in1 (tryCatch (pyNext (.ref It)) _ >>= _) _ _ _;refine wpAny_bind (wpAny_tryCatch (W.item (j+1) _ _ _ (by rw[hsz];exact L) ⟨⟨G,K.1,P,Q⟩,⟨_,eL,rfl,n,rfl⟩⟩ λv h' y hP hst' Y=>?_));have hv:m[j+1]?=some v:=by simpa using hP
  obtain⟨x,hx⟩:∃x,xs[j+1]?=some x:=⟨_,My L⟩
  obtain⟨v',hv',rx⟩:=rv.get hx;rw[hv]at hv';cases hv';obtain⟨M,hoI',hoc,hod⟩:=id hst'.1;have J:Inv X.in1 ((It,M)::(S,seqObj "list" #[h,g] c)::pins) σ H { s with heap:=h',toks:=y } :=
   I.swap.turnPin (λb o Z e=>Y b o (by simpa using Z) e) hoI' zI (λp a=>by
    rcases NI.mp a with a|a
    ·exact O p (NR _ a)
    ·rcases N5.mp a with rfl|a
     ·exact i
     ·exact O p (N8 _ a)) λvv z=>by rw[hod]at z;cases z
  show wpAny _ X.A.in1 (tryCatch (holding [v] (call (.ref q) [v])) _ >>= _) _ _ _;refine wpAny_bind (wpAny_tryCatch (wpAny_holding (wpAny_mono (KK.turn (j+1) x hx _ H _ v (λp a=>.tail _ (.tail _ a)) J C rx) (λf s2 he=>?_) λ_ _ hF=>hF.elim)));obtain⟨kv,H2,J2,rk2,E,N,hst⟩:=he;show wpAny _ X.A.in1 (tryCatch (holding [v,f] (richCompare .Lt f g >>= _)) _ >>= _) _ _ _;refine wpAny_bind (wpAny_tryCatch (wpAny_holding (wpAny_bind (wpAny_mono (KK.cmp (j+1) (bst lt j) kv kb _ H2 s2 f g J2 E N (hst _ _ T) rk2 rk) (λrr s3 hc3=>?_) λ_ _ hF=>hF.elim))));obtain⟨rfl,J3⟩:=hc3;refine wpAny_bind (wpAny_holding (wpAny_truthy_bool ?_));refine wpAny_bind (wpAny_letGo (wpAny_pure ?_));have pS3:=J3.pin (S,seqObj "list" #[h,g] c) (N8 _ (.tail _ (.head _)));cases hb':lt (j+1) (bst lt j) with
  |true =>
   have s1:=Heap.SameBut.update s3.heap S (Obj.mapSeq λ_=>#[v,f]);obtain⟨c2,hc2⟩:∃c2,(s3.heap.update S (Obj.mapSeq λ_=>#[v,f])).get? S=some (seqObj "list" #[v,f] c2):=⟨_,get?_update_seq pS3.1 λ_=>#[v,f]⟩
   simp only[if_true];refine wpAny_bind ?_;refine wpAny_updateSeq pS3.1 rfl (wpAny_bind (wpAny_letGo ?_));rw[B];have J4:Inv X.in1 ((S,seqObj "list" #[v,f] c2)::(It,M)::pins) σ H2 { s3 with heap:=s3.heap.update S (Obj.mapSeq λ_=>#[v,f]),toks:=s3.toks } :=
    J3.swap.turnPin (λb o Z e=>(s1.2 b Z).trans e) hc2 zS (λp a=>by
     rcases NI.mp a with a|a
     ·exact nS p (NR _ a)
     ·rcases N5.mp a with rfl|a
      ·exact i.symm
      ·exact nS p (N8 _ a)) λvv z=>by cases z
   have eb:bst lt (j+1)=j+1:=by unfold bst;rw[if_pos hb']
   exact wpAny_pure ⟨plainId_quiet PySem.F.plain_min_loop _,ih (j+1) H2 _ v f x kv c2 It S M (by omega) L zI zS i O nS J4 hoc hod E (by rw[eb];exact hx) rx (by rw[eb];exact N) rk2⟩
  |false =>
   simp only[NC,if_false];refine wpAny_bind (wpAny_letGo ?_);rw[B];have eb:bst lt (j+1)=bst lt j:=by rw[bst,if_neg (by rw[hb'];decide)]
   exact wpAny_pure ⟨plainId_quiet PySem.F.plain_min_loop _,ih (j+1) H2 _ h g xb kb c It S M (by omega) L zI zS i O nS J3.swap hoc hod E (by rw[eb];exact hb) rb (by rw[eb];exact hst _ _ T) rk⟩
theorem JP (KK:lY X σ pins q l xs Φ κ lt) (hh:X.A.handled=none) (I:Inv X pins σ H s) (y:Φ H) (h:0<xs.length)
  (hQ:∀H' s' x u,xs[bst lt (xs.length-1)]?=some x->RelV x u->Inv X pins σ H' s'->Φ H'->Q u s') :
  wpAny (model X.prog X.w) X.A (call (.builtin "min") [.ref l] [(Str.ofString "key",.ref q)]) Q E s:=by
 have f:(toString "min"++toString ".loop":String)="min.loop":=by decide
 have hl:=KK.lst H y;obtain⟨g,n,rv,P,_⟩:=I.lst hl;have R:s.heap.IsList l g.toArray:=⟨_,P,rfl,n,rfl⟩
 refine kmk_tree PySem.F.kind_min PySem.F.plain_min PySem.F.entry_min (kmk_min_key _ _) ?_;show wpAny _ X.A.in1 (Builtin.Builtins.bindParams "min" ["key", "default"] 0 ⟨[],[(Str.ofString "key",.ref q)]⟩ >>= _) _ _ s;refine wpAny_bind (wpAny_of_eq (show Builtin.Builtins.bindParams "min" ["key", "default"] 0 ⟨[],[(Str.ofString "key",.ref q)]⟩=pure [some (.ref q),none] from rfl) ?_);refine wpAny_bind (wpAny_pure ?_);refine wpAny_bind (wpAny_pyIter_list R ?_);refine wpAny_bind (wpAny_newList ?_ (NY _));rw[f];have T:(s.heap.push { cls:=.type "list_iterator",data:=.fields #[.ref l,.int 0 0] }).objs.size=s.heap.objs.size+1:=size_push' ..;have U:l<s.heap.objs.size:=Nk P;have Y:l≠s.heap.objs.size:=Nq U;have i:(s.heap.push { cls:=.type "list_iterator",data:=.fields #[.ref l,.int 0 0] }).objs.size≠s.heap.objs.size:=by rw[T];exact O9 (Ov _)
 have Z:∀p∈X.pn++pins,p.1≠s.heap.objs.size:=λp a=>Nq (Nk (I.pin p a).1)
 have nS:∀p∈X.pn++pins,p.1≠(s.heap.push { cls:=.type "list_iterator",data:=.fields #[.ref l,.int 0 0] }).objs.size:=λp a=>by rw[T];exact Nq (O7 (Nk (I.pin p a).1))
 refine wpAny_pure ⟨plainId_quiet PySem.F.plain_min_loop _,?_⟩;have gI:((s.heap.push { cls:=.type "list_iterator",data:=.fields #[.ref l,.int 0 0] }).push (seqObj "list" #[] 0)).get? s.heap.objs.size=some { cls:=.type "list_iterator",data:=.fields #[.ref l,.int 0 0] } :=
  N1 _ (Np _ rfl)
 have gS:((s.heap.push { cls:=.type "list_iterator",data:=.fields #[.ref l,.int 0 0] }).push (seqObj "list" #[] 0)).get? (s.heap.push { cls:=.type "list_iterator",data:=.fields #[.ref l,.int 0 0] }).objs.size=some (seqObj "list" #[] 0):=Np _ rfl;have zI:X.s₀.heap.objs.size<=s.heap.objs.size:=I.sz;have zS:X.s₀.heap.objs.size<=(s.heap.push { cls:=.type "list_iterator",data:=.fields #[.ref l,.int 0 0] }).objs.size:=by rw[T];exact Nat.le_succ_of_le zI
 generalize eSa:(s.heap.push { cls:=.type "list_iterator",data:=.fields #[.ref l,.int 0 0] }).objs.size=S at *;generalize eIa:s.heap.objs.size=It at *;have I0:Inv X.in1 pins σ H { s with heap:=(s.heap.push { cls:=.type "list_iterator",data:=.fields #[.ref l,.int 0 0] }).push (seqObj "list" #[] 0),toks:=s.toks }:=I.in1.kept λb u e=>N1 _ (N1 _ e)
 have j:s.heap.objs.size<=It:=Nat.le_of_eq eIa;have m:s.heap.objs.size<=S:=by omega
 have I1:Inv X.in1 ((S,seqObj "list" #[] 0)::(It,{ cls:=.type "list_iterator",data:=.fields #[.ref l,.int 0 0] })::pins) σ H { s with heap:=(s.heap.push { cls:=.type "list_iterator",data:=.fields #[.ref l,.int 0 0] }).push (seqObj "list" #[] 0),toks:=s.toks }:=by
  refine I0.pins_of λp a=>?_
  rcases N5.mp a with rfl|a
  ·exact⟨gS,I.hok.fresh m,O9 (Nt I.lt m),I.nofs m,λv z=>by cases z⟩
  ·rcases N5.mp a with rfl|a
   ·exact⟨gI,I.hok.fresh j,O9 (Nt I.lt j),I.nofs j,λv z=>by cases z⟩
   ·exact I0.pin p (N8 _ a)
 have hsz:g.toArray.size=xs.length:=by rw[Nm,<-rv.length]
 have W:=Walks.list (prog:=X.prog) (w:=X.w) (A:=X.A.in1) hh It l Y g.toArray;refine codeAny_builtin PySem.F.entry_min_loop ?_;rw[Around.under_plainId PySem.F.plain_min_loop _];show wpAny _ X.A.in1 (seqItems? (.ref _) >>= _) _ _ _;refine wpAny_bind (wpAny_seqItems gS rfl ?_);show wpAny _ X.A.in1 (tryCatch (pyNext (.ref It)) _ >>= _) _ _ _;refine wpAny_bind (wpAny_tryCatch (W.item 0 _ _ _ (by rw[hsz];exact h) ⟨⟨_,gI,rfl,rfl⟩,⟨_,N1 _ (N1 _ P),rfl,n,rfl⟩⟩ λv h' tk' hP B hk'=>?_));have hv:g[0]?=some v:=by simpa using hP
 obtain⟨x,C⟩:∃x,xs[0]?=some x:=⟨_,My h⟩
 obtain⟨v',D,rx⟩:=rv.get C;rw[hv]at D;cases D;obtain⟨r,G,hoc,K⟩:=id B.1;have J:Inv X.in1 ((It,r)::(S,seqObj "list" #[] 0)::pins) σ H { s with heap:=h',toks:=tk' } :=
  I1.swap.turnPin (λb o nb e=>hk' b o (by simpa using nb) e) G zI (λp a=>by
   rcases NI.mp a with a|a
   ·exact Z p (NR _ a)
   ·rcases N5.mp a with rfl|a
    ·exact i
    ·exact Z p (N8 _ a)) λvv z=>by rw[K]at z;cases z
 show wpAny _ X.A.in1 (tryCatch (holding [v] (call (.ref q) [v])) _ >>= _) _ _ _;refine wpAny_bind (wpAny_tryCatch (wpAny_holding (wpAny_mono (KK.turn 0 x C _ H _ v (λp a=>.tail _ (.tail _ a)) J y rx) (λc s2 he=>?_) λ_ _ hF=>hF.elim)));obtain⟨kv,H2,J2,rk2,L,M,_⟩:=he;have N:=J2.pin (S,seqObj "list" #[] 0) (N8 _ (.tail _ (.head _)));have s1:=Heap.SameBut.update s2.heap S (Obj.mapSeq λ_=>#[v,c]);obtain⟨O,hc2⟩:∃O,(s2.heap.update S (Obj.mapSeq λ_=>#[v,c])).get? S=some (seqObj "list" #[v,c] O):=⟨_,get?_update_seq N.1 λ_=>#[v,c]⟩
 show wpAny _ X.A.in1 (updateSeq S (λ_=>#[v,c]) >>= _) _ _ _;refine wpAny_bind ?_;refine wpAny_updateSeq N.1 rfl ?_;rw[f];have J4:Inv X.in1 ((S,seqObj "list" #[v,c] O)::(It,r)::pins) σ H2 { s2 with heap:=s2.heap.update S (Obj.mapSeq λ_=>#[v,c]),toks:=s2.toks } :=
  J2.swap.turnPin (λb o nb e=>(s1.2 b nb).trans e) hc2 zS (λp a=>by
   rcases NI.mp a with a|a
   ·exact nS p (NR _ a)
   ·rcases N5.mp a with rfl|a
    ·exact i.symm
    ·exact nS p (N8 _ a)) λvv z=>by cases z
 exact wpAny_pure ⟨plainId_quiet PySem.F.plain_min_loop _,Ia KK hh (λH' s' x u C ru J a=>hQ H' s' x u C ru J a) _ 0 H2 _ v c x kv O It S r rfl h zI zS i Z nS J4 hoc K L C rx M rk2⟩
end
theorem lY.more {q l:Addr} {xs:List V} {Φ:Hp->Prop} {lt:Nat->Nat->Bool} (K:lY X σ [] q l xs Φ κ lt):lY X σ pins q l xs Φ κ lt :=
 ⟨K.lst,λi x a pins' H s u _=>K.turn i x a pins' H s u (λ_ h=>nomatch h),K.cmp⟩
def HX (X:Cx) (ta tb:TE):TE:=λσ H Q=>ta σ H λx H1=>tb σ H1 λy H2=>∃(l q:Addr) (xs:List V) (Φ:Hp->Prop) (κ:Nat->V->Hp->Prop) (lt:Nat->Nat->Bool),x=.ref l/\y=.ref q/\0<xs.length/\Φ H2/\lY X σ [] q l xs Φ κ lt /\
 ∀a v,Φ a->xs[bst lt (xs.length-1)]?=some v->Q v a
section
variable {a b:Expr} {ta tb:TE}
theorem Bh (hc:X.calm=true) (hm:X.mg "min"=none) (ha:PE X a ta) (j:PE X b tb) (m:Gl X "min":=by rfl) (f:starEach [a] X.env=[(false,eval a X.env)]:=by rfl) (wk:∀{σ H} {Q c:VK},ta σ H Q->(∀x H,Q x H->c x H)->ta σ H c) (g:∀{σ H} {Q c:VK},tb σ H Q->(∀x H,Q x H->c x H)->tb σ H c) :
  PE X (.Call (.Name "min" p) [a] [⟨some "key",b,kp⟩] pos) (HX X ta tb):=by
 intro pins s σ H Q I h;refine wpAny_Call_Name_kw (fY I m hm Hq ?_ (by decide) (by decide));refine callWith_kw ?_ (by rw[f];rfl) (by rw[f];rfl) rfl rfl;refine thn ((eB ha fV f) pos pins s σ H (λvs H1=>∃x,vs=[x]/\tb σ H1 λy H2=>∃(l q:Addr) (xs:List V) (Φ:Hp->Prop) (κ:Nat->V->Hp->Prop) (lt:Nat->Nat->Bool),x=.ref l/\y=.ref q/\0<xs.length/\Φ H2/\lY X σ [] q l xs Φ κ lt /\
   ∀e v,Φ e->xs[bst lt (xs.length-1)]?=some v->Q v e) I
  (wk h λx H1 q=>⟨x,rfl,q⟩)) λus s1 ⟨vs,H1,I1,r1,x,q0,q1⟩=>?_
 subst q0;obtain⟨u,rfl,i⟩:=vals1 r1;refine thn ((AI j EM) pos pins s1 σ H1 (λvs H2=>∃y,vs=[y]/\∃(l q:Addr) (xs:List V) (Φ:Hp->Prop) (κ:Nat->V->Hp->Prop) (lt:Nat->Nat->Bool),x=.ref l/\y=.ref q/\0<xs.length/\Φ H2/\lY X σ [] q l xs Φ κ lt /\
   ∀e v,Φ e->xs[bst lt (xs.length-1)]?=some v->Q v e) I1
  (g q1 λy H2 q=>⟨y,rfl,q⟩)) λws s2 ⟨zs,H2,I2,r2,y,q2,l,q,xs,Φ,κ,lt,ex,ey,hn,hΦ,KK,hQ⟩=>?_
 subst q2;obtain⟨v,rfl,n⟩:=vals1 r2;subst ex ey;obtain rfl:u=Value.ref l:=i;obtain rfl:v=Value.ref q:=n;exact JP KK.more (I2.ok.hd hc) I2 hΦ hn λH' s' x u o i J r=>⟨x,H',J,i,hQ H' x r o⟩
theorem Ct {q l c':Addr} {xs:List V} {Φ:Hp->Prop} {lt:Nat->Nat->Bool} {k:Nat} {p:Str} {n:Value} {t:TE}
  (S:mj N [p] scope) (T:cg (k+2) X.A) (f:∀x c,cl.lookup x=some c->X.env.cells.lookup x=some c) (has:∀x,scope.names.lookup x=some .free->∃c,cl.lookup x=some c) (U:N.length=1+cap.length)
  (B:∀(i m:Nat) (x:Str),N[1+i]?=some x->cap[i]?=some m->X.N[m]?=some x/\scope.names.lookup x=some .free/\(X.env.kindOf x=some .cell\/X.env.kindOf x=some .free)/\Vis X.env.scope x)
  (Y:∀u,bindArgs (PySem.W.kla_fn "<lambda>" qual params body scope cl pm (.ref c') n) ⟨[u],[]⟩=pure ([p].zip [u]))
  (D:∀H,Φ H->H l=some (.lst xs)) (L:∀H,Φ H->H q=some (.frz (PySem.W.kla_obj "<lambda>" qual params body scope cl pm c' n) (.own q))/\∃o vs t,H c'=some (.frz o (.own c'))/\o.data=.fields vs/\vs[1]?=some (.str qual t))
  (g:∀(s:Shared) (H:Hp),PE (sW (CXW X.prog X.w) X.prog X.w X.K X.mg X.base N qual scope q (.ref c') cl X.A.in1 X.stack s H E0) body t)
  (turn:∀(i:Nat) (x:V) (H:Hp),xs[i]?=some x->Φ H->t (some x::cap.map λm=>(σ[m]?).join) H λv H'=>Φ H'/\κ i v H'/\∀j O,κ j O H->κ j O H')
  (cmp:∀(i j:Nat) (x y:V) (pins':List (Addr×Obj)) (H:Hp) (s:Shared) (u v:Value),Inv X.in1 pins' σ H s->Φ H->κ i x H->κ j y H->RelV x u->RelV y v ->
   wpAny (model X.prog X.w) X.A.in1 (richCompare .Lt u v) (λr s'=>r=.bool (lt i j)/\Inv X.in1 pins' σ H s') (λ_ _=>False) s):lY X σ [] q l xs Φ κ lt:=by
 refine⟨D,λi x Z pins' H s u _ I F ru=>?_,cmp⟩;obtain⟨h,oc,vs,tt,h1,h2,h3⟩:=L H F;have C:J7 s H cl scope N [p].length (cap.map λm=>(σ[m]?).join):=by
  refine⟨λa b c e1 e2=>I.ok.inj a b c (f a c e1) (f b c e2),has,λa c e=>I.cell a c (f a c e),λa c e=>I.freeC a c (f a c e),by rw[N4];exact U,λj y v e1 e2=>?_⟩;rw[Nx]at e2;cases hm:cap[j]? with
  |none=>rw[hm]at e2;cases e2
  |some m =>
   rw[hm]at e2;have G:(σ[m]?).join=some v:=by simpa using e2
   obtain⟨hX,P,J,hv⟩:=B j m y e1 hm;have e4:σ[m]?=some (some v):=by
    cases z:σ[m]? with
    |none=>rw[z]at G;cases G
    |some w=>rw[z]at G;cases w with
     |none=>cases G
     |some w=>cases G;rfl
   obtain⟨mm,hn,hl⟩:=I.loc;obtain⟨u,rv,lk⟩:=hl m y v hX e4 hv;rcases lk with⟨z,_⟩|⟨_,c,M,e6⟩
   ·have z:X.env.kindOf y=some .local:=z;rcases J with J|J <;> (rw[z]at J;cases J)
   ·obtain⟨c2,Q⟩:=has y P;have R:=f y c2 Q;have M:X.env.cells.lookup y=some c:=M;rw[M]at R;cases R;exact⟨u,c,rv,P,Q,e6⟩
 refine wpAny_call (codeAny_mono (G9 (CX:=CXW X.prog X.w) (E:=E0) S T.in1 I.env0 rfl (.cons ru .nil) C (I.hok q _ h).1 ⟨c',oc,vs,tt,rfl,(I.hok c' _ h1).1,h2,h3⟩ (Y u) (g s H) (turn i x H Z F)) λr s' h=>?_);cases r with
 |error e=>obtain⟨_,_,_,_,_,_,z,_⟩:=h;exact z.elim
 |ok fl =>
  cases fl with
  |ret u=>exact I.after h
  |next=>exact False.elim h
  |brk=>exact False.elim h
  |cont=>exact False.elim h
end
def intsOf:List PyData->Option (List Int)
 |[]=>some []
 |.int a::r=>(intsOf r).map (a::·)
 |_::_=>none
def kP:PyData->Option (Bool×List Int)
 |.int a=>some (false,[a])
 |.tuple ds=>(intsOf ds).map λl=>(true,l)
 |_=>none
def ltD (a b:PyData):Bool:=match kP a,kP b with
 |some (_,l),some (_,m)=>HT.lexLt l m
 |_,_=>false
def keysOk (ks:List PyData):Bool:=ks.all (λk=>match kP k with|some (false,_)=>true|_=>false)||ks.all λk=>match kP k with|some (true,_)=>true|_=>false
def allR (g:PyData->Rs PyData):List PyData->Rs (List PyData)
 |[]=>.ok []
 |d::r=>(g d).bind λk=>(allR g r).bind λks=>.ok (k::ks)
theorem xK {g:PyData->Rs PyData}:∀{ds ks:List PyData},allR g ds=.ok ks->ks.length=ds.length/\∀(i:Nat) (d:PyData),ds[i]?=some d->∃k,ks[i]?=some k/\g d=.ok k
 |[],ks,h=>by cases h;exact⟨rfl,λi d e=>by simp at e⟩
 |d::r,ks,h=>by
  unfold allR at h;cases e1:g d with
  |rz _=>rw[e1]at h;cases h
  |no=>rw[e1]at h;cases h
  |ok k =>
   rw[e1]at h;cases e2:allR g r with
   |rz _=>rw[Rs.ag,e2]at h;cases h
   |no=>rw[Rs.ag,e2]at h;cases h
   |ok t =>
    rw[Rs.ag,e2]at h;cases h;obtain⟨hl,a⟩:=xK e2;refine⟨by simp[hl],λi d' e=>?_⟩;cases i with
    |zero=>simp at e;subst e;exact⟨k,rfl,e1⟩
    |succ i=>simpa using a i d' (by simpa using e)
def uU (cap:List Nat) (δ:Ds):Ds:=cap.map λm=>(δ[m]?).join
def okR:Rs (List PyData)->(List PyData->Rs PyData)->Rs PyData
 |.ok a,f=>f a
 |_,_=>.no
def jk (cap:List Nat) (ga gb:Ds->Rs PyData):Ds->Rs PyData:=λδ=>(ga δ).bind λd=>match d with
 |.list ds=>if 0<ds.length then okR (allR (λx=>gb (some x::uU cap δ)) ds) λks=>if keysOk ks then .eE (ds[bst (λi j=>ltD (ks.getD i .none) (ks.getD j .none)) (ds.length-1)]?) else .no else .no
 |_=>.no
theorem zR {d:PyData} {l:List Int} (e:kP d=some (false,l)) (h:Is K H d v):∃n,l=[n]/\v=.int n:=by
 unfold kP at e;split at e
 ·cases e;exact⟨_,rfl,h.ofInt⟩
 ·rename_i ds;cases q:intsOf ds with
  |none=>rw[q]at e;cases e
  |some l=>rw[q]at e;cases e
 ·cases e
theorem sI:∀{ds:List PyData} {l:List Int},intsOf ds=some l->ds=l.map PyData.int
 |[],l,e=>by cases e;rfl
 |d::r,l,e=>by
  cases d <;> first|(cases e;done)|skip
  rename_i a;unfold intsOf at e;cases q:intsOf r with
  |none=>rw[q]at e;cases e
  |some t=>rw[q]at e;cases e;rw[sI q];rfl
theorem xx {d:PyData} {l:List Int} (e:kP d=some (true,l)) (h:Is K H d v):∃a,v=.ref a/\H a=some (.tup (l.map V.int)):=by
 unfold kP at e;split at e
 ·cases e
 ·rename_i ds;cases q:intsOf ds with
  |none=>rw[q]at e;cases e
  |some l' =>rw[q]at e;cases e;obtain⟨a,xs,ev,c,b⟩:=h.ofTup;rw[sI q]at b;exact⟨a,ev,by rw[c,b.ofInts]⟩
 ·cases e
section
theorem Fu {ks:List PyData} (Q:X.A.in1.units<cLine) (g:keysOk ks=true) {x:V} {v:Value} {a b:PyData} (I:Inv X.in1 pins σ H s)
  (ea:ks[i]?=some a) (R:ks[j]?=some b) (G:Is X.K (del H A) a x) (L:Is X.K (del H A) b y) (M:RelV x u) (N:RelV y v) :
  wpAny (model X.prog X.w) X.A.in1 (richCompare .Lt u v) (λr s'=>r=.bool (ltD a b)/\Inv X.in1 pins σ H s') (λ_ _=>False) s:=by
 have J:=I.wish λ_ _=>False
 have O:a∈ks:=NV ea;have P:b∈ks:=NV R;unfold keysOk at g;rcases Bool.or_eq_true_iff.mp g with g|g
 ·have c:=Nr.mp g a O;have f:=Nr.mp g b P;cases ka:kP a with
  |none=>rw[ka]at c;cases c
  |some p=>obtain⟨o,la⟩:=p;cases o with
   |true=>rw[ka]at c;cases c
   |false=>cases kb:kP b with
    |none=>rw[kb]at f;cases f
    |some p=>obtain⟨B,l⟩:=p;cases B with
     |true=>rw[kb]at f;cases f
     |false =>
      obtain⟨n,rfl,rfl⟩:=zR ka G;obtain⟨m,rfl,rfl⟩:=zR kb L;have e:ltD a b=decide (n<m):=by
       unfold ltD;rw[ka,kb];show HT.lexLt [n] [m]=_;rw[HT.pU,HT.kH];by_cases z:n=m
       ·subst z;simp
       ·simp[z]
      rw[e];refine thn (D0 (X:=X.in1.wish λ_ _=>False) pins s σ H (.int n) (.int m) u v (λr H'=>r=.bl (decide (n<m))/\H'=H) J M N ⟨n,m,rfl,rfl,rfl,rfl⟩) λr s' h=>?_
      obtain⟨S,H',C,D,E,F⟩:=h;subst E F;exact⟨D,C.unwish⟩
 ·have c:=Nr.mp g a O;have f:=Nr.mp g b P;cases ka:kP a with
  |none=>rw[ka]at c;cases c
  |some p=>obtain⟨o,la⟩:=p;cases o with
   |false=>rw[ka]at c;cases c
   |true=>cases kb:kP b with
    |none=>rw[kb]at f;cases f
    |some p=>obtain⟨B,l⟩:=p;cases B with
     |false=>rw[kb]at f;cases f
     |true =>
      obtain⟨p,rfl,T⟩:=xx ka G;obtain⟨q,rfl,U⟩:=xx kb L;have e:ltD a b=HT.lexLt la l:=by unfold ltD;rw[ka,kb]
      rw[e];refine thn (Jt (X:=X.in1.wish λ_ _=>False) Q pins s σ H (.ref p) (.ref q) u v (λr H'=>r=.bl (HT.lexLt la l)/\H'=H) J M N ⟨p,q,la,l,rfl,rfl,SqT.of (ax _ _ T),SqT.of (ax _ _ U),rfl,rfl⟩) λr s' h=>?_
      obtain⟨S,H',C,D,E,F⟩:=h;subst E F;exact⟨D,C.unwish⟩
theorem By {E:XK} {a:Expr} {G p0:Pos} {g:List (Str×Addr)} {P:Addr} {k:Nat} {p:Str}
  (hc:X.calm=true) (hm:X.mg "min"=none) (hr:cg (k+2) X.A) (ha:PD X E a ga) (T:Fm X c P) (U:closureFor scope X.env=pure g) (S:mj N [p] scope)
  (J:∀x c,g.lookup x=some c->X.env.cells.lookup x=some c) (has:∀x,scope.names.lookup x=some .free->∃c,g.lookup x=some c) (hN:N.length=1+cap.length)
  (L:∀(i m:Nat) (x:Str),N[1+i]?=some x->cap[i]?=some m->X.N[m]?=some x/\scope.names.lookup x=some .free/\(X.env.kindOf x=some .cell\/X.env.kindOf x=some .free)/\Vis X.env.scope x)
  (hb:∀(c':Addr) (pm r u:Value),bindArgs (PySem.W.kla_fn "<lambda>" (X.env.qual++"<lambda>") params body scope g pm (.ref c') r) ⟨[u],[]⟩=pure ([p].zip [u]))
  (D:∀(q c':Addr) (s:Shared) (H:Hp),PD (sW (CXW X.prog X.w) X.prog X.w X.K X.mg X.base N (X.env.qual++"<lambda>") scope q (.ref c') g X.A.in1 X.stack s H E0) E0 body gb)
  (hg:Gl X "min":=by rfl) (he:starEach [a] X.env=[(false,eval a X.env)]:=by rfl) (M:defaultsOf params X.env=([],[]):=by rfl) :
  PD X E (.Call (.Name "min" p0) [a] [⟨some "key",.Lambda params body scope G,kp⟩] pos) (jk cap ga gb):=by
 refine (Bh hc hm ha (JD T U M) hg he (λh k=>eD.weak h k) (λh k f c' r H' n e s c=>k _ _ (h f c' r H' n e s c))).imp λσ H Q Y=>?_
 obtain⟨A,δ,R,b⟩:=Y;unfold jk at b;refine eD.run R (λd ed v H1 s1 R1 h1=>?_) (λC Z H' s'=>?_) (λZ=>?_)
 ·rw[ed,Rs.ag]at b;cases d with
  |list ds =>
   by_cases hpos:0<ds.length
   case neg=>simp only[if_neg hpos]at b;exact b.elim
   simp only[if_pos hpos]at b;cases ek:allR (λx=>gb (some x::uU cap δ)) ds with
   |rz _=>rw[ek]at b;exact b.elim
   |no=>rw[ek]at b;exact b.elim
   |ok ks =>
    rw[ek]at b;cases hko:keysOk ks with
    |false=>simp only[okR,hko]at b;exact b.elim
    |true =>
     simp only[okR,hko,if_true]at b;intro f c' r H2 hn hf s2 F;obtain⟨l,xs,rfl,hl,hx⟩:=h1.ofLst;have hlen:=hx.length;obtain⟨hkl,hkg⟩:=xK ek;refine⟨l,f,xs,λH=>aw H2 H,λi v H=>∃O,ks[i]?=some O/\Is X.K (del H A) O v,λi j=>ltD (ks.getD i .none) (ks.getD j .none),rfl,rfl,by omega,aw.refl _,?_,λH3 v s3 ev=>?_⟩
     ·refine Ct (t:=eD X.K E0 gb) (c':=c') (cap:=cap) S hr J has hN L (hb c' _ r) (λH s=>s _ _ (s2 _ _ (ax _ _ hl))) (λH s=>⟨s _ _ hf,?_⟩) (λs H=>D f c' s H) (λi x H ex s=>?_) (λi j x y pins' H s u v I sΦ hx' hy' rx ry=>?_)
      ·obtain⟨o,vs,t,e1,e2,B⟩:=F;exact⟨o,vs,t,s _ _ e1,e2,B⟩
      ·obtain⟨d,e1,hd⟩:=hx.get ex;obtain⟨O,e2,gk⟩:=hkg i d e1;have R':dq X.K H A δ σ:=R.same (s1.trans (s2.trans s));refine⟨A,some d::uU cap δ,⟨R'.ls,by simp[uU],λn d' e=>?_⟩,?_⟩
       ·cases n with
        |zero =>have e:some (some d)=some (some d'):=e;cases e;exact⟨x,rfl,hd.same (aw.del (s2.trans s))⟩
        |succ n =>
         have e:(uU cap δ)[n]?=some (some d'):=by simpa using e
         unfold uU at e;rw[Nx]at e;cases hm':cap[n]? with
         |none=>rw[hm']at e;cases e
         |some m =>
          rw[hm']at e;have B:(δ[m]?).join=some d':=by simpa using e
          have e4:δ[m]?=some (some d'):=by
           cases z:δ[m]? with
           |none=>rw[z]at B;cases B
           |some w=>rw[z]at B;cases w with
            |none=>cases B
            |some w=>cases B;rfl
          obtain⟨v',e5,h5⟩:=R'.get m d' e4;exact⟨v',by simp[hm',e5],h5⟩
       ·have gk':gb (some d::uU cap δ)=.ok O:=gk;rw[gk'];exact λv H' s' q=>⟨s.trans s',⟨O,e2,q⟩,λj v' qz2=>(by obtain⟨kd',B,e4⟩:=qz2;exact⟨kd',B,e4.same s'.del⟩)⟩
      ·obtain⟨ka,e1,h1'⟩:=hx';obtain⟨kb,e2,h2'⟩:=hy';have:=Fu (X:=X) (by have:=hr.un;show X.A.units+1<_;omega) hko I e1 e2 h1' h2' rx ry;rw[Nw,Nw,e1,e2];exact this
     ·rw[hlen]at ev;obtain⟨d,e1,hd⟩:=hx.get ev;rw[e1]at b;exact b v H3 (s1.trans (s2.trans s3)) (hd.same (aw.del (s2.trans s3)))
  |_=>exact b.elim
 ·rw[Z]at b;exact b H' s'
 ·rw[Z]at b;exact b
end
theorem cg.u1 {k:Nat} {A:Around} (r:cg k A):A.units+1<cLine:=by have:=r.un;omega
def Iy (b N:List Str) (p:Str) (cap:List Nat) (a sc:Scope):Bool :=
 (sc.kind==.function)&&!sc.isCoroutine&&!sc.isGenerator&&decide N.Nodup&&decide (N.take 1=[p])&&(sc.names.lookup p==some .local)&&sc.names.all (λx=>x.2 != .cell) &&
 sc.names.all (λy=>y.2 != .free||a.names.lookup y.1==some .cell)&&decide (N.length=1+cap.length) &&
 (List.range cap.length).all (λi=>match N[1+i]?,cap[i]? with
  |some x,some m=>(b[m]?==some x)&&(sc.names.lookup x==some .free)&&(a.names.lookup x==some .cell)
  |_,_=>false)
theorem oA {α:Type} {x:Str} {k:α}:∀{l:List (Str×α)},l.lookup x=some k->(x,k)∈l
 |[],h=>by cases h
 |(y,j)::r,h=>by
  rw[NG]at h;cases q:(x==y) with
  |true=>rw[q]at h;cases h;rw[eq_of_beq q];exact N3
  |false=>rw[q]at h;exact N2 _ (oA h)
theorem rh {e:List Str} {b:Scope} {A:Around} {E:XK}
  {D:XK} {a:Expr} {n I:Pos} {J:Addr} {k:Nat} {p:Str}
  (hm:mg "min"=none) (L:cg (k+2) (c9 CX P w K mg base e qual b f cd A outer s H E).A) (ha:PD (c9 CX P w K mg base e qual b f cd A outer s H E) D a ga) (T:Fm (c9 CX P w K mg base e qual b f cd A outer s H E) c J)
  (l:∀(q c':Addr) (s':Shared) (H':Hp),PD (sW (CXW P w) P w K mg base N ((c9 CX P w K mg base e qual b f cd A outer s H E).env.qual++"<lambda>") scope q (.ref c') (nJ scope.names (c9 CX P w K mg base e qual b f cd A outer s H E).env.cells []) (c9 CX P w K mg base e qual b f cd A outer s H E).A.in1 (c9 CX P w K mg base e qual b f cd A outer s H E).stack s' H' E0) E0 body gb)
  (hok:Iy e N p cap b scope=true:=by decide +kernel)
  (M:∀(q:Str) (cl:List (Str×Addr)) (c':Addr) (pm v u:Value),bindArgs (PySem.W.kla_fn "<lambda>" q params body scope cl pm (.ref c') v) ⟨[u],[]⟩=pure ([p].zip [u]):=by intro _ _ _ _ _ _;rfl)
  (O:Gl (c9 CX P w K mg base e qual b f cd A outer s H E) "min":=by rfl) (Q:starEach [a] (c9 CX P w K mg base e qual b f cd A outer s H E).env=[(false,eval a (c9 CX P w K mg base e qual b f cd A outer s H E).env)]:=by rfl) (o:defaultsOf params (c9 CX P w K mg base e qual b f cd A outer s H E).env=([],[]):=by rfl) :
  PD (c9 CX P w K mg base e qual b f cd A outer s H E) D (.Call (.Name "min" I) [a] [⟨some "key",.Lambda params body scope n,kp⟩] pos) (jk cap ga gb):=by
 unfold Iy at hok;simp only[N6,Nr,decide_eq_true_eq,beq_iff_eq,bne_iff_ne,Bool.or_eq_true,Pk]at hok;obtain⟨⟨⟨⟨⟨⟨⟨⟨⟨R,S⟩,U⟩,X⟩,Y⟩,Z⟩,o7⟩,F⟩,o9⟩,B⟩:=hok;have g:∀x,b.names.lookup x=some .cell->∃c,(c9 CX P w K mg base e qual b f cd A outer s H E).env.cells.lookup x=some c:=λx r=>pE r
 refine By (cap:=cap) rfl hm L ha T (jF λy hy hf=>?_) ⟨R,S,U,X,Y,λx r=>by rw[N9.mp r];exact Z,o7⟩ (λx c h=>qI _ _ _ x c (λ_ _ z=>by cases z) h) (λx r=>?_) o9 (λi m x h1 h2=>?_) (M _ _) (λq c' s' H'=>l q c' s' H') O Q o
 ·rcases F y hy with z|z
  ·exact absurd hf z
  ·exact g y.1 z
 ·have j:=oA r;rcases F (x,.free) j with z|z
  ·exact absurd rfl z
  ·obtain⟨c,hc⟩:=g x z;exact lz _ _ _ x c j hc
 ·have C:i<cap.length:=(ND.mp h2).1;have:=B i (Ou.mpr C);rw[h1,h2]at this;simp only[N6,beq_iff_eq]at this;obtain⟨⟨q1,q2⟩,G⟩:=this;exact⟨q1,q2,.inl G,.inr (.inl G)⟩
end L2
namespace RS
open PySem
set_option genInjectivity true in
structure Er where
 every:Int
 due:Int
 late:Int
 parts:List (Int×Option Int)
def bO:Option Int->PyData
 |none=>.none
 |some i=>.int i
def aS (p:Int×Option Int):PyData:=.tuple [.int p.1,bO p.2]
def Er.d (e:Er):PyData:=.tuple [.int e.every,.int e.due,.int e.late,.tuple (e.parts.map aS)]
def ay (es:List Er):PyData:=.tuple (es.map Er.d)
def isWhole (d:PyData) (lo hi:Int):Bool:=match d with
 |.int i=>decide (lo<=i)&&decide (i<=hi)
 |_=>false
def bU (d:PyData) (lo hi:Int):Bool:=match d with
 |.tuple ds=>decide (lo<=(ds.length:Int))&&decide ((ds.length:Int)<=hi)
 |_=>false
def df (d:PyData):Bool:=match d with
 |.tuple [a,b]=>isWhole a 1 20&&(match b with|.none=>true|b=>isWhole b 0 3)
 |_=>false
def iQ (ds:List PyData):Bool:=match ds.getLast? with
 |some (.tuple [_,.none])=>true
 |_=>false
def d7 (d:PyData):Bool:=match d with
 |.tuple ds=>decide (1<=ds.length)&&decide (ds.length<=4)&&ds.all df&&iQ ds
 |_=>false
def bK (d:PyData):Bool:=match d with
 |.tuple [.int e,du,.int l,ps]=>decide (2<=e)&&decide (e<=60)&&(decide (0<=l)&&decide (l<=(if e-1<20 then e-1 else 20)))&&isWhole du 1 (e-l)&&d7 ps
 |_=>false
def c8 (d:PyData):Bool:=match d with
 |.tuple ds=>decide (1<=ds.length)&&decide (ds.length<=6)&&ds.all bK
 |_=>false
structure Er.Ok (e:Er):Prop where
 e1:2<=e.every
 e2:e.every<=60
 l1:0<=e.late
 l2:e.late<=20
 l3:e.late<e.every
 d1:1<=e.due
 d2:e.due<=e.every-e.late
 p1:e.parts≠[]
 p2:e.parts.length<=4
 pl:∀p∈e.parts,1<=p.1/\p.1<=20/\∀t,p.2=some t->0<=t/\t<=3
 la:∀p,e.parts.getLast?=some p->p.2=none
theorem B2 {p:Int×Option Int} (h1:1<=p.1) (h2:p.1<=20) (c:∀t,p.2=some t->0<=t/\t<=3):df (aS p)=true:=by
 obtain⟨l,t⟩:=p;cases t with
 |none=>simp[df,aS,bO,isWhole,h1,h2]
 |some t =>obtain⟨a,b⟩:=c t rfl;simp[df,aS,bO,isWhole,h1,h2,a,b]
theorem wd {e:Er} (h:e.Ok):bK e.d=true:=by
 have f:(e.parts.map aS).all df=true:=by rw[Nr];intro d hd;obtain⟨p,f,rfl⟩:=Nn.mp hd;obtain⟨a,b,c⟩:=h.pl p f;exact B2 a b c
 have hl:iQ (e.parts.map aS)=true:=by
  unfold iQ;rw[P4];cases q:e.parts.getLast? with
  |none=>exact absurd (List.getLast?_eq_none_iff.mp q) h.p1
  |some p =>obtain⟨l,t⟩:=p;have:t=none:=h.la _ q;subst this;rfl
 have hn:1<=e.parts.length:=by
  cases q:e.parts with
  |nil=>exact absurd q h.p1
  |cons _ _=>simp
 have h1:=h.e1;have h2:=h.e2;have i:=h.l1;have h4:=h.l2;have h5:=h.l3;have j:=h.d1;have m:=h.d2;have n:=h.p2;have g:e.late<=if e.every-1<20 then e.every-1 else 20:=by split <;> omega
 simp[bK,Er.d,d7,isWhole,f,hl,hn,h1,h2,i,j,m,n,g]
theorem mH {es:List Er} (h1:1<=es.length) (h2:es.length<=6) (h:∀e∈es,e.Ok):c8 (ay es)=true:=by
 have a:(es.map Er.d).all bK=true:=by rw[Nr];intro d hd;obtain⟨e,b,rfl⟩:=Nn.mp hd;exact wd (h e b)
 simp[c8,ay,h1,h2,a]
def cellAt (ns:List Int) (k:Int):Int :=
 if k<(ns.length:Int) then ns.getD k.toNat 0 else if ns=[] then 0 else ns.getD (k % (ns.length:Int)).toNat 0*31+k
def BB (ns:List Int) (k:Int):Int:=(cellAt ns k+7919*k+1)*48271 % 2147483647
def mixed (ns:List Int) (k many:Int):Int:=(BB ns k*BB ns k+7*BB ns k+k) % 2147483629 % many
theorem Hz (ns:List Int) (k:Int):0<=BB ns k:=O1 _ (by decide)
theorem GK (ns:List Int) (k:Int):BB ns k<2147483647:=Ol _ (by decide)
theorem cK (ns:List Int) (k:Int) (h:0<many):0<=mixed ns k many:=O1 _ (by omega)
theorem de (ns:List Int) (k:Int) (h:0<many):mixed ns k many<many:=Ol _ h
def kJ (i:Int):Option Int:=if i=0 then some 0 else if i=1 then some 1 else if i=2 then some 1 else if i=3 then some 0 else none
def eP (ns:List Int) (j:Int) (a:Bool):Int×Option Int:=(1+mixed ns j 40 % 4,if a then kJ (mixed ns j 40 / 4 % 5) else none)
def iy (ns:List Int) (at' every:Int):Int :=
 if every-1<mixed ns (at' + 1) 4*(if mixed ns (at' + 2) 3=0 then 1 else 0) then every-1 else mixed ns (at' + 1) 4*(if mixed ns (at' + 2) 3=0 then 1 else 0)
def om (ns:List Int) (at' a:Int):Int:=if mixed ns (at' + 1) 3=0 then a-mixed ns (at' + 2) a else a
def mkE (ns:List Int) (at' top:Int) (a:Bool):Er where
 every:=3+mixed ns at' top
 late:=iy ns at' (3+mixed ns at' top)
 due:=om ns at' (3+mixed ns at' top-iy ns at' (3+mixed ns at' top))
 parts:=((List.range (mixed ns (at' + 3) 3).toNat).map λ(k:Nat)=>eP ns (at' + 4+(k:Int)) a)++[(1+mixed ns (at' + 6) 3,none)]
def oJ (ns:List Int) (at' most top:Int) (a:Bool):List Er:=(List.range (1+mixed ns at' most).toNat).map λ(k:Nat)=>mkE ns (at' + 1+7*(k:Int)) top a
theorem wF (ns:List Int) (at' every:Int) (h:3<=every):0<=iy ns at' every/\iy ns at' every<=3/\iy ns at' every<every:=by
 have h1:=cK ns (at' + 1) (many:=4) (by decide);have h2:=de ns (at' + 1) (many:=4) (by decide);unfold iy;generalize mixed ns (at' + 1) 4=x at *;by_cases hc:mixed ns (at' + 2) 3=0
 ·simp only[hc,if_true,Int.mul_one];split <;> omega
 ·simp only[hc,if_false,Int.mul_zero];split <;> omega
theorem GO (ns:List Int) (at' a:Int) (h:1<=a):1<=om ns at' a/\om ns at' a<=a:=by have h1:=cK ns (at' + 2) (many:=a) (by omega);have h2:=de ns (at' + 2) (many:=a) (by omega);unfold om;split <;> omega
theorem HC (i t:Int) (h:kJ i=some t):0<=t/\t<=1:=by
 unfold kJ at h
 repeat' split at h
 all_goals (first|(cases h;decide)|cases h)
theorem ED (ns:List Int) (j:Int) (a:Bool):1<=(eP ns j a).1/\(eP ns j a).1<=4/\∀t,(eP ns j a).2=some t->0<=t/\t<=1:=by
 have h1:0<=mixed ns j 40 % 4:=O1 _ (by decide);have h2:mixed ns j 40 % 4<4:=Ol _ (by decide);refine⟨by unfold eP;simp only;omega,by unfold eP;simp only;omega,λt h=>?_⟩;unfold eP at h;simp only at h;cases a with
 |false=>simp at h
 |true=>simp at h;exact HC _ _ h
theorem KI (ns:List Int) (at' top:Int) (a:Bool) (h1:0<top) (h2:top<=58):(mkE ns at' top a).Ok:=by
 have a1:=cK ns at' h1;have a2:=de ns at' h1;have l:=wF ns at' (3+mixed ns at' top) (by omega);have d:=GO ns at' (3+mixed ns at' top-iy ns at' (3+mixed ns at' top)) (by omega);have n1:=cK ns (at' + 3) (many:=3) (by decide);have n2:=de ns (at' + 3) (many:=3) (by decide);have n3:=cK ns (at' + 6) (many:=3) (by decide);have n4:=de ns (at' + 6) (many:=3) (by decide);refine⟨?_,?_,l.1,?_,l.2.2,d.1,d.2,?_,?_,?_,?_⟩
 ·show 2<=3+mixed ns at' top;omega
 ·show 3+mixed ns at' top<=60;omega
 ·have:=l.2.1;show iy ns at' (3+mixed ns at' top)<=20;omega
 ·simp[mkE]
 ·simp only[mkE,Nl,N4,Pl,NS];omega
 ·intro p b;simp only[mkE,NI,Nn,N9]at b;rcases b with⟨k,_,rfl⟩|rfl
  ·have:=ED ns (at' + 4+(k:Int)) a;refine⟨this.1,by omega,λt c=>?_⟩;have:=this.2.2 t c;omega
  ·exact⟨by simp only;omega,by simp only;omega,λt c=>by cases c⟩
 ·intro p b;simp only[mkE,List.getLast?_append,List.getLast?_singleton,Option.some_or]at b;cases b;rfl
theorem Ez (ns:List Int) (at' most top:Int) (a:Bool) (h:0<most):1<=(oJ ns at' most top a).length/\((oJ ns at' most top a).length:Int)<=most:=by have h1:=cK ns at' h;have h2:=de ns at' h;simp only[oJ,N4,Pl];omega
theorem GQ (ns:List Int) (at' most top:Int) (a:Bool) (h1:0<top) (h2:top<=58):∀e∈oJ ns at' most top a,e.Ok:=by intro e b;simp only[oJ,Nn]at b;obtain⟨k,_,rfl⟩:=b;exact KI _ _ _ _ h1 h2
end RS
variable {e:RS.Er} {es:List RS.Er}
namespace RS
open PySem L2
structure Cs where
 RankError:Addr
 NoErrands:Addr
 NoRanks:Addr
 NoComings:Addr
 NoErrand:Addr
 NoNumber:Addr
 TooLong:Addr
 NoText:Addr
 Holding:Addr
 Jobs:Addr
abbrev Gf:=List PyData->Rs PyData
def bF (K:PySem.W.Frag) (mg:Str->Option Value) (x:Str) (st:Stmt) (ps:List Str):Prop:=∃f fd,Fun K x x st f fd/\Binds K fd ps []/\mg x=some (.ref f)
def jo (cs:Cs):Ds->Sr :=
 (aF (sIf (cOr (gD (gT (g1 (k8 "int") (af 0)))) (gT (g1 (k8 "bool") (af 0)))) (bj (gC (.bool false))) ba)
  (bj (nH dLe dLe (af 1) (af 0) (af 2))))
def jj (cs:Cs):Ds->Sr :=
 (bj (BY (g1 (k8 "tuple") (af 0)) (nH dLe dLe (af 1) (gF bY (ae (af 0) ah)) (af 2))))
def gK (cs:Cs) (aM aY:Gf):Ds->Sr :=
 (aF (sIf (cOr (gD (gT (aq aY (ae (af 0) (ae (gC (.int 2)) (ae (gC (.int 2)) ah)))))) (gD (gT (aq aM (ae (g2 dIx (af 0) (gC (.int 0))) (ae (gC (.int 1)) (ae (gC (.int 20)) ah))))))) (bj (gC (.bool false))) ba)
  (bj (gOr (g1 nz (g2 dIx (af 0) (gC (.int 1)))) (aq aM (ae (g2 dIx (af 0) (gC (.int 1))) (ae (gC (.int 0)) (ae (g2 fo (gC (.int 4)) (gC (.int 1))) ah)))))))
def fP (cs:Cs) (aY a:Gf):Ds->Sr :=
 (aF (sIf (cOr (gD (gT (aq aY (ae (af 0) (ae (gC (.int 1)) (ae (gC (.int 4)) ah)))))) (gD (gT (gF oN (ae (gL (bw 1 (cz (af 0)) bH (aq a (ae (af 1) ah)) aZ)) ah))))) (bj (gC (.bool false))) ba)
  (bj (g1 nz (g2 dIx (g2 dIx (af 0) (g1 mO (gC (.int 1)))) (gC (.int 1))))))
def dX (cs:Cs) (aM a aY:Gf):Ds->Sr :=
 (aF (sIf (gD (gT (aq aY (ae (af 0) (ae (gC (.int 4)) (ae (gC (.int 4)) ah)))))) (bj (gC (.bool false))) ba)
  (aF (aQ [] 1 (g2 dIx (af 0) (gC (.int 0))))
  (aF (aQ [] 2 (g2 dIx (af 0) (gC (.int 1))))
  (aF (aQ [] 3 (g2 dIx (af 0) (gC (.int 2))))
  (aF (sIf (gD (gT (aq aM (ae (af 1) (ae (gC (.int 2)) (ae (gC (.int 60)) ah)))))) (bj (gC (.bool false))) ba)
  (aF (sIf (gD (gT (aq aM (ae (af 3) (ae (gC (.int 0)) (ae (gF kK (ae (gC (.int 20)) (ae (g2 fo (af 1) (gC (.int 1))) ah))) ah)))))) (bj (gC (.bool false))) ba)
  (bj (BY (aq aM (ae (af 2) (ae (gC (.int 1)) (ae (g2 fo (af 1) (af 3)) ah)))) (aq a (ae (g2 dIx (af 0) (gC (.int 3))) ah))))))))))
def i3 (cs:Cs) (aY a:Gf):Ds->Sr :=
 (aF (sIf (cOr (gD (gT (aq aY (ae (af 0) (ae (gC (.int 1)) (ae (gC (.int 6)) ah)))))) (gD (gT (gF oN (ae (gL (bw 1 (cz (af 0)) bH (aq a (ae (af 1) ah)) aZ)) ah))))) (jv cs.NoErrands (ae (gC (.str "errands are a tuple of 1 to 6 errands (every, due, late, parts)")) ah)) ba)
  (bj (af 0)))
def cF (cs:Cs) (aY aM:Gf):Ds->Sr :=
 (aF (aQ [] 2 (g2 fo (gF bY (ae (af 0) ah)) (gC (.int 1))))
  (aF (sIf (cOr (gD (gT (aq aY (ae (af 1) (ae (gF bY (ae (af 0) ah)) (ae (gF bY (ae (af 0) ah)) ah)))))) (gD (gT (gF oN (ae (gL (bw 3 (cz (af 1)) bH (aq aM (ae (af 3) (ae (gC (.int 0)) (ae (af 2) ah)))) aZ)) ah))))) (jv cs.NoRanks (ae (gC (.str "ranks are a tuple of the numbers of all errands")) ah)) ba)
  (aF (sIf (gT (g2 dLt (gF lZ (ae (af 1) ah)) (gF bY (ae (af 1) ah)))) (jv cs.NoRanks (ae (gC (.str "ranks have each errand's number once")) ah)) ba)
  (bj (af 1)))))
def eC (cs:Cs) (aM:Gf):Ds->Sr :=
 (aF (sIf (gD (gT (aq aM (ae (af 1) (ae (gC (.int 0)) (ae (g2 fo (gF bY (ae (af 0) ah)) (gC (.int 1))) ah)))))) (jv cs.NoErrand (ae (gC (.str "no errand has this number")) ah)) ba)
  (bj (af 1)))
def fJ (cs:Cs) (bu aV bg:Gf):Ds->Sr :=
 (aF (kO (aq bg (ae (af 0) ah)))
  (aF (kO (aq aV (ae (af 0) (ae (af 1) ah))))
  (kO (aq bu (ae (af 0) (ae (af 2) ah))))))
def tF (cs:Cs):Ds->Sr :=
 (bj (gF Cg (ae (gL (bw 1 (cz (g2 dIx (af 0) (gC (.int 3)))) bH (g2 dIx (af 1) (gC (.int 0))) aZ)) ah)))
def ja (cs:Cs):Ds->Sr :=
 (bj (g2 (Ei false) (af 1) (gL (bw 2 (cz (g2 dIx (af 0) (gC (.int 3)))) bH (g2 dIx (af 2) (gC (.int 1))) aZ))))
def lU (cs:Cs) (cq:Gf):Ds->Sr :=
 (aF (fW [] (fw (ae (af 1) ah)) (iu [3,4]) (sIf (gT (aq cq (ae (g2 dIx (af 0) (af 4)) (ae (af 2) ah)))) (bj (af 3)) ba))
  (bj (gC .none)))
def gw (cs:Cs) (dF:Gf):Ds->Sr :=
 (bj (gL (bw 2 (fR (ae (gC (.int 4)) ah)) bH (aq dF (ae (af 0) (ae (af 1) (ae (af 2) ah)))) aZ)))
def jc (cs:Cs) (aP:Gf):Ds->Sr :=
 (aF (aQ [5] 3 (rm (af 1) (af 2)))
  (aF (aQ [5] 4 (aq aP (ae (af 0) (ae (af 1) ah))))
  (aF (iL [5] 5 ah)
  (aF (fW [5] (cz (lj (af 1) (qr (g2 aX (af 3) (gC (.int 1)))) km)) (bB 6) (fW [5] (fw (ae (g2 dIx (g2 dIx (af 0) (af 6)) (gC (.int 3))) ah)) (iu [7,8]) (sIf (rL (gT (g1 iJ (g2 dIx (af 8) (gC (.int 1))))) (gT (g2 dLe (g2 dIx (af 4) (g2 dIx (af 8) (gC (.int 1)))) (af 3)))) (hV [5] 5 (aq (tG cs.Holding ["number", "part", "tool", "times"]) (ae (af 6) (ae (af 7) (ae (g2 dIx (af 8) (gC (.int 1))) (ae (g2 fo (g2 dIx (af 8) (gC (.int 0))) (gC (.int 1))) ah)))))) ba)))
  (bj (af 5))))))
def ff (cs:Cs) (cH:Gf):Ds->Sr :=
 (bj (g2 xR (gL (bw 3 (cz (aq cH (ae (af 0) (ae (af 1) (ae (af 2) ah))))) bH (g1 (br cs.Holding "times") (af 3)) aZ)) (gC (.int 0))))
def gu (cs:Cs):Ds->Sr :=
 (bj (g2 iR (g2 fo (g2 aX (af 0) (af 1)) (gC (.int 1))) (af 1)))
def uP (cs:Cs) (a bJ:Gf):Ds->Sr :=
 (aF (aQ [] 5 (g2 aX (af 3) (aq a (ae (g2 dIx (af 0) (af 2)) ah))))
  (aF (fW [] (cz (lj (af 1) km (qr (rm (af 1) (af 2))))) (bB 6) (aF (aQ [] 7 (g2 dIx (af 0) (af 6)))
  (yq [] 5 (g2 eJ (aq a (ae (af 7) ah)) (aq bJ (ae (g2 aX (af 4) (g2 dIx (af 7) (gC (.int 2)))) (ae (g2 dIx (af 7) (gC (.int 0))) ah)))))))
  (bj (af 5))))
def iw (cs:Cs) (cY:Gf):Ds->Sr :=
 (aF (aQ [5] 4 (g2 fo (g2 dIx (g2 dIx (af 0) (af 2)) (gC (.int 0))) (g2 dIx (g2 dIx (af 0) (af 2)) (gC (.int 2)))))
  (aF (iL [5] 5 ah)
  (aF (aQ [5] 6 (aq cY (ae (af 0) (ae (af 1) (ae (af 2) (ae (af 3) (ae (gC (.int 1)) ah)))))))
  (aF (λδ=>bL (gT (g2 dLe (af 6) (af 4))) (aF (hV [5] 5 (af 6))
  (aF (aQ [5] 7 (aq cY (ae (af 0) (ae (af 1) (ae (af 2) (ae (af 3) (ae (af 6) ah)))))))
  (aF (sIf (gT (g2 dEq (af 7) (af 6))) (bj (af 5)) ba)
  (aQ [5] 6 (af 7))))) 1000000 δ)
  (bj (gC .none))))))
def eV (cs:Cs) (cN:Gf):Ds->Sr :=
 (aF (aQ [] 4 (aq cN (ae (af 0) (ae (af 1) (ae (af 2) (ae (af 3) ah))))))
  (bj (gIf (gT (g1 nz (af 4))) (gC .none) (g2 dIx (af 4) (g1 mO (gC (.int 1)))))))
def dN (cs:Cs) (bR cm:Gf):Ds->Sr :=
 (bj (aq cm (ae (af 0) (ae (af 1) (ae (af 2) (ae (aq bR (ae (af 0) (ae (af 1) (ae (af 2) ah)))) ah))))))
def kn (cs:Cs) (bA b0:Gf):Ds->Sr :=
 (aF (kO (aq b0 (ae (af 0) (ae (af 1) (ae (af 2) ah)))))
  (bj (aq bA (ae (af 0) (ae (af 1) (ae (af 2) ah))))))
def gy (cs:Cs) (ak:Gf):Ds->Sr :=
 (aF (aQ [7] 4 (g2 aX (gC (.int 3)) (aq ak (ae (af 0) (ae (af 1) (ae (af 2) ah))))))
  (aF (aQ [7] 5 (g2 eJ (aq ak (ae (af 0) (ae (g2 aX (af 1) (gC (.int 1))) (ae (gC (.int 4)) ah)))) (gF BE (ae (g2 dEq (aq ak (ae (af 0) (ae (g2 aX (af 1) (gC (.int 2))) (ae (gC (.int 3)) ah)))) (gC (.int 0))) ah))))
  (aF (aQ [7] 5 (gF kK (ae (af 5) (ae (g2 fo (af 4) (gC (.int 1))) ah))))
  (aF (aQ [7] 6 (g2 fo (af 4) (af 5)))
  (aF (sIf (gT (g2 dEq (aq ak (ae (af 0) (ae (g2 aX (af 1) (gC (.int 1))) (ae (gC (.int 3)) ah)))) (gC (.int 0)))) (aQ [7] 6 (g2 fo (af 6) (aq ak (ae (af 0) (ae (g2 aX (af 1) (gC (.int 2))) (ae (af 6) ah)))))) ba)
  (aF (iL [7] 7 ah)
  (aF (fW [7] (fR (ae (aq ak (ae (af 0) (ae (g2 aX (af 1) (gC (.int 3))) (ae (gC (.int 3)) ah)))) ah)) (bB 8) (aF (aQ [7] 9 (aq ak (ae (af 0) (ae (g2 aX (g2 aX (af 1) (gC (.int 4))) (af 8)) (ae (gC (.int 40)) ah)))))
  (aF (hV [7] 7 (hZ (ae (g2 aX (gC (.int 1)) (g2 eI (af 9) (gC (.int 4)))) (ae (g2 dIx (jN (ae (gC (.int 0)) (ae (gC (.int 1)) (ae (gC (.int 1)) (ae (gC (.int 0)) (ae (gC .none) ah)))))) (g2 eI (g2 iR (af 9) (gC (.int 4))) (gC (.int 5)))) ah))))
  (sIf (gD (gT (af 3))) (Cc 7 (g1 mO (gC (.int 1))) (hZ (ae (g2 dIx (g2 dIx (af 7) (g1 mO (gC (.int 1)))) (gC (.int 0))) (ae (gC .none) ah)))) ba))))
  (bj (hZ (ae (af 4) (ae (af 6) (ae (af 5) (ae (gF jS (ae (g2 aX (af 7) (jN (ae (hZ (ae (g2 aX (gC (.int 1)) (aq ak (ae (af 0) (ae (g2 aX (af 1) (gC (.int 6))) (ae (gC (.int 3)) ah))))) (ae (gC .none) ah))) ah))) ah)) ah)))))))))))))
def fK (cs:Cs) (bX ak:Gf):Ds->Sr :=
 (aF (aQ [] 5 (g2 aX (gC (.int 1)) (aq ak (ae (af 0) (ae (af 1) (ae (af 2) ah))))))
  (bj (gF jS (ae (gL (bw 6 (fR (ae (af 5) ah)) bH (aq bX (ae (af 0) (ae (g2 aX (g2 aX (af 1) (gC (.int 1))) (g2 eJ (gC (.int 7)) (af 6))) (ae (af 3) (ae (af 4) ah))))) aZ)) ah))))
def ix (cs:Cs) (ak:Gf):Ds->Sr :=
 (aF (iL [3,4] 3 (gLR (ae (af 2) ah)))
  (aF (iL [3,4] 4 ah)
  (aF (fW [3,4] (fR (ae (af 2) ah)) (bB 5) (je 4 3 (aq ak (ae (af 0) (ae (g2 aX (af 1) (af 5)) (ae (gF bY (ae (af 3) ah)) ah))))))
  (bj (gF jS (ae (af 4) ah))))))
def rj (cs:Cs):Ds->Sr :=
 (bj (gF Cg (ae (gL (bw 1 (cz (g2 dIx (af 0) (gC (.int 3)))) bH (g2 dIx (af 1) (gC (.int 0))) aZ)) ah)))
end RS
set_option maxHeartbeats 1000000
variable {cs:RS.Cs}
namespace RS
open PySem L2
variable {b a:Int} {g:PyData->Bool} {xs:List PyData}
theorem Hb (h:i∉O):(mask O δ)[i]?=δ[i]?:=by
 unfold mask;by_cases z:O=[]
 ·rw[if_pos z]
 ·rw[if_neg z,Oo];cases δ[i]? with
  |none=>rfl
  |some d=>simp[h]
theorem aB (h:i∉O):af i (mask O δ)=af i δ:=by unfold af;rw[Hb h]
@[simp]theorem ao (d:PyData) (δ:Ds):af 0 (some d::δ)=.ok d:=rfl
@[simp]theorem ar (i:Nat) (x:Option PyData) (δ:Ds):af (i+1) (x::δ)=af i δ:=rfl
@[simp]theorem cB (d:PyData) (δ:Ds):gC d δ=.ok d:=rfl
@[simp]theorem iA (f:PyData->Option PyData) (a:Ds->Rs PyData) (δ:Ds):g1 f a δ=(a δ).bind λx=>Rs.eE (f x):=rfl
@[simp]theorem bN (f:PyData->PyData->Option PyData) (a b:Ds->Rs PyData) (δ:Ds):g2 f a b δ=(a δ).bind λx=>(b δ).bind λy=>Rs.eE (f x y):=rfl
@[simp]theorem gA (f:List PyData->Option PyData) (a:Ds->Rs (List PyData)) (δ:Ds):gF f a δ=(a δ).bind λx=>Rs.eE (f x):=rfl
@[simp]theorem aG (δ:Ds):ah δ=.ok []:=rfl
@[simp]theorem aA (a:Ds->Rs PyData) (r:Ds->Rs (List PyData)) (δ:Ds):ae a r δ=(a δ).bind λx=>(r δ).bind λxs=>.ok (x::xs):=rfl
@[simp]theorem mL (a:Ds->Rs (List PyData)) (δ:Ds):hZ a δ=(a δ).bind λds=>.ok (.tuple ds):=rfl
@[simp]theorem xS (a:Ds->Rs (List PyData)) (δ:Ds):jN a δ=(a δ).bind λds=>.ok (.list ds):=rfl
@[simp]theorem bf (f:Gf) (a:Ds->Rs (List PyData)) (δ:Ds):aq f a δ=(a δ).bind f:=rfl
@[simp]theorem fD (a:Ds->Rs PyData) (δ:Ds):gT a δ=(a δ).bind truth:=rfl
@[simp]theorem bx (b:Bool):truth (.bool b)=.ok b:=rfl
@[simp]theorem vp (a:Ds->Rs Bool) (δ:Ds):gD a δ=(a δ).bind λb=>.ok (!b):=rfl
@[simp]theorem Kn (a b:Ds->Rs Bool) (δ:Ds):rL a b δ=(a δ).bind λx=>if x=true then b δ else .ok false:=rfl
@[simp]theorem Iz (a b:Ds->Rs Bool) (δ:Ds):cOr a b δ=(a δ).bind λx=>if x=true then .ok true else b δ:=rfl
@[simp]theorem zG (a b:Ds->Rs PyData) (δ:Ds):BY a b δ=(a δ).bind λx=>(truth x).bind λt=>if t=true then b δ else .ok (.bool false):=rfl
@[simp]theorem Nd (a b:Ds->Rs PyData) (δ:Ds):gOr a b δ=(a δ).bind λx=>(truth x).bind λt=>if t=true then .ok (.bool true) else b δ:=rfl
@[simp]theorem M6 (a:Ds->Rs PyData) (δ:Ds):Na a δ=(a δ).bind λx=>(truth x).bind λt=>.ok (.bool (!t)):=rfl
@[simp]theorem rD (a:Ds->Rs (List PyData)) (δ:Ds):gL a δ=(a δ).bind λds=>.ok (.list ds):=rfl
@[simp]theorem yY (a:Ds->Rs PyData) (δ:Ds):cz a δ=(a δ).bind A7:=rfl
@[simp]theorem MI (ds:List PyData):A7 (.list ds)=.ok ds:=rfl
@[simp]theorem EJ (ds:List PyData):A7 (.tuple ds)=.ok ds:=rfl
@[simp]theorem lC (a:Ds->Rs (List PyData)) (δ:Ds):fR a δ=(a δ).bind Gd:=rfl
@[simp]theorem MC (a:Ds->Rs (List PyData)) (δ:Ds):Mg a δ=(a δ).bind LS:=rfl
@[simp]theorem MD (a:Ds->Rs (List PyData)) (δ:Ds):Ln a δ=(a δ).bind L9:=rfl
@[simp]theorem LU (a:Ds->Rs (List PyData)) (δ:Ds):gLR a δ=(a δ).bind vm:=rfl
@[simp]theorem AV (a:Ds->Rs (List PyData)) (δ:Ds):fw a δ=(a δ).bind qG:=rfl
@[simp]theorem MB (ds:List PyData):qG [.list ds]=.ok (fO ds):=rfl
@[simp]theorem A1 (ds:List PyData):qG [.tuple ds]=.ok (fO ds):=rfl
@[simp]theorem Mz (f f':PyData->PyData->Option PyData) (a b c:Ds->Rs PyData) (δ:Ds):nH f f' a b c δ=(a δ).bind λx=>(b δ).bind λy=>(Rs.eE (f x y)).bind λz=>(truth z).bind λt=>if t=true then (c δ).bind λw=>Rs.eE (f' y w) else .ok (.bool false):=rfl
@[simp]theorem tP (δ:Ds):km δ=.ok none:=rfl
@[simp]theorem zX (g:Ds->Rs PyData) (δ:Ds):qr g δ=(g δ).bind E1:=rfl
@[simp]theorem Ae (i:Int):E1 (.int i)=.ok (some i):=rfl
@[simp]theorem wZ (g:Ds->Rs PyData) (lo hi:Ds->Rs (Option Int)) (δ:Ds):lj g lo hi δ=(g δ).bind λd=>(lo δ).bind λl=>(hi δ).bind λh=>Rs.eE (Hg d l h):=rfl
@[simp]theorem M7 (x:List PyData) (lo hi:Option Int):Hg (.list x) lo hi=some (.list (cutD x lo hi)):=rfl
@[simp]theorem Eb (x:List PyData) (lo hi:Option Int):Hg (.tuple x) lo hi=some (.tuple (cutD x lo hi)):=rfl
@[simp]theorem aL (a b:Ds->Sr) (δ:Ds):aF a b δ=match a δ with|.nx δ'=>b δ'|r=>r:=rfl
@[simp]theorem fH (δ:Ds):ba δ=.nx δ:=rfl
@[simp]theorem dZ (c:Ds->Rs Bool) (a b:Ds->Sr) (δ:Ds):sIf c a b δ=ofR (c δ) λt=>if t=true then a δ else b δ:=rfl
@[simp]theorem bM (g:Ds->Rs PyData) (δ:Ds):bj g δ=ofR (g δ) .rt:=rfl
@[simp]theorem uS (g:Ds->Rs PyData) (δ:Ds):kO g δ=ofR (g δ) λ_=>.nx δ:=rfl
@[simp]theorem ig (i:Nat) (g:Ds->Rs PyData) (δ:Ds):aQ [] i g δ=if i<δ.length then ofR (g δ) λd=>.nx (δ.set i (some d)) else .no:=by unfold aQ;rw[lX]
@[simp]theorem LI (C:Addr) (gs:Ds->Rs (List PyData)) (δ:Ds):jv C gs δ=ofR (gs δ) λ_=>.rz C:=rfl
theorem kQ (O:List Nat) (src:Ds->Rs (List PyData)) (tgt:PyData->Ds->Option Ds) (body:Ds->Sr) (δ:Ds):fW O src tgt body δ=ofR (src (mask O δ)) λds=>forL tgt body ds δ:=rfl
@[simp]theorem aT (d:PyData):a8 (.rt d)=.ok d:=rfl
@[simp]theorem Lf (δ:Ds):a8 (.nx δ)=.ok .none:=rfl
@[simp]theorem Lh (C:Addr):a8 (.rz C)=.rz C:=rfl
@[simp]theorem Lg:a8 .no=.no:=rfl
@[simp]theorem d6 (a b:Int):aX (.int a) (.int b)=some (.int (a+b)):=rfl
@[simp]theorem oz (a b:Int):fo (.int a) (.int b)=some (.int (a-b)):=rfl
@[simp]theorem tI (a b:Int):eI (.int a) (.int b)=if 0<b then some (.int (a % b)) else none:=rfl
@[simp]theorem vU (a b:Int):iR (.int a) (.int b)=if 0<b/\b<1073741824 then some (.int (a / b)) else none:=rfl
@[simp]theorem Ka (a b:Int):dLt (.int a) (.int b)=some (.bool (decide (a<b))):=rfl
@[simp]theorem Ma (a b:Int):dLe (.int a) (.int b)=some (.bool (decide (a<=b))):=rfl
@[simp]theorem JV (a b:Int):dGt (.int a) (.int b)=some (.bool (decide (b<a))):=rfl
@[simp]theorem Nj (a b:Int):dGe (.int a) (.int b)=some (.bool (decide (b<=a))):=rfl
@[simp]theorem Ig (a:Int):mO (.int a)=some (.int (-a)):=rfl
@[simp]theorem Ex (d:PyData):nz d=some (.bool (eY d)):=rfl
@[simp]theorem MK (d:PyData):iJ d=some (.bool (!eY d)):=rfl
@[simp]theorem DT:eY .none=true:=rfl
@[simp]theorem Cd (i:Int):eY (.int i)=false:=rfl
@[simp]theorem xM (x:List PyData) (i:Int):dIx (.tuple x) (.int i)=atI x i:=rfl
@[simp]theorem Dn (x:List PyData) (i:Int):dIx (.list x) (.int i)=atI x i:=rfl
@[simp]theorem Dc (x:List PyData):bY [.tuple x]=some (.int x.length):=rfl
@[simp]theorem lh (x:List PyData):bY [.list x]=some (.int x.length):=rfl
@[simp]theorem yz (a b:Int):kK [.int a,.int b]=some (.int (if b<a then b else a)):=rfl
@[simp]theorem DG (a b:Int):iG [.int a,.int b]=some (.int (if b>a then b else a)):=rfl
@[simp]theorem Jz (b:Bool):BE [.bool b]=some (.int (if b then 1 else 0)):=rfl
@[simp]theorem Dr (x:List PyData):jS [.list x]=some (.tuple x):=rfl
@[simp]theorem MG (x:List PyData):jS [.tuple x]=some (.tuple x):=rfl
@[simp]theorem jC (a b:Int):dEq (.int a) (.int b)=some (.bool (a==b)):=by
 have h:∀i:Int,PySem.SeqAt.shaped (.int i)=true:=λi=>by simp[PySem.SeqAt.shaped,PyData.canLay0,PyData.depth]
 unfold dEq;rw[h,h];simp[aI,PyData.eqv]
@[simp]theorem Mx (a b:Int):dNe (.int a) (.int b)=some (.bool (!(a==b))):=by
 have h:∀i:Int,PySem.SeqAt.shaped (.int i)=true:=λi=>by simp[PySem.SeqAt.shaped,PyData.canLay0,PyData.depth]
 unfold dNe;rw[h,h];simp[aI,PyData.eqv]
theorem mW {xs:List α} {i:Int} (h:i=j):atI xs i=xs[j]?:=by
 subst h;unfold atI ixN;by_cases z:(j:Int)<xs.length
 ·rw[if_pos (by omega),if_pos z];simp
 ·rw[if_pos (by omega),if_neg z];simp;omega
@[simp]theorem Nh (xs:List α):atI xs 0=xs[0]?:=mW (j:=0) rfl
@[simp]theorem Ng (xs:List α):atI xs 1=xs[1]?:=mW (j:=1) rfl
@[simp]theorem Nf (xs:List α):atI xs 2=xs[2]?:=mW (j:=2) rfl
@[simp]theorem Ni (xs:List α):atI xs 3=xs[3]?:=mW (j:=3) rfl
theorem ko (xs:List α):atI xs (-1)=xs.getLast?:=by
 unfold atI ixN;rw[if_neg (by decide)];by_cases z:xs=[]
 ·subst z;rfl
 ·have:0<xs.length:=Oh.mpr z;rw[if_pos (by omega),List.getLast?_eq_getElem?];simp only[OK];congr 1;omega
theorem iV (g:α->Bool) (xs:List α):oN [.list (xs.map λd=>.bool (g d))]=some (.bool (xs.all g)):=by
 have a:iF (xs.map λd=>PyData.bool (g d))=some (xs.map g):=by rw[show (xs.map λd=>PyData.bool (g d))=(xs.map g).map PyData.bool by rw[Nz];rfl];exact rC _
 show (iF (xs.map λd=>PyData.bool (g d))).map (λns=>PyData.bool (ns.all id))=_;rw[a,Of,List.all_map];rfl
theorem CO (g:α->Int) (xs:List α):Cg [.list (xs.map λd=>.int (g d))]=some (.int (xs.map g).sum):=by
 have a:eS (xs.map λd=>PyData.int (g d))=some (xs.map g):=by rw[show (xs.map λd=>PyData.int (g d))=(xs.map g).map PyData.int by rw[Nz];rfl];exact ee _
 show (eS (xs.map λd=>PyData.int (g d))).map (λns=>PyData.int ns.sum)=_;rw[a,Of]
theorem comp_map {elt:Ds->Rs PyData} {δ:Ds} {f:PyData->PyData}:∀(ds:List PyData),(∀d∈ds,elt (δ++[some d])=.ok (f d))->eF bH elt aZ δ ds=.ok (ds.map f)
 |[],_=>rfl
 |d::r,h=>by unfold eF;simp only[aZ,bH,Rs.cW,Rs.ag,if_true,h d N3,comp_map r λe a=>h e (N2 _ a),N0]
theorem dj {elt:Ds->Rs PyData} {f:PyData->PyData} (hn:δ.length=n0) (a:src δ=.ok ds) (hl:ds.length<=1000000) (h:∀d∈ds,elt (δ++[some d])=.ok (f d)) :
  bw n0 src bH elt aZ δ=.ok (ds.map f):=by
 unfold bw;rw[if_pos hn,a];simp only[Rs.ag,if_pos hl];exact comp_map ds h
theorem jm:∀{ds:List PyData},dB ds=true->∀d∈ds,aI d=true
 |[],_,d,hd=>by cases hd
 |e::r,h,d,hd=>by
  unfold dB at h;obtain⟨h1,h2⟩:=O3.mp h;rcases N5.mp hd with z|z
  ·rw[z];exact h1
  ·exact jm h2 d z
theorem en (h:aI (.tuple ds)=true):∀d∈ds,aI d=true:=by unfold aI at h;exact jm h
def aM:Gf
 |[d,.int a,.int b]=>if aI d then .ok (.bool (isWhole d a b)) else .no
 |_=>.no
theorem oV {f:PyData->Int->Int->Rs PyData} (h:(match ds with|[a,.int x1,.int x2]=>f a x1 x2|_=>.no)≠.no):∃a x1 x2,ds=[a,.int x1,.int x2]/\f a x1 x2≠.no:=by
 rcases ds with _|⟨a,_|⟨x1,_|⟨x2,_|⟨y,ys⟩⟩⟩⟩
 ·exact absurd rfl h
 ·exact absurd rfl h
 ·first|exact absurd rfl h|(cases x1 <;> exact absurd rfl h)
 ·skip
  cases x1 with
  |int x1 =>
   cases x2 with
   |int x2 =>exact⟨_,_,_,rfl,h⟩
   |_=>exact absurd rfl h
  |_=>first|exact absurd rfl h|(cases x2 <;> exact absurd rfl h)
 ·first|exact absurd rfl h|(cases x1 <;> first|exact absurd rfl h|(cases x2 <;> exact absurd rfl h))
abbrev LLq (G:Ds->Sr) (n k:Nat) (g:Gf):Prop:=∀ds,ds.length=n->g ds≠.no->a8 (G (ds.map some++List.replicate k none))=g ds
theorem yP (cs:Cs):LLq (jo cs) 3 0 aM:=by
 intro ds hl c;obtain⟨d,a,b,f,e⟩:=oV c;clear c;subst f;have c:=e;clear e;unfold aM
 ·skip
  split at c
  ·rename_i hd;simp only[hd,if_true];cases d with
   |int i=>by_cases h:a<=i <;> simp[jo,k8,hd,ur,tyD,isWhole,h]
   |dict _=>simp[aI]at hd
   |_=>simp[jo,k8,hd,ur,tyD,isWhole]
  ·exact absurd rfl c
def aY:Gf
 |[d,.int a,.int b]=>if aI d then .ok (.bool (bU d a b)) else .no
 |_=>.no
theorem zA (cs:Cs):LLq (jj cs) 3 0 aY:=by
 intro ds hl c;obtain⟨d,a,b,f,e⟩:=oV c;clear c;subst f;have c:=e;clear e;unfold aY
 ·skip
  split at c
  ·rename_i hd;simp only[hd,if_true];cases d with
   |tuple x=>by_cases h:a<=(x.length:Int) <;> simp[jj,k8,hd,ur,tyD,bU,h]
   |dict _=>simp[aI]at hd
   |_=>simp[jj,k8,hd,ur,tyD,bU]
  ·exact absurd rfl c
def f9 (g:PyData->Bool):Gf
 |[d]=>if aI d then .ok (.bool (g d)) else .no
 |_=>.no
theorem pD (h:f9 g ds≠.no):∃d,ds=[d]/\aI d=true/\f9 g ds=.ok (.bool (g d)):=by
 unfold f9 at h ⊢;split at h
 ·rename_i d;split at h
  ·rename_i hd;exact⟨d,rfl,hd,by simp[hd]⟩
  ·exact absurd rfl h
 ·exact absurd rfl h
theorem p8 {d:PyData} (h:aI d=true):f9 g [d]=.ok (.bool (g d)):=by unfold f9;simp[h]
@[simp]theorem Li {d:PyData} (h:aI d=true):aY [d,.int a,.int b]=.ok (.bool (bU d a b)):=by unfold aY;simp[h]
@[simp]theorem vT {d:PyData} (h:aI d=true):aM [d,.int a,.int b]=.ok (.bool (isWhole d a b)):=by unfold aM;simp[h]
theorem xc {d:PyData} (h:bU d 2 2=true):∃a b,d=.tuple [a,b]:=by
 cases d with
 |tuple ds =>
  simp[bU]at h
  match ds,h with
  |[a,b],_=>exact⟨a,b,rfl⟩
  |[],h=>simp at h
  |[_],h=>simp at h
  |_::_::_::_,h=>simp at h;omega
 |_=>cases h
theorem B6 (cs:Cs):LLq (gK cs aM aY) 1 0 (f9 df):=by
 intro ds hl c;obtain⟨d,rfl,hd,e⟩:=pD c;rw[e];cases e1:bU d 2 2 with
 |false =>
  have:df d=false:=by
   unfold df;split
   ·simp[bU]at e1
   ·rfl
  simp[gK,hd,e1,this]
 |true =>
  obtain⟨a,b,rfl⟩:=xc e1;have ha:=en hd a (by simp);have f:=en hd b (by simp);cases e2:isWhole a 1 20 with
  |false=>simp[gK,hd,ha,e1,e2,df]
  |true =>
   cases b with
   |none=>simp[gK,hd,ha,e1,e2,df]
   |_=>simp[gK,hd,ha,f,e1,e2,df,eY]
theorem wz (cs:Cs):LLq (fP cs aY (f9 df)) 1 0 (f9 d7):=by
 intro ds hl c;obtain⟨d,rfl,hd,e⟩:=pD c;rw[e];cases e1:bU d 1 4 with
 |false =>
  have:d7 d=false:=by
   cases d with
   |tuple ds =>simp only[bU,O0,decide_eq_false_iff_not]at e1;simp only[d7,O0,decide_eq_false_iff_not];refine .inl (.inl ?_);omega
   |_=>rfl
  simp[fP,hd,e1,this]
 |true =>
  obtain⟨xs,rfl⟩:∃ds,d=.tuple ds:=by cases d <;> first|exact⟨_,rfl⟩|cases e1
  have hn:1<=xs.length/\xs.length<=4:=by simp only[bU,N6,decide_eq_true_eq]at e1;omega
  have hc:bw 1 (cz (af 0)) bH (aq (f9 df) (ae (af 1) ah)) aZ [some (.tuple xs)]=.ok (xs.map λd=>.bool (df d)) :=
   dj rfl rfl (by omega) λd h=>by simp[p8 (en hd d h)]
  have l:=iV df xs;cases e2:xs.all df with
  |false=>simp[fP,hd,e1,hc,l,e2,d7]
  |true =>
   have c:xs≠[]:=by intro z;subst z;simp at hn
   have f:xs.getLast?=some (xs.getLast c):=List.getLast?_eq_some_getLast c;have g:=Nr.mp e2 _ (List.getLast_mem c);obtain⟨a,b,i⟩:∃a b,xs.getLast c=.tuple [a,b]:=by
    revert g;generalize xs.getLast c=z;intro g;unfold df at g;split at g
    ·exact⟨_,_,rfl⟩
    ·cases g
   rw[i]at f;have j:iQ xs=eY b:=by unfold iQ;rw[f];cases b <;> rfl
   simp[fP,hd,e1,hc,l,e2,d7,ko,f,j,hn.1,hn.2]
theorem uH {d:PyData} (h:bU d 4 4=true):∃a b c e,d=.tuple [a,b,c,e]:=by
 cases d with
 |tuple ds =>
  simp[bU]at h
  match ds,h with
  |[a,b,c,e],_=>exact⟨a,b,c,e,rfl⟩
  |[],h=>simp at h
  |[_],h=>simp at h
  |[_,_],h=>simp at h
  |[_,_,_],h=>simp at h
  |_::_::_::_::_::_,h=>simp at h;omega
 |_=>cases h
theorem dk {d:PyData} (h:isWhole d a b=true):∃i,d=.int i/\a<=i/\i<=b:=by
 cases d with
 |int i=>simp[isWhole]at h;exact⟨i,rfl,h⟩
 |_=>cases h
theorem qD {a b c e:PyData} (h:isWhole a 2 60=false):bK (.tuple [a,b,c,e])=false:=by
 cases a with
 |int i =>
  cases c with
  |int l =>simp only[isWhole,O0,decide_eq_false_iff_not]at h;simp only[bK,O0,decide_eq_false_iff_not];omega
  |_=>rfl
 |_=>rfl
theorem rV {b c e:PyData} {i:Int} (h:isWhole c 0 (if i-1<20 then i-1 else 20)=false):bK (.tuple [.int i,b,c,e])=false:=by
 cases c with
 |int l =>simp only[isWhole,O0,decide_eq_false_iff_not]at h;simp only[bK,O0,decide_eq_false_iff_not];exact .inl (.inl (.inr h))
 |_=>rfl
theorem rR {b e:PyData} {i l:Int} (h1:2<=i/\i<=60) (h2:0<=l/\l<=if i-1<20 then i-1 else 20):bK (.tuple [.int i,b,.int l,e])=(isWhole b 1 (i-l)&&d7 e):=by simp[bK,h1.1,h1.2,h2.1,h2.2]
theorem xk (cs:Cs):LLq (dX cs aM (f9 d7) aY) 1 3 (f9 bK):=by
 intro ds hl h;obtain⟨d,rfl,hd,e⟩:=pD h;rw[e];cases e1:bU d 4 4 with
 |false =>
  have:bK d=false:=by
   unfold bK;split
   ·simp[bU]at e1
   ·rfl
  simp[dX,hd,e1,this]
 |true =>
  obtain⟨a,b,c,q,rfl⟩:=uH e1;have ha:=en hd a (by simp);have g:=en hd b (by simp);have hc:=en hd c (by simp);have f:=en hd q (by simp);cases e2:isWhole a 2 60 with
  |false=>simp[dX,hd,ha,g,hc,f,e1,e2,qD e2]
  |true =>
   obtain⟨i,rfl,i1,i2⟩:=dk e2;cases e3:isWhole c 0 (if i-1<20 then i-1 else 20) with
   |false=>simp[dX,hd,ha,g,hc,f,e1,e2,e3,rV e3]
   |true =>
    obtain⟨l,rfl,l1,l2⟩:=dk e3;have j:=rR (b:=b) (e:=q) ⟨i1,i2⟩ ⟨l1,l2⟩;cases e4:isWhole b 1 (i-l) with
    |false=>simp[dX,hd,ha,g,hc,f,e1,e2,e3,e4,j]
    |true=>simp[dX,hd,ha,g,hc,f,e1,e2,e3,e4,j,p8 f]
def bg (cs:Cs):Gf
 |[d]=>if aI d then (if c8 d then .ok d else .rz cs.NoErrands) else .no
 |_=>.no
theorem Bk (cs:Cs):LLq (i3 cs aY (f9 bK)) 1 0 (bg cs):=by
 intro ds hl a;obtain⟨d,rfl⟩:∃d,ds=[d]:=by
  match ds,hl with
  |[d],_=>exact⟨d,rfl⟩
 have hd:aI d=true:=by
  unfold bg at a;by_cases z:aI d=true
  ·exact z
  ·simp[z]at a
 have e:bg cs [d]=if c8 d then .ok d else .rz cs.NoErrands:=by unfold bg;simp[hd]
 rw[e];cases e1:bU d 1 6 with
 |false =>
  have:c8 d=false:=by
   cases d with
   |tuple ds =>simp only[bU,O0,decide_eq_false_iff_not]at e1;simp only[c8,O0,decide_eq_false_iff_not];refine .inl ?_;omega
   |_=>rfl
  simp[i3,hd,e1,this]
 |true =>
  obtain⟨xs,rfl⟩:∃ds,d=.tuple ds:=by cases d <;> first|exact⟨_,rfl⟩|cases e1
  have hn:1<=xs.length/\xs.length<=6:=by simp only[bU,N6,decide_eq_true_eq]at e1;omega
  have hc:bw 1 (cz (af 0)) bH (aq (f9 bK) (ae (af 1) ah)) aZ [some (.tuple xs)]=.ok (xs.map λd=>.bool (bK d)) :=
   dj rfl rfl (by omega) λd b=>by simp[p8 (en hd d b)]
  have c:=iV bK xs;cases e2:xs.all bK with
  |false=>simp[i3,hd,e1,hc,c,e2,c8]
  |true=>simp[i3,hd,e1,hc,c,e2,c8,hn.1,hn.2]
theorem ll {β:Type} {tgt:PyData->Ds->Option Ds} {body:Ds->Sr} (inv:Nat->Ds->Prop):∀(ds:List PyData) (k:Nat),(∀(i:Nat) d δ,ds[i]?=some d->inv (k+i) δ->∃δ1 a,tgt d δ=some δ1/\body δ1=.nx a/\inv (k+i+1) a) ->
  ∀δ,inv k δ->∃b,forL tgt body ds δ=.nx b/\inv (k+ds.length) b
 |[],k,_,δ,h=>⟨δ,rfl,h⟩
 |d::r,k,hs,δ,h=>by
  obtain⟨δ1,a,e1,e2,h2⟩:=hs 0 d δ rfl h;obtain⟨b,c,e⟩:=ll (β:=β) inv r (k+1) (λi x δ f hi=>by have:=hs (i+1) x δ (by simpa using f) (by rw[show k+(i+1)=k+1+i by omega];exact hi);rw[show k+1+i+1=k+(i+1)+1 by omega];exact this) a h2
  exact⟨b,by unfold forL;rw[e1];simp only[e2];exact c,by rw[Nu,show k+(r.length+1)=k+1+r.length by omega];exact e⟩
def E2:PyData->Option Int
 |.int i=>some i
 |_=>none
def cj:PyData->Int×Option Int
 |.tuple [.int l,t]=>(l,E2 t)
 |_=>(0,none)
def deE:PyData->Er
 |.tuple [.int e,.int d,.int l,.tuple ps]=>⟨e,d,l,ps.map cj⟩
 |_=>⟨0,0,0,[]⟩
theorem sJ (e:Int) (d:Int) (l:Int) (ps:List PyData):deE (.tuple [.int e,.int d,.int l,.tuple ps])=⟨e,d,l,ps.map cj⟩:=rfl
def cO:PyData->List Er
 |.tuple ds=>ds.map deE
 |_=>[]
theorem xY (o:Option Int):E2 (bO o)=o:=by cases o <;> rfl
theorem jY (p:Int×Option Int):cj (aS p)=p:=by obtain⟨l,t⟩:=p;simp[aS,cj,xY]
theorem vZ (e:Er):deE e.d=e:=by
 obtain⟨a,b,c,ps⟩:=e;simp[Er.d,sJ,Nz]
 conv=>rhs;rw[<-O2 ps]
 exact Nv λp _=>jY p
theorem eZ (es:List Er):cO (ay es)=es:=by
 simp[ay,cO,Nz]
 conv=>rhs;rw[<-O2 es]
 exact Nv λe _=>vZ e
theorem part_of {d:PyData} (h:df d=true):aS (cj d)=d/\1<=(cj d).1/\(cj d).1<=20/\∀t,(cj d).2=some t->0<=t/\t<=3:=by
 unfold df at h;split at h
 ·rename_i a b;rw[N6]at h;obtain⟨i,rfl,h1,h2⟩:=dk h.1;have c:=h.2;cases b with
  |none=>exact⟨rfl,h1,h2,λt q=>by cases q⟩
  |int t =>obtain⟨t',q,e,f⟩:=dk c;cases q;exact⟨rfl,h1,h2,λt q=>by cases q;exact⟨e,f⟩⟩
  |_=>cases c
 ·cases h
theorem tD {d:PyData} (h:bK d=true):(deE d).d=d/\(deE d).Ok:=by
 unfold bK at h;split at h
 ·rename_i e j l ps;simp only[N6,decide_eq_true_eq]at h;obtain⟨⟨⟨⟨h1,h2⟩,m,n⟩,o⟩,c⟩:=h;obtain⟨j,rfl,d1,d2⟩:=dk o;unfold d7 at c;split at c
  ·rename_i ps;simp only[N6,decide_eq_true_eq]at c;obtain⟨⟨⟨p1,p2⟩,r⟩,f⟩:=c;have g:=Nr.mp r;have i:l<=20/\l<e:=by split at n <;> omega
   refine⟨?_,?_⟩
   ·have s:ps.map (aS∘cj)=ps:=by
     conv=>rhs;rw[<-O2 ps]
     exact Nv λp b=>(part_of (g p b)).1
    simp only[sJ,Er.d,Nz,s]
   ·refine⟨h1,h2,m,i.1,i.2,d1,d2,λz=>?_,by simpa[sJ] using p2,λp b=>?_,λp b=>?_⟩
    ·have:ps=[]:=by simpa[sJ] using z
     subst this;simp at p1
    ·obtain⟨q,u,rfl⟩:=Nn.mp (show p∈ps.map cj from b);exact (part_of (g q u)).2
    ·have b:(ps.map cj).getLast?=some p:=b;rw[P4]at b;unfold iQ at f;cases q:ps.getLast? with
     |none=>rw[q]at b;cases b
     |some z =>
      rw[q]at b f;simp at b;split at f
      ·rename_i a heq;cases heq;subst b;unfold cj;split
       ·rename_i l t e1;injection e1 with e1;injection e1 with _ e1;injection e1 with e1 _
        rw[<-e1];rfl
       ·rfl
      ·cases f
  ·cases c
 ·cases h
theorem zw {d:PyData} (h:c8 d=true):ay (cO d)=d/\1<=(cO d).length/\(cO d).length<=6/\∀e∈cO d,e.Ok:=by
 unfold c8 at h;split at h
 ·rename_i ds;simp only[N6,decide_eq_true_eq]at h;obtain⟨⟨h1,h2⟩,b⟩:=h;have a:=Nr.mp b;refine⟨?_,by simpa[cO] using h1,by simpa[cO] using h2,λe c=>?_⟩
  ·simp only[cO,ay,Nz];congr 1
   conv=>rhs;rw[<-O2 ds]
   exact Nv λp f=>(tD (a p f)).1
  ·obtain⟨q,g,rfl⟩:=Nn.mp (show e∈ds.map deE from c);exact (tD (a q g)).2
 ·cases h
def deI:PyData->Int
 |.int i=>i
 |_=>0
def cf:PyData->List Int
 |.tuple ds=>ds.map deI
 |_=>[]
def au (ns:List Int):PyData:=.tuple (ns.map .int)
theorem eM (ns:List Int):cf (au ns)=ns:=by
 simp[au,cf,Nz]
 conv=>rhs;rw[<-O2 ns]
 exact Nv λ_ _=>rfl
def dP (n:Nat):PyData->Bool
 |.tuple ds=>decide (ds.length=n)&&ds.all (λd=>isWhole d 0 ((n:Int)-1))&&decide (ds.map deI).Nodup
 |_=>false
structure cn (n:Nat) (rs:List Int):Prop where
 len:rs.length=n
 rng:∀r∈rs,0<=r/\r<n
 nd:rs.Nodup
theorem ml {n:Nat} {d:PyData} (h:dP n d=true):au (cf d)=d/\cn n (cf d):=by
 unfold dP at h;split at h
 ·rename_i ds;simp only[N6,decide_eq_true_eq]at h;obtain⟨⟨h1,h2⟩,e⟩:=h;have c:=Nr.mp h2;refine⟨?_,by simpa[cf] using h1,λr f=>?_,e⟩
  ·simp only[cf,au,Nz];congr 1
   conv=>rhs;rw[<-O2 ds]
   refine Nv λp g=>?_
   obtain⟨i,rfl,_⟩:=dk (c p g);rfl
  ·obtain⟨q,j,rfl⟩:=Nn.mp (show r∈ds.map deI from f);obtain⟨i,rfl,a,b⟩:=dk (c q j);exact⟨a,by show i<n;omega⟩
 ·cases h
theorem gR {n:Nat} (h:cn n rs):dP n (au rs)=true:=by
 have e:(rs.map PyData.int).map deI=rs:=by
  rw[Nz];conv=>rhs;rw[<-O2 rs]
  exact Nv λ_ _=>rfl
 unfold dP au;simp only[N4,h.len,decide_true,P6,e,h.nd,OM];rw[Nr];intro d hd;obtain⟨r,a,rfl⟩:=Nn.mp hd;have:=h.rng r a;simp[isWhole,this.1];omega
theorem nu:∀(l acc:List Int),acc.Nodup->((l.foldl PyProof.Rows.step_dedup acc).length<=acc.length+l.length)/\((l.foldl PyProof.Rows.step_dedup acc).length=acc.length+l.length↔(acc++l).Nodup)
 |[],acc,h=>by simpa using h
 |x::r,acc,h=>by
  rw[OU];by_cases z:acc.any (·==x)=true
  ·have e:PyProof.Rows.step_dedup acc x=acc:=by unfold PyProof.Rows.step_dedup;rw[if_pos z]
   rw[e];have:=nu r acc h;refine⟨by rw[Nu];omega,λq=>?_,λq=>?_⟩
   ·rw[Nu]at q;omega
   ·exfalso;obtain⟨y,c,f⟩:=Ow.mp z;have:y=x:=by simpa using f
    subst this;rw[Pm]at q;exact q.2.2 y c y N3 rfl
  ·have e:PyProof.Rows.step_dedup acc x=acc++[x]:=by unfold PyProof.Rows.step_dedup;rw[if_neg z]
   have g:x∉acc:=λq=>z (Ow.mpr ⟨x,q,by simp⟩)
   have hn:(acc++[x]).Nodup:=by rw[Pm];exact⟨h,by simp,λa ha b i=>by rw[N9.mp i];rintro rfl;exact g ha⟩
   rw[e];have:=nu r (acc++[x]) hn;rw[Nl,NS,Ot]at this;refine⟨by rw[Nu];omega,?_⟩;rw[Nu,show acc.length+(r.length+1)=acc.length+1+r.length by omega];exact this.2
theorem yj (ns:List Int):((seen ns ns.length).length:Int)<ns.length↔¬ ns.Nodup:=by
 have e:(List.range ns.length).map (λi=>ns.getD i 0)=ns:=by
  apply List.ext_getElem?;intro i;rw[Nx];by_cases h:i<ns.length
  ·rw[OR h,My h];simp[Nw,My h]
  ·rw[Ox (by simpa using h),Ox (by simpa using h)];rfl
 have:=nu ns [] Pd;unfold seen PyProof.Rows.firstMet;rw[e];simp only[Om,O5,NT]at this;constructor
 ·intro h q;have:=this.2.mpr q;omega
 ·intro h;have h1:=this.1;have h2:¬ (List.foldl PyProof.Rows.step_dedup [] ns).length=ns.length:=λq=>h (this.2.mp q)
  omega
def aV (cs:Cs):Gf
 |[.tuple es,r]=>if aI r&&decide (es.length<=100) then (if dP es.length r then .ok r else .rz cs.NoRanks) else .no
 |_=>.no
theorem DH {f:List PyData->PyData->Rs PyData} (h:(match ds with|[.tuple a,x1]=>f a x1|_=>.no)≠.no):∃a x1,ds=[.tuple a,x1]/\f a x1≠.no:=by
 rcases ds with _|⟨a,_|⟨x1,_|⟨y,ys⟩⟩⟩
 ·exact absurd rfl h
 ·first|exact absurd rfl h|(cases a <;> exact absurd rfl h)
 ·skip
  cases a with
  |tuple a =>exact⟨_,_,rfl,h⟩
  |_=>exact absurd rfl h
 ·first|exact absurd rfl h|(cases a <;> exact absurd rfl h)
theorem oO (cs:Cs):LLq (cF cs aY aM) 2 1 (aV cs):=by
 intro ds hl a;obtain⟨es,r,l,j⟩:=DH a;clear a;subst l;have a:=j;clear j;unfold aV
 ·skip
  split at a
  ·rename_i c;simp only[c,if_true];rw[N6,decide_eq_true_eq]at c;obtain⟨hd,h100⟩:=c;cases e1:bU r es.length es.length with
   |false =>
    have:dP es.length r=false:=by
     cases r with
     |tuple xs =>
      have:xs.length≠es.length:=λq=>by simp[bU,q]at e1
      simp[dP,this]
     |_=>rfl
    simp[cF,hd,e1,this]
   |true =>
    obtain⟨xs,rfl⟩:∃ds,r=.tuple ds:=by cases r <;> first|exact⟨_,rfl⟩|cases e1
    have hn:xs.length=es.length:=by simp only[bU,N6,decide_eq_true_eq]at e1;omega
    have hc:bw 3 (cz (af 1)) bH (aq aM (ae (af 3) (ae (gC (.int 0)) (ae (af 2) ah)))) aZ [some (.tuple es),some (.tuple xs),some (.int ((es.length:Int)-1))]=.ok (xs.map λd=>.bool (isWhole d 0 ((es.length:Int)-1))) :=
     dj rfl rfl (by omega) λd e=>by simp[en hd d e]
    have f:=iV (λd=>isWhole d 0 ((es.length:Int)-1)) xs;cases e2:xs.all (λd=>isWhole d 0 ((es.length:Int)-1)) with
    |false=>simp[cF,hd,e1,hc,f,e2,dP]
    |true =>
     have m:=Nr.mp e2;have n:xs=(xs.map deI).map PyData.int:=by
      rw[Nz]
      conv=>lhs;rw[<-O2 xs]
      refine Nv λp o=>?_
      obtain⟨i,rfl,_⟩:=dk (m p o);rfl
     have g:lZ [.tuple xs]=some (.int (seen (xs.map deI) (xs.map deI).length).length):=by
      unfold lZ
      conv=>lhs;rw[n]
      simp only[ee,OK];rw[if_pos (by simp;omega)]
     have b:=yj (xs.map deI);have h:(xs.map deI).length=es.length:=by rw[N4];exact hn
     rw[h]at g b;by_cases hnd:(xs.map deI).Nodup
     ·have h2:¬ (seen (xs.map deI) es.length).length<es.length:=λq=>b.mp (by omega) hnd
      simp[cF,hd,e1,hc,f,e2,g,hn,h2,dP,hnd]
     ·have h2:(seen (xs.map deI) es.length).length<es.length:=by have:=b.mpr hnd;omega
      simp[cF,hd,e1,hc,f,e2,g,hn,h2,dP,hnd]
  ·exact absurd rfl a
def kg:PyData->Bool
 |.tuple [.int l,b]=>decide (0<=l)&&decide (l<=1000000)&&(match b with|.none=>true|.int t=>decide (0<=t)&&decide (t<=3)|_=>false)
 |_=>false
def uo:PyData->Bool
 |.tuple [.int e,.int _,.int l,.tuple ps]=>decide (1<=e)&&decide (e<1073741824)&&decide (-1000000000<=l)&&decide (l<=1000000000)&&decide (ps.length<=1000)&&ps.all kg
 |_=>false
def pR:PyData->Bool
 |.tuple ds=>decide (ds.length<=100)&&ds.all uo
 |_=>false
structure Er.Sh (e:Er):Prop where
 e1:1<=e.every
 e2:e.every<1073741824
 l1:-1000000000<=e.late
 l2:e.late<=1000000000
 pn:e.parts.length<=1000
 pl:∀p∈e.parts,0<=p.1/\p.1<=1000000/\∀t,p.2=some t->0<=t/\t<=3
theorem sA {d:PyData} (h:kg d=true):aS (cj d)=d/\0<=(cj d).1/\(cj d).1<=1000000/\∀t,(cj d).2=some t->0<=t/\t<=3:=by
 unfold kg at h;split at h
 ·rename_i l b;simp only[N6,decide_eq_true_eq]at h;obtain⟨⟨h1,h2⟩,a⟩:=h;cases b with
  |none=>exact⟨rfl,h1,h2,λt q=>by cases q⟩
  |int t =>simp only[N6,decide_eq_true_eq]at a;exact⟨rfl,h1,h2,λt q=>by cases q;exact a⟩
  |_=>cases a
 ·cases h
theorem ua {d:PyData} (h:uo d=true):(deE d).d=d/\(deE d).Sh:=by
 unfold uo at h;split at h
 ·rename_i e du l ps;simp only[N6,decide_eq_true_eq]at h;obtain⟨⟨⟨⟨⟨h1,h2⟩,a⟩,b⟩,g⟩,i⟩:=h;have f:=Nr.mp i;have j:ps.map (aS∘cj)=ps:=by
   conv=>rhs;rw[<-O2 ps]
   exact Nv λp c=>(sA (f p c)).1
  refine⟨by simp only[sJ,Er.d,Nz,j],h1,h2,a,b,by simpa[sJ] using g,λp c=>?_⟩;obtain⟨q,m,rfl⟩:=Nn.mp (show p∈ps.map cj from c);exact (sA (f q m)).2
 ·cases h
theorem lN (h:e.Sh):uo e.d=true:=by
 unfold uo Er.d;simp only[h.e1,h.e2,h.l1,h.l2,decide_true,P6,N4,h.pn];rw[Nr];intro d hd;obtain⟨p,f,rfl⟩:=Nn.mp hd;obtain⟨a,b,c⟩:=h.pl p f;obtain⟨l,t⟩:=p;cases t with
 |none=>simp at a b;simp[kg,aS,bO,a,b]
 |some t=>have:=c t rfl;simp at a b;simp[kg,aS,bO,a,b,this.1,this.2]
theorem Er.Ok.sh (h:e.Ok):e.Sh:=⟨by have:=h.e1;omega,by have:=h.e2;omega,by have:=h.l1;omega,by have:=h.l2;omega,by have:=h.p2;omega,λp f=>by obtain⟨a,b,c⟩:=h.pl p f;exact⟨by omega,by omega,c⟩⟩
theorem yv {d:PyData} (h:pR d=true):ay (cO d)=d/\(cO d).length<=100/\∀e∈cO d,e.Sh:=by
 unfold pR at h;split at h
 ·rename_i ds;simp only[N6,decide_eq_true_eq]at h;have a:=Nr.mp h.2;refine⟨?_,by simpa[cO] using h.1,λe b=>?_⟩
  ·simp only[cO,ay,Nz];congr 1
   conv=>rhs;rw[<-O2 ds]
   exact Nv λp c=>(ua (a p c)).1
  ·obtain⟨q,f,rfl⟩:=Nn.mp (show e∈ds.map deE from b);exact (ua (a q f)).2
 ·cases h
theorem qX (h1:es.length<=100) (h:∀e∈es,e.Sh):pR (ay es)=true:=by unfold pR ay;simp only[N4,h1,decide_true,P6];rw[Nr];intro d hd;obtain⟨e,a,rfl⟩:=Nn.mp hd;exact lN (h e a)
def Er.work (e:Er):Int:=(e.parts.map (·.1)).sum
def Er.has (e:Er) (t:Int):Bool:=e.parts.any λp=>p.2==some t
def er0:Er:=⟨1,1,0,[]⟩
def aW (es:List Er) (n:Int):Er:=es.getD n.toNat er0
def hts (es:List Er):List Int->Int->Int->Option Int
 |[],_,_=>none
 |r::rs,k,t=>if (aW es r).has t then some k else hts es rs (k+1) t
def bo (es:List Er) (rs:List Int) (t:Int):Option Int:=hts es rs 0 t
def placeOf (rs:List Int) (n:Int):Nat:=rs.findIdx (·==n)
def iS (es:List Er) (rs:List Int) (pl:Int) (acc:Int) (p:Int×Option Int):Int:=match p.2 with
 |some t=>(match bo es rs t with
  |some h=>if h<=pl then max acc (p.1-1) else acc
  |none=>acc)
 |none=>acc
def ju (es:List Er) (rs:List Int) (n:Int):Int:=(((rs.drop (placeOf rs n+1)).map λm=>(aW es m).parts).flatten).foldl (iS es rs (placeOf rs n)) 0
def Er.times (e:Er) (t:Int):Int:=(t+e.late) / e.every+(if (t+e.late) % e.every>0 then 1 else 0)
def nW (es:List Er) (rs:List Int) (n t:Int):Int:=ju es rs n+(aW es n).work+((rs.take (placeOf rs n)).map λm=>(aW es m).times t*(aW es m).work).sum
def cu (es:List Er) (rs:List Int) (n:Int):Option Int:=((List.range ((aW es n).every-(aW es n).late).toNat).map λ(i:Nat)=>(1+(i:Int))).find? λt=>decide (nW es rs n t<=t)
theorem my (h0:0<=n) (h1:n<es.length):es[n.toNat]?=some (aW es n):=by unfold aW;rw[Nw,My (by omega)];rfl
theorem cy (a:0<=n) (h1:n<es.length):aW es n∈es:=NV (my a h1)
theorem jf (a:0<=n) (h1:n<es.length):atI (es.map Er.d) n=some (aW es n).d:=by rw[mW (j:=n.toNat) (by omega),Nx,my a h1];rfl
def b8:Gf
 |[d]=>if uo d then .ok (.int (deE d).work) else .no
 |_=>.no
theorem gN (h:e.Sh):b8 [e.d]=.ok (.int e.work):=by unfold b8;simp[lN h,vZ]
theorem Fn (p:Int×Option Int):dIx (aS p) (.int 0)=some (.int p.1):=rfl
theorem Dz (p:Int×Option Int):dIx (aS p) (.int 1)=some (bO p.2):=rfl
theorem F4 (e:Er):dIx e.d (.int 3)=some (.tuple (e.parts.map aS)):=rfl
theorem LV {f:PyData->Rs PyData} (h:(match ds with|[a]=>f a|_=>.no)≠.no):∃a,ds=[a]/\f a≠.no:=by
 rcases ds with _|⟨a,_|⟨y,ys⟩⟩
 ·exact absurd rfl h
 ·skip
  exact⟨_,rfl,h⟩
 ·exact absurd rfl h
theorem yU (cs:Cs):LLq (rj cs) 1 0 b8:=by
 intro ds hl a;obtain⟨d,f,c⟩:=LV a;clear a;subst f;have a:=c;clear c
 ·skip
  split at a
  ·rename_i hd;obtain⟨e1,sh⟩:=ua hd;rw[<-e1];generalize deE d=e at sh;rw[gN sh];have hc:bw 1 (cz (g2 dIx (af 0) (gC (.int 3)))) bH (g2 dIx (af 1) (gC (.int 0))) aZ [some e.d]=.ok ((e.parts.map aS).map λd=>.int (cj d).1) :=
    dj rfl (by simp[F4]) (by have:=sh.pn;simp;omega) λd b=>by obtain⟨p,hp,rfl⟩:=Nn.mp b;simp[Fn,jY]
   have hm:((e.parts.map aS).map λd=>PyData.int (cj d).1)=e.parts.map λp=>.int p.1:=by rw[Nz];exact Nv λp _=>by simp[jY]
   rw[hm]at hc;simp[rj,hc,CO,Er.work]
  ·exact absurd rfl a
theorem kS (h:n∈rs):placeOf rs n<rs.length:=List.findIdx_lt_length_of_exists ⟨n,h,by simp⟩
theorem wW:∀{l m:List Int},l.Nodup->(∀x∈l,x∈m)->l.length<=m.length
 |[],m,_,_=>NY _
 |x::r,m,hn,hs=>by
  rw[NP]at hn;have a:=hs x N3;have:=wW (l:=r) (m:=m.erase x) hn.2 λy b=>by rw[List.mem_erase_of_ne (by rintro rfl;exact hn.1 b)];exact hs y (N2 _ b)
  rw[List.length_erase_of_mem a]at this;have hp:=List.length_pos_of_mem a;rw[Nu];omega
theorem cn.mem {k:Nat} (h:cn k rs) (c:0<=n) (h1:n<k):n∈rs:=by
 have base:∀x:Int,0<=x->x<k->x∈(List.range k).map λ(i:Nat)=>(i:Int):=λx a b=>Nn.mpr ⟨x.toNat,Ou.mpr (by omega),by omega⟩
 by_cases z:n∈rs
 ·exact z
 ·exfalso;have:=wW (l:=n::rs) (m:=(List.range k).map λ(i:Nat)=>(i:Int)) (NP.mpr ⟨z,h.nd⟩) λx e=>by
   rcases N5.mp e with q|q
   ·rw[q];exact base n c h1
   ·have:=h.rng x q;exact base x this.1 this.2
  have hl:=h.len;simp at this;omega
theorem Cn (ns:List Int):(ns.map PyData.int).all gj=true:=by rw[Nr];intro d hd;obtain⟨n,_,rfl⟩:=Nn.mp hd;rfl
theorem mD (n:Int):∀rs:List Int,n∈rs->(((rs.map PyData.int).map toV).findIdx? λz=>eqV z (.int n))=some (placeOf rs n)
 |[],h=>by cases h
 |r::rs,h=>by
  have ev:eqV (.int r) (.int n)=(r==n):=rfl;rw[N0,N0,List.findIdx?_cons];unfold placeOf;rw[Pn];show (if eqV (.int r) (.int n)=true then some 0 else _)=_;rw[ev];cases hr:r==n with
  |true=>rfl
  |false =>
   have a:r≠n:=by simpa using hr
   have:=mD n rs ((N5.mp h).resolve_left λq=>a q.symm);rw[if_neg NA,this];rfl
theorem kl (h:n∈rs):mV (rs.map .int) (.int n)=some (.int (placeOf rs n)):=by unfold mV;rw[Cn,show gj (.int n)=true from rfl];simp only[Pj,if_true];rw[show toV (.int n)=.int n from rfl,mD n rs h];rfl
@[simp]theorem zy (go ga:Ds->Rs PyData) (δ:Ds):rm go ga δ=(go δ).bind λd=>match d with|.tuple xs=>(ga δ).bind λy=>Rs.eE (mV xs y)|_=>.no:=rfl
theorem DZ {k:Nat}:cutD xs (some (k:Int)) none=xs.drop k:=by
 unfold cutD;have e1:HT.sIx xs.length 0 (some (k:Int))=min k xs.length:=HT.AQ _ _ _;have e2:HT.sIx xs.length xs.length none=xs.length:=rfl;rw[e1,e2];by_cases h:k<=xs.length
 ·rw[Nat.min_eq_left h];exact List.take_of_length_le (by simp)
 ·rw[Nat.min_eq_right (by omega),List.drop_of_length_le (N7 _),List.drop_of_length_le (by omega)];simp
theorem JY {k:Nat}:cutD xs none (some (k:Int))=xs.take k:=by unfold cutD;have e1:HT.sIx xs.length 0 none=0:=rfl;have e2:HT.sIx xs.length xs.length (some (k:Int))=min k xs.length:=HT.AQ _ _ _;rw[e1,e2];simp
theorem pK (es:List Er) (t:Int):∀(rs:List Int) (k:Int) (m:Int),m∈rs->(aW es m).has t=true->∃h,hts es rs k t=some h
 |[],_,_,h,_=>by cases h
 |r::rs,k,m,h,ht=>by
  unfold hts;by_cases z:(aW es r).has t=true
  ·exact⟨k,by rw[if_pos z]⟩
  ·rw[if_neg z];rcases N5.mp h with q|q
   ·subst q;exact absurd ht z
   ·exact pK es t rs (k+1) m q ht
theorem xV {t:Int} (a:0<=t) (h3:t<=3):atI ((List.range 4).map λ(t:Nat)=>bO (bo es rs t)) t=some (bO (bo es rs t)):=by rw[mW (j:=t.toNat) (by omega),Nx,OR (by omega)];simp only[Of];rw[OC a]
theorem KL {p:Int×Option Int} {t:Int} (a:p∈e.parts) (h:p.2=some t):e.has t=true:=Ow.mpr ⟨p,a,by simp[h]⟩
theorem qP:∀(ps:List (Int×Option Int)),(∀p∈ps,0<=p.1/\p.1<=1000000)->0<=(ps.map (·.1)).sum/\(ps.map (·.1)).sum<=1000000*ps.length
 |[],_=>by simp
 |p::r,h=>by
  have h1:=h p N3;have h2:=qP r λq a=>h q (N2 _ a)
  simp only[N0,NO,Nu];omega
theorem Er.Sh.work_b (h:e.Sh):0<=e.work/\e.work<=1000000000:=by
 have:=qP e.parts λp a=>⟨(h.pl p a).1,(h.pl p a).2.1⟩
 have h2:=h.pn;unfold Er.work;omega
theorem Es (h1:-(2 ^ 64)<b) (h2:b<2 ^ 64):eJ (.int a) (.int b)=some (.int (a*b)):=by show (if _ then _ else _)=_;rw[if_pos (.inr ⟨h1,h2⟩)]
theorem qm (h1:-(2 ^ 64)<a) (h2:a<2 ^ 64):eJ (.int a) (.int b)=some (.int (a*b)):=by show (if _ then _ else _)=_;rw[if_pos (.inl ⟨h1,h2⟩)]
def fe:PyData->Option (List Int)
 |.dict [(.none,.list l)]=>eS l
 |_=>none
theorem fF (ns:List Int):fe (aj ns)=some ns:=ee ns
def ak:Gf
 |[s,.int k,.int many]=>(match fe s with
  |some ns=>if 0<=k/\0<many then .ok (.int (mixed ns k many)) else .no
  |none=>.no)
 |_=>.no
theorem cG {k:Int} (h1:0<=k) (h2:0<many):ak [aj ns,.int k,.int many]=.ok (.int (mixed ns k many)):=by unfold ak;simp[fF,h1,h2]
theorem fT (O:List Nat) (i:Nat) (g:Ds->Rs PyData) (δ:Ds):aQ O i g δ=if i<δ.length then ofR (g (mask O δ)) λd=>.nx (δ.set i (some d)) else .no:=rfl
def bX:Gf
 |[s,.int a,.int top,.bool tools]=>(match fe s with
  |some ns=>if 0<=a/\0<top/\top<=58 then .ok (mkE ns a top tools).d else .no
  |none=>.no)
 |_=>.no
theorem iX {top:Int} {b:Bool} (h1:0<=a) (h2:0<top) (c:top<=58):bX [aj ns,.int a,.int top,.bool b]=.ok (mkE ns a top b).d:=by unfold bX;simp[fF,h1,h2,c]
theorem BF (o:Option Int):fz (bO o)=true:=by cases o <;> (unfold bO fz;rfl)
theorem yF (p:Int×Option Int):fz (aS p)=true:=by unfold aS fz kX;rw[show fz (.int p.1)=true by unfold fz;rfl];unfold kX;rw[BF];unfold kX;rfl
theorem Fh {i:Int} (h0:0<=i) (h1:i<5):atI [PyData.int 0,PyData.int 1,PyData.int 1,PyData.int 0,PyData.none] i=some (bO (kJ i)):=by
 have:i=0\/i=1\/i=2\/i=3\/i=4:=by omega
 rcases this with rfl|rfl|rfl|rfl|rfl <;> rfl
theorem wY (ns:List Int) (a top:Int) (b:Bool) (ev la e:PyData) (ha:0<=a) (L:List PyData) (hL:L.length<1000) (i:Nat) (x8 f:Option PyData) :
   aF (aQ [7] 9 (aq ak (ae (af 0) (ae (g2 aX (g2 aX (af 1) (gC (.int 4))) (af 8)) (ae (gC (.int 40)) ah)))))
   (aF (hV [7] 7 (hZ (ae (g2 aX (gC (.int 1)) (g2 eI (af 9) (gC (.int 4)))) (ae (g2 dIx (jN (ae (gC (.int 0)) (ae (gC (.int 1)) (ae (gC (.int 1)) (ae (gC (.int 0)) (ae (gC .none) ah)))))) (g2 eI (g2 iR (af 9) (gC (.int 4))) (gC (.int 5)))) ah))))
   (sIf (gD (gT (af 3))) (Cc 7 (g1 mO (gC (.int 1))) (hZ (ae (g2 dIx (g2 dIx (af 7) (g1 mO (gC (.int 1)))) (gC (.int 0))) (ae (gC .none) ah)))) ba))
     [some (aj ns),some (.int a),some (.int top),some (.bool b),some ev,some la,some e,some (.list L),some (.int (0+(i:Int))),f]
  =.nx [some (aj ns),some (.int a),some (.int top),some (.bool b),some ev,some la,some e,some (.list (L++[aS (eP ns (a+4+(i:Int)) b)])),some (.int (0+(i:Int))),some (.int (mixed ns (a+4+(0+(i:Int))) 40))]:=by
 have hm:=cG (ns:=ns) (k:=a+4+(0+(i:Int))) (many:=40) (by omega) (by decide);have m0:=cK ns (a+4+(0+(i:Int))) (many:=40) (by decide);have m1:=de ns (a+4+(0+(i:Int))) (many:=40) (by decide);have h:a+4+(0+(i:Int))=a+4+(i:Int):=by omega
 generalize hc:mixed ns (a+4+(0+(i:Int))) 40=c at *;have j:0<=c / 4 % 5:=O1 _ (by decide);have l:c / 4 % 5<5:=Ol _ (by decide);have m:=Fh j l;have g:eP ns (a+4+(i:Int)) b=(1+c % 4,if b then kJ (c / 4 % 5) else none):=by unfold eP;rw[<-h,hc]
 have n:aQ [7] 9 (aq ak (ae (af 0) (ae (g2 aX (g2 aX (af 1) (gC (.int 4))) (af 8)) (ae (gC (.int 40)) ah)))) [some (aj ns),some (.int a),some (.int top),some (.bool b),some ev,some la,some e,some (.list L),some (.int (0+(i:Int))),f]
    =.nx [some (aj ns),some (.int a),some (.int top),some (.bool b),some ev,some la,some e,some (.list L),some (.int (0+(i:Int))),some (.int c)]:=by
   rw[fT,if_pos (by simp)];simp only[bf,aA,aG,bN,aB (show 0∉[7] by decide),aB (show 1∉[7] by decide),aB (show 8∉[7] by decide),ao,ar,cB,Rs.ag,d6,Rs.ai,hm,av];rfl
 have s2:hV [7] 7 (hZ (ae (g2 aX (gC (.int 1)) (g2 eI (af 9) (gC (.int 4)))) (ae (g2 dIx (jN (ae (gC (.int 0)) (ae (gC (.int 1)) (ae (gC (.int 1)) (ae (gC (.int 0)) (ae (gC .none) ah)))))) (g2 eI (g2 iR (af 9) (gC (.int 4))) (gC (.int 5)))) ah)))
     [some (aj ns),some (.int a),some (.int top),some (.bool b),some ev,some la,some e,some (.list L),some (.int (0+(i:Int))),some (.int c)]
    =.nx [some (aj ns),some (.int a),some (.int top),some (.bool b),some ev,some la,some e,some (.list (L++[aS (1+c % 4,kJ (c / 4 % 5))])),some (.int (0+(i:Int))),some (.int c)]:=by
   unfold hV;simp only[Od,Oe];simp only[mL,xS,aA,aG,bN,aB (show 9∉[7] by decide),ao,ar,cB,Rs.ag,d6,Rs.ai,tI,vU,if_pos (show (0:Int)<4 by decide),if_pos (show (0:Int)<5 by decide),if_pos (show (0:Int)<4/\(4:Int)<1073741824 by decide),Dn,m,av,if_pos (show L.length<1000000 by omega)];rfl
 rw[aL,n];simp only;rw[aL,s2];simp only;cases b with
 |true =>rw[g];simp
 |false =>
   rw[g];have hl:atI (L++[aS (1+c % 4,kJ (c / 4 % 5))]) (-1)=some (aS (1+c % 4,kJ (c / 4 % 5))):=by rw[ko];simp
   have o:ixN (L++[aS (1+c % 4,kJ (c / 4 % 5))]).length (-1)=some L.length:=by unfold ixN;rw[if_neg (by decide),Nl,NS,if_pos (by omega)];congr 1;omega
   have p:(L++[aS (1+c % 4,kJ (c / 4 % 5))]).set L.length (.tuple [.int (1+c % 4),.none])=L++[aS (1+c % 4,none)]:=by rw[P9 _ _ (N7 _)];simp;rfl
   have q:fz (.tuple [.int (1+c % 4),.none])=true:=yF (1+c % 4,none);rw[dZ];simp only[vp,fD,ao,ar,Rs.ag,bx,av,Bool.not_false,if_true];unfold Cc;simp only[Od,Oe,mL,aA,aG,bN,iA,ao,ar,cB,Rs.ag,Ig,Rs.ai,Dn,hl,Fn,av,o,q,if_true,p];rfl
theorem kC {j:Int} (h0:0<=j) (h1:j<1000000):Gd [.int j]=.ok (bG 0 j.toNat):=by show (if _ then _ else _)=_;rw[if_pos (by omega)]
theorem jr {lo:Int} {n:Nat} {d:PyData} (h:(bG lo n)[i]?=some d):i<n/\d=.int (lo+(i:Int)):=by have hi:=(ND.mp h).1;rw[dw]at hi;unfold bG at h;rw[Nx,OR hi]at h;exact⟨hi,(Option.some.inj h).symm⟩
theorem p7 (n:Nat) (g:Nat->α):(List.range (n+1)).map g=(List.range n).map g++[g n]:=by rw[List.range_succ,NQ];rfl
theorem E9 {f:PyData->Int->Int->Bool->Rs PyData} (h:(match ds with|[a,.int x1,.int x2,.bool x3]=>f a x1 x2 x3|_=>.no)≠.no):∃a x1 x2 x3,ds=[a,.int x1,.int x2,.bool x3]/\f a x1 x2 x3≠.no:=by
 rcases ds with _|⟨a,_|⟨x1,_|⟨x2,_|⟨x3,_|⟨y,ys⟩⟩⟩⟩⟩
 ·exact absurd rfl h
 ·exact absurd rfl h
 ·first|exact absurd rfl h|(cases x1 <;> exact absurd rfl h)
 ·first|exact absurd rfl h|(cases x1 <;> first|exact absurd rfl h|(cases x2 <;> exact absurd rfl h))
 ·skip
  cases x1 with
  |int x1 =>
   cases x2 with
   |int x2 =>
    cases x3 with
    |bool x3 =>exact⟨_,_,_,_,rfl,h⟩
    |_=>exact absurd rfl h
   |_=>first|exact absurd rfl h|(cases x3 <;> exact absurd rfl h)
  |_=>first|exact absurd rfl h|(cases x2 <;> first|exact absurd rfl h|(cases x3 <;> exact absurd rfl h))
 ·first|exact absurd rfl h|(cases x1 <;> first|exact absurd rfl h|(cases x2 <;> first|exact absurd rfl h|(cases x3 <;> exact absurd rfl h)))
theorem u5 (cs:Cs):LLq (gy cs ak) 4 6 bX:=by
 intro ds hl c;obtain⟨s,a,top,b,q,p⟩:=E9 c;clear c;subst q;have c:=p;clear p
 ·skip
  split at c
  ·rename_i ns h;have es:s=aj ns:=by
    unfold fe at h;split at h
    ·rename_i l;rw[dC h];rfl
    ·cases h
   subst es;split at c
   ·rename_i hc;obtain⟨ha,j,m⟩:=hc;rw[iX ha j m];show a8 (gy cs ak [some (aj ns),some (.int a),some (.int top),some (.bool b),none,none,none,none,none,none])=_;have hm:∀k many:Int,0<=k->0<many->ak [aj ns,.int k,.int many]=.ok (.int (mixed ns k many)):=λk many h1 h2=>cG h1 h2
    have a1:=cK ns a j;have lb:=wF ns a (3+mixed ns a top) (by omega);have b1:=cK ns (a+1) (many:=4) (by decide);have b2:=de ns (a+1) (many:=4) (by decide);have n1:=cK ns (a+3) (many:=3) (by decide);have n2:=de ns (a+3) (many:=3) (by decide);have c1:=cK ns (a+6) (many:=3) (by decide);have c2:=de ns (a+6) (many:=3) (by decide)
    -- every
    have r:aQ [7] 4 (g2 aX (gC (.int 3)) (aq ak (ae (af 0) (ae (af 1) (ae (af 2) ah))))) [some (aj ns),some (.int a),some (.int top),some (.bool b),none,none,none,none,none,none]
      =.nx [some (aj ns),some (.int a),some (.int top),some (.bool b),some (.int (3+mixed ns a top)),none,none,none,none,none]:=by
     rw[fT,if_pos (by simp)];simp only[bf,aA,aG,bN,aB (show 0∉[7] by decide),aB (show 1∉[7] by decide),aB (show 2∉[7] by decide),ao,ar,cB,Rs.ag,hm a top ha j,d6,Rs.ai,av];rfl
    generalize hev:3+mixed ns a top=ev at *;have evp:3<=ev:=by omega
    have s2:aQ [7] 5 (g2 eJ (aq ak (ae (af 0) (ae (g2 aX (af 1) (gC (.int 1))) (ae (gC (.int 4)) ah)))) (gF BE (ae (g2 dEq (aq ak (ae (af 0) (ae (g2 aX (af 1) (gC (.int 2))) (ae (gC (.int 3)) ah)))) (gC (.int 0))) ah))) [some (aj ns),some (.int a),some (.int top),some (.bool b),some (.int ev),none,none,none,none,none]
      =.nx [some (aj ns),some (.int a),some (.int top),some (.bool b),some (.int ev),some (.int (mixed ns (a+1) 4*(if mixed ns (a+2) 3=0 then 1 else 0))),none,none,none,none]:=by
     rw[fT,if_pos (by simp)];simp only[bf,aA,aG,bN,gA,aB (show 0∉[7] by decide),aB (show 1∉[7] by decide),ao,ar,cB,Rs.ag,d6,Rs.ai,hm (a+1) 4 (by omega) (by decide),hm (a+2) 3 (by omega) (by decide),jC,Jz];rw[qm (by omega) (by omega)];simp only[Rs.ai,av,beq_iff_eq];rfl
    have u:aQ [7] 5 (gF kK (ae (af 5) (ae (g2 fo (af 4) (gC (.int 1))) ah))) [some (aj ns),some (.int a),some (.int top),some (.bool b),some (.int ev),some (.int (mixed ns (a+1) 4*(if mixed ns (a+2) 3=0 then 1 else 0))),none,none,none,none]
      =.nx [some (aj ns),some (.int a),some (.int top),some (.bool b),some (.int ev),some (.int (iy ns a ev)),none,none,none,none]:=by
     rw[fT,if_pos (by simp)];simp only[gA,aA,aG,bN,aB (show 4∉[7] by decide),aB (show 5∉[7] by decide),ao,ar,cB,Rs.ag,oz,Rs.ai,yz,av];rfl
    generalize hla:iy ns a ev=la at *;have v:aQ [7] 6 (g2 fo (af 4) (af 5)) [some (aj ns),some (.int a),some (.int top),some (.bool b),some (.int ev),some (.int la),none,none,none,none]
      =.nx [some (aj ns),some (.int a),some (.int top),some (.bool b),some (.int ev),some (.int la),some (.int (ev-la)),none,none,none]:=by
     rw[fT,if_pos (by simp)];simp only[bN,aB (show 4∉[7] by decide),aB (show 5∉[7] by decide),ao,ar,Rs.ag,oz,Rs.ai,av];rfl
    have w:sIf (gT (g2 dEq (aq ak (ae (af 0) (ae (g2 aX (af 1) (gC (.int 1))) (ae (gC (.int 3)) ah)))) (gC (.int 0)))) (aQ [7] 6 (g2 fo (af 6) (aq ak (ae (af 0) (ae (g2 aX (af 1) (gC (.int 2))) (ae (af 6) ah)))))) ba
        [some (aj ns),some (.int a),some (.int top),some (.bool b),some (.int ev),some (.int la),some (.int (ev-la)),none,none,none]
      =.nx [some (aj ns),some (.int a),some (.int top),some (.bool b),some (.int ev),some (.int la),some (.int (om ns a (ev-la))),none,none,none]:=by
     rw[dZ];simp only[fD,bN,bf,aA,aG,ao,ar,cB,Rs.ag,d6,Rs.ai,hm (a+1) 3 (by omega) (by decide),jC,bx,av];by_cases z:mixed ns (a+1) 3=0
     · rw[if_pos (by simp[z]),fT,if_pos (by simp)];simp only[bf,aA,aG,bN,aB (show 0∉[7] by decide),aB (show 1∉[7] by decide),aB (show 6∉[7] by decide),ao,ar,cB,Rs.ag,d6,Rs.ai,hm (a+2) (ev-la) (by omega) (by omega),oz,av];unfold om;rw[if_pos z];rfl
     · rw[if_neg (by simp[z])];unfold om;rw[if_neg z];rfl
    generalize hdu:om ns a (ev-la)=du at *;have x:iL [7] 7 ah [some (aj ns),some (.int a),some (.int top),some (.bool b),some (.int ev),some (.int la),some (.int du),none,none,none]
      =.nx [some (aj ns),some (.int a),some (.int top),some (.bool b),some (.int ev),some (.int la),some (.int du),some (.list []),none,none]:=rfl
    have src:fR (ae (aq ak (ae (af 0) (ae (g2 aX (af 1) (gC (.int 3))) (ae (gC (.int 3)) ah)))) ah) (mask [7] [some (aj ns),some (.int a),some (.int top),some (.bool b),some (.int ev),some (.int la),some (.int du),some (.list []),none,none])=.ok (bG 0 (mixed ns (a+3) 3).toNat):=by simp only[lC,bf,aA,aG,bN,aB (show 0∉[7] by decide),aB (show 1∉[7] by decide),ao,ar,cB,Rs.ag,d6,Rs.ai,hm (a+3) 3 (by omega) (by decide)];exact kC n1 (by omega)
    obtain⟨δ',e,x8,f,n⟩:=ll (β:=Unit) (tgt:=bB 8) (body:=aF (aQ [7] 9 (aq ak (ae (af 0) (ae (g2 aX (g2 aX (af 1) (gC (.int 4))) (af 8)) (ae (gC (.int 40)) ah)))))
  (aF (hV [7] 7 (hZ (ae (g2 aX (gC (.int 1)) (g2 eI (af 9) (gC (.int 4)))) (ae (g2 dIx (jN (ae (gC (.int 0)) (ae (gC (.int 1)) (ae (gC (.int 1)) (ae (gC (.int 0)) (ae (gC .none) ah)))))) (g2 eI (g2 iR (af 9) (gC (.int 4))) (gC (.int 5)))) ah))))
  (sIf (gD (gT (af 3))) (Cc 7 (g1 mO (gC (.int 1))) (hZ (ae (g2 dIx (g2 dIx (af 7) (g1 mO (gC (.int 1)))) (gC (.int 0))) (ae (gC .none) ah)))) ba)))
     (λi δ=>∃x8 f,δ=[some (aj ns),some (.int a),some (.int top),some (.bool b),some (.int ev),some (.int la),some (.int du),some (.list ((List.range i).map λ(k:Nat)=>aS (eP ns (a+4+(k:Int)) b))),x8,f])
     (bG 0 (mixed ns (a+3) 3).toNat) 0 (λi d δ hi o=>by obtain⟨x8,f,y⟩:=o;subst y;rw[O5]at *;obtain⟨hil,rfl⟩:=jr hi;refine⟨[some (aj ns),some (.int a),some (.int top),some (.bool b),some (.int ev),some (.int la),some (.int du),some (.list ((List.range i).map λ(k:Nat)=>aS (eP ns (a+4+(k:Int)) b))),some (.int (0+(i:Int))),f],_,rfl,wY ns a top b (.int ev) (.int la) (.int du) ha _ (by simp;omega) i none f,some (.int (0+(i:Int))),some (.int (mixed ns (a+4+(0+(i:Int))) 40)),?_⟩;rw[p7]) [some (aj ns),some (.int a),some (.int top),some (.bool b),some (.int ev),some (.int la),some (.int du),some (.list []),none,none] ⟨none,none,rfl⟩
    subst n;rw[O5,dw]at e;have hd:(mkE ns a top b).d=.tuple [.int ev,.int du,.int la,.tuple (((List.range (mixed ns (a+3) 3).toNat).map λ(k:Nat)=>aS (eP ns (a+4+(k:Int)) b))++[aS (1+mixed ns (a+6) 3,none)])]:=by simp only[mkE,Er.d,NQ,Nz,hev,hla,hdu];rfl
    rw[hd];simp only[gy];rw[aL,r];simp only;rw[aL,s2];simp only;rw[aL,u];simp only;rw[aL,v];simp only;rw[aL,w];simp only;rw[aL,x];simp only;rw[aL,kQ,src,av,e];simp only;simp only[bM,mL,xS,aA,aG,bN,gA,bf,ao,ar,cB,Rs.ag,d6,Rs.ai,hm (a+6) 3 (by omega) (by decide)];have g:aX (.list ((List.range (mixed ns (a+3) 3).toNat).map λ(k:Nat)=>aS (eP ns (a+4+(k:Int)) b))) (.list [.tuple [.int (1+mixed ns (a+6) 3),.none]])=some (.list (((List.range (mixed ns (a+3) 3).toNat).map λ(k:Nat)=>aS (eP ns (a+4+(k:Int)) b))++[aS (1+mixed ns (a+6) 3,none)])):=by show (if _ then _ else _)=_;rw[if_pos (by simp;omega)];rfl
    rw[g];simp
   ·exact absurd rfl c
  ·exact absurd rfl c
def bD:Gf
 |[s,.int a,.int most,.int top,.bool tools]=>(match fe s with
  |some ns=>if 0<=a/\0<most/\most<=6/\0<top/\top<=58 then .ok (ay (oJ ns a most top tools)) else .no
  |none=>.no)
 |_=>.no
theorem ij {most top:Int} {b:Bool} (h1:0<=a) (h2:0<most) (c:most<=6) (e:0<top) (f:top<=58):bD [aj ns,.int a,.int most,.int top,.bool b]=.ok (ay (oJ ns a most top b)):=by unfold bD;simp[fF,h1,h2,c,e,f]
theorem iq {s:PyData} (a:fe s=some ns):s=aj ns:=by
 unfold fe at a;split at a
 ·rename_i l;rw[dC a];rfl
 ·cases a
theorem BP {f:PyData->Int->Int->Int->Bool->Rs PyData} (h:(match ds with|[a,.int x1,.int x2,.int x3,.bool x4]=>f a x1 x2 x3 x4|_=>.no)≠.no):∃a x1 x2 x3 x4,ds=[a,.int x1,.int x2,.int x3,.bool x4]/\f a x1 x2 x3 x4≠.no:=by
 rcases ds with _|⟨a,_|⟨x1,_|⟨x2,_|⟨x3,_|⟨x4,_|⟨y,ys⟩⟩⟩⟩⟩⟩
 ·exact absurd rfl h
 ·exact absurd rfl h
 ·first|exact absurd rfl h|(cases x1 <;> exact absurd rfl h)
 ·first|exact absurd rfl h|(cases x1 <;> first|exact absurd rfl h|(cases x2 <;> exact absurd rfl h))
 ·first|exact absurd rfl h|(cases x1 <;> first|exact absurd rfl h|(cases x2 <;> first|exact absurd rfl h|(cases x3 <;> exact absurd rfl h)))
 ·skip
  cases x1 with
  |int x1 =>
   cases x2 with
   |int x2 =>
    cases x3 with
    |int x3 =>
     cases x4 with
     |bool x4 =>exact⟨_,_,_,_,_,rfl,h⟩
     |_=>exact absurd rfl h
    |_=>first|exact absurd rfl h|(cases x4 <;> exact absurd rfl h)
   |_=>first|exact absurd rfl h|(cases x3 <;> first|exact absurd rfl h|(cases x4 <;> exact absurd rfl h))
  |_=>first|exact absurd rfl h|(cases x2 <;> first|exact absurd rfl h|(cases x3 <;> first|exact absurd rfl h|(cases x4 <;> exact absurd rfl h)))
 ·first|exact absurd rfl h|(cases x1 <;> first|exact absurd rfl h|(cases x2 <;> first|exact absurd rfl h|(cases x3 <;> first|exact absurd rfl h|(cases x4 <;> exact absurd rfl h))))
theorem rX (cs:Cs):LLq (fK cs bX ak) 5 1 bD:=by
 intro ds hl c;obtain⟨s,a,most,top,b,n,l⟩:=BP c;clear c;subst n;have c:=l;clear l
 ·skip
  split at c
  ·rename_i ns o;have es:=iq o;subst es;split at c
   ·rename_i hc;obtain⟨ha,e,g,m,f⟩:=hc;rw[ij ha e g m f];have hm:=cG (ns:=ns) ha e;have m1:=cK ns a e;have m2:=de ns a e;have h:bw 6 (fR (ae (af 5) ah)) bH (aq bX (ae (af 0) (ae (g2 aX (g2 aX (af 1) (gC (.int 1))) (g2 eJ (gC (.int 7)) (af 6))) (ae (af 3) (ae (af 4) ah))))) aZ
      [some (aj ns),some (.int a),some (.int most),some (.int top),some (.bool b),some (.int (1+mixed ns a most))]=.ok ((bG 0 (1+mixed ns a most).toNat).map λd=>(mkE ns (a+1+7*deI d) top b).d) :=
     dj rfl (by simp only[lC,aA,aG,ao,ar,Rs.ag];exact kC (by omega) (by omega)) (by rw[dw];omega) λd hd=>by obtain⟨i,hi⟩:=List.getElem?_of_mem hd;obtain⟨_,rfl⟩:=jr hi;simp only[NU,NT,bf,aA,aG,bN,ao,ar,cB,Rs.ag,d6,Rs.ai];rw[qm (by decide) (by decide)];simp only[Rs.ai,Rs.ag,d6];exact iX (by omega) m f
    have j:ay (oJ ns a most top b)=.tuple ((bG 0 (1+mixed ns a most).toNat).map λd=>(mkE ns (a+1+7*deI d) top b).d):=by
     unfold ay oJ bG;rw[Nz,Nz];congr 1;refine Nv λk _=>?_
     simp[deI]
    rw[j];show a8 (fK cs bX ak [some (aj ns),some (.int a),some (.int most),some (.int top),some (.bool b),none])=_;simp only[fK,aL,ig,Nu,Om,Nat.reduceAdd,Nat.reduceLT,if_true,bf,aA,aG,bN,ao,ar,cB,Rs.ag,hm,d6,Rs.ai,av,OY,OZ,bM,gA,rD,h,Dr,aT]
   ·exact absurd rfl c
  ·exact absurd rfl c
end RS
namespace RS
open PySem PySem.Spec PyProof.Rows L2
section
theorem Ar {k:Nat} {G:Ds->Sr} (F:Fun K x qual st f fd) (S:cX N ps (aC st)) (c:∀i∈O,ps.length<=i)
  (body:∀(cdv:Value) (A:Around) (outer:List Env) (s:Shared) (H:Hp) (E:XK),cg k (A.deeper (envOfC qual (aC st) s.heap.objs.size f cdv))->PBD (c9 (CXW P w) P w K mg base N qual (aC st) f cdv A outer s H E) E O (bV st) G)
  (e:∀ds,ds.length=ps.length->gf ds≠.no->a8 (G (ds.map some++List.replicate (N.length-ps.length) none))=gf ds):gB P w K mg base (CXW P w) (k+1) f fd ps (spD K ps.length gf):=by
 refine l7 F S (λvs H Q E h=>?_) (λcdv A outer s H vs Q E g h=>?_)
 ·obtain⟨A,ds,b,hi,hl,o⟩:=h;rw[hi.length,hl]
 ·obtain⟨A0,ds,b,hi,hl,o⟩:=h;refine⟨_,body cdv A outer s H E g,H,A0,[],_,bQ.start b hi hl c,?_⟩;have a:=e ds hl (λz=>by rw[z]at o;exact o);cases q:G (ds.map some++List.replicate (N.length-ps.length) none) with
  |rt d=>rw[q]at a;rw[<-a]at o;exact λv H' s' hv=>o v H' s' hv
  |nx δ=>rw[q]at a;rw[<-a]at o;exact λA' σ H' j=>o .non H' j.same is_none
  |rz C=>rw[q]at a;rw[<-a]at o;exact λH' s'=>o H' s'
  |bk δ=>rw[q]at a;rw[<-a]at o;exact o.elim
  |ct δ=>rw[q]at a;rw[<-a]at o;exact o.elim
  |no=>rw[q]at a;rw[<-a]at o;exact o.elim
theorem D9 {b:Array (Option Value)} {kV e:Value} (X:K.In h) (G:h.Ns mainGlobals mg)
  (g:∀(kV doc pm:Value) (an:Option Addr) (cdv ct:Value) (us:List Value),us.length=ps.length->bindArgs (PySem.W.fnOf x x (fc st) (bV st) (aC st) .none kV doc pm an cdv ct) ⟨us,[]⟩=pure (ps.zip us))
  (a:PySem.W.nsIn K mainGlobals x=some (some (.ref f)))
  (l:K.lookup f=some ⟨oc,od,.func (PySem.W.fnOf x x (fc st) (bV st) (aC st) .none kV e pm an cd ct),b⟩)
  (c:PySem.W.codeIn K cd x=true) (k:PySem.W.keepIn K (.ref f)=true):bF K mg x st ps :=
 have F:=xZ (st:=st) l c k
 ⟨f,_,F,F.binds g,PySem.W.mg_of X G a⟩
theorem AZ (X:K.In h) (G:h.Ns mainGlobals mg) (a:PySem.W.nsIn K mainGlobals x=some (some (.ref C)))
 (e:PySem.W.excIn K C [.type "ValueError",.type "Exception",.type "BaseException",.type "object"] "ValueError.__new__"=true):rZ K mg x C:=⟨PySem.W.mg_of X G a,e⟩
theorem F2 {t:_} (X:K.In h) (G:h.Ns mainGlobals mg) (a:PySem.W.nsIn K mainGlobals x=some (some (.int n t))):∃t,mg x=some (.int n t):=⟨t,PySem.W.mg_of X G a⟩
end
def fL (n:Nat):Gf
 |[s]=>(match fe s with
  |some ns=>if ns.length<=n then .ok (.bool true) else .no
  |none=>.no)
 |_=>.no
theorem Mq {l:PySem.W.OpenLaw} {n k:Nat} {d:DefRec} {K:Params->PySem.W.Frag}
  (hn:l.most=some n) (i:n<=sizeLine) (j:d.params.defaults=[]) (A:cg k callerA)
  (B:∀(w:World) (h:Heap),YP w h->(K w.params).In h)
  (C:∀(kV doc pm:Value) (an:Option Addr) (cdv ct:Value) (us:List Value),us.length=1->bindArgs (PySem.W.fnOf d.name d.name (fc st) (bV st) (aC st) .none kV doc pm an cdv ct) ⟨us,[]⟩=pure ([x].zip us))
  (F:∀(w:World) (mg:Str->Option Value) (h:Heap),(K w.params).In h->h.Ns mainGlobals mg->
   bF (K w.params) mg d.name st [x]/\∀f fd,Fun (K w.params) d.name d.name st f fd->∀base:Heap,(K w.params).In base->base.Ns mainGlobals mg->L2.oq mg base->gB l.prog w (K w.params) mg base (CXW l.prog w) k f fd [x] (spD (K w.params) 1 (fL n)))
  (o:∀(w:World) (h:Heap) (c:List Str) (g:ExcName->Option Value) (mg D:Str->Option Value),PyProof.Rows.Top q c g mg D h->(K w.params).In h->L2.nC (K w.params) h:=by exact λ_ _ _ _ _ _ _ _=>L2.tabsIn_nil rfl) :
  PySem.W.WalkO q loose XP YP l.row.toRowW d [] (λf vs=>PySem.call f vs) :=
 L2.A6 (n:=n) (k:=k) (x:=x) (CX:=λw=>CXW l.prog w) (sp:=λw=>spD (K w.params) 1 (fL n)) hn i j A B
  (λw mg E h X G p=>by obtain⟨⟨f,fd,y,b,m⟩,I⟩:=F w mg h X G;have e:=p.symm.trans m;cases e;refine⟨fd,λs u=>?_,I E fd y⟩;obtain⟨oc,od,kV,doc,pm,an,cdv,ct,osl,rfl,lk,hcd⟩:=y.ex;exact .of_eq (C kV doc pm an cdv ct [u] rfl))
  (λw H a ns hl hO J=>by
   refine⟨[],[aj ns],?_,?_,rfl,?_⟩
   ·exact Ls.nil
   ·rw[Ao];exact⟨_,[],rfl,BQ J,rfl⟩
   ·have L:fL n [aj ns]=.ok (.bool true):=by unfold fL;simp[fF,hl]
    rw[L];intro v H' _ hv;rw[Ao]at hv;unfold Is at hv;exact hv)
  (λw H s e s' r=>(by obtain⟨_,_,_,_,_,_,z,_⟩:=r;exact z)) o
end RS
set_option maxHeartbeats 4000000
namespace L2
open PySem PySem.Spec PyProof.Rows
variable {ge:Ds->Rs PyData}
def G7 (K:PySem.W.Frag) (x:Str):Prop:=∃f oc od fd a c P o vs,PySem.W.nsIn K mainGlobals x=some (some (.ref f))/\K.lookup f=some ⟨oc,od,.func fd,a⟩/\fd.code=.ref c/\K.lookup c=some o/\o.data=.fields vs/\vs[11]?=some (.ref P)/\PySem.W.codeHdIn K c P=true
section
theorem iC.ofL {k:Nat} {G:Ds->Sr} (F:Fun K x x st f fd) (S:cX N ps (aC st)) (b:Binds K fd ps []) (m:mg x=some (.ref f)) (D:∀i∈O,ps.length<=i)
  (I:x∈mJ) (hm:∀g,PySem.W.nsIn K mainGlobals x=some (some (.ref g))->mg x=some (.ref g)) (J:G7 K x) (hB:oq mg base) (hK:K.In base) (M:∀(L:Addr) (cdv:Value),(envOfC x (aC st) L f cdv).qual++"<lambda>"=x++".<locals>.<lambda>")
  (body:∀(cdv:Value) (A:Around) (outer:List Env) (s:Shared) (H:Hp) (E:XK),cg k (A.deeper (envOfC x (aC st) s.heap.objs.size f cdv))->∀c l,Fm (c9 (CXW P w) P w K mg base N x (aC st) f cdv A outer s H E) c l->PBD (c9 (CXW P w) P w K mg base N x (aC st) f cdv A outer s H E) E O (bV st) G)
  (R:∀ds,ds.length=ps.length->gf ds≠.no->a8 (G (ds.map some++List.replicate (N.length-ps.length) none))=gf ds):iC P w K mg base (k+1) x ps.length gf:=by
 obtain⟨oc,od,kV,doc,pm,an,cdv,ct,osl,rfl,n,p⟩:=F.ex;obtain⟨j,oc',od',fd',sl',c,l,o,vs,u,y,T,U,X,Y,Z⟩:=J;have hf:j=f:=by have:=hm j u;rw[m]at this;cases this;rfl
 subst hf;rw[n]at y;have r:cdv=.ref c:=by cases y;exact T
 subst r;obtain⟨bm,ob,b1,b2,b3,b4,b5,b6,b7⟩:=hB;refine⟨j,_,ps,CL n p S (λvs H Q E h=>?_) (λA outer s H vs' Q E hr h=>?_),m,F.kp,b⟩
 ·obtain⟨A,ds,B,hi,hl,o⟩:=h;rw[hi.length,hl]
 ·obtain⟨A0,ds,B,hi,hl,e⟩:=h;refine⟨_,body (.ref c) A outer s H E hr c l ⟨?_,rfl,PySem.W.codeHd_of_K hK Z,bm,ob,b1,b2,b3,b4,b5,b6,b7⟩,H,A0,[],_,bQ.start B hi hl D,?_⟩
  ·exact⟨x,I,j,_,_,_,_,c,u,n,rfl,⟨o,vs,U,X,Y⟩,M _ _⟩
  ·have a:=R ds hl (λz=>by rw[z]at e;exact e);cases q:G (ds.map some++List.replicate (N.length-ps.length) none) with
   |rt d=>rw[q]at a;rw[<-a]at e;exact λv H' s' hv=>e v H' s' hv
   |nx δ=>rw[q]at a;rw[<-a]at e;exact λA' σ H' R'=>e .non H' R'.same is_none
   |rz C=>rw[q]at a;rw[<-a]at e;exact λH' s'=>e H' s'
   |bk δ=>rw[q]at a;rw[<-a]at e;exact e.elim
   |ct δ=>rw[q]at a;rw[<-a]at e;exact e.elim
   |no=>rw[q]at a;rw[<-a]at e;exact e.elim
end
def fG (cond:Ds->Rs Bool) (elt:Ds->Rs PyData) (tgt:PyData->Option Ds) (δ a:Ds):List PyData->Rs (List PyData)
 |[]=>.ok []
 |d::r=>match tgt d with
  |none=>.no
  |some own=>(cond (a++own)).calm.bind λb=>if b=true then (elt (δ++own)).calm.bind λx=>(fG cond elt tgt δ a r).bind λxs=>.ok (x::xs) else fG cond elt tgt δ a r
def m8 (n0:Nat) (src:Ds->Rs (List PyData)) (cond:Ds->Rs Bool) (elt:Ds->Rs PyData) (tgt:PyData->Option Ds):Ds->Ds->Rs (List PyData):=λδ a=>if δ.length=n0 then (src δ).bind λds=>if ds.length<=1000000 then fG cond elt tgt δ a ds else .no else .no
theorem GW {E:XK} {g:TG} {tt:TT} (hT:TgD K n0 own.length tgt g) (htt:∀σ H Q,cD K E0 cond σ H Q->tt σ H Q) {Q:VK} {U:List Addr} {c:Ds} (R:dq K H A δ σ) (S:dq K H U c σ) (L:∀a∈U,a∈A) (o:Ha K E A H (m8 n0 gi cond ge tgt δ c) Q) :
  tLC own.length (iD K E gi) g tt (eD K E0 ge) σ H Q:=by
 unfold m8 at o;by_cases hn0:δ.length=n0
 case neg=>rw[if_neg hn0]at o;exact o.elim
 rw[if_pos hn0]at o;have hσ:σ.length=n0:=by rw[<-R.len];exact hn0
 refine⟨A,δ,R,?_⟩;cases q:gi δ with
 |no=>rw[q]at o;exact o
 |rz C=>rw[q]at o;exact o
 |ok ds =>
  rw[q]at o;have o:Ha K E A H (if ds.length<=1000000 then fG cond ge tgt δ c ds else .no) Q:=o;by_cases hz:ds.length<=1000000
  case neg=>rw[if_neg hz]at o;exact o.elim
  rw[if_pos hz]at o;intro J H1 T hJ D M;have R1:=R.same T;have nD:D∉A:=R1.ls.new M;cases qo:fG cond ge tgt δ c ds with
  |rz C =>
   exfalso;have:∀l,fG cond ge tgt δ c l≠.rz C:=by
    intro l
    induction l with
    |nil=>intro z;cases z
    |cons d r ih =>
     intro z;unfold fG at z;split at z
     ·cases z
     ·rename_i w _;cases c1:cond (c++w) with
      |ok b =>
       simp only[c1,Rs.cW,Rs.ag]at z;split at z
       ·cases B:ge (δ++w) with
        |ok x =>
         simp only[B,Rs.cW,Rs.ag]at z;cases F:fG cond ge tgt δ c r with
         |ok l=>simp only[F,Rs.ag]at z;cases z
         |rz C'=>simp only[F,Rs.dQ]at z;cases z;exact ih F
         |no=>simp only[F,Rs.bq]at z;cases z
        |rz C'=>simp only[B,Rs.calm,Rs.bq]at z;cases z
        |no=>simp only[B,Rs.calm,Rs.bq]at z;cases z
       ·exact ih z
      |rz C'=>simp only[c1,Rs.calm,Rs.bq]at z;cases z
      |no=>simp only[c1,Rs.calm,Rs.bq]at z;cases z
   exact this ds qo
  |no=>rw[qo]at o;exact o.elim
  |ok out =>
   rw[qo]at o;have base:aw (del H1 A) (del (upd H1 D (.lst [])) (D::A)):=λb o e=>by obtain⟨z,e⟩:=a9 e;have nb:b≠D:=aJ e M;rw[aN (by simp[nb,z]),az nb];exact e
   refine⟨λi m ys H'=>m=ds.length-i/\i<=ds.length/\aw H1 H'/\H' D=some (.lst ys)/\ys.length<=i/\∃X rest,fG cond ge tgt δ c (ds.drop i)=.ok rest/\out=X++rest/\Iss K (del H' (D::A)) X ys,
    ⟨ds.length,by simp,NY _,bz M,aE,N7 _,[],out,qo,rfl,cJ⟩,?_⟩
   rintro i m ys H' ⟨rfl,hi,G,hl,hy,X,rest,c1,B,F⟩
   refine⟨hl,?_⟩;have sG:aw (del H1 A) H':=ax.trans G;have Y:∀b∈D::A,(del H1 A) b=none:=λb N=>by
    rcases N5.mp N with z|z
    ·rw[z,aN nD];exact M
    ·exact gZ z
   obtain⟨jg,js,jy⟩:=hJ H' (D::A) sG (λb N=>by
    rcases N5.mp N with z|z
    ·exact⟨_,by rw[z];exact hl,rfl⟩
    ·exact (R1.ls.same G) b z) Y
   by_cases hlt:i<ds.length
   ·refine .inr ⟨jg i hlt,λx H2 σ' Z y=>?_⟩;obtain⟨s2,d,ed,hd⟩:=jy i x H2 hlt y;have edr:ds.drop i=d::ds.drop (i+1):=by
     rw[Oz hlt];have:ds[i]=d:=by have:=My hlt;rw[this]at ed;exact Option.some.inj ed
     rw[this]
    rw[edr]at c1;unfold fG at c1;cases et:tgt d with
    |none=>rw[et]at c1;cases c1
    |some ow =>
     rw[et]at c1;have l2:H2 D=some (.lst ys):=s2 _ _ hl;have h:Ls H2 (D::A):=λb N=>by
      rcases N5.mp N with z|z
      ·exact⟨_,by rw[z];exact l2,rfl⟩
      ·exact (R1.ls.same (G.trans s2)) b z
     obtain⟨hol,hgo⟩:=hT d x σ σ' H2 (D::A) (λj H2=>tt j H2 λb H3 =>
      if b=true then eD K E0 ge j H3 λv H4=>H4 D=some (.lst ys)/\ys.length<sizeLine/\(∃f,j=σ++f/\f.length=own.length)/\∃m',m' < ds.length-i/\_
      else (∃f,j=σ++f/\f.length=own.length)/\∃m',m' < ds.length-i/\_) ow hσ Z h hd et
     refine hgo λvs n I=>?_
     have sAll:aw (del H1 A) (del H2 (D::A)):=md (sG.trans s2) Y;have RE:dq K H2 (D::A) (δ++ow) (σ++vs):=by
      refine⟨h,by rw[Nl,Nl,R.len,n,hol],λk e p=>?_⟩;by_cases hk:k<δ.length
      ·rw[NB hk]at p;obtain⟨u,e1,O⟩:=R1.get k e p;exact⟨u,by rw[NB (by rw[<-R.len];exact hk)];exact e1,O.same sAll⟩
      ·rw[NF (by omega)]at p;obtain⟨u,e1,O⟩:=I _ e p;exact⟨u,by rw[NF (by rw[<-R.len];omega),<-R.len];exact e1,O⟩
     have RE2:dq K H2 (D::U) (c++ow) (σ++vs):=by
      have hsub:aw (del H2 (D::A)) (del H2 (D::U)):=λb u s=>by
       obtain⟨q1,q2⟩:=a9 s;rw[aN (λz=>q1 (by
        rcases N5.mp z with z|z
        ·rw[z];exact N3
        ·exact N2 _ (L b z)))];exact q2
      have Rf1:=S.same (T.trans (G.trans s2));have nD2:D∉U:=λz=>nD (L D z)
      have hD0:H D=none:=T.free M;refine⟨λb N=>?_,by rw[Nl,Nl,S.len,n,hol],λk e p=>?_⟩
      ·rcases N5.mp N with z|z
       ·exact h b (by rw[z];exact N3)
       ·exact h b (N2 _ (L b z))
      ·by_cases hk:k<c.length
       ·rw[NB hk]at p;obtain⟨u,e1,O⟩:=S.get k e p;refine⟨u,by rw[NB (by rw[<-S.len];exact hk)];exact e1,O.same λb u s=>?_⟩;obtain⟨q1,q2⟩:=a9 s;have nb:b≠D:=λz=>by rw[z,hD0]at q2;cases q2
        rw[aN (by simp[nb,q1])];exact (T.trans (G.trans s2)) _ _ q2
       ·rw[NF (by omega)]at p;obtain⟨u,e1,O⟩:=I _ e p;exact⟨u,by rw[NF (by rw[<-S.len];omega),<-S.len];exact e1,O.same hsub⟩
     have bad:∀r:Rs Bool,r=.rz 0->r.calm=.no:=λr e=>by rw[e];rfl
     refine htt _ _ _ (cD.run RE2 (λb s H3 P R3f=>?_) (λC s=>?_) (λs=>?_))
     ·simp only[s,Rs.cW,Rs.ag]at c1;cases b with
      |true =>
       simp only[if_true]at c1;refine eD.run (RE.same P) (λxd ex v H4 s4 R4 hv=>?_) (λC ex=>?_) (λex=>?_)
       ·simp only[ex,Rs.cW,Rs.ag]at c1;cases cr:fG cond ge tgt δ c (ds.drop (i+1)) with
        |ok rs =>
         simp only[cr,Rs.ag]at c1;cases c1;have l4:H4 D=some (.lst ys):=s4 _ _ (P _ _ l2);have dU:del (upd H4 D (.lst (ys++[v]))) (D::A)=del H4 (D::A):=kz (N3);refine⟨l4,by rw[sizeLine_eq];omega,⟨vs,rfl,n⟩,ds.length-(i+1),by omega,rfl,hlt,?_,aE,by simp;omega,X++[xd],rs,cr,by rw[B];simp,?_⟩
         ·exact aw.put (((G.trans s2).trans P).trans s4) M
         ·rw[dU];exact (F.same (aw.del (s2.trans (P.trans s4)))).append (jd hv)
        |rz C=>simp only[cr,Rs.dQ]at c1;cases c1
        |no=>simp only[cr,Rs.bq]at c1;cases c1
       ·simp only[ex,Rs.calm,Rs.bq]at c1;cases c1
       ·simp only[ex,Rs.calm,Rs.bq]at c1;cases c1
      |false =>simp only[NC,if_false]at c1;exact⟨⟨vs,rfl,n⟩,ds.length-(i+1),by omega,rfl,hlt,(G.trans s2).trans P,P _ _ l2,by omega,X,rest,c1,B,F.same (aw.del (s2.trans P))⟩
     ·simp only[s,Rs.calm,Rs.bq]at c1;cases c1
     ·simp only[s,Rs.calm,Rs.bq]at c1;cases c1
   ·have e:i=ds.length:=by omega
    subst e;rw[Pp]at c1;cases c1;rw[O8]at B;subst B;exact .inl ⟨js,o D ys H' (T.free M) (T.trans G) hl F⟩
def ph (O:List Nat) (i n0:Nat) (a:Ds->Rs (List PyData)) (cond:Ds->Rs Bool) (ge:Ds->Rs PyData) (tgt:PyData->Option Ds):Ds->Sr:=λδ=>if i<δ.length then ofR (m8 n0 a cond ge tgt (mask O δ) δ) λds=>.nx (δ.set i (some (.list ds))) else .no
section
variable {E:XK}
theorem D3 {b:Ds->Rs (List PyData)} {g:TG} (hc:X.calm=true) (m:X.N.Nodup) (hi:PID X E tg iter b)
  (n:TgD X.K n0 (fI tg).length tgt g) (r:∀C s2 H2 fp,PG (bk X tg scope C s2 H2 fp) tg g) (j:∀C s2 H2 fp,PIf (bk X tg scope C s2 H2 fp) ifs cond) (u:∀C s2 H2 fp,PD (bk X tg scope C s2 H2 fp) E0 elt ge) (v:i∉O)
  (c:X.N[i]?=some x) (w:Loc X.env.scope x) (e:swapsWith (.ListComp elt [⟨tg,iter,ifs,0⟩] scope pos) (some (.Name x pos')) spos.line X.env=pure true)
  (hB:Jv X tg scope=true) (y:∀x,foldedSetIterable iter X.env x=pure x) (z:X.fn x=true\/X.env.scope.names.lookup x=some .local) :
  PSD X E O (.Assign [.Name x pos'] (.ListComp elt [⟨tg,iter,ifs,0⟩] scope pos) spos) (ph O i n0 b cond ge tgt) :=
 PS.imp (pP (own:=fI tg) (te:=eD X.K E0 ge) hc m c w e hi r (λC s2 H2 fp=>(j C s2 H2 fp).pts) (λC s2 H2 fp=>u C s2 H2 fp) hB y z) λD σ H f=>by
  obtain⟨H0,A0,A,δ,R,o⟩:=f;unfold ph at o;split at o
  ·rename_i hl;have l:=R.part;refine GW n (PIf.tt (j 0 X.s₀ X.H₀ [])) l R.full (λa ha=>N8 _ ha) ?_;cases q:m8 n0 b cond ge tgt (mask O δ) δ with
   |ok ds =>rw[q]at o;intro p xs H' hn s B h;exact o A _ H' ((R.step s).set v hl (jK (by rw[aN (l.ls.new hn)];exact B) (h.same nh)))
   |rz C=>rw[q]at o;exact λH' s'=>o H' (R.same.trans s')
   |no=>rw[q]at o;exact o
  ·exact o.elim
end
theorem i4.of {m:Str} {k:Nat} {G:Ds->Sr} (F:Fun K m qual st f fd) (S:cX N ps (aC st)) (b:Binds K fd ps []) (cl:Cls K C) (hm:Meth K C m f) (a:∀i∈O,ps.length<=i)
  (body:∀(cdv:Value) (A:Around) (outer:List Env) (s:Shared) (H:Hp) (E:XK),cg k (A.deeper (envOfC qual (aC st) s.heap.objs.size f cdv))->PBD (c9 (CXW P w) P w K mg base N qual (aC st) f cdv A outer s H E) E O (bV st) G)
  (c:∀ds,ds.length=ps.length->gf ds≠.no->a8 (G (ds.map some++List.replicate (N.length-ps.length) none))=gf ds):i4 P w K mg base (k+1) C m ps.length gf :=
 ⟨f,fd,ps,cl,hm,RS.Ar F S a body c,b⟩
def rH (xs ys:List PyData):List PyData:=List.zipWith (λa b=>PyData.tuple [a,b]) xs ys
theorem ER {es:List PyData} (h1:Iss K G ds xs) (h2:Iss K G es ys) (hl:ys.length=xs.length) (c:∀H1,aw G H1->SqT K H1 a xs) (f:∀H1,aw G H1->SqL K H1 b ys):Bm K (Itz K a b xs.length) (rH ds es) G:=λH1 B s m hB=>by
 have l1:=h1.length;have l2:=h2.length;have n:(rH ds es).length=xs.length:=by unfold rH;rw[List.length_zipWith];omega
 rw[n];refine⟨λi hi=>⟨hi,xs,ys,c H1 s,f H1 s,rfl,hl⟩,⟨rfl,xs,ys,c H1 s,f H1 s,rfl,hl⟩,λi x H2 hi y=>?_⟩;obtain⟨t,p,r,rfl,g,rfl,u,v⟩:=y;obtain⟨d,e,hd⟩:=h1.get (u xs (c H1 s));obtain⟨d',w,h⟩:=h2.get (v ys (f H1 s));refine⟨bz g,.tuple [d,d'],by unfold rH;rw[List.getElem?_zipWith,e,w],?_⟩;have A:t∉B:=m.new g;have j:aw G (del (upd H1 t (.tup [p,r])) B):=λb o q=>by have l:=s b o q;have C:b≠t:=aJ l g;rw[aN (λz=>by rw[hB b z]at q;cases q),az C];exact l
 exact iz (by rw[aN A];exact aE) (cw (hd.same j) (jd (h.same j)))
section
variable {E:XK} {a b:Expr}
def Iu:List PyData->Rs (List PyData)
 |[.tuple xs,.list ys]=>if ys.length=xs.length then .ok (rH xs ys) else .no
 |_=>.no
def G3 (g:Ds->Rs (List PyData)):Ds->Rs (List PyData):=λδ=>(g δ).bind Iu
theorem Hw (hm:X.mg "zip"=none) (ha:PAD X E [a,b] gs) (l:Gl X "zip") (m:starEach [a,b] X.env=[(false,eval a X.env),(false,eval b X.env)]) (c:starEach [b] X.env=[(false,eval b X.env)]) :
  PID X E (.Tuple elts x1 tp) (.Call (.Name "zip" p) [a,b] [] pos) (G3 gs):=(K2 l hm ha.1 m c).imp λσ H R ⟨A,δ,Rp,o⟩=>yR Rp o λds vs H1 e s1 R1 h1 o=>by
 unfold Iu at o;split at o
 ·split at o
  ·rename_i hl;obtain⟨v,u,rfl,h,h'⟩:=HK h1;obtain⟨p,xs,rfl,f,g⟩:=h.ofTup;obtain⟨q,ys,rfl,i,j⟩:=h'.ofLst;have l1:=g.length;have l2:=j.length;exact⟨p,q,xs,ys,rfl,SqT.of (ax _ _ f),SqL.of (ax _ _ i),by omega,o _ H1 (aw.refl _) (ER g j (by omega) (λH2 s2=>SqT.of (s2 _ _ f)) λH2 s2=>SqL.of (s2 _ _ i))⟩
  ·exact o.elim
 ·exact o.elim
end
end L2
namespace RS
open PySem L2
abbrev JN:List Str:=["number", "parts", "rank", "row"]
abbrev JT:List (Str×Int):=[("job",0),("part",0),("spent",0)]
def fj (cs:Cs):Ds->Sr :=
 (aF (aQ [] 2 (g2 dIx (af 0) (gC (.int 0))))
  (aF (aQ [] 3 (g2 dIx (af 0) (gC (.int 2))))
  (aF (aQ [] 4 (g2 fo (gC (.int 0)) (af 3)))
  (aF (fW [] (cz (af 1)) (bB 5) (aF (aQ [] 6 (gF iG (ae (af 4) (ae (g2 fo (af 5) (af 3)) ah))))
  (aF (sIf (gT (g2 dGt (af 6) (af 5))) (bj (gC (.bool false))) ba)
  (aQ [] 4 (g2 aX (af 6) (af 2))))))
  (bj (gC (.bool true)))))))
def mr (cs:Cs) (aM bS:Gf):Ds->Sr :=
 (aF (sIf (cOr (gD (gT (g1 (k8 "list") (af 1)))) (gT (g2 dGt (gF bY (ae (af 1) ah)) (gC (.int 60))))) (bj (gC (.bool false))) ba)
  (bj (BY (gF oN (ae (gL (bw 2 (cz (af 1)) bH (aq aM (ae (af 2) (ae (gC (.int 0)) (ae (gC (.int 9999)) ah)))) aZ)) ah)) (aq bS (ae (af 0) (ae (af 1) ah))))))
def dR (cs:Cs) (cZ bg:Gf):Ds->Sr :=
 (aF (kO (aq bg (ae (af 0) ah)))
  (aF (sIf (cOr (gD (gT (g1 (k8 "list") (af 1)))) (gT (g2 dNe (gF bY (ae (af 1) ah)) (gF bY (ae (af 0) ah))))) (jv cs.NoComings (ae (gC (.str "comings are a list of one list for each errand")) ah)) ba)
  (aF (sIf (gD (gT (gF oN (ae (gL (bw 2 (G3 (ae (af 0) (ae (af 1) ah))) bH (aq cZ (ae (af 2) (ae (af 3) ah))) eO)) ah)))) (jv cs.NoComings (ae (gC (.str "an errand can not come so")) ah)) ba)
  (bj (gL (bw 2 (cz (af 1)) bH (gF vJ (ae (af 2) ah)) aZ))))))
def dE (cs:Cs):Ds->Sr :=
 (bj (g2 dEq (g1 (br cs.Jobs "job") (af 0)) (gF bY (ae (g1 (br cs.Jobs "row") (af 0)) ah))))
def eK (cs:Cs):Ds->Sr :=
 (bj (gIf (gT (g2 dEq (g1 (br cs.Jobs "spent") (af 0)) (gC (.int 0)))) (g2 dIx (g2 dIx (g1 (br cs.Jobs "parts") (af 0)) (g1 (br cs.Jobs "part") (af 0))) (gC (.int 1))) (gC .none)))
def fS (cs:Cs):Ds->Sr :=
 (bj (gIf (gT (g2 dGt (g1 (br cs.Jobs "spent") (af 0)) (gC (.int 0)))) (g2 dIx (g2 dIx (g1 (br cs.Jobs "parts") (af 0)) (g1 (br cs.Jobs "part") (af 0))) (gC (.int 1))) (gC .none)))
def jX (cs:Cs) (aR:Gf):Ds->Sr :=
 (aF (sIf (gT (g1 nz (af 1))) (bj (gC .none)) ba)
  (aF (fW [] (cz (af 0)) (bB 2) (sIf (gT (g2 dEq (bp cs.Jobs "held" aR (af 2) ah) (af 1))) (bj (af 2)) ba))
  (bj (gC .none))))
def gx (cs:Cs) (aK bI:Gf):Ds->Sr :=
 (aF (vO 1)
  (aF (fW [1] (cz (af 0)) (bB 2) (aF (aQ [1] 3 (aq bI (ae (af 0) (ae (bp cs.Jobs "wanted" aK (af 2) ah) ah))))
  (sIf (gT (g1 iJ (af 3))) (qt 1 (g1 (br cs.Jobs "number") (af 3)) (gF kK (ae (g1 (br cs.Jobs "rank") (af 2)) (ae (mx (af 1) (g1 (br cs.Jobs "number") (af 3)) (g1 (br cs.Jobs "rank") (af 3))) ah)))) ba)))
  (bj (af 1))))
def bT (cs:Cs) (aR:Gf):Ds->Sr :=
 (aF (aQ [] 2 (bp cs.Jobs "held" aR (af 0) ah))
  (aF (sIf (gT (g1 nz (af 2))) (bj (hZ (ae (g1 (br cs.Jobs "rank") (af 0)) (ae (gC (.int 1)) ah)))) ba)
  (bj (hZ (ae (gF kK (ae (g1 (br cs.Jobs "rank") (af 0)) (ae (g2 dIx (af 1) (af 2)) ah))) (ae (gC (.int 0)) ah))))))
def dD (cs:Cs):Ds->Sr :=
 (bj (BY (g2 dLt (g1 (br cs.Jobs "job") (af 0)) (gF bY (ae (g1 (br cs.Jobs "row") (af 0)) ah))) (g2 dLe (g2 dIx (g1 (br cs.Jobs "row") (af 0)) (g1 (br cs.Jobs "job") (af 0))) (af 1))))
def AD (cs:Cs) (bh eu aV bg:Gf):Ds->Sr :=
 (aF (kO (aq bg (ae (af 0) ah)))
  (aF (kO (aq aV (ae (af 0) (ae (af 1) ah))))
  (bj (aq eu (ae (af 0) (ae (af 1) (ae (aq bh (ae (af 0) (ae (af 2) ah))) (ae (af 3) ah))))))))
def dg (cs:Cs) (ak:Gf):Ds->Sr :=
 (aF (aQ [6] 4 (aq ak (ae (af 0) (ae (af 1) (ae (g2 EU (gC (.int 10)) (gC (.int 9))) ah)))))
  (aF (aQ [6] 5 (g2 fo (g2 eI (af 4) (g2 aX (g2 dIx (af 2) (gC (.int 0))) (gC (.int 2)))) (g2 dIx (af 2) (gC (.int 2)))))
  (aF (iL [6] 6 ah)
  (aF (aQ [6] 7 (gC (.int 0)))
  (aF (λδ=>bL (rL (gT (g2 dLt (g2 aX (af 5) (g2 dIx (af 2) (gC (.int 2)))) (af 3))) (gT (g2 dLt (gF bY (ae (af 6) ah)) (gC (.int 60))))) (aF (aQ [6] 8 (g2 eI (g2 eJ (g2 aX (g2 aX (af 4) (g2 eJ (g2 eJ (gC (.int 104729)) (af 7)) (af 7))) (g2 eJ (gC (.int 7919)) (af 7))) (gC (.int 48271))) (gC (.int 2147483647))))
  (aF (aQ [6] 9 (gF iG (ae (gC (.int 0)) (ae (g2 aX (af 5) (g2 eI (g2 iR (af 8) (gC (.int 7))) (g2 aX (g2 dIx (af 2) (gC (.int 2))) (gC (.int 1))))) ah))))
  (aF (sIf (gT (g2 dNe (af 6) (jN ah))) (qT 9 (gF iG (ae (af 9) (ae (g2 aX (g2 dIx (af 6) (g1 mO (gC (.int 1)))) (gC (.int 1))) ah)))) ba)
  (aF (hV [6] 6 (af 9))
  (aF (aQ [6] 5 (g2 aX (af 5) (g2 dIx (af 2) (gC (.int 0)))))
  (aF (sIf (gT (g2 dEq (g2 eI (g2 iR (af 8) (gC (.int 61))) (gC (.int 3))) (gC (.int 0)))) (aQ [6] 5 (g2 aX (af 5) (g2 eI (g2 iR (af 8) (gC (.int 997))) (g2 dIx (af 2) (gC (.int 0)))))) ba)
  (aQ [6] 7 (g2 aX (af 7) (gC (.int 1)))))))))) 1000000 δ)
  (bj (af 6)))))))
def eG (cs:Cs) (bc:Gf):Ds->Sr :=
 (bj (gL (bw 4 (fR (ae (gF bY (ae (af 2) ah)) ah)) bH (aq bc (ae (af 0) (ae (g2 aX (af 1) (af 4)) (ae (g2 dIx (af 2) (af 4)) (ae (af 3) ah))))) aZ)))
def jt (cs:Cs) (aP aU cE aO:Gf) (a:List (Str×PyData)->Option (List (Str×PyData))) (as:List Addr):Ds->Sr :=
 (aF (iL [6] 6 ah)
  (aF (λδ=>bL (gD (gT (gF oN (ae (gL (bw 9 (cz (af 5)) bH (bp cs.Jobs "are_done" aU (af 9) ah) aZ)) ah)))) (aF (ph [6] 7 9 (cz (af 5)) (gT (bp cs.Jobs "is_there" aO (af 9) (ae (gF bY (ae (af 6) ah)) ah))) (af 9) aZ)
  (sIf (gT (g2 dEq (gF bY (ae (af 7) ah)) (gC (.int 0)))) (hV [6] 6 (gC .none)) (aF (aQ [6] 8 (aq cE (ae (af 7) (ae (af 4) (ae (af 3) ah)))))
  (aF (hV [6] 6 (hZ (ae (g1 (br cs.Jobs "number") (af 8)) (ae (g1 (br cs.Jobs "job") (af 8)) ah))))
  (k6 as cs.Jobs "go_on" 8 a))))) 1000000 δ)
  (bj (af 6))))
def gE (cs:Cs) (as:List Addr):Ds->Sr :=
 (aF (eN as cs.Jobs 0 "spent" (gC (.int 1)))
  (aF (sIf (gT (g2 dEq (g1 (br cs.Jobs "spent") (af 0)) (g2 dIx (g2 dIx (g1 (br cs.Jobs "parts") (af 0)) (g1 (br cs.Jobs "part") (af 0))) (gC (.int 0))))) (aF (lP as cs.Jobs 0 "spent" (gC (.int 0)))
  (eN as cs.Jobs 0 "part" (gC (.int 1)))) ba)
  (sIf (gT (g2 dEq (g1 (br cs.Jobs "part") (af 0)) (gF bY (ae (g1 (br cs.Jobs "parts") (af 0)) ah)))) (aF (lP as cs.Jobs 0 "part" (gC (.int 0)))
  (eN as cs.Jobs 0 "job" (gC (.int 1)))) ba)))
def ki (cs:Cs) (cp aK bI bP:Gf):Ds->Sr :=
 (aF (sIf (gT (g2 dEq (af 2) (gC (.str "high")))) (bj (jk [1] (af 0) (aq bP (ae (af 0) (ae (af 1) ah))))) ba)
  (aF (aQ [] 3 (gL (bw 5 (cz (af 0)) (gT (g1 nz (aq bI (ae (af 0) (ae (bp cs.Jobs "wanted" aK (af 5) ah) ah))))) (af 5) aZ)))
  (aF (aQ [] 4 (gIf (gT (g2 dEq (af 2) (gC (.str "asked")))) (aq cp (ae (af 0) ah)) (gC (cL []))))
  (bj (jk [4] (af 3) (mx (af 1) (g1 (br cs.Jobs "number") (af 0)) (g1 (br cs.Jobs "rank") (af 0))))))))
def eW (cs:Cs):Ds->Sr :=
 (bj (gL (bw 3 (fw (ae (af 1) ah)) bH (g2 fo (DK (af 2) (hZ (ae (af 0) (ae (af 3) ah)))) (af 4)) eO)))
def fi (cs:Cs) (cT:Gf):Ds->Sr :=
 (aF (zZ 2)
  (aF (fW [2] (fw (ae (af 1) ah)) (iu [3,4]) (sIf (gT (g1 iJ (af 4))) (nE 2 (af 4) (g2 aX (af 3) (gC (.int 1)))) ba))
  (bj (gL (bw 5 (fw (ae (af 0) ah)) bH (aq cT (ae (af 5) (ae (af 6) (ae (af 2) ah)))) eO)))))
def iP (cs:Cs) (g6 cR:Gf):Ds->Sr :=
 (bj (aq cR (ae (af 2) (ae (aq g6 (ae (af 0) (ae (af 1) (ae (af 2) (ae (af 3) ah))))) ah))))
def Af (cs:Cs) (cQ eQ bZ bW bD:Gf):Ds->Sr :=
 (aF (aQ [] 1 (aq bD (ae (af 0) (ae (gC (.int 12)) (ae (gC (.int 4)) (ae (gC (.int 28)) (ae (gC (.bool true)) ah)))))))
  (aF (aQ [] 2 (aq bW (ae (af 0) (ae (gC (.int 0)) (ae (gF bY (ae (af 1) ah)) ah)))))
  (aF (aQ [] 3 (aq bZ (ae (af 0) (ae (gC (.int 5)) (ae (af 1) (ae (gC (.int 80)) ah))))))
  (aF (aQ [] 4 (aq eQ (ae (af 1) (ae (af 2) (ae (af 3) (ae (gC (.str "high")) ah))))))
  (aF (fW [] (fR (ae (gF bY (ae (af 1) ah)) ah)) (bB 5) (aF (aQ [] 6 (aq cQ (ae (af 1) (ae (af 2) (ae (af 5) ah)))))
  (sIf (rL (gT (g1 iJ (af 6))) (gT (g2 dGt (gF lW (ae (g2 aX (jN (ae (gC (.int 0)) ah)) (g2 dIx (af 4) (af 5))) ah)) (af 6)))) (bj (gC (.bool false))) ba)))
  (bj (gC (.bool true))))))))
end RS
set_option maxHeartbeats 1000000
namespace RS
open PySem L2
variable {p:Int×Option Int}
def cq:Gf
 |[d,.int t]=>if uo d then .ok (.bool ((deE d).has t)) else .no
 |_=>.no
theorem ke {t:Int} (h:e.Sh):cq [e.d,.int t]=.ok (.bool (e.has t)):=by unfold cq;simp[lN h,vZ]
theorem wu (t:Int):∀ps:List (Int×Option Int),inD (.int t) ((ps.map aS).map λd=>bO (cj d).2)=ps.any λp=>p.2==some t
 |[]=>rfl
 |p::r=>by
  have h1:eqV (toV (bO p.2)) (.int t)=(p.2==some t):=by
   rcases hp:p.2 with _|z
   ·rfl
   ·show (z==t)=(some z==some t)
    simp
  have:=wu t r;unfold inD inV at this ⊢;rw[N0,N0,N0,Oy,Oy,this,jY];show (eqV (toV (bO p.2)) (.int t)||_)=_;rw[h1]
theorem Bi (ps:List (Int×Option Int)):((ps.map aS).map λd=>bO (cj d).2).all gj=true:=by rw[Nr];intro d hd;obtain⟨n,_,rfl⟩:=Nn.mp hd;cases (cj n).2 <;> rfl
theorem Jo {f:PyData->Int->Rs PyData} (h:(match ds with|[a,.int x1]=>f a x1|_=>.no)≠.no):∃a x1,ds=[a,.int x1]/\f a x1≠.no:=by
 rcases ds with _|⟨a,_|⟨x1,_|⟨y,ys⟩⟩⟩
 ·exact absurd rfl h
 ·exact absurd rfl h
 ·skip
  cases x1 with
  |int x1 =>exact⟨_,_,rfl,h⟩
  |_=>exact absurd rfl h
 ·first|exact absurd rfl h|(cases x1 <;> exact absurd rfl h)
theorem zL (cs:Cs):LLq (ja cs) 2 0 cq:=by
 intro ds hl a;obtain⟨d,t,f,c⟩:=Jo a;clear a;subst f;have a:=c;clear c
 ·skip
  split at a
  ·rename_i hd;obtain⟨e1,sh⟩:=ua hd;rw[<-e1];generalize deE d=e at sh;rw[ke sh];have hc:bw 2 (cz (g2 dIx (af 0) (gC (.int 3)))) bH (g2 dIx (af 2) (gC (.int 1))) aZ [some e.d,some (.int t)]=.ok ((e.parts.map aS).map λd=>bO (cj d).2) :=
    dj rfl (by simp[F4]) (by have:=sh.pn;simp;omega) λd b=>by obtain⟨p,hp,rfl⟩:=Nn.mp b;simp[Dz,jY]
   have hi:Ei false (.int t) (.list ((e.parts.map aS).map λd=>bO (cj d).2))=some (.bool (e.has t)):=by show (if (gj (.int t)&&_)=true then some (PyData.bool (if false=true then _ else inD _ _)) else none)=_;rw[Bi,wu];rfl
   show a8 (ja cs [some e.d,some (.int t)])=_;simp only[ja,bM,bN,ao,ar,rD,hc,Rs.ag,hi,Rs.ai,av,aT]
  ·exact absurd rfl a
def dF:Gf
 |[d,r,.int t]=>if pR d&&dP (cO d).length r then .ok (bO (bo (cO d) (cf r) t)) else .no
 |_=>.no
theorem lI {t:Int} (h1:es.length<=100) (h:∀e∈es,e.Sh) (a:cn es.length rs):dF [ay es,au rs,.int t]=.ok (bO (bo es rs t)):=by unfold dF;simp[qX h1 h,eZ,gR a,eM]
theorem oj (es:List Er) (a:∀e∈es,e.Sh) (R:PyData) (t:Int):∀(rs:List Int) (k:Nat) (x3 x4:Option PyData),(∀m∈rs,0<=m/\m<es.length) ->
   (∃i,hts es rs k t=some i/\forL (iu [3,4]) (sIf (gT (aq cq (ae (g2 dIx (af 0) (af 4)) (ae (af 2) ah)))) (bj (af 3)) ba) ((rs.map PyData.int).mapIdx λi d=>.tuple [.int ((k+i:Nat):Int),d]) [some (ay es),some R,some (.int t),x3,x4]=.rt (.int i))
  \/(hts es rs k t=none/\∃δ,forL (iu [3,4]) (sIf (gT (aq cq (ae (g2 dIx (af 0) (af 4)) (ae (af 2) ah)))) (bj (af 3)) ba) ((rs.map PyData.int).mapIdx λi d=>.tuple [.int ((k+i:Nat):Int),d]) [some (ay es),some R,some (.int t),x3,x4]=.nx δ)
 |[],k,x3,x4,_=>.inr ⟨rfl,_,rfl⟩
 |m::r,k,x3,x4,hm=>by
   have b:=hm m N3;have a2:atI (es.map Er.d) m=some (aW es m).d:=jf b.1 b.2;have f:=ke (t:=t) (a _ (cy b.1 b.2));rw[N0,P7];unfold forL;have e1:iu [3,4] (PyData.tuple [.int ((k+0:Nat):Int),.int m]) [some (ay es),some R,some (.int t),x3,x4]=some [some (ay es),some R,some (.int t),some (.int (k:Int)),some (.int m)]:=rfl;rw[e1];simp only[dZ,fD,bf,aA,aG,bN,ao,ar,Rs.ag,ay,xM,a2,Rs.ai,f,bx,av,bM,fH];unfold hts;cases hh:(aW es m).has t with
   |true=>exact .inl ⟨k,rfl,rfl⟩
   |false =>
    simp only[NC,if_false];have c:=oj es a R t r (k+1) (some (.int (k:Int))) (some (.int m)) (λx g=>hm x (N2 _ g));rw[show ((k+1:Nat):Int)=(k:Int)+1 by omega]at c;have h:(λ(i:Nat) (d:PyData)=>PyData.tuple [.int ((k+(i+1):Nat):Int),d])=λi d=>.tuple [.int ((k+1+i:Nat):Int),d]:=by funext i d;rw[show k+(i+1)=k+1+i by omega]
    rw[h];exact c
theorem ky {f:PyData->PyData->Int->Rs PyData} (h:(match ds with|[a,x1,.int x2]=>f a x1 x2|_=>.no)≠.no):∃a x1 x2,ds=[a,x1,.int x2]/\f a x1 x2≠.no:=by
 rcases ds with _|⟨a,_|⟨x1,_|⟨x2,_|⟨y,ys⟩⟩⟩⟩
 ·exact absurd rfl h
 ·exact absurd rfl h
 ·exact absurd rfl h
 ·skip
  cases x2 with
  |int x2 =>exact⟨_,_,_,rfl,h⟩
  |_=>exact absurd rfl h
 ·first|exact absurd rfl h|(cases x2 <;> exact absurd rfl h)
theorem ES (cs:Cs):LLq (lU cs cq) 3 2 dF:=by
 intro ds hl a;obtain⟨d,r,t,h,f⟩:=ky a;clear a;subst h;have a:=f;clear f
 ·skip
  split at a
  ·rename_i hc;simp only[N6]at hc;obtain⟨c1,j⟩:=hc;obtain⟨e1,hlen,c⟩:=yv c1;obtain⟨e2,g⟩:=ml j;rw[<-e1,<-e2];generalize cO d=es at *;generalize cf r=rs at *;rw[lI hlen c g];have loop:=oj es c (au rs) t rs 0 none none g.rng;show a8 (lU cs cq [some (ay es),some (au rs),some (.int t),none,none])=_;have src:fw (ae (af 1) ah) [some (ay es),some (au rs),some (.int t),none,none]=.ok ((rs.map PyData.int).mapIdx λi d=>.tuple [.int ((0+i:Nat):Int),d]):=by simp only[AV,aA,aG,ao,ar,Rs.ag,au,A1,fO,O5]
   simp only[lU];rw[aL,kQ,lX,src,av];unfold bo;rcases loop with⟨i,b,e⟩|⟨b,δ,e⟩
   ·rw[e];have b:hts es rs 0 t=some i:=b;rw[b];rfl
   ·rw[e];have b:hts es rs 0 t=none:=b;rw[b];rfl
  ·exact absurd rfl a
def aH (es:List Er) (rs:List Int):PyData:=.list ((List.range 4).map λ(t:Nat)=>bO (bo es rs t))
def aP:Gf
 |[d,r]=>if pR d&&dP (cO d).length r then .ok (aH (cO d) (cf r)) else .no
 |_=>.no
theorem fB (h1:es.length<=100) (h:∀e∈es,e.Sh) (a:cn es.length rs):aP [ay es,au rs]=.ok (aH es rs):=by unfold aP;simp[qX h1 h,eZ,gR a,eM]
theorem JJ {f:PyData->PyData->Rs PyData} (h:(match ds with|[a,x1]=>f a x1|_=>.no)≠.no):∃a x1,ds=[a,x1]/\f a x1≠.no:=by
 rcases ds with _|⟨a,_|⟨x1,_|⟨y,ys⟩⟩⟩
 ·exact absurd rfl h
 ·exact absurd rfl h
 ·skip
  exact⟨_,_,rfl,h⟩
 ·exact absurd rfl h
theorem u7 (cs:Cs):LLq (gw cs dF) 2 0 aP:=by
 intro ds hl a;obtain⟨d,r,g,e⟩:=JJ a;clear a;subst g;have a:=e;clear e
 ·skip
  split at a
  ·rename_i hc;simp only[N6]at hc;obtain⟨c1,h⟩:=hc;obtain⟨e1,hlen,b⟩:=yv c1;obtain⟨e2,f⟩:=ml h;rw[<-e1,<-e2];generalize cO d=es at *;generalize cf r=rs at *;rw[fB hlen b f];have j:∀t:Int,dF [ay es,au rs,.int t]=.ok (bO (bo es rs t)):=λt=>lI hlen b f
   have c:bw 2 (fR (ae (gC (.int 4)) ah)) bH (aq dF (ae (af 0) (ae (af 1) (ae (af 2) ah)))) aZ [some (ay es),some (au rs)]=.ok ((bG 0 (4:Int).toNat).map λx=>bO (bo es rs (deI x))) :=
    dj rfl (by simp only[lC,aA,aG,cB,Rs.ag];exact kC (by decide) (by decide)) (by rw[dw];decide) λx l=>by obtain⟨i,hi⟩:=List.getElem?_of_mem l;obtain⟨_,rfl⟩:=jr hi;simp only[NU,NT,bf,aA,aG,ao,ar,Rs.ag,j];rfl
   have hd:aH es rs=.list ((bG 0 (4:Int).toNat).map λx=>bO (bo es rs (deI x))):=by
    unfold aH bG;rw[Nz];congr 1
    try exact Nv λk _=>by simp[deI]
   rw[hd];show a8 (gw cs dF [some (ay es),some (au rs)])=_;simp only[gw,bM,rD,c,Rs.ag,av,aT]
  ·exact absurd rfl a
def dJ (ns:List Int) (a:Int) (many:Nat):Nat->List Int×List Int
 |0=>((List.range many).map λ(i:Nat)=>(i:Int),[])
 |i+1=>((dJ ns a many i).1.eraseIdx (mixed ns (a+(i:Int)) ((dJ ns a many i).1.length:Int)).toNat,(dJ ns a many i).2++[(dJ ns a many i).1.getD (mixed ns (a+(i:Int)) ((dJ ns a many i).1.length:Int)).toNat 0])
def oZ (ns:List Int) (a:Int) (many:Nat):List Int:=(dJ ns a many many).2
theorem qv {α:Type}:∀(l:List α) (j:Nat) (h:j<l.length),(l[j]::l.eraseIdx j).Perm l
 |[],j,h=>by simp at h
 |x::r,0,h=>by simp
 |x::r,j+1,h=>by
  simp only[List.getElem_cons_succ,List.eraseIdx_cons_succ];have h':j<r.length:=by simpa using h
  exact (List.Perm.swap _ _ _).trans ((qv r j h').cons x)
theorem sQ {α β:Type} (f:α->β):∀(l:List α) (j:Nat),(l.map f).eraseIdx j=(l.eraseIdx j).map f
 |[],j=>by simp
 |x::r,0=>by simp
 |x::r,j+1=>by simp[sQ f r j]
theorem pO (ns:List Int) (a:Int) (many:Nat):∀i,i<=many->(dJ ns a many i).1.length=many-i/\(dJ ns a many i).2.length=i/\((dJ ns a many i).1++(dJ ns a many i).2).Perm ((List.range many).map λ(i:Nat)=>(i:Int))
 |0,_=>⟨by simp[dJ],rfl,by simp[dJ]⟩
 |i+1,h=>by
  obtain⟨h1,h2,e⟩:=pO ns a many i (by omega);simp only[dJ];generalize (dJ ns a many i).1=L at *;generalize (dJ ns a many i).2=M at *;have c:0<(L.length:Int):=by omega
  have m0:=cK ns (a+(i:Int)) c;have m1:=de ns (a+(i:Int)) c;generalize mixed ns (a+(i:Int)) (L.length:Int)=z at *;have b:z.toNat<L.length:=by omega
  refine⟨by rw[List.length_eraseIdx_of_lt b];omega,by simp[h2],?_⟩;refine List.Perm.trans ?_ e;rw[Nw,My b,Option.getD_some];have p1:(L[z.toNat]::L.eraseIdx z.toNat).Perm L:=qv L z.toNat b;have p2:(L.eraseIdx z.toNat++(M++[L[z.toNat]])).Perm ((L[z.toNat]::L.eraseIdx z.toNat)++M):=by rw[<-Ot];exact (List.perm_append_singleton _ _)
  exact p2.trans (p1.append_right M)
theorem yp (ns:List Int) (a:Int) (many:Nat):cn many (oZ ns a many):=by
 obtain⟨h1,h2,b⟩:=pO ns a many many (N7 _);unfold oZ;have e:(dJ ns a many many).1=[]:=OE.mp (by omega);rw[e,NT]at b;refine⟨h2,λr c=>?_,b.nodup_iff.mpr ?_⟩
 ·obtain⟨k,g,rfl⟩:=Nn.mp (b.mem_iff.mp c);have:=Ou.mp g;omega
 ·exact (List.nodup_range).map (f:=λ(i:Nat)=>(i:Int)) λx y h=>by intro q;have q:(x:Int)=(y:Int):=q;exact h (by omega)
def bW:Gf
 |[s,.int a,.int many]=>(match fe s with
  |some ns=>if 0<=a/\0<=many/\many<=100 then .ok (au (oZ ns a many.toNat)) else .no
  |none=>.no)
 |_=>.no
theorem jx {a:Int} (h1:0<=a) (h2:0<=many) (b:many<=100):bW [aj ns,.int a,.int many]=.ok (au (oZ ns a many.toNat)):=by unfold bW;simp[fF,h1,h2,b]
theorem BL (ns:List Int) (a:Int) (n i:Nat) (L M:List Int) (ha:0<=a) (c:0<(L.length:Int)) (hL2:L.length<=100) (hM:M.length<=100) :
   je 4 3 (aq ak (ae (af 0) (ae (g2 aX (af 1) (af 5)) (ae (gF bY (ae (af 3) ah)) ah)))) [some (aj ns),some (.int a),some (.int (n:Int)),some (.list (L.map .int)),some (.list (M.map .int)),some (.int (0+(i:Int)))]
  =.nx [some (aj ns),some (.int a),some (.int (n:Int)),some (.list ((L.eraseIdx (mixed ns (a+(i:Int)) (L.length:Int)).toNat).map .int)),some (.list ((M++[L.getD (mixed ns (a+(i:Int)) (L.length:Int)).toNat 0]).map .int)),some (.int (0+(i:Int)))]:=by
 have b:=cG (ns:=ns) (k:=a+(0+(i:Int))) (many:=(L.length:Int)) (by omega) c;have h:=cK ns (a+(i:Int)) c;have m1:=de ns (a+(i:Int)) c;rw[show a+(0+(i:Int))=a+(i:Int) by omega]at b;generalize mixed ns (a+(i:Int)) (L.length:Int)=z at *;have g:z.toNat<L.length:=by omega
 have j:aq ak (ae (af 0) (ae (g2 aX (af 1) (af 5)) (ae (gF bY (ae (af 3) ah)) ah))) [some (aj ns),some (.int a),some (.int (n:Int)),some (.list (L.map .int)),some (.list (M.map .int)),some (.int (0+(i:Int)))]=.ok (.int z):=by simp only[bf,aA,aG,bN,gA,ao,ar,Rs.ag,d6,Rs.ai,lh,N4];rw[show a+(0+(i:Int))=a+(i:Int) by omega];exact b
 have e:ixN (L.map PyData.int).length z=some z.toNat:=by unfold ixN;rw[if_pos h,if_pos (by rw[N4];omega)]
 have f:(L.map PyData.int)[z.toNat]?=some (.int (L.getD z.toNat 0)):=by rw[Nx,My g,Nw,My g];rfl
 unfold je;simp only[Od,Oe,j,av];rw[if_pos (by refine⟨by omega,by omega,?_⟩;rw[N4];omega)];simp only[e,f,OY,OZ,NQ,N0,Oi];rw[sQ]
theorem CC (ns:List Int) (a:Int) (n i:Nat) (ha:0<=a) (hi:i<n) (hn:n<=100) :
   je 4 3 (aq ak (ae (af 0) (ae (g2 aX (af 1) (af 5)) (ae (gF bY (ae (af 3) ah)) ah)))) [some (aj ns),some (.int a),some (.int (n:Int)),some (.list ((dJ ns a n i).1.map .int)),some (.list ((dJ ns a n i).2.map .int)),some (.int (0+(i:Int)))]
  =.nx [some (aj ns),some (.int a),some (.int (n:Int)),some (.list ((dJ ns a n (i+1)).1.map .int)),some (.list ((dJ ns a n (i+1)).2.map .int)),some (.int (0+(i:Int)))]:=by
 obtain⟨h1,h2,h3⟩:=pO ns a n i (by omega);simp only[dJ];exact BL ns a n i _ _ ha (by omega) (by omega) (by omega)
theorem rk1 (ns:List Int) (a:Int) (n:Nat) (hm2:(n:Int)<=100):iL [3,4] 3 (gLR (ae (af 2) ah)) [some (aj ns),some (.int a),some (.int (n:Int)),none,none,none]=.nx [some (aj ns),some (.int a),some (.int (n:Int)),some (.list ((dJ ns a n 0).1.map .int)),none,none]:=by
 have b:gLR (ae (af 2) ah) (mask [3,4] [some (aj ns),some (.int a),some (.int (n:Int)),none,none,none])=.ok (bG 0 n):=by simp only[LU,aA,aG,aB (show 2∉[3,4] by decide),ao,ar,Rs.ag];unfold vm;simp only;rw[if_pos (by omega),NM]
 have c:(dJ ns a n 0).1.map PyData.int=bG 0 n:=by
  simp only[dJ,bG,Nz];refine Nv λk _=>?_
  simp
 rw[c];unfold iL;rw[b,if_pos (by simp)];simp only[av,OY,OZ]
theorem rk2 (ns:List Int) (a:Int) (n:Nat):iL [3,4] 4 ah [some (aj ns),some (.int a),some (.int (n:Int)),some (.list ((dJ ns a n 0).1.map .int)),none,none]=.nx [some (aj ns),some (.int a),some (.int (n:Int)),some (.list ((dJ ns a n 0).1.map .int)),some (.list ((dJ ns a n 0).2.map .int)),none]:=by unfold iL;rw[if_pos (by simp)];simp only[aG,av,OY,OZ];rfl
theorem rk3 (ns:List Int) (a:Int) (n:Nat) (hm2:(n:Int)<=100):fR (ae (af 2) ah) (mask [3,4] [some (aj ns),some (.int a),some (.int (n:Int)),some (.list ((dJ ns a n 0).1.map .int)),some (.list ((dJ ns a n 0).2.map .int)),none])=.ok (bG 0 n):=by have hv:ae (af 2) ah (mask [3,4] [some (aj ns),some (.int a),some (.int (n:Int)),some (.list ((dJ ns a n 0).1.map .int)),some (.list ((dJ ns a n 0).2.map .int)),none])=.ok [.int (n:Int)]:=rfl;have b:=kC (j:=(n:Int)) (OX n) (by omega);rw[NM]at b;rw[lC,hv,Rs.ag,b]
theorem wO (cs:Cs):LLq (ix cs ak) 3 3 bW:=by
 intro ds hl b;obtain⟨s,a,many,m,l⟩:=oV b;clear b;subst m;have b:=l;clear l
 ·skip
  split at b
  ·rename_i ns o;have es:=iq o;subst es;split at b
   ·rename_i hc;obtain⟨ha,hm,c⟩:=hc;rw[jx ha hm c];obtain⟨n,rfl⟩:∃n:Nat,many=(n:Int):=⟨many.toNat,by omega⟩
    rw[NM];show a8 (ix cs ak [some (aj ns),some (.int a),some (.int (n:Int)),none,none,none])=_;have p:=rk1 ns a n c;have s2:=rk2 ns a n;have src:=rk3 ns a n c;obtain⟨δ',e,f,g⟩:=ll (β:=Unit) (tgt:=bB 5) (body:=je 4 3 (aq ak (ae (af 0) (ae (g2 aX (af 1) (af 5)) (ae (gF bY (ae (af 3) ah)) ah)))))
     (λi δ=>∃f,δ=[some (aj ns),some (.int a),some (.int (n:Int)),some (.list ((dJ ns a n i).1.map .int)),some (.list ((dJ ns a n i).2.map .int)),f])
     (bG 0 n) 0 (λi d δ hi h=>by obtain⟨f,q⟩:=h;subst q;rw[O5]at *;obtain⟨j,rfl⟩:=jr hi;refine⟨[some (aj ns),some (.int a),some (.int (n:Int)),some (.list ((dJ ns a n i).1.map .int)),some (.list ((dJ ns a n i).2.map .int)),some (.int (0+(i:Int)))],_,rfl,?_,some (.int (0+(i:Int))),rfl⟩;exact CC ns a n i ha j (by omega)) [some (aj ns),some (.int a),some (.int (n:Int)),some (.list ((dJ ns a n 0).1.map .int)),some (.list ((dJ ns a n 0).2.map .int)),none] ⟨none,rfl⟩
    subst g;rw[O5,dw]at e;simp only[ix];rw[aL,p];simp only;rw[aL,s2];simp only;rw[aL,kQ,src,av,e];simp only;simp only[bM,gA,aA,aG,ao,ar,Rs.ag,Dr,Rs.ai,av,aT];rfl
   ·exact absurd rfl b
  ·exact absurd rfl b
def hvM (every late:Int):Int->List Int->Bool
 |_,[]=>true
 |m,c::r=>if c<(if c-late>m then c-late else m) then false else hvM every late ((if c-late>m then c-late else m)+every) r
def hvE (e:Er) (ns:List Int):Bool:=hvM e.every e.late (0-e.late) ns
def bS:Gf
 |[d,.list xs]=>if uo d then (match eS xs with|some ns=>.ok (.bool (hvE (deE d) ns))|none=>.no) else .no
 |_=>.no
theorem gY (h:e.Sh):bS [e.d,.list (ns.map PyData.int)]=.ok (.bool (hvE e ns)):=by unfold bS;simp only[lN h,if_true,ee,vZ]
def hvB:Ds->Sr:=(aF (aQ [] 6 (gF iG (ae (af 4) (ae (g2 fo (af 5) (af 3)) ah))))
 (aF (sIf (gT (g2 dGt (af 6) (af 5))) (bj (gC (.bool false))) ba)
 (aQ [] 4 (g2 aX (af 6) (af 2)))))
theorem zO (E L:PyData) (every late:Int):∀(ns:List Int) (m:Int) (a x6:Option PyData),
   (hvM every late m ns=true/\∃δ,forL (bB 5) hvB (ns.map PyData.int) [some E,some L,some (.int every),some (.int late),some (.int m),a,x6]=.nx δ)
  \/(hvM every late m ns=false/\forL (bB 5) hvB (ns.map PyData.int) [some E,some L,some (.int every),some (.int late),some (.int m),a,x6]=.rt (.bool false))
 |[],m,a,x6=>.inl ⟨rfl,_,rfl⟩
 |c::r,m,a,x6=>by
   have h1:bB 5 (.int c) [some E,some L,some (.int every),some (.int late),some (.int m),a,x6]=some [some E,some L,some (.int every),some (.int late),some (.int m),some (.int c),x6]:=rfl;rw[N0];unfold forL;rw[h1];unfold hvM;by_cases hc:c<(if c-late>m then c-late else m)
   ·have b:hvB [some E,some L,some (.int every),some (.int late),some (.int m),some (.int c),x6]=.rt (.bool false):=by simp[hvB,hc]
    refine .inr ⟨if_pos hc,?_⟩;simp only[b]
   ·have b:hvB [some E,some L,some (.int every),some (.int late),some (.int m),some (.int c),x6]=.nx [some E,some L,some (.int every),some (.int late),some (.int ((if c-late>m then c-late else m)+every)),some (.int c),some (.int (if c-late>m then c-late else m))]:=by simp[hvB,hc]
    rw[if_neg hc];simp only[b];exact zO E L every late r _ _ _
theorem Du {f:PyData->List PyData->Rs PyData} (h:(match ds with|[a,.list x1]=>f a x1|_=>.no)≠.no):∃a x1,ds=[a,.list x1]/\f a x1≠.no:=by
 rcases ds with _|⟨a,_|⟨x1,_|⟨y,ys⟩⟩⟩
 ·exact absurd rfl h
 ·exact absurd rfl h
 ·skip
  cases x1 with
  |list x1 =>exact⟨_,_,rfl,h⟩
  |_=>exact absurd rfl h
 ·first|exact absurd rfl h|(cases x1 <;> exact absurd rfl h)
theorem pj (cs:Cs):LLq (fj cs) 2 5 bS:=by
 intro ds hl a;obtain⟨d,xs,g,f⟩:=Du a;clear a;subst g;have a:=f;clear f
 ·skip
  split at a
  ·rename_i hd;split at a
   ·rename_i ns h;have b:=dC h;subst b;obtain⟨e1,sh⟩:=ua hd;rw[<-e1,gY sh];generalize deE d=e at *;show a8 (fj cs [some e.d,some (.list (ns.map PyData.int)),none,none,none,none,none])=_;unfold fj;have a0:dIx e.d (.int 0)=some (.int e.every):=rfl;have a2:dIx e.d (.int 2)=some (.int e.late):=rfl;simp only[aL,ig,bN,ao,ar,cB,Rs.ag,a0,a2,Rs.ai,av,oz];have i:=zO e.d (.list (ns.map PyData.int)) e.every e.late ns (0-e.late) none none;have j:fW [] (cz (af 1)) (bB 5) hvB [some e.d,some (.list (ns.map PyData.int)),some (.int e.every),some (.int e.late),some (.int (0-e.late)),none,none]=forL (bB 5) hvB (ns.map PyData.int) [some e.d,some (.list (ns.map PyData.int)),some (.int e.every),some (.int e.late),some (.int (0-e.late)),none,none]:=rfl;show a8 (match fW [] (cz (af 1)) (bB 5) hvB [some e.d,some (.list (ns.map PyData.int)),some (.int e.every),some (.int e.late),some (.int (0-e.late)),none,none] with|.nx c=>bj (gC (.bool true)) c|r=>r)=_;rw[j];rcases i with⟨h1,δ,h2⟩|⟨h1,h2⟩
    ·rw[h2];show Rs.ok _=_;unfold hvE;rw[h1]
    ·rw[h2];show Rs.ok _=_;unfold hvE;rw[h1]
   ·exact absurd rfl a
  ·exact absurd rfl a
structure lR (ns:List Int):Prop where
 few:ns.length<=60
 lo:∀c∈ns,0<=c
 hi:∀c∈ns,c<=9999
def n5 (ns:List Int):Bool:=decide (ns.length<=60)&&ns.all λc=>decide (0<=c)&&decide (c<=9999)
theorem tJ:n5 ns=true↔lR ns:=by
 unfold n5;rw[N6,decide_eq_true_eq,Nr];constructor
 ·rintro⟨h1,h2⟩
  refine⟨h1,λc hc=>?_,λc hc=>?_⟩
  ·have:=h2 c hc;rw[N6,decide_eq_true_eq,decide_eq_true_eq]at this;exact this.1
  ·have:=h2 c hc;rw[N6,decide_eq_true_eq,decide_eq_true_eq]at this;exact this.2
 ·rintro⟨h1,h2,a⟩
  refine⟨h1,λc hc=>?_⟩;rw[N6,decide_eq_true_eq,decide_eq_true_eq];exact⟨h2 c hc,a c hc⟩
def cZ:Gf
 |[d,.list xs]=>if uo d then (match eS xs with|some ns=>if n5 ns then .ok (.bool (hvE (deE d) ns)) else .no|none=>.no) else .no
 |_=>.no
theorem mI (h:e.Sh) (a:lR ns):cZ [e.d,.list (ns.map PyData.int)]=.ok (.bool (hvE e ns)):=by unfold cZ;simp only[lN h,if_true,ee,vZ,tJ.mpr a]
theorem j7 (ns:List Int):aI (.list (ns.map PyData.int))=true:=by
 induction ns with
 |nil=>rfl
 |cons a r ih =>
  have:aI (.list (PyData.int a::r.map PyData.int))=aI (.list (r.map PyData.int)):=by simp[aI,dB]
  rw[N0,this];exact ih
theorem DP (cs:Cs):LLq (mr cs aM bS) 2 0 cZ:=by
 intro ds hl a;obtain⟨d,xs,i,g⟩:=Du a;clear a;subst i;have a:=g;clear g
 ·skip
  split at a
  ·rename_i hd;split at a
   ·rename_i ns j;split at a
    ·rename_i l;have f:=dC j;subst f;obtain⟨e1,sh⟩:=ua hd;have R:=tJ.mp l;rw[<-e1,mI sh R];generalize deE d=e at *;show a8 (mr cs aM bS [some e.d,some (.list (ns.map PyData.int))])=_;have m:k8 "list" (.list (ns.map PyData.int))=some (.bool true):=by unfold k8;rw[if_pos (j7 ns)];rfl
     have hc:bw 2 (cz (af 1)) bH (aq aM (ae (af 2) (ae (gC (.int 0)) (ae (gC (.int 9999)) ah)))) aZ [some e.d,some (.list (ns.map PyData.int))]=.ok ((ns.map PyData.int).map λd=>.bool (isWhole d 0 9999)) :=
      dj rfl rfl (by have:=R.few;rw[N4];omega) λd b=>by obtain⟨c,hc,rfl⟩:=Nn.mp b;simp only[bf,aA,aG,NU,NT,ao,ar,cB,Rs.ag];exact vT rfl
     have h:=iV (λd=>isWhole d 0 9999) (ns.map PyData.int);have ha:(ns.map PyData.int).all (λd=>isWhole d 0 9999)=true:=by rw[Nr];intro d b;obtain⟨c,hc,rfl⟩:=Nn.mp b;have h1:=R.lo c hc;have h2:=R.hi c hc;simp[isWhole,h1,h2]
     rw[ha]at h;have hn:¬ ((60:Int)<((ns.map PyData.int).length:Int)):=by have:=R.few;rw[N4];omega
     unfold mr;simp only[aL,dZ,Iz,vp,fD,iA,bN,gA,aA,aG,ao,ar,cB,Rs.ag,m,Rs.ai,bx,lh,JV,Bool.not_true,NC,if_false,decide_eq_false hn,av,fH,bM,zG,rD,hc,h,bf,gY sh,if_true,aT]
    ·exact absurd rfl a
   ·exact absurd rfl a
  ·exact absurd rfl a
def gz (B:Nat) (p:Int->Bool):Option Int:=((List.range B).map λ(i:Nat)=>(1+(i:Int))).find? p
theorem vH (B:Nat) (p:Int->Bool):gz (B+1) p=(gz B p).or (if p (1+(B:Int)) then some (1+(B:Int)) else none):=by unfold gz;rw[List.range_succ,NQ,List.find?_append];congr 1;simp only[N0,Oi,NN,List.find?_nil];cases p (1+(B:Int)) <;> rfl
theorem mn {p:Int->Bool}:∀{B:Nat} {t:Int},gz B p=some t->1<=t/\t<=B/\p t=true/\∀s,1<=s->s<t->p s=false
 |0,t,h=>by cases h
 |B+1,t,h=>by
  rw[vH]at h;cases q:gz B p with
  |some u =>rw[q]at h;cases h;obtain⟨h1,h2,a,b⟩:=mn q;exact⟨h1,by omega,a,b⟩
  |none =>
   rw[q,Option.none_or]at h;split at h
   ·rename_i c;cases h;refine⟨by omega,by omega,c,λs h1 h2=>?_⟩;unfold gz at q;have:=OF.mp q s (Nn.mpr ⟨(s-1).toNat,Ou.mpr (by omega),by omega⟩);simpa using this
   ·cases h
theorem uG {B:Nat} {p:Int->Bool} (h:gz B p=none):∀s:Int,1<=s->s<=(B:Int)->p s=false:=λs h1 h2=>by unfold gz at h;have:=OF.mp h s (Nn.mpr ⟨(s-1).toNat,Ou.mpr (by omega),by omega⟩);simpa using this
theorem Er.times_mono (h:1<=e.every) {t u:Int} (ht:t<=u):e.times t<=e.times u:=by
 unfold Er.times;have q:=Int.ediv_le_ediv (c:=e.every) (by omega) (show t+e.late<=u+e.late by omega);have r1:=O1 (t+e.late) (b:=e.every) (by omega);have r2:=O1 (u+e.late) (b:=e.every) (by omega);have d1:=Pa (t+e.late) e.every;have d2:=Pa (u+e.late) e.every;by_cases z:(t+e.late) / e.every=(u+e.late) / e.every
 ·rw[<-z]at d2 ⊢;split <;> split <;> omega
 ·split <;> split <;> omega
theorem vQ {α:Type} (f g:α->Int):∀l:List α,(∀x∈l,f x<=g x)->(l.map f).sum<=(l.map g).sum
 |[],_=>Ob _
 |x::r,h=>by
  have h1:=h x N3;have h2:=vQ f g r λy a=>h y (N2 _ a)
  simp only[N0,NO];omega
theorem kY {α:Type} (f:α->Int):∀l:List α,(∀x∈l,0<=f x)->0<=(l.map f).sum
 |[],_=>Ob _
 |x::r,h=>by
  have h1:=h x N3;have h2:=kY f r λy a=>h y (N2 _ a)
  simp only[N0,NO];omega
theorem v9 {t u:Int} (b:∀e∈es,e.Sh) (f:cn es.length rs) (g:t<=u):nW es rs n t<=nW es rs n u:=by
 unfold nW;have:=vQ (λm=>(aW es m).times t*(aW es m).work) (λm=>(aW es m).times u*(aW es m).work) (rs.take (placeOf rs n)) λm hm=>by have a:=f.rng m (Oc hm);have c:=b _ (cy a.1 a.2);exact NK (Er.times_mono c.e1 g) c.work_b.1
 omega
structure nG (f:Int->Int):Prop where
 mono:∀t u,1<=t->t<=u->f t<=f u
 one:∀t,1<=t->1<=f t
theorem nG.fix {f:Int->Int} (R:nG f) {t:Int} (h1:1<=t) (h:f t<=t) (a:∀s,1<=s->s<t->¬ f s<=s):f t=t:=by
 by_cases z:f t<t
 ·exact absurd (R.mono _ _ (R.one t h1) h) (λq=>a (f t) (R.one t h1) z q)
 ·omega
theorem Er.times_pos (h:1<=e.every) {t:Int} (a:0<=t+e.late):0<=e.times t:=by unfold Er.times;have:=Int.ediv_nonneg a (show 0<=e.every by omega);split <;> omega
inductive Fa2 {α β:Type} (R:α->β->Prop):List α->List β->Prop where
 |nil:Fa2 R [] []
 |cons {a:α} {b:β} {l:List α} {m:List β} (h:R a b) (t:Fa2 R l m):Fa2 R (a::l) (b::m)
def cnd (es:List Er) (rs:List Int) (pl:Int) (t:Int):Bool:=match bo es rs t with
 |some h=>decide (h<=pl)
 |none=>false
def vK (c:Int->Bool) (acc:Int) (p:Int×Option Int):Int:=match p.2 with
 |some t=>if c t then max acc (p.1-1) else acc
 |none=>acc
theorem wy (es:List Er) (rs:List Int) (pl:Int):iS es rs pl=vK (cnd es rs pl):=by
 funext acc p;unfold iS vK cnd;cases p.2 with
 |none=>rfl
 |some t =>
  simp only;cases bo es rs t with
  |none=>rfl
  |some h=>simp
theorem EA {c:Int->Bool} {acc M:Int}:vK c acc p<=M↔acc<=M/\∀t,p.2=some t->c t=true->p.1-1<=M:=by
 unfold vK;rcases hp:p.2 with _|t
 ·simp
 ·simp only;cases hc:c t with
  |false=>simp[hc]
  |true =>
   simp only[if_true];constructor
   ·intro h;refine⟨by omega,λu a _=>by cases a;omega⟩
   ·rintro⟨h1,h2⟩
    have:=h2 t rfl hc;omega
theorem w5 {c:Int->Bool} {M:Int}:∀(l:List (Int×Option Int)) (acc:Int),l.foldl (vK c) acc<=M↔acc<=M/\∀p∈l,∀t,p.2=some t->c t=true->p.1-1<=M
 |[],acc=>by simp
 |p::l,acc=>by
  rw[OU,w5 l,EA];constructor
  ·rintro⟨⟨h1,h2⟩,b⟩
   exact⟨h1,λq a=>(N5.mp a).elim (λz=>by rw[z];exact h2) (b q)⟩
  ·rintro⟨h1,h2⟩
   exact⟨⟨h1,h2 p N3⟩,λq a=>h2 q (N2 _ a)⟩
theorem pC (es:List Er) (t:Int):∀(rs:List Int) (k:Int) (j:Nat),(∃h,hts es rs k t=some h/\h<=k+j)↔∃m∈rs.take (j+1),(aW es m).has t=true
 |[],k,j=>by simp[hts]
 |r::rs,k,j=>by
  unfold hts;rw[OS];by_cases hr:(aW es r).has t=true
  ·rw[if_pos hr];exact⟨λ_=>⟨r,N3,hr⟩,λ_=>⟨k,rfl,by omega⟩⟩
  ·rw[if_neg hr];cases j with
   |zero =>
    have lo:∀(rs:List Int) (k:Int) h,hts es rs k t=some h->k<=h:=by
     intro rs
     induction rs with
     |nil=>intro k h e;cases e
     |cons a l c =>
      intro k h e;unfold hts at e;split at e
      ·cases e;exact Ob _
      ·have:=c _ _ e;omega
    constructor
    ·rintro⟨h,e,hl⟩
     have:=lo rs (k+1) h e;omega
    ·rintro⟨m,hm,b⟩
     simp at hm;subst hm;exact absurd b hr
   |succ j =>
    have c:=pC es t rs (k+1) j;constructor
    ·rintro⟨h,e,hl⟩
     obtain⟨m,hm,b⟩:=c.mp ⟨h,e,by omega⟩;exact⟨m,N2 _ hm,b⟩
    ·rintro⟨m,hm,b⟩
     rcases N5.mp hm with z|z
     ·rw[z]at b;exact absurd b hr
     ·obtain⟨h,e,hl⟩:=c.mpr ⟨m,z,b⟩;exact⟨h,e,by omega⟩
theorem AE {pl:Nat} {t:Int}:cnd es rs (pl:Int) t=true↔∃m∈rs.take (pl+1),(aW es m).has t=true:=by
 rw[<-pC es t rs 0 pl];unfold cnd bo;cases hts es rs 0 t with
 |none=>simp
 |some h=>simp
def vX (es:List Er) (a:List Int):List (Int×Option Int):=(a.map λm=>(aW es m).parts).flatten
theorem AA {b:List Int}:p∈vX es b↔∃m∈b,p∈(aW es m).parts:=by
 unfold vX;rw[List.mem_flatten];constructor
 ·rintro⟨l,hl,a⟩
  obtain⟨m,hm,rfl⟩:=Nn.mp hl;exact⟨m,hm,a⟩
 ·rintro⟨m,hm,a⟩
  exact⟨_,Nn.mpr ⟨m,hm,rfl⟩,a⟩
theorem sr {M:Int}:ju es rs n<=M↔0<=M/\∀m∈rs.drop (placeOf rs n+1),∀p∈(aW es m).parts,∀t,p.2=some t->(∃u∈rs.take (placeOf rs n+1),(aW es u).has t=true)->p.1-1<=M:=by
 unfold ju;rw[wy,w5];constructor
 ·rintro⟨h1,h2⟩
  exact⟨h1,λm hm p a t b c=>h2 p (AA.mpr ⟨m,hm,a⟩) t b (AE.mpr c)⟩
 ·rintro⟨h1,h2⟩
  refine⟨h1,λp a t b hc=>?_⟩;obtain⟨m,hm,a⟩:=AA.mp a;exact h2 m hm p a t b (AE.mp hc)
theorem yJ {A r:List Int} (h:n∈A):placeOf (A++r) n=placeOf A n:=by
 unfold placeOf
 induction A with
 |nil=>cases h
 |cons a l ih =>
  rw[NU,Pn,Pn];cases hn:a==n with
  |true=>rfl
  |false =>
   have b:a≠n:=by simpa using hn
   rw[cond_false,cond_false,ih ((N5.mp h).resolve_left λq=>b q.symm)]
theorem qh (es:List Er) (rs:List Int) (n:Int):0<=ju es rs n:=(sr.mp (Ob _)).1
theorem oC:∀(ps:List (Int×Option Int)),(∀p∈ps,0<=p.1)->∀p∈ps,p.1<=(ps.map (·.1)).sum
 |[],_,p,a=>by cases a
 |q::r,h,p,a=>by
  have h0:=h q N3;have h1:=kY (λp:Int×Option Int=>p.1) r λp a=>h p (N2 _ a)
  simp only[N0,NO];rcases N5.mp a with rfl|a
  ·omega
  ·have:=oC r (λp a=>h p (N2 _ a)) p a;omega
theorem Er.Sh.part_le (h:e.Sh) (a:p∈e.parts):p.1<=e.work:=oC e.parts (λp a=>(h.pl p a).1) p a
section
variable {A B:List Int} {x y:Int}
end
theorem kA (h:n∈rs):rs[placeOf rs n]?=some n:=by have lt:=kS h;rw[My lt];have a:(rs[placeOf rs n]==n)=true:=List.findIdx_getElem (p:=(·==n)) (xs:=rs) (w:=lt);rw[beq_iff_eq.mp a]
section
variable {ot:List Int}
end
theorem mK:∀{ds:List PyData},(∀d∈ds,aI d=true)->dB ds=true
 |[],_=>by unfold dB;rfl
 |d::r,h=>by unfold dB;rw[h d N3,mK λe a=>h e (N2 _ a)];rfl
theorem gQ (h:∀d∈ds,aI d=true):aI (.tuple ds)=true:=by unfold aI;exact mK h
theorem fE (h:∀d∈ds,aI d=true):aI (.list ds)=true:=by unfold aI;exact mK h
theorem gJ (i:Int):aI (.int i)=true:=by unfold aI;rfl
theorem tR (o:Option Int):aI (bO o)=true:=by cases o <;> (unfold bO aI;rfl)
theorem yV (p:Int×Option Int):aI (aS p)=true:=gQ λd hd=>by
 rcases N5.mp hd with rfl|hd
 ·exact gJ _
 ·cases N9.mp hd;exact tR _
theorem DY (e:Er):aI e.d=true:=gQ λd hd=>by
 rcases N5.mp hd with rfl|hd
 ·exact gJ _
 ·rcases N5.mp hd with rfl|hd
  ·exact gJ _
  ·rcases N5.mp hd with rfl|hd
   ·exact gJ _
   ·cases N9.mp hd;exact gQ λd hd=>by obtain⟨p,_,rfl⟩:=Nn.mp hd;exact yV p
theorem su (es:List Er):aI (ay es)=true:=gQ λd hd=>by obtain⟨p,_,rfl⟩:=Nn.mp hd;exact DY p
theorem k9 (rs:List Int):∀d∈rs.map PyData.int,aI d=true:=λd hd=>by obtain⟨p,_,rfl⟩:=Nn.mp hd;exact gJ p
theorem qi (rs:List Int):aI (au rs)=true:=gQ (k9 rs)
end RS
namespace RS
open PySem PySem.Spec PyProof.Rows L2
section
theorem uA {xs:List α} {k:Int} {v:α} (a:0<=k) (h:xs[k.toNat]?=some v):atI xs k=some v:=by
 have:=oQ h
 rwa[OC a]at this
theorem depthAll_ints:∀ns:List Int,PyData.depthAll (ns.map PyData.int)<=1
 |[]=>by simp[PyData.depthAll]
 |n::r=>by have:=depthAll_ints r;simp only[N0,PyData.depthAll,PyData.depth];omega
theorem oG:∀ns:List Int,PyData.canLayAll0 (ns.map PyData.int)=true
 |[]=>by simp[PyData.canLayAll0]
 |n::r=>by simp[PyData.canLayAll0,PyData.canLay0,oG r]
theorem shaped_ints (ns:List Int):SeqAt.shaped (.list (ns.map PyData.int))=true:=by
 have:=depthAll_ints ns;have h2:(PyData.list (ns.map PyData.int)).depth<=64:=by simp only[PyData.depth];omega
 simp[SeqAt.shaped,PyData.canLay0,oG,h2]
theorem yx:SeqAt.shaped (.list [])=true:=shaped_ints []
theorem D6:∀ns:List Int,PyData.eqv (.list (ns.map PyData.int)) (.list [])=decide (ns=[])
 |[]=>by simp[PyData.eqv,PyData.eqvAll]
 |_::_=>by simp[PyData.eqv,PyData.eqvAll]
def Em (K:PySem.W.Frag):Sp:=λvs H Q _=>∃(a:Addr) (ns:List Int) (k:Int),vs=[.ref a,.int k]/\SqL K H a (ns.map V.int)/\0<=k/\∀H',aw H H'->Q (.int (cellAt ns k)) H'
def Ir (K:PySem.W.Frag):Sp:=λvs H Q _=>∃(a:Addr) (ns:List Int) (k many:Int),vs=[.ref a,.int k,.int many]/\SqL K H a (ns.map V.int)/\0<=k/\0<many/\∀H',aw H H'->Q (.int (mixed ns k many)) H'
theorem HS (ds:List PyData) (hl:ds.length=3) (b:ak ds≠.no):∃d,ak ds=.ok d/\gj d=true/\∀vs H Q,Iss K H ds vs->(∀v H',aw H H'->IsD K H' d v->Q v H')->Ir K vs H Q E0:=by
 obtain⟨s,k,many,e,c⟩:=oV b;clear b;subst e;have b:=c;clear c
 ·skip
  split at b
  ·rename_i ns f;have es:=iq f;subst es;split at b
   ·rename_i hc;refine⟨_,cG hc.1 hc.2,rfl,λvs H Q hi g=>?_⟩;obtain⟨v0,r0,rfl,h,v1,r1,rfl,h1,v2,r2,rfl,h2,rfl⟩:=hi;obtain⟨a,rfl,i⟩:=h.ofScript;rw[h1.ofInt,h2.ofInt];exact⟨a,ns,k,many,rfl,i,hc.1,hc.2,λH' s'=>g _ _ s' um⟩
   ·exact absurd rfl b
  ·exact absurd rfl b
end
end RS
namespace RS
open PySem L2
def okIn (d r:PyData):Bool:=c8 d&&dP (cO d).length r
def okN (d r:PyData) (n:Int):Bool:=okIn d r&&decide (0<=n)&&decide (n<(cO d).length)
def cQ:Gf
 |[d,r,.int n]=>if okN d r n then .ok (bO (cu (cO d) (cf r) n)) else .no
 |_=>.no
section
theorem F3 (h1:1<=es.length) (h2:es.length<=6) (h:∀e∈es,e.Ok) (a:cn es.length rs):okIn (ay es) (au rs)=true:=by unfold okIn;rw[mH h1 h2 h,eZ,gR a];rfl
theorem Fj (h1:1<=es.length) (h2:es.length<=6) (h:∀e∈es,e.Ok) (a:cn es.length rs) (n0:0<=n) (n1:n<es.length):okN (ay es) (au rs) n=true:=by unfold okN;rw[F3 h1 h2 h a,eZ];simp[n0,n1]
theorem kL (h1:1<=es.length) (h2:es.length<=6) (h:∀e∈es,e.Ok) (a:cn es.length rs) (n0:0<=n) (n1:n<es.length):cQ [ay es,au rs,.int n]=.ok (bO (cu es rs n)):=by unfold cQ;simp only[Fj h1 h2 h a n0 n1,if_true,eZ,eM]
end
theorem oE {cond:Ds->Rs Bool} {elt:Ds->Rs PyData} {δ:Ds} {p:PyData->Bool}:∀(ds:List PyData),(∀d∈ds,cond (δ++[some d])=.ok (p d)/\elt (δ++[some d])=.ok d)->eF cond elt aZ δ ds=.ok (ds.filter p)
 |[],_=>rfl
 |d::r,h=>by
  obtain⟨h1,h2⟩:=h d N3;have a:=oE r λe b=>h e (N2 _ b)
  unfold eF;cases hp:p d with
  |true=>simp only[aZ,h1,hp,Rs.cW,Rs.ag,if_true,h2,a,OB]
  |false=>simp only[aZ,h1,hp,Rs.cW,Rs.ag,if_false,NC,a,OB]
theorem vk {elt:Ds->Rs PyData} {p:PyData->Bool} (hn:δ.length=n0) (a:src δ=.ok ds) (hl:ds.length<=1000000) (h:∀d∈ds,cond (δ++[some d])=.ok (p d)/\elt (δ++[some d])=.ok d) :
  bw n0 src cond elt aZ δ=.ok (ds.filter p):=by
 unfold bw;rw[if_pos hn,a];simp only[Rs.ag,if_pos hl];exact oE ds h
theorem Fs (ns:List Int) (a top:Int) (ha:0<=a) (g:0<top) (b:top<=58):∃es rs,oJ ns a 4 top true=es/\1<=es.length/\es.length<=4/\(∀e∈es,e.Ok)/\cn es.length rs/\bD [aj ns,.int a,.int 4,.int top,.bool true]=.ok (ay es)/\bW [aj ns,.int 0,.int (es.length:Int)]=.ok (au rs):=by have hl:=Ez ns a 4 top true (by decide);have hok:=GQ ns a 4 top true g b;have f:bD [aj ns,.int a,.int 4,.int top,.bool true]=.ok (ay (oJ ns a 4 top true)):=ij ha (by decide) (by decide) g b;generalize oJ ns a 4 top true=es at *;have c:=jx (ns:=ns) (a:=0) (many:=(es.length:Int)) (by decide) (by omega) (by omega);rw[NM]at c;exact⟨es,_,rfl,hl.1,by omega,hok,yp ns 0 es.length,f,c⟩
theorem Jf (es:List Er):bY [ay es]=some (.int (es.length:Int)):=by unfold ay;rw[Dc,N4]
theorem lawT_of {n:Nat} {G:Ds->Sr} {k:Nat} (h:∀ns:List Int,G (some (aj ns)::List.replicate k none)=.rt (.bool true)):∀ds,ds.length=1->fL n ds≠.no->a8 (G (ds.map some++List.replicate k none))=fL n ds:=by
 intro ds hl a
 match ds,hl with
 |[s],_ =>
  unfold fL at a ⊢;simp only at a ⊢;split at a
  ·rename_i ns b;have es:=iq b;subst es;split at a
   ·rename_i hc;simp only[fF,if_pos hc];show a8 (G (some (aj ns)::List.replicate k none))=_;rw[h];rfl
   ·exact absurd rfl a
  ·exact absurd rfl a
theorem Cq (cs:Cs):LLq (tF cs) 1 0 b8:=yU cs
def bu (cs:Cs):Gf
 |[.tuple es,x]=>if aI x then (if isWhole x 0 ((es.length:Int)-1) then .ok x else .rz cs.NoErrand) else .no
 |_=>.no
theorem m9 (cs:Cs):LLq (eC cs aM) 2 0 (bu cs):=by
 intro ds hl a;obtain⟨es,x,c,b⟩:=DH a;clear a;subst c;have a:=b;clear b;unfold bu
 ·skip
  split at a
  ·rename_i hd;simp only[hd,if_true];cases e:isWhole x 0 ((es.length:Int)-1) with
   |true=>simp[eC,hd,e]
   |false=>simp[eC,hd,e]
  ·exact absurd rfl a
theorem sX {d r:PyData} (h:okN d r n=true):∃es rs,d=ay es/\r=au rs/\cO d=es/\cf r=rs/\1<=es.length/\es.length<=6/\(∀e∈es,e.Ok)/\cn es.length rs/\0<=n/\n<es.length:=by unfold okN okIn at h;simp only[N6,decide_eq_true_eq]at h;obtain⟨⟨⟨c1,a⟩,n0⟩,n1⟩:=h;obtain⟨e1,l1,l6,hok⟩:=zw c1;obtain⟨e2,b⟩:=ml a;exact⟨cO d,cf r,e1.symm,e2.symm,rfl,rfl,l1,l6,hok,b,n0,n1⟩
theorem iB (cs:Cs) (h1:1<=es.length) (h2:es.length<=6) (h:∀e∈es,e.Ok):bg cs [ay es]=.ok (ay es):=by unfold bg;simp[su,mH h1 h2 h]
theorem gp (cs:Cs) (h2:es.length<=6) (a:cn es.length rs):aV cs [ay es,au rs]=.ok (au rs):=by unfold ay aV;simp only[N4,qi,gR a,P6,if_true];rw[if_pos (by simp;omega)]
theorem jW (cs:Cs) (n0:0<=n) (n1:n<es.length):bu cs [ay es,.int n]=.ok (.int n):=by unfold ay bu;simp only[gJ,if_true,N4,isWhole];rw[if_pos (by simp;omega)]
def b0:Gf
 |[d,r,.int n]=>if okN d r n then .ok .none else .no
 |_=>.no
theorem ic (h1:1<=es.length) (h2:es.length<=6) (h:∀e∈es,e.Ok) (a:cn es.length rs) (n0:0<=n) (n1:n<es.length):b0 [ay es,au rs,.int n]=.ok .none:=by unfold b0;simp only[Fj h1 h2 h a n0 n1,if_true]
theorem rS (cs:Cs):LLq (fJ cs (bu cs) (aV cs) (bg cs)) 3 0 b0:=by
 intro ds hl a;obtain⟨d,r,n,e,b⟩:=ky a;clear a;subst e;have a:=b;clear b
 ·skip
  split at a
  ·rename_i hc;obtain⟨es,rs,rfl,rfl,_,_,l1,l6,hok,c,n0,n1⟩:=sX hc;rw[ic l1 l6 hok c n0 n1];show a8 (fJ cs (bu cs) (aV cs) (bg cs) [some (ay es),some (au rs),some (.int n)])=_;simp[fJ,iB cs l1 l6 hok,gp cs l6 c,jW cs n0 n1]
  ·exact absurd rfl a
def cC (r:List Int):PyData:=.list (r.map PyData.int)
def cmD (rows:List (List Int)):PyData:=.list (rows.map cC)
inductive Cms:List Er->List (List Int)->Prop
 |nil:Cms [] []
 |cons {e:Er} {r:List Int} {es:List Er} {rows:List (List Int)}:lR r->hvE e r=true->Cms es rows->Cms (e::es) (r::rows)
theorem Cms.len (h:Cms es rows):rows.length=es.length:=by
 induction h with
 |nil=>rfl
 |cons _ _ _ ih=>simp[ih]
theorem Cms.n5 (h:Cms es rows):∀r∈rows,lR r:=by
 induction h with
 |nil=>intro r a;cases a
 |cons a _ _ ih =>
  intro b h';rcases N5.mp h' with rfl|h'
  ·exact a
  ·exact ih b h'
structure yG (es:List Er):Prop where
 l1:1<=es.length
 l6:es.length<=6
 ok:∀e∈es,e.Ok
open Classical in
def bh (cs:Cs):Gf:=λds=>if ∃es rows,yG es/\Cms es rows/\ds=[ay es,cmD rows] then .ok (ds.getD 1 .none) else .no
theorem ft (h:yG es) (c:Cms es rows):bh cs [ay es,cmD rows]=.ok (cmD rows):=by unfold bh;rw[if_pos ⟨es,rows,h,c,rfl⟩];rfl
theorem Ej {δ:Ds} (f:δ.length=2):∀{es:List Er} {rows:List (List Int)},Cms es rows->(∀e∈es,e.Sh)->eF bH (aq cZ (ae (af 2) (ae (af 3) ah))) eO δ (rH (es.map Er.d) (rows.map cC))=.ok (rows.map λ_=>.bool true)
 |_,_,.nil,_=>rfl
 |_,_,.cons (e:=e) (r:=r) (es:=es) (rows:=rows) hr hv c,hs=>by
  obtain⟨a,b,rfl⟩:∃a b,δ=[a,b]:=by
   match δ,f with
   |[a,b],_=>exact⟨a,b,rfl⟩
  have g:=Ej f c λx h=>hs x (N2 _ h)
  show eF _ _ _ _ (PyData.tuple [e.d,cC r]::rH (es.map Er.d) (rows.map cC))=_;unfold eF;rw[show eO (PyData.tuple [e.d,cC r])=some [some e.d,some (cC r)] from rfl];have i:aq cZ (ae (af 2) (ae (af 3) ah)) ([a,b]++[some e.d,some (cC r)])=.ok (.bool true):=by simp only[bf,aA,aG,NU,NT,ao,ar,Rs.ag];rw[show cC r=.list (r.map PyData.int) from rfl,mI (hs e N3) hr,hv]
  simp only[bH,Rs.cW,Rs.ag,if_true,i,g,N0]
theorem qL (rows:List (List Int)):aI (cmD rows)=true:=by
 unfold cmD
 induction rows with
 |nil=>rfl
 |cons a r ih =>
  have h1:=j7 a;have:aI (.list (cC a::r.map cC))=(aI (cC a)&&aI (.list (r.map cC))):=by simp[aI,dB]
  rw[N0,this,ih];simp only[OM];exact h1
theorem mf (cs:Cs):LLq (dR cs cZ (bg cs)) 2 0 (bh cs):=by
 intro ds hl a;by_cases h:∃es rows,yG es/\Cms es rows/\ds=[ay es,cmD rows]
 ·obtain⟨es,rows,ok,c,rfl⟩:=h;rw[ft ok c];have k1:=iB cs ok.l1 ok.l6 ok.ok;have j:k8 "list" (cmD rows)=some (.bool true):=by unfold k8;rw[if_pos (qL rows)];rfl
  have hn:dNe (.int ((rows.map cC).length:Int)) (.int ((es.map Er.d).length:Int))=some (.bool false):=by have:=c.len;rw[N4,N4,this,Mx];simp
  have l:bw 2 (G3 (ae (af 0) (ae (af 1) ah))) bH (aq cZ (ae (af 2) (ae (af 3) ah))) eO [some (ay es),some (cmD rows)]=.ok (rows.map λ_=>.bool true):=by
   unfold bw;rw[if_pos (show [some (ay es),some (cmD rows)].length=2 from rfl)];have m:G3 (ae (af 0) (ae (af 1) ah)) [some (ay es),some (cmD rows)]=.ok (rH (es.map Er.d) (rows.map cC)):=by show (if (rows.map cC).length=(es.map Er.d).length then Rs.ok (rH (es.map Er.d) (rows.map cC)) else Rs.no)=_;exact if_pos (by rw[N4,N4];exact c.len)
   rw[m];simp only[Rs.ag];rw[if_pos (by unfold rH;rw[List.length_zipWith,N4,N4];have:=ok.l6;omega)];exact Ej rfl c λe n=>(ok.ok e n).sh
  have i:=iV (λ_:List Int=>true) rows;have ha:rows.all (λ_=>true)=true:=by rw[Nr];intros;rfl
  rw[ha]at i;have b:bw 2 (cz (af 1)) bH (gF vJ (ae (af 2) ah)) aZ [some (ay es),some (cmD rows)]=.ok ((rows.map cC).map id) :=
   dj rfl rfl (by have:=c.len;have:=ok.l6;rw[N4];omega) λd f=>by obtain⟨r,hr,rfl⟩:=Nn.mp f;rfl
  show a8 (dR cs cZ (bg cs) [some (ay es),some (cmD rows)])=_;unfold dR;have g:bY [cmD rows]=some (.int ((rows.map cC).length:Int)):=rfl;have hle:bY [ay es]=some (.int ((es.map Er.d).length:Int)):=rfl;simp only[aL,uS,bf,aA,aG,ao,ar,Rs.ag,k1,av,dZ,Iz,vp,fD,iA,bN,gA,j,Rs.ai,bx,g,hle,hn,Bool.not_true,NC,if_false,fH,rD,l,i,bM,b,O2,aT];rfl
 ·exfalso;apply a;unfold bh;rw[if_neg h]
structure Jb where
 num:Int
 parts:List (Int×Option Int)
 rank:Int
 row:List Int
 job:Nat
 part:Nat
 spent:Nat
variable {j:Jb} {q p:Addr×Jb} {ts:List (Addr×Jb)} {js:List Jb} {key:Jb->PyData} {s:List Jb×List PyData}
def Jb.fds (j:Jb):List (Str×PyData):=[("number",.int j.num),("parts",.tuple (j.parts.map aS)),("rank",.int j.rank),("row",cC j.row),("job",.int j.job),("part",.int j.part),("spent",.int j.spent)]
def Jb.d (C a:Addr) (j:Jb):PyData:=ck C a j.fds
theorem kU {f:Str} {r:List (Str×PyData)} (h:("@":Str)≠f):br C f (ck C a r)=jG f (r.map λp=>(.str p.1,p.2)):=by show (if ("":Str)=""/\(C:Int)=(C:Int) then (if ("@":Str)=f then some (PyData.int (a:Int)) else jG f (r.map λp=>(.str p.1,p.2))) else none)=_;rw[if_pos ⟨rfl,rfl⟩,if_neg h]
section
theorem yy:br C "number" (j.d C a)=some (.int j.num):=by unfold Jb.d;rw[kU (by decide)];rfl
theorem lE:br C "parts" (j.d C a)=some (.tuple (j.parts.map aS)):=by unfold Jb.d;rw[kU (by decide)];rfl
theorem oS:br C "rank" (j.d C a)=some (.int j.rank):=by unfold Jb.d;rw[kU (by decide)];rfl
theorem zK:br C "row" (j.d C a)=some (cC j.row):=by unfold Jb.d;rw[kU (by decide)];rfl
theorem u6:br C "job" (j.d C a)=some (.int j.job):=by unfold Jb.d;rw[kU (by decide)];rfl
theorem oU:br C "part" (j.d C a)=some (.int j.part):=by unfold Jb.d;rw[kU (by decide)];rfl
theorem jP:br C "spent" (j.d C a)=some (.int j.spent):=by unfold Jb.d;rw[kU (by decide)];rfl
end
def gfG (n k:Nat) (G:Ds->Sr):Gf:=λds=>if ds.length=n then a8 (G (ds.map some++List.replicate k none)) else .no
theorem iM {n k:Nat} {G:Ds->Sr}:∀ds,ds.length=n->gfG n k G ds≠.no->a8 (G (ds.map some++List.replicate k none))=gfG n k G ds:=by intro ds hl _;unfold gfG;rw[if_pos hl]
def aU (cs:Cs):Gf:=gfG 1 0 (dE cs)
def aK (cs:Cs):Gf:=gfG 1 0 (eK cs)
def aR (cs:Cs):Gf:=gfG 1 0 (fS cs)
def aO (cs:Cs):Gf:=gfG 2 0 (dD cs)
theorem wI:aU cs [j.d cs.Jobs a]=.ok (.bool ((j.job:Int)==(j.row.length:Int))):=by
 have hl:bY [cC j.row]=some (.int (j.row.length:Int)):=by unfold cC;rw[lh,N4]
 show a8 (dE cs [some (j.d cs.Jobs a)])=_;unfold dE;simp only[bM,bN,iA,ao,Rs.ag,u6,zK,Rs.ai,gA,aA,aG,hl,jC,av,aT]
def Jb.tool (j:Jb):Option Int:=(j.parts[j.part]?.map (·.2)).getD none
theorem ui {p:Int×Option Int} (h:j.parts[j.part]?=some p):dIx (.tuple (j.parts.map aS)) (.int (j.part:Int))=some (aS p):=by rw[xM];exact oQ (by rw[Nx,h];rfl)
theorem part1 (p:Int×Option Int):dIx (aS p) (.int 1)=some (bO p.2):=rfl
theorem tU (h:j.part<j.parts.length):aK cs [j.d cs.Jobs a]=.ok (bO (if j.spent=0 then j.tool else none)):=by
 show a8 (eK cs [some (j.d cs.Jobs a)])=_;unfold eK;have b:j.parts[j.part]?=some j.parts[j.part]:=My h;have c:j.tool=j.parts[j.part].2:=by unfold Jb.tool;rw[b];rfl
 by_cases z:j.spent=0
 ·have e:((j.spent:Int)==0)=true:=by rw[z];rfl
  rw[if_pos z,c];simp only[bM,gIf,fD,bN,iA,ao,cB,Rs.ag,jP,lE,oU,Rs.ai,jC,e,bx,if_true,ui b,part1,av,aT]
 ·have e:((j.spent:Int)==0)=false:=by rw[beq_eq_false_iff_ne];omega
  rw[if_neg z];simp only[bM,gIf,fD,bN,iA,ao,cB,Rs.ag,jP,Rs.ai,jC,e,bx,NC,if_false,av,aT];rfl
theorem Av (h:j.part<j.parts.length):aR cs [j.d cs.Jobs a]=.ok (bO (if j.spent=0 then none else j.tool)):=by
 show a8 (fS cs [some (j.d cs.Jobs a)])=_;unfold fS;have b:j.parts[j.part]?=some j.parts[j.part]:=My h;have c:j.tool=j.parts[j.part].2:=by unfold Jb.tool;rw[b];rfl
 by_cases z:j.spent=0
 ·have e:decide ((0:Int)<(j.spent:Int))=false:=by rw[z];rfl
  rw[if_pos z];simp only[bM,gIf,fD,bN,iA,ao,cB,Rs.ag,jP,Rs.ai,JV,e,bx,NC,if_false,av,aT];rfl
 ·have e:decide ((0:Int)<(j.spent:Int))=true:=by rw[decide_eq_true_eq];omega
  rw[if_neg z,c];simp only[bM,gIf,fD,bN,iA,ao,cB,Rs.ag,jP,lE,oU,Rs.ai,JV,e,bx,if_true,ui b,part1,av,aT]
def Jb.there (j:Jb) (t:Int):Bool:=match j.row[j.job]? with
 |some c=>decide (c<=t)
 |none=>false
theorem wX {t:Int} (h:j.job<=j.row.length):aO cs [j.d cs.Jobs a,.int t]=.ok (.bool (j.there t)):=by
 have hl:bY [cC j.row]=some (.int (j.row.length:Int)):=by unfold cC;rw[lh,N4]
 show a8 (dD cs [some (j.d cs.Jobs a),some (.int t)])=_;unfold dD Jb.there;by_cases z:j.job<j.row.length
 ·have b:j.row[j.job]?=some j.row[j.job]:=My z;have e:decide ((j.job:Int)<(j.row.length:Int))=true:=by rw[decide_eq_true_eq];omega
  have c:dIx (cC j.row) (.int (j.job:Int))=some (.int j.row[j.job]):=by show atI (j.row.map PyData.int) _=_;exact oQ (by rw[Nx,b];rfl)
  rw[b];simp only[bM,zG,bN,iA,ao,ar,Rs.ag,u6,zK,Rs.ai,gA,aA,aG,hl,Ka,e,bx,if_true,c,Ma,av,aT]
 ·have b:j.row[j.job]?=none:=Ox (by omega);have e:decide ((j.job:Int)<(j.row.length:Int))=false:=by rw[decide_eq_false_iff_not];omega
  rw[b];simp only[bM,zG,bN,iA,ao,ar,Rs.ag,u6,zK,Rs.ai,gA,aA,aG,hl,Ka,e,bx,NC,if_false,av,aT]
def jD (C:Addr) (p:Addr×Jb):PyData:=p.2.d C p.1
def Jb.held (j:Jb):Option Int:=if j.spent=0 then none else j.tool
def Jb.wanted (j:Jb):Option Int:=if j.spent=0 then j.tool else none
def holdsT (t:Int) (p:Addr×Jb):Bool:=p.2.held==some t
theorem eq_none_int (x:Int):dEq .none (.int x)=some (.bool false):=by
 have h:PySem.SeqAt.shaped (.int x)=true:=by simp[PySem.SeqAt.shaped,PyData.canLay0,PyData.depth]
 unfold dEq;rw[h];simp[aI,PyData.eqv]
 first|done|rfl|decide
theorem KY (o:Option Int) (t:Int):dEq (bO o) (.int t)=some (.bool (o==some t)):=by
 cases o with
 |none=>exact eq_none_int t
 |some i=>rw[show bO (some i)=.int i from rfl,jC];simp
theorem uO {m:Str} (h1:("@":Str)≠m) (h:jA m (j.fds.map λp=>(.str p.1,p.2))=true):isC C m (j.d C a)=true:=by
 show (decide (("":Str)="")&&decide ((C:Int)=(C:Int))&&jA m ((.str "@",.int (a:Int))::(j.fds.map λp=>(.str p.1,p.2))))=true;have:jA m ((.str "@",.int (a:Int))::(j.fds.map λp=>(PyData.str p.1,p.2)))=true:=by unfold jA;simp only[h,OM];simpa using h1
 rw[this];simp
theorem xN:isC C "held" (j.d C a)=true:=uO (by decide) rfl
theorem rA:isC C "wanted" (j.d C a)=true:=uO (by decide) rfl
theorem vq:isC C "are_done" (j.d C a)=true:=uO (by decide) rfl
theorem uL:isC C "is_there" (j.d C a)=true:=uO (by decide) rfl
def bI (cs:Cs):Gf:=gfG 2 1 (jX cs (aR cs))
def jV (C:Addr) (ts:List (Addr×Jb)) (tool:Option Int):PyData:=match tool with
 |none=>.none
 |some t=>match ts.find? (holdsT t) with
  |none=>.none
  |some p=>jD C p
theorem oy {cs:Cs} {t:Int} {X:PyData}:∀(ts:List (Addr×Jb)) (x2:Option PyData),(∀p∈ts,p.2.part<p.2.parts.length) ->
   (∃p,ts.find? (holdsT t)=some p/\forL (bB 2) (sIf (gT (g2 dEq (bp cs.Jobs "held" (aR cs) (af 2) ah) (af 1))) (bj (af 2)) ba) (ts.map (jD cs.Jobs)) [some X,some (.int t),x2]=.rt (jD cs.Jobs p))
  \/(ts.find? (holdsT t)=none/\∃δ,forL (bB 2) (sIf (gT (g2 dEq (bp cs.Jobs "held" (aR cs) (af 2) ah) (af 1))) (bj (af 2)) ba) (ts.map (jD cs.Jobs)) [some X,some (.int t),x2]=.nx δ)
 |[],x2,_=>.inr ⟨rfl,_,rfl⟩
 |p::r,x2,h=>by
   have h1:bB 2 (jD cs.Jobs p) [some X,some (.int t),x2]=some [some X,some (.int t),some (jD cs.Jobs p)]:=rfl;have hm:bp cs.Jobs "held" (aR cs) (af 2) ah [some X,some (.int t),some (jD cs.Jobs p)]=.ok (bO p.2.held):=by unfold bp;simp only[ao,ar,Rs.ag];rw[if_pos (show isC cs.Jobs "held" (jD cs.Jobs p)=true from xN)];simp only[aG,Rs.ag];exact Av (h p N3)
   have hc:gT (g2 dEq (bp cs.Jobs "held" (aR cs) (af 2) ah) (af 1)) [some X,some (.int t),some (jD cs.Jobs p)]=.ok (holdsT t p):=by simp only[fD,bN,hm,ao,ar,Rs.ag,KY,Rs.ai,bx];rfl
   rw[N0];unfold forL;rw[h1];cases z:holdsT t p with
   |true =>refine .inl ⟨p,by rw[List.find?_cons_of_pos z],?_⟩;simp only[dZ,hc,z,av,if_true,bM,ao,ar]
   |false =>simp only[dZ,hc,z,av,NC,if_false,fH];rw[List.find?_cons_of_neg (by rw[z];exact NA)];exact oy r _ λq a=>h q (N2 _ a)
theorem sO {tool:Option Int} (h:∀p∈ts,p.2.part<p.2.parts.length):bI cs [.list (ts.map (jD cs.Jobs)),bO tool]=.ok (jV cs.Jobs ts tool):=by
 show a8 (jX cs (aR cs) [some (.list (ts.map (jD cs.Jobs))),some (bO tool),none])=_;unfold jX jV;cases tool with
 |none=>rfl
 |some t =>
  have hn:gT (g1 nz (af 1)) [some (.list (ts.map (jD cs.Jobs))),some (.int t),none]=.ok false:=rfl;show a8 (aF (sIf (gT (g1 nz (af 1))) (bj (gC .none)) ba) (aF (fW [] (cz (af 0)) (bB 2) (sIf (gT (g2 dEq (bp cs.Jobs "held" (aR cs) (af 2) ah) (af 1))) (bj (af 2)) ba)) (bj (gC .none))) [some (.list (ts.map (jD cs.Jobs))),some (.int t),none])=_;have a:fW [] (cz (af 0)) (bB 2) (sIf (gT (g2 dEq (bp cs.Jobs "held" (aR cs) (af 2) ah) (af 1))) (bj (af 2)) ba) [some (.list (ts.map (jD cs.Jobs))),some (.int t),none]=forL (bB 2) (sIf (gT (g2 dEq (bp cs.Jobs "held" (aR cs) (af 2) ah) (af 1))) (bj (af 2)) ba) (ts.map (jD cs.Jobs)) [some (.list (ts.map (jD cs.Jobs))),some (.int t),none]:=rfl;simp only[aL,dZ,hn,av,NC,if_false,fH,a];rcases oy (cs:=cs) (t:=t) (X:=.list (ts.map (jD cs.Jobs))) ts none h with⟨p,f1,f2⟩|⟨f1,δ,f2⟩
  ·rw[f1,f2];rfl
  ·rw[f1,f2];rfl
def cp (cs:Cs):Gf:=gfG 1 3 (gx cs (aK cs) (bI cs))
theorem GS:iJ (jD C q)=some (.bool true):=rfl
def lrB (cs:Cs):Ds->Sr:=(aF (aQ [1] 3 (aq (bI cs) (ae (af 0) (ae (bp cs.Jobs "wanted" (aK cs) (af 2) ah) ah))))
 (sIf (gT (g1 iJ (af 3))) (qt 1 (g1 (br cs.Jobs "number") (af 3)) (gF kK (ae (g1 (br cs.Jobs "rank") (af 2)) (ae (mx (af 1) (g1 (br cs.Jobs "number") (af 3)) (g1 (br cs.Jobs "rank") (af 3))) ah)))) ba))
theorem Hv (l:List (Int×Int)) (k v:Int):(yS l k v).length<=l.length+1:=by unfold yS;split <;> simp
def bP (cs:Cs):Gf:=gfG 2 1 (bT cs (aR cs))
theorem tq {x y:Option PyData} (h:p.2.part<p.2.parts.length):bp cs.Jobs "held" (aR cs) (af 0) ah [some (jD cs.Jobs p),x,y]=.ok (bO p.2.held):=by unfold bp;simp only[ao,Rs.ag];rw[if_pos (show isC cs.Jobs "held" (jD cs.Jobs p)=true from xN)];simp only[aG,Rs.ag];exact Av h
theorem ET (h:ts≠[]):∃p∈ts,jV C ts p.2.wanted=.none:=by
 by_cases z:∃p∈ts,p.2.spent≠0
 ·obtain⟨p,a,b⟩:=z;refine⟨p,a,?_⟩;unfold Jb.wanted;rw[if_neg b];rfl
 ·have c:∀p∈ts,p.2.spent=0:=λp a=>by
   by_cases q:p.2.spent=0
   ·exact q
   ·exact absurd ⟨p,a,q⟩ z
  obtain⟨p,r,rfl⟩:=ON h;refine⟨p,N3,?_⟩;unfold jV;cases p.2.wanted with
  |none=>rfl
  |some t =>
   have:(p::r).find? (holdsT t)=none:=by rw[OF];intro q e;unfold holdsT Jb.held;rw[if_pos (c q e)];exact NA
   simp only[this]
def cE (cs:Cs):Gf:=gfG 3 2 (ki cs (cp cs) (aK cs) (bI cs) (bP cs))
theorem eq_str {s t:Str} (h1:PySem.SeqAt.shaped (.str s)=true) (h2:PySem.SeqAt.shaped (.str t)=true):dEq (.str s) (.str t)=some (.bool (s==t)):=by unfold dEq;rw[h1,h2];simp[aI,PyData.eqv]
def FG (cs:Cs) (δ:Ds) (d:PyData):Bool:=match aq (bI cs) (ae (af 0) (ae (bp cs.Jobs "wanted" (aK cs) (af 5) ah) ah)) (δ++[some d]) with
 |.ok x=>eY x
 |_=>false
theorem Aw {x1 x2 x3 x4:Option PyData} (h:∀p∈ts,p.2.part<p.2.parts.length) (a:q∈ts) :
  aq (bI cs) (ae (af 0) (ae (bp cs.Jobs "wanted" (aK cs) (af 5) ah) ah)) [some (.list (ts.map (jD cs.Jobs))),x1,x2,x3,x4,some (jD cs.Jobs q)]=.ok (jV cs.Jobs ts q.2.wanted):=by
 have h2:bp cs.Jobs "wanted" (aK cs) (af 5) ah [some (.list (ts.map (jD cs.Jobs))),x1,x2,x3,x4,some (jD cs.Jobs q)]=.ok (bO q.2.wanted):=by unfold bp;simp only[ao,ar,Rs.ag];rw[if_pos (show isC cs.Jobs "wanted" (jD cs.Jobs q)=true from rA)];simp only[aG,Rs.ag];exact tU (h q a)
 simp only[bf,aA,aG,ao,h2,Rs.ag];exact sO h
structure rq (s:Str):Prop where
 sh:PySem.SeqAt.shaped (.str s)=true
theorem Am:PySem.SeqAt.shaped (.str "high")=true:=by decide +kernel
theorem CW:PySem.SeqAt.shaped (.str "asked")=true:=by decide +kernel
theorem uw (ps:List (Int×Option Int)):aI (.tuple (ps.map aS))=true:=by
 induction ps with
 |nil=>rfl
 |cons a r ih =>
  have h1:aI (aS a)=true:=by obtain⟨x,o⟩:=a;cases o <;> rfl
  have:aI (.tuple (aS a::r.map aS))=(aI (aS a)&&aI (.tuple (r.map aS))):=by simp[aI,dB]
  rw[N0,this,h1,ih];rfl
theorem Jb.flat (j:Jb):f7 j.fds=true:=by have h1:=uw j.parts;have h2:aI (cC j.row)=true:=j7 j.row;unfold f7 Jb.fds;simp only[N0,Oi,lr,h1,h2,OM,P6];rfl
theorem mE:n8 [a] C 0 [some (j.d C a)]=some (a,j.fds):=by
 unfold n8;have h1:gr [some (j.d C a)]=true:=by unfold gr Jb.d;simp only[OL,List.all_nil,OM,wx];exact j.flat
 show (match objOf (j.d C a) with|some (c,b,fds)=>if c=C/\b∈[a]/\gr [some (j.d C a)]=true/\f7 fds=true/\fds.length<1000 then some (b,fds) else none|none=>none)=_;unfold Jb.d at *;rw[tK];exact if_pos ⟨rfl,N9.mpr rfl,h1,j.flat,show 7<1000 by decide⟩
theorem j9 {fds:List (Str×PyData)} (b:f7 fds=true):kW a nd [some (ck C a fds)]=[some nd]:=by show [some (fq a nd (ck C a fds))]=_;unfold ck fq;refine congrArg (λx=>[some x]) (if_pos ?_);unfold kf;unfold f7 at b;simp[b]
section
theorem sL:eN [a] C 0 "spent" (gC (.int 1)) [some (j.d C a)]=.nx [some (Jb.d C a { j with spent:=j.spent+1 })]:=by unfold eN;rw[mE];show Sr.nx (kW a (ck C a (qc "spent" (.int ((j.spent:Int)+1)) j.fds)) [some (ck C a j.fds)])=_;rw[j9 j.flat];rfl
theorem CM:eN [a] C 0 "part" (gC (.int 1)) [some (j.d C a)]=.nx [some (Jb.d C a { j with part:=j.part+1 })]:=by unfold eN;rw[mE];show Sr.nx (kW a (ck C a (qc "part" (.int ((j.part:Int)+1)) j.fds)) [some (ck C a j.fds)])=_;rw[j9 j.flat];rfl
theorem Gi:eN [a] C 0 "job" (gC (.int 1)) [some (j.d C a)]=.nx [some (Jb.d C a { j with job:=j.job+1 })]:=by unfold eN;rw[mE];show Sr.nx (kW a (ck C a (qc "job" (.int ((j.job:Int)+1)) j.fds)) [some (ck C a j.fds)])=_;rw[j9 j.flat];rfl
theorem Ck:lP [a] C 0 "spent" (gC (.int 0)) [some (j.d C a)]=.nx [some (Jb.d C a { j with spent:=0 })]:=by unfold lP;rw[mE];show Sr.nx (kW a (ck C a (qc "spent" (.int 0) j.fds)) [some (ck C a j.fds)])=_;rw[j9 j.flat];rfl
theorem E7:lP [a] C 0 "part" (gC (.int 0)) [some (j.d C a)]=.nx [some (Jb.d C a { j with part:=0 })]:=by unfold lP;rw[mE];show Sr.nx (kW a (ck C a (qc "part" (.int 0) j.fds)) [some (ck C a j.fds)])=_;rw[j9 j.flat];rfl
end
def Jb.step1 (j:Jb) (n:Int):Jb:=if (j.spent:Int)+1=n then { j with spent:=0,part:=j.part+1 } else { j with spent:=j.spent+1 }
def Jb.step2 (j:Jb):Jb:=if j.part=j.parts.length then { j with part:=0,job:=j.job+1 } else j
def Jb.len (j:Jb):Int:=(j.parts[j.part]?.map (·.1)).getD 0
def Jb.next (j:Jb):Jb:=(j.step1 j.len).step2
theorem Gg (h:j.part<j.parts.length):gE cs [a] [some (j.d cs.Jobs a)]=.nx [some (j.next.d cs.Jobs a)]:=by
 have b:j.parts[j.part]?=some j.parts[j.part]:=My h;have hn:j.len=j.parts[j.part].1:=by unfold Jb.len;rw[b];rfl
 have second:∀k:Jb,sIf (gT (g2 dEq (g1 (br cs.Jobs "part") (af 0)) (gF bY (ae (g1 (br cs.Jobs "parts") (af 0)) ah)))) (aF (lP [a] cs.Jobs 0 "part" (gC (.int 0))) (eN [a] cs.Jobs 0 "job" (gC (.int 1)))) ba [some (k.d cs.Jobs a)]=.nx [some (k.step2.d cs.Jobs a)]:=by
  intro k;have hc:gT (g2 dEq (g1 (br cs.Jobs "part") (af 0)) (gF bY (ae (g1 (br cs.Jobs "parts") (af 0)) ah))) [some (k.d cs.Jobs a)]=.ok ((k.part:Int)==(k.parts.length:Int)):=by simp only[fD,bN,iA,gA,aA,aG,ao,Rs.ag,oU,lE,Rs.ai,Dc,N4,jC,bx]
  unfold Jb.step2;by_cases z:k.part=k.parts.length
  ·have e:((k.part:Int)==(k.parts.length:Int))=true:=by rw[z];exact beq_self_eq_true _
   rw[if_pos z];simp only[dZ,hc,e,av,if_true,aL,E7,Gi]
  ·have e:((k.part:Int)==(k.parts.length:Int))=false:=by rw[beq_eq_false_iff_ne];omega
   rw[if_neg z];simp only[dZ,hc,e,av,NC,if_false,fH]
 have hc:gT (g2 dEq (g1 (br cs.Jobs "spent") (af 0)) (g2 dIx (g2 dIx (g1 (br cs.Jobs "parts") (af 0)) (g1 (br cs.Jobs "part") (af 0))) (gC (.int 0)))) [some (Jb.d cs.Jobs a { j with spent:=j.spent+1 })]=.ok (((j.spent:Int)+1)==j.len):=by have q:=ui (j:={ j with spent:=j.spent+1 }) b;have c:dIx (aS j.parts[j.part]) (.int 0)=some (.int j.parts[j.part].1):=rfl;simp only[fD,bN,iA,ao,cB,Rs.ag,jP,lE,oU,Rs.ai,q,c,jC,bx,hn];rfl
 unfold gE Jb.next Jb.step1;by_cases z:(j.spent:Int)+1=j.len
 ·have e:(((j.spent:Int)+1)==j.len)=true:=by rw[z];exact beq_self_eq_true _
  rw[if_pos z];simp only[aL,sL];rw[dZ,hc];simp only[e,av,if_true,aL,Ck,CM];exact second _
 ·have e:(((j.spent:Int)+1)==j.len)=false:=by rw[beq_eq_false_iff_ne];exact z
  rw[if_neg z];simp only[aL,sL];rw[dZ,hc];simp only[e,av,NC,if_false,fH];exact second _
theorem DQ {a b:Option Int} (h:bO a=bO b):a=b:=by cases a <;> cases b <;> first|rfl|(injection h with h;rw[h])|cases h
theorem Bw {p q:Int×Option Int} (h:aS p=aS q):p=q:=by
 obtain⟨a,o⟩:=p;obtain⟨b,u⟩:=q;unfold aS at h;injection h with h
 injection h with h1 h2
 injection h1 with h1
 injection h2 with h2 _
 have c:=DQ h2;exact Prod.ext h1 c
theorem qV {α β:Type} {f:α->β} (c:∀x y,f x=f y->x=y):∀{l m:List α},l.map f=m.map f->l=m
 |[],[],_=>rfl
 |[],_::_,h=>by cases h
 |_::_,[],h=>by cases h
 |a::l,b::m,h=>by
  rw[N0,N0]at h;injection h with h1 h2
  rw[c a b h1,qV c h2]
theorem GU {k:Jb} (h:j.fds=k.fds):j=k:=by
 obtain⟨a1,a2,a3,a4,a,b,c⟩:=j;obtain⟨b1,b2,b3,b4,e,f,g⟩:=k;unfold Jb.fds cC at h;simp only[List.cons.injEq,Prod.mk.injEq,true_and,and_true,PyData.int.injEq,PyData.tuple.injEq,PyData.list.injEq]at h;obtain⟨h1,h2,i,l,h5,h6,h7⟩:=h;have e2:=qV (λx y=>Bw) h2;have m:=qV (λx y (q:PyData.int x=PyData.int y)=>by injection q) l;have n:a=e:=by omega
 have o:b=f:=by omega
 have p:c=g:=by omega
 subst h1 i e2 m n o p;rfl
open Classical in
def fQ:List (Str×PyData)->Option (List (Str×PyData)):=λfds=>if h:∃j:Jb,j.part<j.parts.length/\fds=j.fds then some (Classical.choose h).next.fds else none
theorem Ip (h:j.part<j.parts.length):fQ j.fds=some j.next.fds:=by
 have a:∃k:Jb,k.part<k.parts.length/\j.fds=k.fds:=⟨j,h,rfl⟩
 unfold fQ;rw[dif_pos a];have:=GU (Classical.choose_spec a).2;rw[<-this]
theorem FE (cs:Cs):∀a fds b,f7 fds=true->fds.length<1000->fQ fds=some b->∃δ,gE cs [a] (some (ck cs.Jobs a fds)::List.replicate 0 none)=.nx δ/\δ[0]?=some (some (ck cs.Jobs a b)):=by
 intro a fds b _ _ e;by_cases hx:∃k:Jb,k.part<k.parts.length/\fds=k.fds
 ·obtain⟨k,c,rfl⟩:=hx;rw[Ip c]at e;cases e;exact⟨_,Gg c,rfl⟩
 ·unfold fQ at e;rw[dif_neg hx]at e;cases e
instance:Inhabited Jb:=⟨⟨0,[],0,[],0,0,0⟩⟩
def jI (ks:List PyData):Nat:=bst (λi j=>ltD (ks.getD i .none) (ks.getD j .none)) (ks.length-1)
def iT (key:Jb->PyData) (js:List Jb):Jb:=js.getD (jI (js.map key)) default
theorem rf {C:Addr} {g:PyData->Rs PyData} {key:Jb->PyData}:∀{ts:List (Addr×Jb)},(∀p∈ts,g (jD C p)=.ok (key p.2))->allR g (ts.map (jD C))=.ok ((ts.map (·.2)).map key)
 |[],_=>rfl
 |p::r,h=>by
  have a:=rf (ts:=r) λx b=>h x (N2 _ b)
  rw[N0];unfold allR;rw[h p N3,Rs.ag,a,Rs.ag];rfl
theorem l9 (hd:ga δ=.ok (.list (ts.map (jD C)))) (o:ts≠[]) (f:∀p∈ts,gb (some (jD C p)::uU cap δ)=.ok (key p.2))
  (hK:(∀p∈ts,∃n:Int,key p.2=.int n)\/(∀p∈ts,∃a b:Int,key p.2=.tuple [.int a,.int b])):∃q∈ts,q.2=iT key (ts.map (·.2))/\jk cap ga gb δ=.ok (jD C q):=by
 have hlen:0<ts.length:=Oh.mpr o;have e:=rf (C:=C) (g:=λx=>gb (some x::uU cap δ)) (key:=key) f;have q:keysOk ((ts.map (·.2)).map key)=true:=by
  unfold keysOk;rw[Bool.or_eq_true];rcases hK with hK|hK
  ·refine .inl (Nr.mpr λk f=>?_);obtain⟨j,h,rfl⟩:=Nn.mp f;obtain⟨p,l,rfl⟩:=Nn.mp h;obtain⟨n,hn⟩:=hK p l;rw[hn];rfl
  ·refine .inr (Nr.mpr λk f=>?_);obtain⟨j,h,rfl⟩:=Nn.mp f;obtain⟨p,l,rfl⟩:=Nn.mp h;obtain⟨a,b,hn⟩:=hK p l;rw[hn];rfl
 have hb:=uV (λi j=>ltD (((ts.map (·.2)).map key).getD i .none) (((ts.map (·.2)).map key).getD j .none)) (ts.length-1);have m:jI ((ts.map (·.2)).map key)=bst (λi j=>ltD (((ts.map (·.2)).map key).getD i .none) (((ts.map (·.2)).map key).getD j .none)) (ts.length-1):=by unfold jI;rw[N4,N4]
 have c:jI ((ts.map (·.2)).map key)<ts.length:=by rw[m];omega
 refine⟨ts[jI ((ts.map (·.2)).map key)],NL c,?_,?_⟩
 ·unfold iT;rw[Nw,Nx,My c];rfl
 ·unfold jk;rw[hd];simp only[Rs.ag,N4,if_pos hlen,e];show (if keysOk _=true then Rs.eE _ else Rs.no)=_;rw[if_pos q,<-m,Nx,My c];rfl
def pW (js:List Jb) (tool:Option Int):Option Jb:=tool.bind λt=>js.find? λj=>j.held==some t
theorem Al {tool:Option Int}:(pW (ts.map (·.2)) tool=none/\jV C ts tool=.none)\/∃q∈ts,pW (ts.map (·.2)) tool=some q.2/\jV C ts tool=jD C q:=by
 unfold pW jV;cases tool with
 |none=>exact .inl ⟨rfl,rfl⟩
 |some t =>
  have hm:(ts.map (·.2)).find? (λj=>j.held==some t)=(ts.find? (holdsT t)).map (·.2):=by rw[List.find?_map];rfl
  simp only[OK,hm];cases h:ts.find? (holdsT t) with
  |none=>exact .inl ⟨rfl,rfl⟩
  |some p=>exact .inr ⟨p,List.mem_of_find?_eq_some h,rfl,rfl⟩
def sR (js:List Jb) (l:List (Int×Int)) (j:Jb):List (Int×Int):=match pW js j.wanted with
 |none=>l
 |some o=>yS l o.num (if (lH l o.num).getD o.rank<j.rank then (lH l o.num).getD o.rank else j.rank)
def sM (js:List Jb):List (Int×Int):=js.foldl (sR js) []
theorem EZ (h:∀p∈ts,p.2.part<p.2.parts.length) (c:p∈ts) (hl:l.length<1000000) (x3:Option PyData) :
  ∃x,lrB cs [some (.list (ts.map (jD cs.Jobs))),some (cL l),some (jD cs.Jobs p),x3]=.nx [some (.list (ts.map (jD cs.Jobs))),some (cL (sR (ts.map (·.2)) l p.2)),some (jD cs.Jobs p),x]:=by
 have hm:aq (bI cs) (ae (af 0) (ae (bp cs.Jobs "wanted" (aK cs) (af 2) ah) ah)) [some (.list (ts.map (jD cs.Jobs))),none,some (jD cs.Jobs p),x3]=.ok (jV cs.Jobs ts p.2.wanted):=by
  have h2:bp cs.Jobs "wanted" (aK cs) (af 2) ah [some (.list (ts.map (jD cs.Jobs))),none,some (jD cs.Jobs p),x3]=.ok (bO p.2.wanted):=by unfold bp;simp only[ao,ar,Rs.ag];rw[if_pos (show isC cs.Jobs "wanted" (jD cs.Jobs p)=true from rA)];simp only[aG,Rs.ag];exact tU (h p c)
  simp only[bf,aA,aG,ao,h2,Rs.ag];exact sO h
 have a:aQ [1] 3 (aq (bI cs) (ae (af 0) (ae (bp cs.Jobs "wanted" (aK cs) (af 2) ah) ah))) [some (.list (ts.map (jD cs.Jobs))),some (cL l),some (jD cs.Jobs p),x3]=.nx [some (.list (ts.map (jD cs.Jobs))),some (cL l),some (jD cs.Jobs p),some (jV cs.Jobs ts p.2.wanted)]:=by show (if 3<4 then ofR (aq (bI cs) (ae (af 0) (ae (bp cs.Jobs "wanted" (aK cs) (af 2) ah) ah)) [some (.list (ts.map (jD cs.Jobs))),none,some (jD cs.Jobs p),x3]) _ else _)=_;rw[if_pos (by decide),hm];rfl
 unfold lrB sR;simp only[aL,a];rcases Al (C:=cs.Jobs) (ts:=ts) (tool:=p.2.wanted) with⟨b,e⟩|⟨q,hq,b,e⟩
 ·rw[e,b];exact⟨_,rfl⟩
 ·rw[e,b];simp only[dZ,fD,iA,ao,ar,Rs.ag,GS,Rs.ai,bx,av,if_true];have f1:br cs.Jobs "number" (jD cs.Jobs q)=some (.int q.2.num):=yy;have f2:br cs.Jobs "rank" (jD cs.Jobs q)=some (.int q.2.rank):=oS;have f:br cs.Jobs "rank" (jD cs.Jobs p)=some (.int p.2.rank):=oS;refine⟨some (jD cs.Jobs q),?_⟩;unfold qt;simp only[Od,Oe,tH,gA,aA,aG,iA,ao,ar,Rs.ag,f1,f2,f,Rs.ai,mx,yz,av,if_pos hl];rfl
theorem B5 (js:List Jb) (l:List (Int×Int)) (j:Jb):(sR js l j).length<=l.length+1:=by
 unfold sR;split
 ·exact OO _
 ·exact Hv _ _ _
theorem xJ {cs:Cs} {ts:List (Addr×Jb)} (h:∀p∈ts,p.2.part<p.2.parts.length):∀(us:List (Addr×Jb)) (l:List (Int×Int)) (x2 x3:Option PyData),(∀p∈us,p∈ts)->l.length+us.length<1000000 ->
  ∃a b,forL (bB 2) (lrB cs) (us.map (jD cs.Jobs)) [some (.list (ts.map (jD cs.Jobs))),some (cL l),x2,x3]=.nx [some (.list (ts.map (jD cs.Jobs))),some (cL ((us.map (·.2)).foldl (sR (ts.map (·.2))) l)),a,b]
 |[],l,x2,x3,_,_=>⟨x2,x3,rfl⟩
 |p::r,l,x2,x3,hu,hl=>by have h1:bB 2 (jD cs.Jobs p) [some (.list (ts.map (jD cs.Jobs))),some (cL l),x2,x3]=some [some (.list (ts.map (jD cs.Jobs))),some (cL l),some (jD cs.Jobs p),x3]:=rfl;rw[Nu]at hl;obtain⟨x,e1⟩:=EZ (cs:=cs) h (hu p N3) (l:=l) (by omega) x3;have hl1:=B5 (ts.map (·.2)) l p.2;rw[N0];unfold forL;rw[h1];simp only[e1];exact xJ h r _ _ _ (λq c=>hu q (N2 _ c)) (by omega)
theorem G6 (h:∀p∈ts,p.2.part<p.2.parts.length) (hl:ts.length<=1000):cp cs [.list (ts.map (jD cs.Jobs))]=.ok (cL (sM (ts.map (·.2)))):=by obtain⟨y2,y3,e⟩:=xJ (cs:=cs) h ts [] none none (λp a=>a) (by rw[Om];omega);show a8 (gx cs (aK cs) (bI cs) [some (.list (ts.map (jD cs.Jobs))),none,none,none])=_;have b:vO 1 [some (.list (ts.map (jD cs.Jobs))),none,none,none]=.nx [some (.list (ts.map (jD cs.Jobs))),some (cL []),none,none]:=rfl;have c:fW [1] (cz (af 0)) (bB 2) (lrB cs) [some (.list (ts.map (jD cs.Jobs))),some (cL []),none,none]=forL (bB 2) (lrB cs) (ts.map (jD cs.Jobs)) [some (.list (ts.map (jD cs.Jobs))),some (cL []),none,none]:=rfl;show a8 (aF (vO 1) (aF (fW [1] (cz (af 0)) (bB 2) (lrB cs)) (bj (af 1))) [some (.list (ts.map (jD cs.Jobs))),none,none,none])=_;simp only[aL,b,c,e];rfl
def fN (tops:PyData) (t:Int):Int:=match dIx tops (.int t) with
 |some (.int n)=>n
 |_=>0
def hU (tops:PyData) (j:Jb):PyData:=match j.held with
 |none=>.tuple [.int j.rank,.int 1]
 |some t=>.tuple [.int (if fN tops t<j.rank then fN tops t else j.rank),.int 0]
theorem HH (h:p.2.part<p.2.parts.length) (c:∀t,p.2.held=some t->∃n:Int,dIx tops (.int t)=some (.int n)):bP cs [jD cs.Jobs p,tops]=.ok (hU tops p.2):=by
 have b:br cs.Jobs "rank" (jD cs.Jobs p)=some (.int p.2.rank):=oS;unfold hU;cases z:p.2.held with
 |none =>
  show a8 (bT cs (aR cs) [some (jD cs.Jobs p),some tops,none])=_;unfold bT;have hm:=tq (cs:=cs) (p:=p) (x:=some tops) (y:=none) h;rw[z]at hm;have a:aQ [] 2 (bp cs.Jobs "held" (aR cs) (af 0) ah) [some (jD cs.Jobs p),some tops,none]=.nx [some (jD cs.Jobs p),some tops,some .none]:=by rw[ig,hm];rfl
  simp only[aL,a,dZ,fD,iA,ao,ar,Rs.ag,Ex,DT,Rs.ai,bx,av,if_true,bM,mL,aA,aG,b,cB,aT]
 |some t =>
  obtain⟨n,hn⟩:=c t z;have e:fN tops t=n:=by unfold fN;rw[hn]
  show a8 (bT cs (aR cs) [some (jD cs.Jobs p),some tops,none])=_;unfold bT;have hm:=tq (cs:=cs) (p:=p) (x:=some tops) (y:=none) h;rw[z]at hm;have a:aQ [] 2 (bp cs.Jobs "held" (aR cs) (af 0) ah) [some (jD cs.Jobs p),some tops,none]=.nx [some (jD cs.Jobs p),some tops,some (.int t)]:=by rw[ig,hm];rfl
  simp only[aL,a,dZ,fD,iA,bN,ao,ar,Rs.ag,Ex,Cd,Rs.ai,bx,av,NC,if_false,fH,bM,mL,aA,aG,b,hn,gA,yz,cB,aT,e]
def ip (js:List Jb) (j:Jb):Bool:=(pW js j.wanted).isNone
def G0 (l:List (Int×Int)) (j:Jb):PyData:=.int ((lH l j.num).getD j.rank)
def c7 (tops:PyData) (len:Str) (js:List Jb):Jb:=if (len==("high":Str))=true then iT (hU tops) js else iT (G0 (if (len==("asked":Str))=true then sM js else [])) (js.filter (ip js))
theorem vY {tool:Option Int}:eY (jV C ts tool)=(pW (ts.map (·.2)) tool).isNone:=by
 rcases Al (C:=C) (ts:=ts) (tool:=tool) with⟨a,e⟩|⟨q,_,a,e⟩
 ·rw[e,a];rfl
 ·rw[e,a];rfl
theorem pJ (h:ts≠[]):ts.filter (λp=>ip (ts.map (·.2)) p.2)≠[]:=by obtain⟨p,b,e⟩:=ET h (C:=0);refine Pg (a:=p) (NH.mpr ⟨b,?_⟩);unfold ip;rw[<-vY (C:=0),e];rfl
theorem lL {C:Addr} {ts:List (Addr×Jb)} {f:PyData->Bool} {g:Jb->Bool}:∀{us:List (Addr×Jb)},(∀p∈us,f (jD C p)=g p.2)->(us.map (jD C)).filter f=(us.filter λp=>g p.2).map (jD C)
 |[],_=>rfl
 |p::r,h=>by
  have a:=lL (ts:=ts) (us:=r) λx b=>h x (N2 _ b)
  rw[N0,OB,OB,h p N3,a];cases g p.2 <;> rfl
theorem BN {len:Str} (j:ts≠[]) (hl:ts.length<=1000) (h:∀p∈ts,p.2.part<p.2.parts.length) (r:∀p∈ts,∀t,p.2.held=some t->∃n:Int,dIx tops (.int t)=some (.int n)) (m:rq len) :
  ∃q∈ts,q.2=c7 tops len (ts.map (·.2))/\cE cs [.list (ts.map (jD cs.Jobs)),tops,.str len]=.ok (jD cs.Jobs q):=by
 have o:gT (g2 dEq (af 2) (gC (.str "high"))) [some (.list (ts.map (jD cs.Jobs))),some tops,some (.str len),none,none]=.ok (len=="high"):=by simp only[fD,bN,ao,ar,cB,Rs.ag,eq_str m.sh Am,Rs.ai,bx]
 show ∃q∈ts,q.2=_/\a8 (ki cs (cp cs) (aK cs) (bI cs) (bP cs) [some (.list (ts.map (jD cs.Jobs))),some tops,some (.str len),none,none])=.ok _;unfold ki c7;cases z:(len==("high":Str)) with
 |true =>
  obtain⟨q,i,e2,e⟩:=l9 (C:=cs.Jobs) (cap:=[1]) (ga:=af 0) (gb:=aq (bP cs) (ae (af 0) (ae (af 1) ah))) (δ:=[some (.list (ts.map (jD cs.Jobs))),some tops,some (.str len),none,none]) (key:=hU tops) rfl j (λp a=>HH (h p a) (r p a)) (.inr λp a=>by unfold hU;cases p.2.held <;> exact⟨_,_,rfl⟩)
  refine⟨q,i,by rw[if_pos rfl];exact e2,?_⟩;simp only[aL,dZ,o,z,av,if_true,bM,e,aT]
 |false =>
  have hc:bw 5 (cz (af 0)) (gT (g1 nz (aq (bI cs) (ae (af 0) (ae (bp cs.Jobs "wanted" (aK cs) (af 5) ah) ah))))) (af 5) aZ [some (.list (ts.map (jD cs.Jobs))),some tops,some (.str len),none,none]=.ok ((ts.filter λp=>ip (ts.map (·.2)) p.2).map (jD cs.Jobs)):=by
   rw[<-lL (ts:=ts) (f:=FG cs [some (.list (ts.map (jD cs.Jobs))),some tops,some (.str len),none,none]) (λp a=>by have g:=Aw (cs:=cs) (x1:=some tops) (x2:=some (.str len)) (x3:=none) (x4:=none) h a;unfold FG;simp only[NU,NT,g];exact vY)]
   refine vk rfl rfl (by rw[N4];omega) λd hd=>?_
   obtain⟨p,a,rfl⟩:=Nn.mp hd;refine⟨?_,rfl⟩;have g:=Aw (cs:=cs) (x1:=some tops) (x2:=some (.str len)) (x3:=none) (x4:=none) h a;unfold FG;simp only[NU,NT,g];simp only[fD,iA,g,Rs.ag,Ex,Rs.ai,bx]
  have hn:=pJ j;have s:(ts.map (·.2)).filter (ip (ts.map (·.2)))=(ts.filter λp=>ip (ts.map (·.2)) p.2).map (·.2):=by rw[List.filter_map];rfl
  have c:∀p∈ts.filter (λp=>ip (ts.map (·.2)) p.2),p∈ts:=λp a=>(NH.mp a).1
  rw[s];generalize (ts.filter λp=>ip (ts.map (·.2)) p.2)=fr at hc hn c;have b:gIf (gT (g2 dEq (af 2) (gC (.str "asked")))) (aq (cp cs) (ae (af 0) ah)) (gC (cL [])) [some (.list (ts.map (jD cs.Jobs))),some tops,some (.str len),some (.list (fr.map (jD cs.Jobs))),none]=.ok (cL (if (len==("asked":Str))=true then sM (ts.map (·.2)) else [])):=by
   have u:gT (g2 dEq (af 2) (gC (.str "asked"))) [some (.list (ts.map (jD cs.Jobs))),some tops,some (.str len),some (.list (fr.map (jD cs.Jobs))),none]=.ok (len=="asked"):=by simp only[fD,bN,ao,ar,cB,Rs.ag,eq_str m.sh CW,Rs.ai,bx]
   unfold gIf;rw[u];simp only[Rs.ag];cases (len==("asked":Str)) with
   |true=>simp only[if_true,bf,aA,aG,ao,Rs.ag,G6 h hl]
   |false=>simp
  generalize (if (len==("asked":Str))=true then sM (ts.map (·.2)) else [])=l at b;obtain⟨q,i,e2,e⟩:=l9 (C:=cs.Jobs) (cap:=[4]) (ga:=af 3) (gb:=mx (af 1) (g1 (br cs.Jobs "number") (af 0)) (g1 (br cs.Jobs "rank") (af 0))) (δ:=[some (.list (ts.map (jD cs.Jobs))),some tops,some (.str len),some (.list (fr.map (jD cs.Jobs))),some (cL l)]) (key:=G0 l) rfl hn (λp a=>by have f1:br cs.Jobs "number" (jD cs.Jobs p)=some (.int p.2.num):=yy;have f2:br cs.Jobs "rank" (jD cs.Jobs p)=some (.int p.2.rank):=oS;show mx (af 1) (g1 (br cs.Jobs "number") (af 0)) (g1 (br cs.Jobs "rank") (af 0)) [some (jD cs.Jobs p),some (cL l)]=_;unfold mx;simp only[ao,ar,Rs.ag,tH,iA,f1,f2,Rs.ai];rfl) (.inl λp a=>⟨_,rfl⟩)
  refine⟨q,c q i,by rw[if_neg NA];exact e2,?_⟩;have v:aQ [] 3 (gL (bw 5 (cz (af 0)) (gT (g1 nz (aq (bI cs) (ae (af 0) (ae (bp cs.Jobs "wanted" (aK cs) (af 5) ah) ah))))) (af 5) aZ)) [some (.list (ts.map (jD cs.Jobs))),some tops,some (.str len),none,none]=.nx [some (.list (ts.map (jD cs.Jobs))),some tops,some (.str len),some (.list (fr.map (jD cs.Jobs))),none]:=by rw[ig,rD,hc];rfl
  have w:aQ [] 4 (gIf (gT (g2 dEq (af 2) (gC (.str "asked")))) (aq (cp cs) (ae (af 0) ah)) (gC (cL []))) [some (.list (ts.map (jD cs.Jobs))),some tops,some (.str len),some (.list (fr.map (jD cs.Jobs))),none]=.nx [some (.list (ts.map (jD cs.Jobs))),some tops,some (.str len),some (.list (fr.map (jD cs.Jobs))),some (cL l)]:=by rw[ig,b];rfl
  simp only[aL,dZ,o,z,av,NC,if_false,fH,v,w,bM,e,aT]
theorem xH:fq a nd (jD C p)=if p.1=a then nd else jD C p:=by
 have b:=p.2.flat;have c:kf ((PyData.str "",PyData.int (C:Int))::(PyData.str "@",PyData.int (p.1:Int))::p.2.fds.map λx=>(PyData.str x.1,x.2))=some (p.1:Int):=by unfold kf;unfold f7 at b;simp[b]
 unfold jD Jb.d ck fq;rw[c];by_cases z:p.1=a
 ·rw[if_pos z,if_pos (by rw[z])]
 ·have f:¬ (some (p.1:Int)=some (a:Int)):=λe=>z (Int.ofNat.inj (Option.some.inj e))
  rw[if_neg z,if_neg f]
theorem A8 {C a:Addr} {j:Jb}:∀ts:List (Addr×Jb),jE a (jD C (a,j)) (ts.map (jD C))=(ts.map λp=>if p.1=a then (a,j) else p).map (jD C)
 |[]=>rfl
 |p::r=>by
  rw[N0,N0,N0];unfold jE;rw[A8 r,xH];by_cases z:p.1=a
  ·rw[if_pos z,if_pos z]
  ·rw[if_neg z,if_neg z]
theorem B8:fq a (jD C (a,j)) (.list (ts.map (jD C)))=.list ((ts.map λp=>if p.1=a then (a,j) else p).map (jD C)):=by unfold fq;rw[A8]
mutual
theorem mR {a:Addr} {nd:PyData}:∀d:PyData,aI d=true->fq a nd d=d
 |.none,_=>by unfold fq;rfl
 |.bool _,_=>by unfold fq;rfl
 |.int _,_=>by unfold fq;rfl
 |.str _,_=>by unfold fq;rfl
 |.list ds,h=>by unfold fq;rw[vh ds (by simpa[aI] using h)]
 |.tuple ds,h=>by unfold fq;rw[vh ds (by simpa[aI] using h)]
 |.dict _,h=>by simp[aI]at h
theorem vh {a:Addr} {nd:PyData}:∀ds:List PyData,dB ds=true->jE a nd ds=ds
 |[],_=>by unfold jE;rfl
 |d::r,h=>by unfold dB at h;rw[N6]at h;unfold jE;rw[mR d h.1,vh r h.2]
end
theorem pQ {C:Addr} {elt:Ds->Rs PyData} {δ:Ds} {k:Jb->PyData}:∀(ts:List (Addr×Jb)),(∀p∈ts,elt (δ++[some (jD C p)])=.ok (k p.2))->eF bH elt aZ δ (ts.map (jD C))=.ok ((ts.map (·.2)).map k)
 |[],_=>rfl
 |p::r,h=>by
  have a:=pQ r λe b=>h e (N2 _ b)
  rw[N0];unfold eF;simp only[aZ,bH,Rs.cW,Rs.ag,if_true,h p N3];rw[a];rfl
def Jb.done (j:Jb):Bool:=(j.job:Int)==(j.row.length:Int)
def rnD (C:Addr) (E R W tops:PyData) (len:Str) (qs:List (Addr×Jb)) (told:List PyData) (x7 x8:Option PyData):Ds:=[some E,some R,some W,some (.str len),some tops,some (.list (qs.map (jD C))),some (.list told),x7,x8]
section
variable {E R W:PyData} {len:Str} {qs:List (Addr×Jb)} {told:List PyData} {x7 x8:Option PyData}
theorem cond_of (hl:qs.length<=1000):gD (gT (gF oN (ae (gL (bw 9 (cz (af 5)) bH (bp cs.Jobs "are_done" (aU cs) (af 9) ah) aZ)) ah))) (rnD cs.Jobs E R W tops len qs told x7 x8)=.ok (!((qs.map (·.2)).all Jb.done)):=by
 have hc:bw 9 (cz (af 5)) bH (bp cs.Jobs "are_done" (aU cs) (af 9) ah) aZ (rnD cs.Jobs E R W tops len qs told x7 x8)=.ok ((qs.map (·.2)).map λj=>.bool j.done):=by
  unfold bw;rw[if_pos (show (rnD cs.Jobs E R W tops len qs told x7 x8).length=9 from rfl)];rw[show cz (af 5) (rnD cs.Jobs E R W tops len qs told x7 x8)=.ok (qs.map (jD cs.Jobs)) from rfl];simp only[Rs.ag];rw[if_pos (by rw[N4];omega)];refine pQ qs λp hp=>?_
  show bp cs.Jobs "are_done" (aU cs) (af 9) ah [some E,some R,some W,some (.str len),some tops,some (.list (qs.map (jD cs.Jobs))),some (.list told),x7,x8,some (jD cs.Jobs p)]=_;unfold bp;simp only[ao,ar,Rs.ag];rw[if_pos (show isC cs.Jobs "are_done" (jD cs.Jobs p)=true from vq)];simp only[aG,Rs.ag];exact wI
 have a:=iV Jb.done (qs.map (·.2));simp only[vp,fD,gA,aA,aG,rD,hc,Rs.ag,a,Rs.ai,bx]
def cA (told:List PyData) (p:Addr×Jb):Bool:=p.2.there (told.length:Int)
theorem n6 (h:∀p∈qs,p.2.job<=p.2.row.length) {x6:Option PyData}:∀(us:List (Addr×Jb)),(∀p∈us,p∈qs) ->
  fG (gT (bp cs.Jobs "is_there" (aO cs) (af 9) (ae (gF bY (ae (af 6) ah)) ah))) (af 9) aZ [some E,some R,some W,some (.str len),some tops,some (.list (qs.map (jD cs.Jobs))),x6,x7,x8] (rnD cs.Jobs E R W tops len qs told x7 x8) (us.map (jD cs.Jobs))=.ok ((us.filter (cA told)).map (jD cs.Jobs))
 |[],_=>rfl
 |p::r,hu=>by
  have a:=n6 h (x6:=x6) r λq b=>hu q (N2 _ b)
  have hc:gT (bp cs.Jobs "is_there" (aO cs) (af 9) (ae (gF bY (ae (af 6) ah)) ah)) (rnD cs.Jobs E R W tops len qs told x7 x8++[some (jD cs.Jobs p)])=.ok (cA told p):=by show gT (bp cs.Jobs "is_there" (aO cs) (af 9) (ae (gF bY (ae (af 6) ah)) ah)) [some E,some R,some W,some (.str len),some tops,some (.list (qs.map (jD cs.Jobs))),some (.list told),x7,x8,some (jD cs.Jobs p)]=_;rw[fD];unfold bp;simp only[ao,ar,Rs.ag];rw[if_pos (show isC cs.Jobs "is_there" (jD cs.Jobs p)=true from uL)];simp only[aA,aG,gA,ao,ar,lh,Rs.ai,Rs.ag];rw[show aO cs [jD cs.Jobs p,.int (told.length:Int)]=_ from wX (h p (hu p N3))];rfl
  rw[N0];unfold fG;rw[show aZ (jD cs.Jobs p)=some [some (jD cs.Jobs p)] from rfl];simp only[hc,Rs.cW,Rs.ag];rw[OB];cases cA told p with
  |true =>simp only[if_true];rw[show af 9 ([some E,some R,some W,some (.str len),some tops,some (.list (qs.map (jD cs.Jobs))),x6,x7,x8]++[some (jD cs.Jobs p)])=.ok (jD cs.Jobs p) from rfl];simp only[Rs.cW,Rs.ag,a];rfl
  |false=>simp only[NC,if_false,a]
end
mutual
theorem kB:∀d:PyData,aI d=true->objs d=true
 |.none,_=>by unfold objs;rfl
 |.bool _,_=>by unfold objs;rfl
 |.int _,_=>by unfold objs;rfl
 |.str _,_=>by unfold objs;rfl
 |.list ds,h=>by unfold objs;exact pM ds (by simpa[aI] using h)
 |.tuple ds,h=>by unfold objs;exact pM ds (by simpa[aI] using h)
 |.dict _,h=>by simp[aI]at h
theorem pM:∀ds:List PyData,dB ds=true->jJ ds=true
 |[],_=>by unfold jJ;rfl
 |d::r,h=>by unfold dB at h;rw[N6]at h;unfold jJ;rw[kB d h.1,pM r h.2];rfl
end
theorem AG:objs (jD C p)=true:=by unfold jD Jb.d;rw[wx];exact p.2.flat
theorem tE {C:Addr}:∀ts:List (Addr×Jb),jJ (ts.map (jD C))=true
 |[]=>by unfold jJ;rfl
 |p::r=>by rw[N0];unfold jJ;rw[AG,tE r];rfl
theorem zD:objs (.list (ts.map (jD C)))=true:=by unfold objs;exact tE ts
section
variable {E R W:PyData} {len:Str} {qs:List (Addr×Jb)} {told:List PyData}
structure NoD (E R W tops:PyData) (told:List PyData):Prop where
 e:aI E=true
 r:aI R=true
 w:aI W=true
 t:aI tops=true
 o:aI (.list told)=true
theorem B3 (n:NoD E R W tops told) (ha:q.1∈as):n8 as cs.Jobs 8 (rnD cs.Jobs E R W tops len qs told (some (.list (ts.map (jD cs.Jobs)))) (some (jD cs.Jobs q)))=some (q.1,q.2.fds):=by
 have h1:gr (rnD cs.Jobs E R W tops len qs told (some (.list (ts.map (jD cs.Jobs)))) (some (jD cs.Jobs q)))=true:=by
  unfold gr rnD;have b:objs (.str len)=true:=by unfold objs;rfl
  simp only[OL,List.all_nil,OM,kB _ n.e,kB _ n.r,kB _ n.w,kB _ n.t,kB _ n.o,b,zD,AG,Pj]
 show (match objOf (jD cs.Jobs q) with|some (c,a,fds)=>if c=cs.Jobs/\a∈as/\gr (rnD cs.Jobs E R W tops len qs told (some (.list (ts.map (jD cs.Jobs)))) (some (jD cs.Jobs q)))=true/\f7 fds=true/\fds.length<1000 then some (a,fds) else none|none=>none)=_;rw[show objOf (jD cs.Jobs q)=some (cs.Jobs,q.1,q.2.fds) from tK _ _ _];exact if_pos ⟨rfl,ha,h1,q.2.flat,show 7<1000 by decide⟩
end
def u0 (a:Addr) (j:Jb) (qs:List (Addr×Jb)):List (Addr×Jb):=qs.map λp=>if p.1=a then (a,j) else p
section
variable {E R W:PyData} {len:Str} {qs:List (Addr×Jb)} {told:List PyData}
theorem Kp (n:NoD E R W tops told):kW q.1 (jD cs.Jobs (q.1,j)) (rnD cs.Jobs E R W tops len qs told (some (.list (ts.map (jD cs.Jobs)))) (some (jD cs.Jobs q)))=rnD cs.Jobs E R W tops len (u0 q.1 j qs) told (some (.list ((u0 q.1 j ts).map (jD cs.Jobs)))) (some (jD cs.Jobs (q.1,j))):=by
 have a:fq q.1 (jD cs.Jobs (q.1,j)) (.str len)=.str len:=by unfold fq;rfl
 have b:fq q.1 (jD cs.Jobs (q.1,j)) (jD cs.Jobs q)=jD cs.Jobs (q.1,j):=by rw[xH,if_pos rfl]
 unfold kW rnD u0;simp only[N0,Oi,Of,mR _ n.e,mR _ n.r,mR _ n.w,mR _ n.t,mR _ n.o,a,B8,b]
theorem Gw (n:NoD E R W tops told) (ha:q.1∈as) (a:q.2.part<q.2.parts.length):k6 as cs.Jobs "go_on" 8 fQ (rnD cs.Jobs E R W tops len qs told (some (.list (ts.map (jD cs.Jobs)))) (some (jD cs.Jobs q)))=.nx (rnD cs.Jobs E R W tops len (u0 q.1 q.2.next qs) told (some (.list ((u0 q.1 q.2.next ts).map (jD cs.Jobs)))) (some (jD cs.Jobs (q.1,q.2.next)))):=by unfold k6;rw[B3 n ha];have b:nZ "go_on" q.2.fds=none:=rfl;simp only[b,if_true,Ip a];exact congrArg Sr.nx (Kp (cs:=cs) (len:=len) (qs:=qs) (ts:=ts) (q:=q) (j:=q.2.next) n)
end
section
variable {E R W:PyData} {len:Str} {qs:List (Addr×Jb)} {told:List PyData} {x7 x8:Option PyData}
theorem Ed (hl:qs.length<=1000) (h:∀p∈qs,p.2.job<=p.2.row.length):ph [6] 7 9 (cz (af 5)) (gT (bp cs.Jobs "is_there" (aO cs) (af 9) (ae (gF bY (ae (af 6) ah)) ah))) (af 9) aZ (rnD cs.Jobs E R W tops len qs told x7 x8)=.nx (rnD cs.Jobs E R W tops len qs told (some (.list ((qs.filter (cA told)).map (jD cs.Jobs)))) x8):=by
 have hm:mask [6] (rnD cs.Jobs E R W tops len qs told x7 x8)=[some E,some R,some W,some (.str len),some tops,some (.list (qs.map (jD cs.Jobs))),none,x7,x8]:=rfl;have hc:m8 9 (cz (af 5)) (gT (bp cs.Jobs "is_there" (aO cs) (af 9) (ae (gF bY (ae (af 6) ah)) ah))) (af 9) aZ (mask [6] (rnD cs.Jobs E R W tops len qs told x7 x8)) (rnD cs.Jobs E R W tops len qs told x7 x8)=.ok ((qs.filter (cA told)).map (jD cs.Jobs)):=by rw[hm];unfold m8;rw[if_pos (show [some E,some R,some W,some (.str len),some tops,some (.list (qs.map (jD cs.Jobs))),none,x7,x8].length=9 from rfl)];rw[show cz (af 5) [some E,some R,some W,some (.str len),some tops,some (.list (qs.map (jD cs.Jobs))),none,x7,x8]=.ok (qs.map (jD cs.Jobs)) from rfl];simp only[Rs.ag];rw[if_pos (by rw[N4];omega)];exact n6 h qs λp a=>a
 unfold ph;rw[if_pos (show 7<(rnD cs.Jobs E R W tops len qs told x7 x8).length from (by decide:7<9)),hc];rfl
end
def b9 (told:List PyData) (js:List Jb):List Jb:=js.filter λj=>j.there (told.length:Int)
def dW (b:Jb) (js:List Jb):List Jb:=js.map λj=>if j.num=b.num then b.next else j
def gP (b:Jb):PyData:=.tuple [.int b.num,.int (b.job:Int)]
def cU (tops:PyData) (len:Str) (s:List Jb×List PyData):List Jb×List PyData :=
 if b9 s.2 s.1=[] then (s.1,s.2++[.none]) else (dW (c7 tops len (b9 s.2 s.1)) s.1,s.2++[gP (c7 tops len (b9 s.2 s.1))])
structure QOk (as:List Addr) (qs:List (Addr×Jb)):Prop where
 few:qs.length<=1000
 pl:qs.map (·.1)=as
 nda:as.Nodup
 ndn:(qs.map (·.2.num)).Nodup
 pt:∀p∈qs,p.2.part<p.2.parts.length
 jb:∀p∈qs,p.2.job<=p.2.row.length
theorem mT {α β:Type} {f:α->β}:∀{l:List α},(l.map f).Nodup->∀x∈l,∀y∈l,f x=f y->x=y
 |[],_,x,b,_,_,_=>by cases b
 |a::r,h,x,b,y,c,e=>by
  rw[N0,NP]at h;rcases N5.mp b with rfl|b
  ·rcases N5.mp c with rfl|c
   ·rfl
   ·exact (h.1 (Nn.mpr ⟨y,by assumption,e.symm⟩)).elim
  ·rcases N5.mp c with rfl|c
   ·exact (h.1 (Nn.mpr ⟨x,by assumption,e⟩)).elim
   ·exact mT h.2 x b y c e
def rnB (cs:Cs) (as:List Addr):Ds->Sr:=(aF (ph [6] 7 9 (cz (af 5)) (gT (bp cs.Jobs "is_there" (aO cs) (af 9) (ae (gF bY (ae (af 6) ah)) ah))) (af 9) aZ)
 (sIf (gT (g2 dEq (gF bY (ae (af 7) ah)) (gC (.int 0)))) (hV [6] 6 (gC .none)) (aF (aQ [6] 8 (aq (cE cs) (ae (af 7) (ae (af 4) (ae (af 3) ah)))))
 (aF (hV [6] 6 (hZ (ae (g1 (br cs.Jobs "number") (af 8)) (ae (g1 (br cs.Jobs "job") (af 8)) ah))))
 (k6 as cs.Jobs "go_on" 8 fQ)))))
section
variable {E R W:PyData} {len:Str} {qs:List (Addr×Jb)} {told:List PyData}
theorem wK:(qs.filter (cA told)).map (·.2)=b9 told (qs.map (·.2)):=by unfold b9;rw[List.filter_map];rfl
theorem GZ (K:QOk as qs) (a:q∈qs) (c:j=q.2.next):(u0 q.1 j qs).map (·.2)=dW q.2 (qs.map (·.2)):=by
 unfold u0 dW;rw[Nz,Nz];refine Nv λp b=>?_
 show (if p.1=q.1 then (q.1,j) else p).2=if p.2.num=q.2.num then q.2.next else p.2
 by_cases z:p.1=q.1
 ·have:p=q:=mT (f:=(·.1)) (by rw[K.pl];exact K.nda) p b q a z;rw[if_pos z,if_pos (by rw[this]),c]
 ·have:p.2.num≠q.2.num:=λe=>z (by rw[mT (f:=λx:Addr×Jb=>x.2.num) K.ndn p b q a e])
  rw[if_neg z,if_neg this]
theorem Gq:(u0 a j qs).map (·.1)=qs.map (·.1):=by
 unfold u0;rw[Nz];refine Nv λp hp=>?_
 show (if p.1=a then (a,j) else p).1=p.1;by_cases z:p.1=a
 ·rw[if_pos z,z]
 ·rw[if_neg z]
theorem Hm (K:QOk as qs) (n:NoD E R W tops told) (m:rq len) (s:∀p∈qs,∀t,p.2.held=some t->∃n:Int,dIx tops (.int t)=some (.int n)) (hl:told.length<1000000) (x7 x8:Option PyData) :
  ∃b u v,rnB cs as (rnD cs.Jobs E R W tops len qs told x7 x8)=.nx (rnD cs.Jobs E R W tops len b (cU tops len (qs.map (·.2),told)).2 u v)/\b.map (·.1)=qs.map (·.1)/\b.map (·.2)=(cU tops len (qs.map (·.2),told)).1:=by
 have f:=Ed (cs:=cs) (E:=E) (R:=R) (W:=W) (tops:=tops) (len:=len) (told:=told) (x7:=x7) (x8:=x8) K.few K.jb;have hc:gT (g2 dEq (gF bY (ae (af 7) ah)) (gC (.int 0))) (rnD cs.Jobs E R W tops len qs told (some (.list ((qs.filter (cA told)).map (jD cs.Jobs)))) x8)=.ok (((qs.filter (cA told)).length:Int)==0):=by unfold rnD;simp only[fD,bN,gA,aA,aG,ao,ar,cB,Rs.ag,lh,N4,Rs.ai,jC,bx]
 unfold rnB cU;simp only[aL,f];have c:=wK (qs:=qs) (told:=told);by_cases z:qs.filter (cA told)=[]
 ·have h:(((qs.filter (cA told)).length:Int)==0)=true:=by rw[z];rfl
  have i:b9 told (qs.map (·.2))=[]:=by rw[<-c,z];rfl
  rw[if_pos i,dZ,hc];simp only[h,av,if_true];refine⟨qs,some (.list ((qs.filter (cA told)).map (jD cs.Jobs))),x8,?_,rfl,rfl⟩;show (if told.length<1000000 then Sr.nx _ else Sr.no)=_;rw[if_pos hl];rfl
 ·have h:(((qs.filter (cA told)).length:Int)==0)=false:=by rw[beq_eq_false_iff_ne];have:=Oh.mpr z;omega
  have i:¬ b9 told (qs.map (·.2))=[]:=λe=>z (by rw[<-c]at e;exact List.map_eq_nil_iff.mp e)
  have a:∀p∈qs.filter (cA told),p∈qs:=λp g=>(NH.mp g).1
  obtain⟨q,j,e2,e⟩:=BN (cs:=cs) (tops:=tops) z (O4 (List.length_filter_le _ _) K.few) (λp g=>K.pt p (a p g)) (λp g=>s p (a p g)) m;rw[c]at e2;rw[if_neg i,dZ,hc];simp only[h,av,NC,if_false];have x:aQ [6] 8 (aq (cE cs) (ae (af 7) (ae (af 4) (ae (af 3) ah)))) (rnD cs.Jobs E R W tops len qs told (some (.list ((qs.filter (cA told)).map (jD cs.Jobs)))) x8)=.nx (rnD cs.Jobs E R W tops len qs told (some (.list ((qs.filter (cA told)).map (jD cs.Jobs)))) (some (jD cs.Jobs q))):=by have l:aq (cE cs) (ae (af 7) (ae (af 4) (ae (af 3) ah))) (mask [6] (rnD cs.Jobs E R W tops len qs told (some (.list ((qs.filter (cA told)).map (jD cs.Jobs)))) x8))=.ok (jD cs.Jobs q):=e;unfold aQ;rw[if_pos (show 8<(rnD cs.Jobs E R W tops len qs told (some (.list ((qs.filter (cA told)).map (jD cs.Jobs)))) x8).length from (by decide:8<9)),l];rfl
  have f1:br cs.Jobs "number" (jD cs.Jobs q)=some (.int q.2.num):=yy;have f2:br cs.Jobs "job" (jD cs.Jobs q)=some (.int (q.2.job:Int)):=u6;have y:hV [6] 6 (hZ (ae (g1 (br cs.Jobs "number") (af 8)) (ae (g1 (br cs.Jobs "job") (af 8)) ah))) (rnD cs.Jobs E R W tops len qs told (some (.list ((qs.filter (cA told)).map (jD cs.Jobs)))) (some (jD cs.Jobs q)))=.nx (rnD cs.Jobs E R W tops len qs (told++[gP q.2]) (some (.list ((qs.filter (cA told)).map (jD cs.Jobs)))) (some (jD cs.Jobs q))):=by
   have l:hZ (ae (g1 (br cs.Jobs "number") (af 8)) (ae (g1 (br cs.Jobs "job") (af 8)) ah)) (mask [6] (rnD cs.Jobs E R W tops len qs told (some (.list ((qs.filter (cA told)).map (jD cs.Jobs)))) (some (jD cs.Jobs q))))=.ok (gP q.2):=by show hZ _ [some E,some R,some W,some (.str len),some tops,some (.list (qs.map (jD cs.Jobs))),none,some (.list ((qs.filter (cA told)).map (jD cs.Jobs))),some (jD cs.Jobs q)]=_;simp only[mL,aA,aG,iA,ao,ar,Rs.ag,f1,f2,Rs.ai];rfl
   show ofR (hZ _ (mask [6] _)) (λd=>if told.length<1000000 then Sr.nx _ else Sr.no)=_;rw[l];show (if told.length<1000000 then Sr.nx _ else Sr.no)=_;rw[if_pos hl];rfl
  have n':NoD E R W tops (told++[gP q.2]):=⟨n.e,n.r,n.w,n.t,by
   have h1:=n.o;refine fE λd hd=>?_
   rcases NI.mp hd with hd|hd
   ·exact jm (by simpa[aI] using h1) d hd
   ·rw[N9.mp hd];rfl⟩
  have ha:q.1∈as:=by rw[<-K.pl];exact Nn.mpr ⟨q,a q j,rfl⟩
  have A:=Gw (cs:=cs) (len:=len) (qs:=qs) (ts:=qs.filter (cA told)) n' ha (K.pt q (a q j));simp only[aL,x,y,A];rw[<-e2];exact⟨_,_,_,rfl,Gq,GZ K (a q j) rfl⟩
end
structure JOk (tops:PyData) (j:Jb):Prop where
 pt:j.part<j.parts.length
 jb:j.job<=j.row.length
 ln:∀p∈j.parts,1<=p.1
 sp:(j.spent:Int)<j.len
 tl:∀p∈j.parts,∀t,p.2=some t->∃n:Int,dIx tops (.int t)=some (.int n)
theorem JOk.held (h:JOk tops j):∀t,j.held=some t->∃n:Int,dIx tops (.int t)=some (.int n):=by
 intro t e;have hpt:=h.pt;have a:j.parts[j.part]?=some j.parts[j.part]:=My h.pt;unfold Jb.held Jb.tool at e;rw[a]at e;by_cases z:j.spent=0
 ·rw[if_pos z]at e;cases e
 ·rw[if_neg z]at e;exact h.tl _ (NL h.pt) t e
theorem len_pos {tops:PyData} (h:∀p∈j.parts,1<=p.1) (a:j.part<j.parts.length):1<=j.len:=by unfold Jb.len;rw[My a];exact h _ (NL a)
theorem FU (h:JOk tops j) (c:j.job<j.row.length):JOk tops j.next:=by
 have a:0<j.parts.length:=Nat.lt_of_le_of_lt (NY _) h.pt;have hsp:=h.sp;unfold Jb.next Jb.step1;by_cases z:(j.spent:Int)+1=j.len
 ·rw[if_pos z];unfold Jb.step2;by_cases y:j.part+1=j.parts.length
  ·rw[if_pos (show ({ j with spent:=0,part:=j.part+1 }:Jb).part=({ j with spent:=0,part:=j.part+1 }:Jb).parts.length from y)];refine⟨a,c,h.ln,?_,h.tl⟩;have:=len_pos (tops:=tops) (j:={ j with spent:=0,part:=0,job:=j.job+1 }) h.ln a;show (0:Int)<_;exact Ph (by decide) this
  ·rw[if_neg (show ¬ ({ j with spent:=0,part:=j.part+1 }:Jb).part=({ j with spent:=0,part:=j.part+1 }:Jb).parts.length from y)];have b:j.part+1<j.parts.length:=by have:=h.pt;omega
   refine⟨b,h.jb,h.ln,?_,h.tl⟩;have:=len_pos (tops:=tops) (j:={ j with spent:=0,part:=j.part+1 }) h.ln b;show (0:Int)<_;exact Ph (by decide) this
 ·rw[if_neg z];unfold Jb.step2;rw[if_neg (show ¬ ({ j with spent:=j.spent+1 }:Jb).part=({ j with spent:=j.spent+1 }:Jb).parts.length from Nq h.pt)];refine⟨h.pt,h.jb,h.ln,?_,h.tl⟩;show ((j.spent+1:Nat):Int)<j.len;omega
theorem ng (h:js≠[]):iT key js∈js:=by
 have hl:0<js.length:=Oh.mpr h;have hb:=uV (λi j=>ltD ((js.map key).getD i .none) ((js.map key).getD j .none)) (js.length-1);have a:jI (js.map key)<js.length:=by unfold jI;rw[N4];omega
 unfold iT;rw[Nw,My a];exact NL a
theorem gM {len:Str} (h:js≠[]):c7 tops len js∈js:=by
 unfold c7;split
 ·exact ng h
 ·have hn:=pJ (ts:=js.map λj=>((0:Addr),j)) (by simpa using h);have hm:(js.map λj=>((0:Addr),j)).map (·.2)=js:=by rw[Nz];exact O2 js
  rw[hm]at hn;have a:js.filter (ip js)≠[]:=by
   obtain⟨p,r,e⟩:=ON hn;have b:p∈(js.map λj=>((0:Addr),j)).filter (λp=>ip js p.2):=by rw[e];exact N3
   obtain⟨h1,h2⟩:=NH.mp b;obtain⟨j,c,rfl⟩:=Nn.mp h1;exact Pg (NH.mpr ⟨c,h2⟩)
  exact (NH.mp (ng a)).1
theorem qA {t:Int} (h:j.there t=true):j.job<j.row.length:=by
 unfold Jb.there at h;by_cases z:j.job<j.row.length
 ·exact z
 ·rw[Ox (by omega)]at h;cases h
theorem xD (j:Jb):j.next.num=j.num:=by unfold Jb.next Jb.step1 Jb.step2;split <;> split <;> rfl
structure yg (tops:PyData) (js:List Jb):Prop where
 ok:∀j∈js,JOk tops j
 nd:(js.map (·.num)).Nodup
theorem Ca {b:Jb}:(dW b js).map (·.num)=js.map (·.num):=by
 unfold dW;rw[Nz];refine Nv λj hj=>?_
 show (if j.num=b.num then b.next else j).num=j.num;by_cases z:j.num=b.num
 ·rw[if_pos z,xD,z]
 ·rw[if_neg z]
theorem vf {len:Str} {told:List PyData} (h:yg tops js):yg tops (cU tops len (js,told)).1:=by
 unfold cU;by_cases z:b9 told js=[]
 ·rw[if_pos z];exact h
 ·rw[if_neg z];have a:=gM (tops:=tops) (len:=len) z;obtain⟨hm,b⟩:=NH.mp a;refine⟨λj c=>?_,by rw[Ca];exact h.nd⟩;obtain⟨k,e,rfl⟩:=Nn.mp c;by_cases y:k.num=(c7 tops len (b9 told js)).num
  ·simp only[y,if_true];exact FU (h.ok _ hm) (qA b)
  ·simp only[if_neg y];exact h.ok k e
def uN (tops:PyData) (len:Str):Nat->List Jb×List PyData->Option (List PyData)
 |0,_=>none
 |n+1,s=>if s.1.all Jb.done=true then some s.2 else uN tops len n (cU tops len s)
def rnC (cs:Cs):Ds->Rs Bool:=gD (gT (gF oN (ae (gL (bw 9 (cz (af 5)) bH (bp cs.Jobs "are_done" (aU cs) (af 9) ah) aZ)) ah)))
theorem wo {len:Str}:(cU tops len s).2.length=s.2.length+1:=by unfold cU;split <;> simp
theorem xU {len:Str} (h:aI (.list s.2)=true):aI (.list (cU tops len s).2)=true:=by
 have h1:∀d∈s.2,aI d=true:=jm (by simpa[aI] using h);refine fE λd hd=>?_
 unfold cU at hd;split at hd
 ·rcases NI.mp hd with hd|hd
  ·exact h1 d hd
  ·rw[N9.mp hd];rfl
 ·rcases NI.mp hd with hd|hd
  ·exact h1 d hd
  ·rw[N9.mp hd];rfl
section
variable {E R W:PyData} {len:Str}
theorem KP {qs:List (Addr×Jb)} (hl:qs.length<=1000) (a:qs.map (·.1)=as) (nd:as.Nodup) (h:yg tops (qs.map (·.2))):QOk as qs:=by
 have hm:∀p∈qs,JOk tops p.2:=λp a=>h.ok _ (Nn.mpr ⟨p,a,rfl⟩)
 refine⟨hl,a,nd,?_,λp a=>(hm p a).pt,λp a=>(hm p a).jb⟩;have:=h.nd;rw[Nz]at this;exact this
theorem xF (i:rq len) (nd:as.Nodup):∀(n:Nat) (qs:List (Addr×Jb)) (told t:List PyData) (x7 x8:Option PyData),qs.length<=1000->qs.map (·.1)=as->yg tops (qs.map (·.2))->NoD E R W tops told->told.length+n<=1000000->uN tops len n (qs.map (·.2),told)=some t ->
  ∃a c f,bL (rnC cs) (rnB cs as) n (rnD cs.Jobs E R W tops len qs told x7 x8)=.nx (rnD cs.Jobs E R W tops len a t c f)
 |0,_,_,_,_,_,_,_,_,_,_,h=>by cases h
 |n+1,qs,told,t,x7,x8,hl,b,hj,no,hn,h=>by
  have K:=KP hl b nd hj;have hc:rnC cs (rnD cs.Jobs E R W tops len qs told x7 x8)=.ok (!((qs.map (·.2)).all Jb.done)):=cond_of hl;unfold uN at h;unfold bL;rw[hc];simp only[av];cases z:(qs.map (·.2)).all Jb.done with
  |true =>rw[if_pos z]at h;cases h;simp only[Bool.not_true,NC,if_false];exact⟨qs,x7,x8,rfl⟩
  |false =>
   rw[if_neg (by rw[z];exact NA)]at h;simp only[Bool.not_false,if_true];obtain⟨a,c,f,e,f1,f2⟩:=Hm (cs:=cs) K no i (λp b=>(hj.ok _ (Nn.mpr ⟨p,b,rfl⟩)).held) (by omega) x7 x8;rw[e];have g:a.length<=1000:=by have:=congrArg List.length f1;rw[N4,N4]at this;omega
   refine xF i nd n a _ t c f g (by rw[f1];exact b) (by rw[f2];exact vf hj) ⟨no.e,no.r,no.w,no.t,xU (s:=(qs.map (·.2),told)) no.o⟩ (by rw[wo];show told.length+1+n<=_;omega) ?_;rw[f2];exact h
end
def cV (ps:List (Int×Option Int)):Int:=(ps.map (·.1)).sum
theorem fA (p:Int×Option Int) (r:List (Int×Option Int)):cV (p::r)=p.1+cV r:=by unfold cV;rw[N0,NO]
def Jb.work (j:Jb):Int:=cV j.parts
def Jb.cur (j:Jb):Int:=cV (j.parts.take j.part)+j.spent
def Jb.tot (j:Jb):Int:=j.job*j.work+j.cur
theorem iN:∀{ps:List (Int×Option Int)} {k:Nat} (h:k<ps.length),cV (ps.take (k+1))=cV (ps.take k)+ps[k].1
 |[],k,h=>by cases h
 |p::r,0,_=>by rw[OS,List.take_zero,fA];show p.1+cV []=cV []+p.1;omega
 |p::r,k+1,h=>by
  have a:k<r.length:=by simpa using h
  have b:=iN (ps:=r) (k:=k) a;rw[OS,OS,fA,fA,b];show p.1+(cV (r.take k)+r[k].1)=p.1+cV (r.take k)+r[k].1;omega
theorem qg (h:JOk tops j):j.next.tot=j.tot+1:=by
 have hpt:=h.pt;have hlen:j.len=j.parts[j.part].1:=by unfold Jb.len;rw[My h.pt];rfl
 have ht:=iN h.pt;unfold Jb.next Jb.step1;by_cases z:(j.spent:Int)+1=j.len
 ·rw[if_pos z];unfold Jb.step2;by_cases y:j.part+1=j.parts.length
  ·rw[if_pos (show ({ j with spent:=0,part:=j.part+1 }:Jb).part=({ j with spent:=0,part:=j.part+1 }:Jb).parts.length from y)];have hw:cV (j.parts.take (j.part+1))=cV j.parts:=by rw[y,List.take_length]
   show ((j.job+1:Nat):Int)*cV j.parts+(cV (j.parts.take 0)+((0:Nat):Int))=(j.job:Int)*cV j.parts+(cV (j.parts.take j.part)+(j.spent:Int))+1;have a:cV (j.parts.take 0)=0:=rfl;have e1:((j.job+1:Nat):Int)*cV j.parts=(j.job:Int)*cV j.parts+cV j.parts:=by rw[Int.natCast_add,OP];simp
   rw[a,e1];omega
  ·rw[if_neg (show ¬ ({ j with spent:=0,part:=j.part+1 }:Jb).part=({ j with spent:=0,part:=j.part+1 }:Jb).parts.length from y)];show (j.job:Int)*cV j.parts+(cV (j.parts.take (j.part+1))+((0:Nat):Int))=(j.job:Int)*cV j.parts+(cV (j.parts.take j.part)+(j.spent:Int))+1;omega
 ·rw[if_neg z];unfold Jb.step2;rw[if_neg (show ¬ ({ j with spent:=j.spent+1 }:Jb).part=({ j with spent:=j.spent+1 }:Jb).parts.length from Nq h.pt)];show (j.job:Int)*cV j.parts+(cV (j.parts.take j.part)+((j.spent+1:Nat):Int))=(j.job:Int)*cV j.parts+(cV (j.parts.take j.part)+(j.spent:Int))+1;omega
theorem oa:∀(a b:List (Int×Option Int)),cV (a++b)=cV a+cV b
 |[],b=>by show cV b=0+cV b;omega
 |p::r,b=>by rw[NU,fA,fA,oa r b];omega
theorem lF:∀{ps:List (Int×Option Int)},(∀p∈ps,1<=p.1)->0<=cV ps
 |[],_=>Ob 0
 |p::r,h=>by
  have:=h p N3;have ih:=lF (ps:=r) λq a=>h q (N2 _ a)
  rw[fA];omega
theorem lO {ps:List (Int×Option Int)} (h:∀p∈ps,1<=p.1) (k:Nat):cV (ps.take k)<=cV ps:=by
 have e:=oa (ps.take k) (ps.drop k);rw[Pb]at e;have:=lF (ps:=ps.drop k) λq a=>h q (OA a)
 omega
theorem lG (h:JOk tops j):0<=j.cur/\j.cur<j.work:=by
 have hpt:=h.pt;have hlen:j.len=j.parts[j.part].1:=by unfold Jb.len;rw[My h.pt];rfl
 have ht:=iN h.pt;have h1:=lO h.ln (j.part+1);have h2:=lF (ps:=j.parts.take j.part) λq a=>h.ln q (Oc a)
 have h3:=h.sp;unfold Jb.cur Jb.work;omega
theorem yW (h:JOk tops j) {k:Nat} (hj:j.job<k):j.tot<(k:Int)*j.work:=by obtain⟨c0,c1⟩:=lG h;have:=NK (a:=(j.job:Int)+1) (b:=(k:Int)) (c:=j.work) (by omega) (by omega);rw[OP,Int.one_mul]at this;unfold Jb.tot;omega
theorem i6 (j:Jb):j.next.row=j.row:=by unfold Jb.next Jb.step1 Jb.step2;split <;> split <;> rfl
theorem ji (j:Jb):j.next.parts=j.parts:=by unfold Jb.next Jb.step1 Jb.step2;split <;> split <;> rfl
def Jb.left (j:Jb):Nat:=((j.row.length:Int)*j.work-j.tot).toNat
theorem sN (j:Jb):j.next.work=j.work:=by unfold Jb.work;rw[ji]
theorem Be (h:JOk tops j) (a:j.job<j.row.length):j.next.left+1=j.left:=by have h1:=qg h;have h2:=yW h a;unfold Jb.left;rw[i6,sN,h1];omega
theorem zM {b:Jb}:∀{r:List Jb},(∀k∈r,k.num≠b.num)->dW b r=r
 |[],_=>rfl
 |k::t,h=>by show (if k.num=b.num then b.next else k)::dW b t=_;rw[if_neg (h k N3),zM λx a=>h x (N2 _ a)]
theorem mX {b:Jb} {r:List Jb} (nd:((j::r).map (·.num)).Nodup) (a:b∈j::r):(j=b/\dW b (j::r)=b.next::r)\/(j.num≠b.num/\b∈r/\dW b (j::r)=j::dW b r):=by
 rw[N0,NP]at nd;have e:dW b (j::r)=(if j.num=b.num then b.next else j)::dW b r:=rfl;by_cases z:j.num=b.num
 ·left;have c:j=b:=by
   rcases N5.mp a with h|h
   ·exact h.symm
   ·exact (nd.1 (Nn.mpr ⟨b,h,z.symm⟩)).elim
  refine⟨c,?_⟩;rw[e,if_pos z,zM λk f q=>nd.1 (Nn.mpr ⟨k,f,q.trans z.symm⟩)]
 ·right;refine⟨z,?_,by rw[e,if_neg z]⟩;rcases N5.mp a with h|h
  ·exact (z (by rw[h])).elim
  ·exact h
theorem wM {f:Jb->Nat} {b:Jb}:∀{js:List Jb},(js.map (·.num)).Nodup->b∈js->f b.next+1=f b->((dW b js).map f).sum+1=(js.map f).sum
 |[],_,a,_=>by cases a
 |j::r,nd,a,hf=>by
  rcases mX nd a with⟨g,e⟩|⟨_,c,e⟩
  ·rw[e,N0,N0,NO,NO,g];omega
  ·rw[N0,NP]at nd;have:=wM nd.2 c hf;rw[e,N0,N0,NO,NO];omega
def zW (js:List Jb):Nat:=(js.map Jb.left).sum
theorem lQ {b k:Jb} (hb:b∈js) (a:k∈dW b js):k∈js\/k=b.next:=by
 obtain⟨j,c,rfl⟩:=Nn.mp a;by_cases z:j.num=b.num
 ·right;exact if_pos z
 ·left;rw[if_neg z];exact c
theorem kD {len:Str} {told:List PyData} (z:b9 told js=[]):cU tops len (js,told)=(js,told++[.none]):=by unfold cU;exact if_pos z
theorem mP {len:Str} {told:List PyData} (z:b9 told js≠[]):∃b,b∈js/\b.there (told.length:Int)=true/\cU tops len (js,told)=(dW b js,told++[gP b]):=by obtain⟨hm,a⟩:=NH.mp (gM (tops:=tops) (len:=len) z);refine⟨_,hm,a,?_⟩;unfold cU;exact if_neg z
theorem Ho (h:JOk tops j) (hd:j.done=false):j.job<j.row.length:=by have:=h.jb;unfold Jb.done at hd;rw[beq_eq_false_iff_ne]at hd;omega
theorem qR {tops:PyData} {len:Str} {B:Nat}:∀(n:Nat) (js:List Jb) (told:List PyData),yg tops js->(∀j∈js,∀c∈j.row,c<(B:Int))->zW js+(B-told.length)<n->∃t,uN tops len n (js,told)=some t
 |0,_,_,_,_,hn=>by omega
 |n+1,js,told,h,hr,hn=>by
  unfold uN;by_cases z:js.all Jb.done=true
  ·exact⟨told,if_pos z⟩
  ·rw[if_neg (show ¬ ((js,told).1.all Jb.done=true) from z)];by_cases y:b9 told js=[]
   ·rw[kD y];refine qR n js _ h hr ?_;rw[Nr]at z;obtain⟨j,o⟩:=Classical.not_forall.mp z;obtain⟨hm,hd⟩:=Classical.not_imp.mp o;have a:=Ho (h.ok j hm) (Bool.eq_false_iff.mpr hd);have hc:=hr j hm _ (NL a);have g:¬ j.there (told.length:Int)=true:=λe=>by have:j∈b9 told js:=NH.mpr ⟨hm,e⟩;rw[y]at this;cases this
    unfold Jb.there at g;rw[My a]at g;simp only[decide_eq_true_eq]at g;rw[Nl,NS];omega
   ·obtain⟨b,l,g,e⟩:=mP (tops:=tops) (len:=len) y;have i:=vf (len:=len) (told:=told) h;rw[e]at i ⊢;have hs:=wM (f:=Jb.left) h.nd l (Be (h.ok _ l) (qA g));refine qR (B:=B) n _ _ i (λk m=>?_) ?_
    ·rcases lQ l m with m|rfl
     ·exact hr k m
     ·rw[i6];exact hr b l
    ·rw[Nl,NS];unfold zW at hn ⊢;omega
def ej (r:List Int) (t:Int):Nat:=(r.filter λc=>decide (c<=t)).length
theorem dG (a:Int) (s:List Int) (t:Int):ej (a::s) t=(if a<=t then 1 else 0)+ej s t:=by
 unfold ej;rw[OB];by_cases z:a<=t
 ·rw[if_pos (decide_eq_true z),if_pos z,Nu];omega
 ·rw[if_neg (by simpa using z),if_neg z];omega
theorem wU (r:List Int) (t:Int):ej r t<=r.length:=List.length_filter_le _ _
theorem uc {t u:Int} (h:t<=u):∀r:List Int,ej r t<=ej r u
 |[]=>N7 _
 |a::s=>by
  have ih:=uc h s;rw[dG,dG];by_cases z:a<=t
  ·rw[if_pos z,if_pos (by omega)];omega
  ·rw[if_neg z];omega
theorem i7 {t:Int}:∀{r:List Int},(∀c∈r,t<c)->ej r t=0
 |[],_=>rfl
 |a::s,h=>by have:=h a N3;rw[dG,if_neg (by omega),i7 λc hc=>h c (N2 _ hc)]
theorem oX {t:Int}:∀{r:List Int} {k:Nat} (b:k<r.length),r.Pairwise (· < ·)->t<r[k]->ej r t<=k
 |[],_,b,_,_=>by cases b
 |a::s,0,_,hp,h=>by rw[OG]at hp;have h:t<a:=h;have:=hp.1;rw[dG,if_neg (by omega),i7 λc hc=>Int.lt_trans h (this c hc)];exact N7 _
 |a::s,k+1,b,hp,h=>by
  rw[OG]at hp;have e:k<s.length:=by simpa using b
  have ih:=oX e hp.2 (show t<s[k] from h);rw[dG];split <;> omega
theorem oY {t:Int}:∀{r:List Int} {k:Nat} (c:k<r.length),r.Pairwise (· < ·)->r[k]<=t->k<ej r t
 |[],_,c,_,_=>by cases c
 |a::s,0,_,hp,h=>by have h:a<=t:=h;rw[dG,if_pos h];omega
 |a::s,k+1,c,hp,h=>by
  rw[OG]at hp;have b:k<s.length:=by simpa using c
  have h:s[k]<=t:=h;have ih:=oY b hp.2 h;have:=hp.1 _ (NL b);rw[dG,if_pos (by omega)];omega
def fh (t:Int) (j:Jb):Int:=(ej j.row t:Int)*j.work-j.tot
structure IvJ (tops:PyData) (t:Int) (js:List Jb):Prop where
 ok:yg tops js
 srt:∀j∈js,j.row.Pairwise (· < ·)
 low:∀j∈js,0<=fh t j
theorem qk {t:Int} (h:JOk tops j) (c:j.row.Pairwise (· < ·)) (b:j.there t=true):0<fh t j:=by have a:=qA b;unfold Jb.there at b;rw[My a]at b;have:=yW h (oY a c (of_decide_eq_true b));unfold fh;omega
theorem xp {t:Int} (h:JOk tops j) (f:j.row.Pairwise (· < ·)) (hl:0<=fh t j) (e:j.there t=false):fh t j=0:=by
 have hc:ej j.row t<=j.job:=by
  by_cases z:j.job<j.row.length
  ·unfold Jb.there at e;rw[My z]at e;have:=of_decide_eq_false e;exact oX z f (by omega)
  ·have:=wU j.row t;omega
 obtain⟨c0,c1⟩:=lG h;have:=NK (a:=(ej j.row t:Int)) (b:=(j.job:Int)) (c:=j.work) (by omega) (by omega);unfold fh Jb.tot at hl ⊢;omega
theorem lK {α:Type} (f:α->Int):∀{l:List α},(∀x∈l,f x=0)->(l.map f).sum=0
 |[],_=>rfl
 |a::r,h=>by rw[N0,NO,h a N3,lK f λx b=>h x (N2 _ b)];rfl
theorem nk {t u:Int} (e:t<=u) (h:JOk tops j):fh t j<=fh u j:=by have h1:=uc e j.row;have h2:=lG h;have:=NK (a:=(ej j.row t:Int)) (b:=(ej j.row u:Int)) (c:=j.work) (by omega) (by omega);unfold fh;omega
theorem F8 {len:Str} {told:List PyData} (h:IvJ tops (told.length:Int) js):IvJ tops ((cU tops len (js,told)).2.length:Int) (cU tops len (js,told)).1:=by
 have c:=vf (len:=len) (told:=told) h.ok;by_cases z:b9 told js=[]
 ·rw[kD z]at c ⊢;refine⟨c,h.srt,λj a=>?_⟩;have:=h.low j a;have:=nk (u:=(((told++[PyData.none]).length:Nat):Int)) (t:=(told.length:Int)) (by rw[Nl];omega) (h.ok.ok j a);show 0<=fh (((told++[PyData.none]).length:Nat):Int) j;omega
 ·obtain⟨b,f,g,e⟩:=mP (tops:=tops) (len:=len) z;rw[e]at c ⊢;refine⟨c,λj a=>?_,λj a=>?_⟩
  ·rcases lQ f a with a|rfl
   ·exact h.srt j a
   ·rw[i6];exact h.srt b f
  ·show 0<=fh (((told++[gP b]).length:Nat):Int) j;rcases lQ f a with a|rfl
   ·have:=h.low j a;have:=nk (u:=(((told++[gP b]).length:Nat):Int)) (t:=(told.length:Int)) (by rw[Nl];omega) (h.ok.ok j a);omega
   ·have h2:=qk (h.ok.ok b f) (h.srt b f) g;have i:=nk (u:=(((told++[gP b]).length:Nat):Int)) (t:=(told.length:Int)) (by rw[Nl];omega) (h.ok.ok b f);have l:=qg (h.ok.ok b f);unfold fh at h2 i ⊢;rw[i6,sN,l];omega
theorem Gr (h:JOk tops j):j.tot / j.work=(j.job:Int):=by obtain⟨c0,c1⟩:=lG h;unfold Jb.tot;rw[Int.add_comm,Int.add_mul_ediv_right _ _ (by omega),P5 c0 c1];omega
def fM (j:Jb):Int×List (Int×Option Int)×List Int:=(j.num,j.parts,j.row)
theorem uh {b:Jb}:∀{js:List Jb},(js.map (·.num)).Nodup->b∈js->(dW b js).map fM=js.map fM
 |[],_,a=>by cases a
 |j::r,nd,a=>by
  rcases mX nd a with⟨f,e⟩|⟨_,c,e⟩
  ·rw[e,N0,N0,f];unfold fM;rw[xD,ji,i6]
  ·rw[N0,NP]at nd;rw[e,N0,N0,uh nd.2 c]
theorem fm {g:Ds->Rs PyData} {d:PyData} (hi:i<δ.length) (a:g (mask O δ)=.ok d):aQ O i g δ=.nx (δ.set i (some d)):=by unfold aQ;rw[if_pos hi,a];rfl
def mkJ (es:List Er) (rs:List Int) (k:Nat) (row:List Int):Jb:=⟨(k:Int),(aW es (k:Int)).parts,(placeOf rs (k:Int):Int),row,0,0,0⟩
def startJ (es:List Er) (rs:List Int) (rows:List (List Int)):List Jb:=rows.mapIdx (mkJ es rs)
section
theorem ku (i:Nat):(startJ es rs rows)[i]?=(rows[i]?).map (mkJ es rs i):=Oo
theorem dH (h:j∈startJ es rs rows):∃(k:Nat) (row:List Int),k<rows.length/\row∈rows/\rows[k]?=some row/\j=mkJ es rs k row:=by obtain⟨k,b⟩:=List.mem_iff_getElem?.mp h;rw[ku]at b;obtain⟨row,a,e⟩:=O6.mp b;exact⟨k,row,(ND.mp a).1,NV a,a,e.symm⟩
theorem gG:(startJ es rs rows).length=rows.length:=List.length_mapIdx
theorem zJ:(startJ es rs rows).map (·.num)=(List.range rows.length).map λ(k:Nat)=>(k:Int) :=
 Pr (by simp[startJ]) (λi h1 h2=>by simp[startJ,mkJ])
theorem GF (n:Nat):((List.range n).map λ(k:Nat)=>(k:Int)).Nodup:=List.Pairwise.map _ (λa b h e=>h (by omega)) List.nodup_range
theorem nr (k:Nat) (row:List Int):(mkJ es rs k row).tot=0:=by show ((0:Nat):Int)*_+(cV (List.take 0 _)+((0:Nat):Int))=0;rw[List.take_zero];have:cV []=0:=rfl;rw[this];simp
end
theorem vB:∀{ps:List (Int×Option Int)},(∀p∈ps,p.1<=20)->cV ps<=20*(ps.length:Int)
 |[],_=>Ob 0
 |p::r,h=>by
  have:=h p N3;have ih:=vB (ps:=r) λq a=>h q (N2 _ a)
  rw[fA,Nu];omega
theorem Au {α:Type} (f:α->Nat) {c:Nat}:∀{l:List α},(∀x∈l,f x<=c)->(l.map f).sum<=l.length*c
 |[],_=>NY _
 |a::r,h=>by
  have h1:=h a N3;have ih:=Au f (l:=r) λx b=>h x (N2 _ b)
  rw[N0,NO,Nu,Nat.add_mul];omega
theorem kZ {t:Int} (t0:0<=t) (t3:t<=3) (h:bo es rs t=some n):dIx (aH es rs) (.int t)=some (.int n):=by
 obtain⟨m,rfl⟩:∃m:Nat,t=(m:Int):=⟨t.toNat,by omega⟩
 show atI ((List.range 4).map λ(t:Nat)=>bO (bo es rs t)) (m:Int)=_;refine oQ ?_;rw[Nx,OR (by omega),Of,h];rfl
theorem rE (es:List Er) (rs:List Int):aI (aH es rs)=true:=fE λd hd=>by obtain⟨t,_,rfl⟩:=Nn.mp hd;exact tR _
structure Ran (es:List Er) (rs:List Int) (rows:List (List Int)) (len:Str):Prop where
 eok:yG es
 rok:cn es.length rs
 ln:rows.length=es.length
 le:rq len
def kF (es:List Er) (rs:List Int) (rows:List (List Int)) (len:Str):Option (List PyData):=uN (aH es rs) len 1000000 (startJ es rs rows,[])
section
variable {len:Str} {t:List PyData}
theorem mz (h:yG es) (f:cn es.length rs) (hl:rows.length=es.length):yg (aH es rs) (startJ es rs rows):=by
 refine⟨λj g=>?_,by rw[zJ];exact GF _⟩;obtain⟨k,row,hk,_,_,rfl⟩:=dH g;have c:(0:Int)<=(k:Int):=by omega
 have h1:(k:Int)<es.length:=by omega
 have ok:=h.ok _ (cy c h1);have a:0<(aW es (k:Int)).parts.length:=Oh.mpr ok.p1;refine⟨a,NY _,λp b=>(ok.pl p b).1,?_,λp b u e=>?_⟩
 ·have:=len_pos (tops:=.none) (j:=mkJ es rs k row) (λp b=>(ok.pl p b).1) a;show (0:Int)<_;exact Ph (by decide) this
 ·obtain⟨i,l⟩:=(ok.pl p b).2.2 u e;have m:(aW es (k:Int)).has u=true:=by unfold Er.has;rw[Ow];exact⟨p,b,by rw[e];exact beq_self_eq_true _⟩
  obtain⟨n,hn⟩:=pK es u rs 0 (k:Int) (f.mem c h1) m;exact⟨n,kZ i l hn⟩
theorem C5 (R:Ran es rs rows len) (C:Cms es rows):∃t,kF es rs rows len=some t:=by
 have a:=C.n5;refine qR (B:=10000) 1000000 _ [] (mz R.eok R.rok R.ln) (λj b c hc=>?_) ?_
 ·obtain⟨k,row,_,hm,_,rfl⟩:=dH b;have:=(a row hm).hi c hc;omega
 ·have f:zW (startJ es rs rows)<=(startJ es rs rows).length*4800:=Au Jb.left λj b=>by
   obtain⟨k,row,hk,hm,_,rfl⟩:=dH b;have ok:=R.eok.ok _ (cy (n:=(k:Int)) (by omega) (by have:=R.ln;omega));have h1:=vB λp e=>(ok.pl p e).2.1
   have h2:=ok.p2;have h3:=(a row hm).few;have g:=lF λp e=>(ok.pl p e).1
   unfold Jb.left;rw[nr];have h5:((mkJ es rs k row).row.length:Int)*(mkJ es rs k row).work<=60*80:=Int.mul_le_mul (by show (row.length:Int)<=60;omega) (by show cV (aW es (k:Int)).parts<=80;omega) g (by decide);omega
  rw[gG]at f;have h6:=R.eok.l6;have h7:=R.ln;show zW (startJ es rs rows)+(10000-0)<1000000;have h8:rows.length*4800<=6*4800:=Nat.mul_le_mul_right _ (by omega);omega
end
def fsJ (j:Jb):List PyData:=[.int j.num,.tuple (j.parts.map aS),.int j.rank,cC j.row]
theorem yn (h:∀j∈js,j.job=0/\j.part=0/\j.spent=0):kI C JN JT as (js.map fsJ)=(as.zip js).map (jD C):=by
 unfold kI;rw[List.zip_map_right,Nz];refine Nv λp c=>?_
 obtain⟨h1,h2,e⟩:=h p.2 (OT (a:=p.1) (b:=p.2) c).2;show ck C p.1 (JN.zip (fsJ p.2)++tlD JT)=ck C p.1 p.2.fds;unfold Jb.fds;rw[h1,h2,e];rfl
section
variable {len:Str} {t:List PyData}
theorem FX (R:Ran es rs rows len) (c:kF es rs rows len=some t) (hl:as.length=rows.length) (nd:as.Nodup) :
  jt cs aP (aU cs) (cE cs) (aO cs) fQ as [some (ay es),some (au rs),some (cmD rows),some (.str len),some (aH es rs),some (.list ((as.zip (startJ es rs rows)).map (jD cs.Jobs))),none,none,none]=.rt (.list t):=by
 have b:(as.zip (startJ es rs rows)).map (·.1)=as:=List.map_fst_zip (by rw[gG,hl];exact N7 _);have a:(as.zip (startJ es rs rows)).map (·.2)=startJ es rs rows:=List.map_snd_zip (by rw[gG,hl];exact N7 _);obtain⟨qs',y7,y8,e⟩:=xF (cs:=cs) (E:=ay es) (R:=au rs) (W:=cmD rows) (tops:=aH es rs) (len:=len) (as:=as) R.le nd 1000000 (as.zip (startJ es rs rows)) [] t none none
  (by rw[List.length_zip,gG];have:=R.eok.l6;have:=R.ln;omega) b (by rw[a];exact mz R.eok R.rok R.ln) ⟨su es,qi rs,qL rows,rE es rs,fE λd hd=>by cases hd⟩ (by rw[Om];omega) (by rw[a];exact c)
 have f:iL [6] 6 ah [some (ay es),some (au rs),some (cmD rows),some (.str len),some (aH es rs),some (.list ((as.zip (startJ es rs rows)).map (jD cs.Jobs))),none,none,none]=.nx (rnD cs.Jobs (ay es) (au rs) (cmD rows) (aH es rs) len (as.zip (startJ es rs rows)) [] none none):=rfl;show aF (iL [6] 6 ah) (aF (λδ=>bL (rnC cs) (rnB cs as) 1000000 δ) (bj (af 6))) _=_;rw[aL,f];show (match bL (rnC cs) (rnB cs as) 1000000 (rnD cs.Jobs (ay es) (au rs) (cmD rows) (aH es rs) len (as.zip (startJ es rs rows)) [] none none) with
  |.nx δ'=>bj (af 6) δ'
  |r=>r)=_
 rw[e];rfl
end
def DN:PyData->List Int
 |.list xs=>(eS xs).getD []
 |_=>[]
def Ft:PyData->List (List Int)
 |.list l=>l.map DN
 |_=>[]
theorem Fv (rows:List (List Int)):Ft (cmD rows)=rows:=by
 show (rows.map cC).map DN=rows;rw[Nz];have:∀r∈rows,(DN∘cC) r=id r:=λr _=>by show (eS (r.map PyData.int)).getD []=r;rw[ee];rfl
 rw[Nv this,O2]
def lenOf:PyData->Str
 |.str s=>s
 |_=>""
def EB (d r c l:PyData):PyData:=match kF (cO d) (cf r) (Ft c) (lenOf l) with
 |some t=>.list t
 |none=>.none
theorem u9 {len:Str} {t:List PyData} (a:kF es rs rows len=some t):EB (ay es) (au rs) (cmD rows) (.str len)=.list t:=by unfold EB;rw[eZ,eM,Fv,show lenOf (.str len)=len from rfl,a]
def atD (δ:Ds) (i:Nat):PyData:=((δ[i]?).getD none).getD .none
open Classical in
def lp:Ds->Sr:=λδ=>if ∃es rs rows len t,Ran es rs rows len/\kF es rs rows len=some t/\δ=[some (ay es),some (au rs),some (cmD rows),some (.str len),some (aH es rs),none,none,none,none] then .rt (EB (atD δ 0) (atD δ 1) (atD δ 2) (atD δ 3)) else .no
theorem Im {len:Str} {t:List PyData} (R:Ran es rs rows len) (a:kF es rs rows len=some t):lp [some (ay es),some (au rs),some (cmD rows),some (.str len),some (aH es rs),none,none,none,none]=.rt (.list t):=by unfold lp;rw[if_pos ⟨es,rs,rows,len,t,R,a,rfl⟩];exact congrArg Sr.rt (u9 a)
theorem G5 (cs:Cs):∀δ,lp δ≠.no->∃d ds a,lp δ=.rt d/\5<δ.length/\δ.length=9/\(fw (ae (af 2) ah)) (mask [6] δ)=.ok ds/\ds.length<=1000000/\a.length=ds.length/\(∀(i:Nat) d,ds[i]?=some d->∃f fs,eO d=some f/\a[i]?=some fs/\(ae (af 9) (ae (g2 dIx (g2 dIx (af 0) (af 9)) (gC (.int 3))) (ae (rm (af 1) (af 9)) (ae (af 10) ah)))) (mask [6] δ++f)=.ok fs/\fs.length=JN.length) /\
   ∀as:List Addr,as.length=ds.length->as.Nodup->jt cs aP (aU cs) (cE cs) (aO cs) fQ as (δ.set 5 (some (.list (kI cs.Jobs JN JT as a))))=.rt d:=by
 intro δ b;by_cases hx:∃es rs rows len t,Ran es rs rows len/\kF es rs rows len=some t/\δ=[some (ay es),some (au rs),some (cmD rows),some (.str len),some (aH es rs),none,none,none,none]
 ·obtain⟨es,rs,rows,len,t,R,g,rfl⟩:=hx;have hln:=R.ln;refine⟨.list t,fO (rows.map cC),(startJ es rs rows).map fsJ,Im R g,(by decide:5<9),rfl,rfl,?_,?_,?_,?_⟩
  ·rw[iK,N4];have:=R.eok.l6;omega
  ·rw[iK,N4,N4,gG]
  ·intro i d hd;unfold fO at hd;rw[Oo,Nx]at hd;cases q:rows[i]? with
   |none=>rw[q]at hd;cases hd
   |some row =>
    rw[q]at hd;have e:some (PyData.tuple [.int (i:Int),cC row])=some d:=hd;cases e;have hi:=(ND.mp q).1;have h:(0:Int)<=(i:Int):=by omega
    have h1:(i:Int)<es.length:=by omega
    refine⟨[some (.int (i:Int)),some (cC row)],fsJ (mkJ es rs i row),rfl,?_,?_,rfl⟩
    ·rw[Nx,ku,q];rfl
    ·have a1:dIx (ay es) (.int (i:Int))=some (aW es (i:Int)).d:=jf h h1;have a2:=F4 (aW es (i:Int));have l:=kl (R.rok.mem h h1);show (ae (af 9) (ae (g2 dIx (g2 dIx (af 0) (af 9)) (gC (.int 3))) (ae (rm (af 1) (af 9)) (ae (af 10) ah)))) [some (ay es),some (au rs),some (cmD rows),some (.str len),some (aH es rs),none,none,none,none,some (.int (i:Int)),some (cC row)]=_;simp only[aA,aG,bN,ao,ar,cB,zy,Rs.ag,a1,a2,Rs.ai,au,l];rfl
  ·intro as c nd;rw[iK,N4]at c;rw[yn λj m=>by obtain⟨k,row,_,_,_,rfl⟩:=dH m;exact⟨rfl,rfl,rfl⟩];exact FX R g c nd
 ·unfold lp at b;rw[if_neg hx]at b;exact absurd rfl b
open Classical in
def eu (cs:Cs):Gf:=λds=>if ∃es rs rows len t,Ran es rs rows len/\kF es rs rows len=some t/\ds=[ay es,au rs,cmD rows,.str len] then .ok (EB (ds.getD 0 .none) (ds.getD 1 .none) (ds.getD 2 .none) (ds.getD 3 .none)) else .no
theorem l8 {len:Str} {t:List PyData} (R:Ran es rs rows len) (a:kF es rs rows len=some t):eu cs [ay es,au rs,cmD rows,.str len]=.ok (.list t):=by unfold eu;rw[if_pos ⟨es,rs,rows,len,t,R,a,rfl⟩];exact congrArg Rs.ok (u9 a)
theorem FA (cs:Cs):∀ds,ds.length=4->eu cs ds≠.no->a8 (aF (aQ [6] 4 (aq aP (ae (af 0) (ae (af 1) ah)))) lp (ds.map some++List.replicate 5 none))=eu cs ds:=by
 intro ds hl a;by_cases hx:∃es rs rows len t,Ran es rs rows len/\kF es rs rows len=some t/\ds=[ay es,au rs,cmD rows,.str len]
 ·obtain⟨es,rs,rows,len,t,R,b,rfl⟩:=hx;rw[l8 R b];have c:=fB (es:=es) (rs:=rs) (by have:=R.eok.l6;omega) (λe f=>(R.eok.ok e f).sh) R.rok;have g:aQ [6] 4 (aq aP (ae (af 0) (ae (af 1) ah))) [some (ay es),some (au rs),some (cmD rows),some (.str len),none,none,none,none,none]=.nx [some (ay es),some (au rs),some (cmD rows),some (.str len),some (aH es rs),none,none,none,none]:=by have h:aq aP (ae (af 0) (ae (af 1) ah)) (mask [6] [some (ay es),some (au rs),some (cmD rows),some (.str len),none,none,none,none,none])=.ok (aH es rs):=c;exact fm (by decide:4<9) h
  show a8 (aF (aQ [6] 4 (aq aP (ae (af 0) (ae (af 1) ah)))) lp [some (ay es),some (au rs),some (cmD rows),some (.str len),none,none,none,none,none])=_;rw[aL,g];simp only;rw[Im R b];rfl
 ·exfalso;apply a;unfold eu;rw[if_neg hx]
open Classical in
def g6 (cs:Cs):Gf:=λds=>if ∃es rs rows len t,Ran es rs rows len/\Cms es rows/\kF es rs rows len=some t/\ds=[ay es,au rs,cmD rows,.str len] then .ok (EB (ds.getD 0 .none) (ds.getD 1 .none) (ds.getD 2 .none) (ds.getD 3 .none)) else .no
theorem tj {len:Str} {t:List PyData} (R:Ran es rs rows len) (C:Cms es rows) (a:kF es rs rows len=some t):g6 cs [ay es,au rs,cmD rows,.str len]=.ok (.list t):=by unfold g6;rw[if_pos ⟨es,rs,rows,len,t,R,C,a,rfl⟩];exact congrArg Rs.ok (u9 a)
theorem LP (cs:Cs):LLq (AD cs (bh cs) (eu cs) (aV cs) (bg cs)) 4 0 (g6 cs):=by
 intro ds hl a;by_cases hx:∃es rs rows len t,Ran es rs rows len/\Cms es rows/\kF es rs rows len=some t/\ds=[ay es,au rs,cmD rows,.str len]
 ·obtain⟨es,rs,rows,len,t,R,C,b,rfl⟩:=hx;rw[tj R C b];have k1:=iB cs R.eok.l1 R.eok.l6 R.eok.ok;have k2:=gp cs R.eok.l6 R.rok;have k3:=ft (cs:=cs) R.eok C;have c:=l8 (cs:=cs) R b;show a8 (AD cs (bh cs) (eu cs) (aV cs) (bg cs) [some (ay es),some (au rs),some (cmD rows),some (.str len)])=_;unfold AD;simp only[aL,uS,bf,aA,aG,ao,ar,Rs.ag,k1,k2,k3,c,av,bM,aT]
 ·exfalso;apply a;unfold g6;rw[if_neg hx]
end RS
variable {js:List RS.Jb}
namespace L2
open PySem PySem.Spec PyProof.Rows
end L2
namespace RS
open PySem L2
variable {j:Jb} {h a:Int} {tgt:PyData->Ds->Option Ds} {B:Nat} {g:Ds->Rs PyData}
theorem we:∀a b:List Int,PyData.eqvAll (a.map PyData.int) (b.map PyData.int)=decide (a=b)
 |[],[]=>by simp[PyData.eqvAll]
 |[],_::_=>by simp[PyData.eqvAll]
 |_::_,[]=>by simp[PyData.eqvAll]
 |x::a,y::b=>by
  have h:(x==y)=decide (x=y):=by by_cases z:x=y <;> simp[z]
  simp[PyData.eqvAll,PyData.eqv,we a b,h]
theorem HY (a b:List Int):dNe (.list (a.map PyData.int)) (.list (b.map PyData.int))=some (.bool (!decide (a=b))):=by unfold dNe;rw[fE (k9 a),fE (k9 b),shaped_ints,shaped_ints];simp[PyData.eqv,we]
def hvS (every late m:Int) (row:List Int):Int:=row.foldl (λm c=>(if c-late>m then c-late else m)+every) m
theorem Aj (every late:Int):∀(row:List Int) (m c:Int),hvM every late m row=true->¬ c<(if c-late>hvS every late m row then c-late else hvS every late m row)->hvM every late m (row++[c])=true
 |[],m,c,_,h=>by show (if c<(if c-late>m then c-late else m) then false else true)=true;exact if_neg h
 |a::r,m,c,h1,h=>by
  rw[NU];unfold hvM at h1 ⊢;by_cases z:a<(if a-late>m then a-late else m)
  ·rw[if_pos z]at h1;cases h1
  ·rw[if_neg z]at h1 ⊢;exact Aj every late r _ c h1 h
structure CrI (every late span:Int) (made:List Int) (moment:Int):Prop where
 lo:-late<=moment
 hv:hvM every late (0-late) made=true
 ea:hvS every late (0-late) made<=moment
 la:∀c,made.getLast?=some c->c+1<=moment+late
 c0:∀c∈made,0<=c
 c1:∀c∈made,c<span
theorem HP {every late moment c:Int} {made:List Int} (h:CrI every late span made moment) (hs:moment+late<span) (e:0<=c) (h1:moment<=c) (h2:c<=moment+late) (he:1<=every) (hl:0<=late) (hx:moment+every<=a):CrI every late span (made++[c]) a:=by
 have b:=h.ea;have hlo:=h.lo;refine⟨by omega,Aj every late made _ c h.hv (by split <;> omega),?_,λd hd=>?_,λd hd=>?_,λd hd=>?_⟩
 ·unfold hvS at b ⊢;rw[List.foldl_append];show (if c-late>List.foldl _ _ made then c-late else List.foldl _ _ made)+every<=a;split <;> omega
 ·rw[List.getLast?_concat]at hd;cases hd;omega
 ·rcases NI.mp hd with hd|hd
  ·exact h.c0 d hd
  ·rw[N9.mp hd];exact e
 ·rcases NI.mp hd with hd|hd
  ·exact h.c1 d hd
  ·rw[N9.mp hd];omega
theorem CV {every late:Int} {moment:Int} (h:-late<=moment):CrI every late span [] moment:=⟨h,rfl,by show 0-late<=moment;omega,λc hc=>(by cases hc),λc hc=>(by cases hc),λc hc=>(by cases hc)⟩
theorem sS {every late:Int} (hl:late<every) (f:0<=late):∀(row:List Int) (m:Int),hvM every late m row=true->(∀c∈row,m<=c)/\row.Pairwise (· < ·)
 |[],_,_=>⟨λc hc=>(by cases hc),List.Pairwise.nil⟩
 |a::r,m,h=>by
  unfold hvM at h;by_cases z:a<(if a-late>m then a-late else m)
  ·rw[if_pos z]at h;cases h
  ·rw[if_neg z]at h;obtain⟨h1,h2⟩:=sS hl f r _ h;have hm:m<=a:=by split at z <;> omega
   have b:∀c∈r,a<c:=λc hc=>by have:=h1 c hc;split at this <;> omega
   refine⟨λc hc=>?_,OG.mpr ⟨b,h2⟩⟩;rcases N5.mp hc with e|hc
   ·rw[e];exact hm
   ·have:=b c hc;omega
theorem FP {d:PyData} (hi:i<δ.length) (a:g δ=.ok d) (hn:fz d=true):qT i g δ=.nx (δ.set i (some d)):=by unfold qT;rw[if_pos hi,a,av,if_pos hn]
theorem Mu (k:Int):eJ (.int 104729) (.int k)=some (.int (104729*k)):=qm (by decide) (by decide)
theorem Ly (k:Int):eJ (.int 7919) (.int k)=some (.int (7919*k)):=qm (by decide) (by decide)
theorem LX (a:Int):eJ (.int a) (.int 48271)=some (.int (a*48271)):=Es (by decide) (by decide)
theorem L8 (a:Int):eI (.int a) (.int 2147483647)=some (.int (a % 2147483647)):=by rw[tI,if_pos (by decide)]
theorem MA {k:Int} (h0:0<=k) (h1:k<=60):eJ (.int a) (.int k)=some (.int (a*k)):=Es (by omega) (by omega)
theorem DV {seed k:Int} (a:af 4 δ=.ok (.int seed)) (b:af 7 δ=.ok (.int k)) (c:0<=k) (h1:k<=60) :
  ∃e:Int,g2 eI (g2 eJ (g2 aX (g2 aX (af 4) (g2 eJ (g2 eJ (gC (.int 104729)) (af 7)) (af 7))) (g2 eJ (gC (.int 7919)) (af 7))) (gC (.int 48271))) (gC (.int 2147483647)) δ=.ok (.int e):=by
 generalize hA:(seed+104729*k*k+7919*k)*48271 % 2147483647=A;refine⟨A,?_⟩;rw[bN,bN,bN,bN,bN,bN,bN];rw[a,b];simp only[cB,Rs.ag,Mu,MA c h1,Ly,LX,L8,d6,Rs.ai,hA]
def crC:Ds->Rs Bool:=(rL (gT (g2 dLt (g2 aX (af 5) (g2 dIx (af 2) (gC (.int 2)))) (af 3))) (gT (g2 dLt (gF bY (ae (af 6) ah)) (gC (.int 60)))))
def crB:Ds->Sr:=(aF (aQ [6] 8 (g2 eI (g2 eJ (g2 aX (g2 aX (af 4) (g2 eJ (g2 eJ (gC (.int 104729)) (af 7)) (af 7))) (g2 eJ (gC (.int 7919)) (af 7))) (gC (.int 48271))) (gC (.int 2147483647))))
 (aF (aQ [6] 9 (gF iG (ae (gC (.int 0)) (ae (g2 aX (af 5) (g2 eI (g2 iR (af 8) (gC (.int 7))) (g2 aX (g2 dIx (af 2) (gC (.int 2))) (gC (.int 1))))) ah))))
 (aF (sIf (gT (g2 dNe (af 6) (jN ah))) (qT 9 (gF iG (ae (af 9) (ae (g2 aX (g2 dIx (af 6) (g1 mO (gC (.int 1)))) (gC (.int 1))) ah)))) ba)
 (aF (hV [6] 6 (af 9))
 (aF (aQ [6] 5 (g2 aX (af 5) (g2 dIx (af 2) (gC (.int 0)))))
 (aF (sIf (gT (g2 dEq (g2 eI (g2 iR (af 8) (gC (.int 61))) (gC (.int 3))) (gC (.int 0)))) (aQ [6] 5 (g2 aX (af 5) (g2 eI (g2 iR (af 8) (gC (.int 997))) (g2 dIx (af 2) (gC (.int 0)))))) ba)
 (aQ [6] 7 (g2 aX (af 7) (gC (.int 1))))))))))
section
variable {S A:PyData} {seed moment:Int} {made:List Int}
def crD (e:Er) (S A:PyData) (span seed moment:Int) (made:List Int) (k:Int) (x8 a:Option PyData):Ds:=[some S,some A,some e.d,some (.int span),some (.int seed),some (.int moment),some (.list (made.map PyData.int)),some (.int k),x8,a]
theorem Lo (e:Er):dIx e.d (.int 0)=some (.int e.every):=rfl
theorem J1 (e:Er):dIx e.d (.int 2)=some (.int e.late):=rfl
theorem Ah {k:Int} {x8 a:Option PyData}:crC (crD e S A span seed moment made k x8 a)=.ok (decide (moment+e.late<span)&&decide (made.length<60)):=by
 have hl:decide (((made.map PyData.int).length:Int)<60)=decide (made.length<60):=by rw[N4];exact decide_eq_decide.mpr (by omega)
 unfold crC crD;simp only[Kn,fD,bN,gA,aA,aG,ao,ar,cB,Rs.ag,J1,d6,Ka,lh,Rs.ai,bx,hl];cases decide (moment+e.late<span) <;> simp
theorem FY (ok:e.Ok) (h:CrI e.every e.late span made moment) (C:moment+e.late<span) (hm:made.length<60) (x8 i:Option PyData) :
  ∃c b D E,crB (crD e S A span seed moment made (made.length:Int) x8 i)=.nx (crD e S A span seed b (made++[c]) ((made++[c]).length:Int) D E)/\CrI e.every e.late span (made++[c]) b:=by
 have e1:=ok.e1;have e2:=ok.e2;have l1:=ok.l1;have l2:=ok.l2;have hlo:=h.lo;obtain⟨a,n⟩:=DV (δ:=mask [6] (crD e S A span seed moment made (made.length:Int) x8 i)) (seed:=seed) (k:=(made.length:Int)) rfl rfl (by omega) (by omega);have F:aQ [6] 8 (g2 eI (g2 eJ (g2 aX (g2 aX (af 4) (g2 eJ (g2 eJ (gC (.int 104729)) (af 7)) (af 7))) (g2 eJ (gC (.int 7919)) (af 7))) (gC (.int 48271))) (gC (.int 2147483647))) (crD e S A span seed moment made (made.length:Int) x8 i)=.nx (crD e S A span seed moment made (made.length:Int) (some (.int a)) i):=fm (by decide:8<10) n
 -- the first reckoning of the coming
 have G:0<=a / 7 % (e.late+1)/\a / 7 % (e.late+1)<e.late+1:=⟨O1 _ (by omega),Ol _ (by omega)⟩
 have H:iR (.int a) (.int 7)=some (.int (a / 7)):=by rw[vU,if_pos (by decide)]
 have B:eI (.int (a / 7)) (.int (e.late+1))=some (.int (a / 7 % (e.late+1))):=by rw[tI,if_pos (by omega)]
 generalize a / 7 % (e.late+1)=q at G B;have o:∃c:Int,aQ [6] 9 (gF iG (ae (gC (.int 0)) (ae (g2 aX (af 5) (g2 eI (g2 iR (af 8) (gC (.int 7))) (g2 aX (g2 dIx (af 2) (gC (.int 2))) (gC (.int 1))))) ah))) (crD e S A span seed moment made (made.length:Int) (some (.int a)) i)=.nx (crD e S A span seed moment made (made.length:Int) (some (.int a)) (some (.int c)))/\0<=c/\moment<=c/\c<=moment+e.late:=by refine⟨if moment+q>0 then moment+q else 0,?_,by split <;> omega,by split <;> omega,by split <;> omega⟩;refine fm (by decide:9<10) ?_;show gF iG _ [some S,some A,some e.d,some (.int span),some (.int seed),some (.int moment),none,some (.int (made.length:Int)),some (.int a),i]=_;simp only[gA,aA,aG,bN,ao,ar,cB,Rs.ag,J1,H,d6,B,Rs.ai,DG]
 obtain⟨c,o,c0,c1,I⟩:=o
 -- behind the one ahead
 have f:∃c':Int,sIf (gT (g2 dNe (af 6) (jN ah))) (qT 9 (gF iG (ae (af 9) (ae (g2 aX (g2 dIx (af 6) (g1 mO (gC (.int 1)))) (gC (.int 1))) ah)))) ba (crD e S A span seed moment made (made.length:Int) (some (.int a)) (some (.int c)))=.nx (crD e S A span seed moment made (made.length:Int) (some (.int a)) (some (.int c')))/\0<=c'/\moment<=c'/\c'<=moment+e.late:=by
  have p:dNe (.list (made.map PyData.int)) (.list [])=some (.bool (!decide (made=[]))):=HY made [];unfold crD;rw[dZ];simp only[fD,bN,ao,ar,xS,aG,Rs.ag,p,Rs.ai,bx,av];cases hk:made.getLast? with
  |none =>have r:made=[]:=List.getLast?_eq_none_iff.mp hk;rw[r];exact⟨c,rfl,c0,c1,I⟩
  |some l =>
   have r:made≠[]:=λz=>by rw[z]at hk;cases hk
   have hla:=h.la l hk;have s:dIx (.list (made.map PyData.int)) (.int (-1))=some (.int l):=by rw[Dn,ko,P4,hk];rfl
   rw[decide_eq_false r];simp only[Bool.not_false,if_true];refine⟨if l+1>c then l+1 else c,?_,by split <;> omega,by split <;> omega,by split <;> omega⟩;refine FP (by decide:9<10) ?_ rfl;simp only[gA,aA,aG,bN,iA,ao,ar,cB,Ig,Rs.ag,s,d6,Rs.ai,DG]
 obtain⟨c',f,u,v,w⟩:=f;have J:hV [6] 6 (af 9) (crD e S A span seed moment made (made.length:Int) (some (.int a)) (some (.int c')))=.nx (crD e S A span seed moment (made++[c']) (made.length:Int) (some (.int a)) (some (.int c'))):=by show (if (made.map PyData.int).length<1000000 then Sr.nx _ else Sr.no)=_;rw[if_pos (by rw[N4];omega)];unfold crD;rw[NQ];rfl
 have K:aQ [6] 5 (g2 aX (af 5) (g2 dIx (af 2) (gC (.int 0)))) (crD e S A span seed moment (made++[c']) (made.length:Int) (some (.int a)) (some (.int c')))=.nx (crD e S A span seed (moment+e.every) (made++[c']) (made.length:Int) (some (.int a)) (some (.int c'))):=fm (by decide:5<10) rfl;have g:∃j,sIf (gT (g2 dEq (g2 eI (g2 iR (af 8) (gC (.int 61))) (gC (.int 3))) (gC (.int 0)))) (aQ [6] 5 (g2 aX (af 5) (g2 eI (g2 iR (af 8) (gC (.int 997))) (g2 dIx (af 2) (gC (.int 0)))))) ba (crD e S A span seed (moment+e.every) (made++[c']) (made.length:Int) (some (.int a)) (some (.int c')))=.nx (crD e S A span seed j (made++[c']) (made.length:Int) (some (.int a)) (some (.int c')))/\moment+e.every<=j:=by
  have x:iR (.int a) (.int 61)=some (.int (a / 61)):=by rw[vU,if_pos (by decide)]
  have L:eI (.int (a / 61)) (.int 3)=some (.int (a / 61 % 3)):=by rw[tI,if_pos (by decide)]
  have m:iR (.int a) (.int 997)=some (.int (a / 997)):=by rw[vU,if_pos (by decide)]
  have M:eI (.int (a / 997)) (.int e.every)=some (.int (a / 997 % e.every)):=by rw[tI,if_pos (by omega)]
  have hx:0<=a / 997 % e.every:=O1 _ (by omega);have hc:gT (g2 dEq (g2 eI (g2 iR (af 8) (gC (.int 61))) (gC (.int 3))) (gC (.int 0))) (crD e S A span seed (moment+e.every) (made++[c']) (made.length:Int) (some (.int a)) (some (.int c')))=.ok (a / 61 % 3==0):=by unfold crD;simp only[fD,bN,ao,ar,cB,Rs.ag,x,L,Rs.ai,jC,bx]
  rw[dZ,hc,av];cases (a / 61 % 3==0) with
  |false=>exact⟨_,rfl,Ob _⟩
  |true =>rw[if_pos rfl];refine⟨moment+e.every+a / 997 % e.every,fm (by decide:5<10) ?_,by omega⟩;show g2 aX _ _ [some S,some A,some e.d,some (.int span),some (.int seed),some (.int (moment+e.every)),none,some (.int (made.length:Int)),some (.int a),some (.int c')]=_;simp only[bN,ao,ar,cB,Rs.ag,Lo,m,M,d6,Rs.ai]
 obtain⟨j,g,y⟩:=g;have N:aQ [6] 7 (g2 aX (af 7) (gC (.int 1))) (crD e S A span seed j (made++[c']) (made.length:Int) (some (.int a)) (some (.int c')))=.nx (crD e S A span seed j (made++[c']) ((made++[c']).length:Int) (some (.int a)) (some (.int c'))):=by
  have hl:((made++[c']).length:Int)=(made.length:Int)+1:=by rw[Nl,NS];omega
  rw[hl];exact fm (by decide:7<10) rfl
 refine⟨c',j,some (.int a),some (.int c'),?_,HP h C u v w (by omega) l1 y⟩;unfold crB;rw[aL,F];simp only;rw[aL,o];simp only;rw[aL,f];simp only;rw[aL,J];simp only;rw[aL,K];simp only;rw[aL,g];simp only;rw[N]
end
theorem qp {c:Ds->Rs Bool} {b:Ds->Sr} {I:Nat->Ds->Prop} {J:Ds->Prop} (h:∀k δ,I k δ->(c δ=.ok false/\J δ)\/(c δ=.ok true/\∃f,f < k/\∃a,b δ=.nx a/\I f a)):∀(n k:Nat) (δ:Ds),I k δ->k<n->∃a,bL c b n δ=.nx a/\J a
 |0,_,_,_,hn=>by cases hn
 |n+1,k,δ,i,hn=>by
  unfold bL;rcases h k δ i with⟨e,j⟩|⟨e,f,g,a,e2,i'⟩
  ·rw[e,av,if_neg NA];exact⟨δ,rfl,j⟩
  ·rw[e,av,if_pos rfl,e2];exact qp h n f a i' (Nt g (Nat.le_of_lt_succ hn))
section
variable {S A:PyData} {seed moment:Int} {made:List Int}
theorem Hx (ok:e.Ok) (h:CrI e.every e.late span made moment) (hl:made.length<=60) {n:Nat} (hn:60<n) (x8 g:Option PyData) :
  ∃a f i j,bL crC crB n (crD e S A span seed moment made (made.length:Int) x8 g)=.nx (crD e S A span seed f a (a.length:Int) i j)/\CrI e.every e.late span a f/\a.length<=60:=by
 obtain⟨δ',e1,a,f,i,j,rfl,h1,h2⟩:=qp (c:=crC) (b:=crB) (I:=λk δ=>∃made moment x8 g,δ=crD e S A span seed moment made (made.length:Int) x8 g/\CrI e.every e.late span made moment/\made.length<=60/\k=60-made.length)
  (J:=λδ=>∃a f i j,δ=crD e S A span seed f a (a.length:Int) i j/\CrI e.every e.late span a f/\a.length<=60) (λk δ l=>by
   obtain⟨made,moment,x8,g,hd,h,hl,hk⟩:=l;subst hd;by_cases z:moment+e.late<span/\made.length<60
   ·right;refine⟨by rw[Ah,decide_eq_true z.1,decide_eq_true z.2];rfl,?_⟩;obtain⟨c,m,i,j,o,h'⟩:=FY (S:=S) (A:=A) (seed:=seed) ok h z.1 z.2 x8 g;have hl2:(made++[c]).length=made.length+1:=by rw[Nl,NS]
    exact⟨60-(made++[c]).length,by omega,_,o,made++[c],m,i,j,rfl,h',by omega,rfl⟩
   ·left;refine⟨?_,made,moment,x8,g,rfl,h,hl⟩;rw[Ah];refine congrArg Rs.ok (Bool.eq_false_iff.mpr ?_);rw[Ne,N6,decide_eq_true_eq,decide_eq_true_eq];exact z) n (60-made.length) _ ⟨made,moment,x8,g,rfl,h,hl,rfl⟩ (by omega)
 exact⟨a,f,i,j,e1,h1,h2⟩
end
def bc (cs:Cs):Gf:=gfG 4 6 (dg cs ak)
theorem mY (cs:Cs):LLq (dg cs ak) 4 6 (bc cs):=iM
theorem sf (ok:e.Ok) (ha:0<=a) (hs:span<=10000):∃row,bc cs [aj ns,.int a,e.d,.int span]=.ok (cC row)/\lR row/\hvE e row=true:=by
 have e1:=ok.e1;have e2:=ok.e2;have b:EU (.int 10) (.int 9)=some (.int 1000000000):=rfl;have f:=cG (ns:=ns) (k:=a) (many:=1000000000) ha (by decide);have g:eI (.int (mixed ns a 1000000000)) (.int (e.every+2))=some (.int (mixed ns a 1000000000 % (e.every+2))):=by rw[tI,if_pos (by omega)]
 have hm0:0<=mixed ns a 1000000000 % (e.every+2):=O1 _ (by omega);generalize mixed ns a 1000000000=seed at *;generalize seed % (e.every+2)=m0 at *;obtain⟨row,m',y8,y9,i,hc,hl⟩:=Hx (e:=e) (S:=aj ns) (A:=.int a) (span:=span) (seed:=seed) (made:=[]) (moment:=m0-e.late) ok (CV (by omega)) (by decide) (n:=1000000) (by decide) none none;refine⟨row,?_,⟨hl,hc.c0,λc h=>by have:=hc.c1 c h;omega⟩,hc.hv⟩;have j:aQ [6] 4 (aq ak (ae (af 0) (ae (af 1) (ae (g2 EU (gC (.int 10)) (gC (.int 9))) ah)))) [some (aj ns),some (.int a),some e.d,some (.int span),none,none,none,none,none,none]=.nx [some (aj ns),some (.int a),some e.d,some (.int span),some (.int seed),none,none,none,none,none]:=by refine fm (by decide:4<10) ?_;show aq ak _ [some (aj ns),some (.int a),some e.d,some (.int span),none,none,none,none,none,none]=_;simp only[bf,aA,aG,bN,ao,ar,cB,Rs.ag,b,Rs.ai,f]
 have l:aQ [6] 5 (g2 fo (g2 eI (af 4) (g2 aX (g2 dIx (af 2) (gC (.int 0))) (gC (.int 2)))) (g2 dIx (af 2) (gC (.int 2)))) [some (aj ns),some (.int a),some e.d,some (.int span),some (.int seed),none,none,none,none,none]=.nx [some (aj ns),some (.int a),some e.d,some (.int span),some (.int seed),some (.int (m0-e.late)),none,none,none,none]:=by refine fm (by decide:5<10) ?_;show g2 fo _ _ [some (aj ns),some (.int a),some e.d,some (.int span),some (.int seed),none,none,none,none,none]=_;simp only[bN,ao,ar,cB,Rs.ag,Lo,J1,d6,g,oz,Rs.ai]
 have m:iL [6] 6 ah [some (aj ns),some (.int a),some e.d,some (.int span),some (.int seed),some (.int (m0-e.late)),none,none,none,none]=.nx [some (aj ns),some (.int a),some e.d,some (.int span),some (.int seed),some (.int (m0-e.late)),some (.list []),none,none,none]:=rfl;have o:aQ [6] 7 (gC (.int 0)) [some (aj ns),some (.int a),some e.d,some (.int span),some (.int seed),some (.int (m0-e.late)),some (.list []),none,none,none]=.nx (crD e (aj ns) (.int a) span seed (m0-e.late) [] (([]:List Int).length:Int) none none):=fm (by decide:7<10) rfl;show a8 (dg cs ak [some (aj ns),some (.int a),some e.d,some (.int span),none,none,none,none,none,none])=_;have p:dg cs ak=aF (aQ [6] 4 (aq ak (ae (af 0) (ae (af 1) (ae (g2 EU (gC (.int 10)) (gC (.int 9))) ah)))))
  (aF (aQ [6] 5 (g2 fo (g2 eI (af 4) (g2 aX (g2 dIx (af 2) (gC (.int 0))) (gC (.int 2)))) (g2 dIx (af 2) (gC (.int 2)))))
  (aF (iL [6] 6 ah) (aF (aQ [6] 7 (gC (.int 0))) (aF (λδ=>bL crC crB 1000000 δ) (bj (af 6)))))):=rfl
 rw[p];rw[aL,j];simp only;rw[aL,l];simp only;rw[aL,m];simp only;rw[aL,o];simp only;rw[aL,i];rfl
def bZ (cs:Cs):Gf:=gfG 4 0 (eG cs (bc cs))
theorem rT (cs:Cs):LLq (eG cs (bc cs)) 4 0 (bZ cs):=iM
theorem EX:∀{es:List Er} {rows:List (List Int)},rows.length=es.length->(∀(i:Nat) (h:i<es.length) (h':i<rows.length),lR rows[i]/\hvE es[i] rows[i]=true)->Cms es rows
 |[],[],_,_=>.nil
 |[],_::_,h,_=>by cases h
 |_::_,[],h,_=>by cases h
 |e::es,r::rows,h,k=>by have k0:=k 0 (Nat.succ_pos _) (Nat.succ_pos _);refine .cons k0.1 k0.2 (EX (by simpa using h) λi h1 h2=>?_);exact k (i+1) (Nat.succ_lt_succ h1) (Nat.succ_lt_succ h2)
theorem Jm (l6:es.length<=6) {a x1:Option PyData} {r:Ds}:fR (ae (gF bY (ae (af 2) ah)) ah) (a::x1::some (ay es)::r)=.ok (bG 0 es.length):=by
 have b:=kC (j:=(es.length:Int)) (by omega) (by omega);rw[NM]at b;have hv:(ae (gF bY (ae (af 2) ah)) ah) (a::x1::some (ay es)::r)=.ok [.int (es.length:Int)]:=by simp only[aA,aG,gA,ao,ar,Rs.ag,Jf,Rs.ai]
 rw[lC,hv,Rs.ag,b]
theorem ye (h:yG es) (ha:0<=a) (g:span<=10000):∃rows,bZ cs [aj ns,.int a,ay es,.int span]=.ok (cmD rows)/\Cms es rows:=by
 have j:∀i:Nat,∃row,i<es.length->bc cs [aj ns,.int (a+(i:Int)),(aW es (i:Int)).d,.int span]=.ok (cC row)/\lR row/\hvE (aW es (i:Int)) row=true:=λi=>by
  by_cases z:i<es.length
  ·obtain⟨row,h1⟩:=sf (cs:=cs) (h.ok _ (cy (n:=(i:Int)) (by omega) (by omega))) (ns:=ns) (a:=a+(i:Int)) (span:=span) (by omega) g;exact⟨row,λ_=>h1⟩
  ·exact⟨[],λy=>(z y).elim⟩
 obtain⟨F,c⟩:=Classical.axiomOfChoice j;have l6:=h.l6;refine⟨(List.range es.length).map F,?_,EX (by simp) λi h1 h2=>?_⟩
 ·have m:bw 4 (fR (ae (gF bY (ae (af 2) ah)) ah)) bH (aq (bc cs) (ae (af 0) (ae (g2 aX (af 1) (af 4)) (ae (g2 dIx (af 2) (af 4)) (ae (af 3) ah))))) aZ [some (aj ns),some (.int a),some (ay es),some (.int span)]=.ok ((bG 0 es.length).map λd=>cC (F (deI d).toNat)):=by
   refine dj rfl ?_ (by rw[dw];omega) λd hd=>?_
   ·exact Jm l6
   ·obtain⟨k,f,rfl⟩:=Nn.mp hd;have b:=Ou.mp f;have hn:(0:Int)+(k:Int)=(k:Int):=by omega
    have hd2:(deI (.int (k:Int))).toNat=k:=NM k;have a2:dIx (ay es) (.int (k:Int))=some (aW es (k:Int)).d:=jf (by omega) (by omega);rw[hn,hd2];simp only[NU,NT,bf,aA,aG,bN,ao,ar,Rs.ag,d6,a2,Rs.ai,(c k b).1]
  show a8 (eG cs (bc cs) [some (aj ns),some (.int a),some (ay es),some (.int span)])=_;unfold eG;simp only[bM,rD,m,Rs.ag,av,aT];unfold cmD bG;rw[Nz,Nz];refine congrArg (λl=>Rs.ok (PyData.list l)) (Nv λk f=>?_);show cC (F (deI (.int (0+(k:Int)))).toNat)=cC (F k);rw[show (0:Int)+(k:Int)=(k:Int) by omega,show (deI (.int (k:Int))).toNat=k from NM k]
 ·have e:=my (es:=es) (n:=(i:Int)) (by omega) (by omega);rw[NM,My h1]at e;have o:es[i]=aW es (i:Int):=Option.some.inj e;have:=(c i h1).2;rw[List.getElem_map,List.getElem_range,o];exact this
theorem CK {xs:List α} {k:Nat} {v:α} (h:xs[k]?=some v):atI xs (k:Int)=some v:=uA (OX k) (by rw[NM];exact h)
structure Sx (js:List Jb):Prop where
 num:∀(i:Nat) (h:i<js.length),js[i].num=(i:Int)
 row:∀j∈js,j.row.length<=1000
 wk:∀j∈js,j.work<=1000
section
variable {S E R D:PyData}
theorem AR {f:PyData->PyData->Option PyData} {a b:Ds->Rs PyData} {x y z:PyData} (ha:a δ=.ok x) (c:b δ=.ok y) (e:f x y=some z):g2 f a b δ=.ok z:=by rw[bN,ha,Rs.ag,c,Rs.ag,e];rfl
end
def pY (k:Nat) (l:List PyData):List PyData:=l.mapIdx λi d=>.tuple [.int ((k+i:Nat):Int),d]
theorem sk {body:Ds->Sr} {d:PyData} {r:List PyData} {δ1 a:Ds} (h1:tgt d δ=some δ1) (h2:body δ1=.nx a):forL tgt body (d::r) δ=forL tgt body r a:=by rw[forL,h1];simp only[h2]
theorem rn (k:Nat) (d:PyData) (r:List PyData):pY k (d::r)=.tuple [.int (k:Int),d]::pY (k+1) r:=by
 unfold pY;rw[P7];have a:(λ(i:Nat) (d:PyData)=>PyData.tuple [.int ((k+(i+1):Nat):Int),d])=λi d=>.tuple [.int ((k+1+i:Nat):Int),d]:=by funext i d;rw[show k+(i+1)=k+1+i by omega]
 rw[a];rfl
theorem wC {ks:List Jb} (h:ks.map fM=js.map fM):ks.length=js.length:=by
 have:=congrArg List.length h
 rwa[N4,N4]at this
theorem As {ks:List Jb} (h:ks.map fM=js.map fM) (s:Sx js):Sx ks:=by
 have hl:=wC h;have hm:∀k∈ks,∃j∈js,fM j=fM k:=λk a=>by have:fM k∈ks.map fM:=Nn.mpr ⟨k,a,rfl⟩;rw[h]at this;exact Nn.mp this
 refine⟨λi hi=>?_,λk a=>?_,λk a=>?_⟩
 ·have e:(ks.map fM)[i]?=(js.map fM)[i]?:=by rw[h]
  rw[Nx,Nx,My hi,My (hl▸hi)]at e;have e2:fM ks[i]=fM (js[i]'(hl▸hi)):=Option.some.inj e;have:=congrArg (·.1) e2;exact this.trans (s.num i (hl▸hi))
 ·obtain⟨j,b,e⟩:=hm k a;have e2:j.row=k.row:=congrArg (·.2.2) e;rw[<-e2];exact s.row j b
 ·obtain⟨j,b,e⟩:=hm k a;have e2:j.parts=k.parts:=congrArg (·.2.1) e;have:=s.wk j b;unfold Jb.work at this ⊢;rw[<-e2];exact this
theorem vg {lt:Nat->Nat->Bool} (a:∀i,lt i i=false) (b:∀i j k,lt i j=true->lt j k=true->lt i k=true):∀(n i:Nat),i<=n->lt i (bst lt n)=false
 |0,i,h=>by
  have:i=0:=by omega
  rw[this];exact a 0
 |n+1,i,h=>by
  unfold bst;cases q:lt (n+1) (bst lt n) with
  |true =>
   rw[if_pos rfl];by_cases z:i=n+1
   ·rw[z];exact a _
   ·have c:=vg a b n i (by omega);cases y:lt i (n+1) with
    |false=>rfl
    |true=>rw[b _ _ _ y q]at c;cases c
  |false =>
   rw[if_neg NA];by_cases z:i=n+1
   ·rw[z];exact q
   ·exact vg a b n i (by omega)
theorem Jh (d:PyData):ltD d d=false:=by
 have h:∀l:List Int,HT.lexLt l l=false:=λl=>by
  induction l with
  |nil=>rfl
  |cons a r ih=>show (if a=a then HT.lexLt r r else _)=false;rw[if_pos rfl,ih]
 unfold ltD;split
 ·rename_i e1 e2;rw[e1]at e2;cases e2;exact h _
 ·rfl
theorem E3:∀a b c:List Int,HT.lexLt a b=true->HT.lexLt b c=true->HT.lexLt a c=true
 |[],[],_,h,_=>by cases h
 |[],_::_,[],_,h=>by cases h
 |[],_::_,_::_,_,_=>rfl
 |_::_,[],_,h,_=>by cases h
 |_::_,_::_,[],_,h=>by cases h
 |x::a,y::b,z::c,h1,h2=>by
  have h1:(if x=y then HT.lexLt a b else decide (x<y))=true:=h1;have h2:(if y=z then HT.lexLt b c else decide (y<z))=true:=h2;show (if x=z then HT.lexLt a c else decide (x<z))=true;by_cases e1:x=y
  ·rw[if_pos e1]at h1;by_cases e2:y=z
   ·rw[if_pos e2]at h2;rw[if_pos (e1.trans e2)];exact E3 a b c h1 h2
   ·rw[if_neg e2]at h2;rw[if_neg (λq=>e2 (e1.symm.trans q)),e1];exact h2
  ·rw[if_neg e1]at h1;have l1:=of_decide_eq_true h1;by_cases e2:y=z
   ·rw[if_neg (λq=>e1 (q.trans e2.symm)),<-e2];exact h1
   ·rw[if_neg e2]at h2;have l2:=of_decide_eq_true h2;rw[if_neg (by omega)];exact decide_eq_true (by omega)
theorem KJ (a b c:PyData) (h1:ltD a b=true) (h2:ltD b c=true):ltD a c=true:=by
 unfold ltD at h1 h2 ⊢;cases ka:kP a with
 |none=>rw[ka]at h1;cases h1
 |some p =>
  cases kb:kP b with
  |none=>rw[ka,kb]at h1;cases h1
  |some q =>
   cases kc:kP c with
   |none=>rw[kb,kc]at h2;cases h2
   |some r =>rw[ka,kb]at h1;rw[kb,kc]at h2;exact E3 _ _ _ h1 h2
theorem t8 {key:Jb->PyData} (c:js≠[]) (e:j∈js):ltD (key j) (key (iT key js))=false:=by
 have hl:0<js.length:=Oh.mpr c;have hm:=vg (lt:=λi j=>ltD ((js.map key).getD i .none) ((js.map key).getD j .none)) (λi=>Jh _) (λi j k=>KJ _ _ _) (js.length-1);have hb:=uV (λi j=>ltD ((js.map key).getD i .none) ((js.map key).getD j .none)) (js.length-1);obtain⟨i,hi,rfl⟩:=OD e;have h1:=hm i (by omega);have b:jI (js.map key)=bst (λi j=>ltD ((js.map key).getD i .none) ((js.map key).getD j .none)) (js.length-1):=by unfold jI;rw[N4]
 have a:jI (js.map key)<js.length:=by rw[b];omega
 have e1:(js.map key).getD i .none=key js[i]:=by rw[Nw,Nx,My hi];rfl
 have e2:(js.map key).getD (jI (js.map key)) .none=key (iT key js):=by unfold iT;rw[Nw,Nx,My a,Nw,My a];rfl
 rw[<-b]at h1;rw[e1,e2]at h1;exact h1
theorem Ba (a b c d:Int):ltD (.tuple [.int a,.int b]) (.tuple [.int c,.int d])=if a=c then (if b=d then false else decide (b<d)) else decide (a<c):=rfl
theorem DL (h:js≠[]):js.filter (ip js)≠[]:=by
 have hn:=pJ (ts:=js.map λj=>((0:Addr),j)) (by simpa using h);have hm:(js.map λj=>((0:Addr),j)).map (·.2)=js:=by rw[Nz];exact O2 js
 rw[hm]at hn;obtain⟨p,r,e⟩:=ON hn;have a:p∈(js.map λj=>((0:Addr),j)).filter (λp=>ip js p.2):=by rw[e];exact N3
 obtain⟨h1,h2⟩:=NH.mp a;obtain⟨j,b,rfl⟩:=Nn.mp h1;exact Pg (NH.mpr ⟨b,h2⟩)
theorem ud (h:j.held=some T):hU tops j=.tuple [.int (if fN tops T<j.rank then fN tops T else j.rank),.int 0]:=by unfold hU;rw[h]
theorem sE (h:j.held=none):hU tops j=.tuple [.int j.rank,.int 1]:=by unfold hU;rw[h]
theorem Cy {len:Str} {ts:List Jb} (g:ts≠[]) (c:(c7 tops len ts).spent=0) (e:(c7 tops len ts).tool=some T) (a:fN tops T<=(c7 tops len ts).rank):∀j∈ts,j.held≠some T:=by
 intro j h i;unfold c7 at c e a;split at c
 ·rename_i z;rw[if_pos z]at e a;have hm:=t8 (key:=hU tops) g h;have l:(iT (hU tops) ts).held=none:=by unfold Jb.held;rw[if_pos c]
  rw[ud i,sE l,Ba]at hm;generalize (iT (hU tops) ts).rank=r at *;generalize fN tops T=u at *;by_cases q:(if u<j.rank then u else j.rank)=r
  ·rw[if_pos q]at hm;revert hm;decide
  ·rw[if_neg q]at hm;have:=of_decide_eq_false hm;split at this <;> split at q <;> omega
 ·rename_i z;rw[if_neg z]at e;have f:=(NH.mp (ng (key:=G0 (if (len==("asked":Str))=true then sM ts else [])) (DL g))).2;generalize iT (G0 (if (len==("asked":Str))=true then sM ts else [])) (ts.filter (ip ts))=b at *;have hw:b.wanted=some T:=by unfold Jb.wanted;rw[if_pos c,e]
  unfold ip pW at f;rw[hw]at f;have hn:ts.find? (λk=>k.held==some T)=none:=Option.isNone_iff_eq_none.mp f;have:=OF.mp hn j h;rw[i]at this;exact this (beq_self_eq_true _)
theorem og {t:Int} (e:IvJ tops t js) (f:j∈js) (hs:j.spent≠0):j.there t=true:=by
 cases ht:j.there t with
 |true=>rfl
 |false =>
  have h:=e.ok.ok j f;have hl:=e.low j f;have hc:ej j.row t<=j.job:=by
   by_cases z:j.job<j.row.length
   ·unfold Jb.there at ht;rw[My z]at ht;have:=of_decide_eq_false ht;exact oX z (e.srt j f) (by omega)
   ·have:=wU j.row t;omega
  obtain⟨c0,c1⟩:=lG h;have:=NK (a:=(ej j.row t:Int)) (b:=(j.job:Int)) (c:=j.work) (by omega) (by omega);have h2:=lF (ps:=j.parts.take j.part) λq g=>h.ln q (Oc g)
  unfold fh Jb.tot Jb.cur at hl;omega
theorem nV (h:JOk tops j) (e:j.next.held=some T):j.tool=some T:=by
 unfold Jb.next Jb.step1 at e;by_cases z:(j.spent:Int)+1=j.len
 ·rw[if_pos z]at e;unfold Jb.step2 at e;split at e
  ·unfold Jb.held at e;rw[if_pos rfl]at e;cases e
  ·unfold Jb.held at e;rw[if_pos rfl]at e;cases e
 ·rw[if_neg z]at e;unfold Jb.step2 at e;rw[if_neg (show ¬ ({ j with spent:=j.spent+1 }:Jb).part=({ j with spent:=j.spent+1 }:Jb).parts.length from Nq h.pt)]at e;unfold Jb.held at e;rw[if_neg (show ¬ ({ j with spent:=j.spent+1 }:Jb).spent=0 from Nat.succ_ne_zero _)]at e;exact e
theorem iU (h:j.held=some T):j.tool=some T/\j.spent≠0:=by
 unfold Jb.held at h;by_cases z:j.spent=0
 ·rw[if_pos z]at h;cases h
 ·rw[if_neg z]at h;exact⟨h,z⟩
theorem nv (j:Jb):j.next.rank=j.rank:=by unfold Jb.next Jb.step1 Jb.step2;split <;> split <;> rfl
structure HvJ (tops:PyData) (js:List Jb):Prop where
 one:∀i∈js,∀j∈js,∀T,i.held=some T->j.held=some T->i.num=j.num
 top:∀j∈js,∀p∈j.parts,∀T,p.2=some T->fN tops T<=j.rank
theorem nO {b k:Jb} (a:k∈dW b js):(k∈js/\k.num≠b.num)\/k=b.next:=by
 obtain⟨j,c,rfl⟩:=Nn.mp a;by_cases z:j.num=b.num
 ·right;exact if_pos z
 ·left;rw[if_neg z];exact⟨c,z⟩
theorem sY (h:JOk tops j) (b:j.tool=some T):∃p∈j.parts,p.2=some T:=by have a:=h.pt;unfold Jb.tool at b;rw[My a]at b;exact⟨_,NL a,b⟩
theorem BH {len:Str} {told:List PyData} (f:IvJ tops (told.length:Int) js) (hv:HvJ tops js) (z:b9 told js≠[]) (a:(c7 tops len (b9 told js)).tool=some T):∀j∈js,j.held=some T->j.num=(c7 tops len (b9 told js)).num:=by
 obtain⟨hm,hth⟩:=NH.mp (gM (tops:=tops) (len:=len) z);intro j b c;obtain⟨h1,h2⟩:=iU c;by_cases y:(c7 tops len (b9 told js)).spent=0
 ·obtain⟨p,g,e⟩:=sY (f.ok.ok _ hm) a;exact (Cy z y a (hv.top _ hm p g T e) j (NH.mpr ⟨b,og f b h2⟩) c).elim
 ·exact hv.one j b _ hm T c (by unfold Jb.held;rw[if_neg y];exact a)
theorem HU {len:Str} {told:List PyData} (f:IvJ tops (told.length:Int) js) (hv:HvJ tops js):HvJ tops (cU tops len (js,told)).1:=by
 by_cases z:b9 told js=[]
 ·rw[kD z];exact hv
 ·have e:cU tops len (js,told)=(dW (c7 tops len (b9 told js)) js,told++[gP (c7 tops len (b9 told js))]):=by unfold cU;exact if_neg z
  have hm:c7 tops len (b9 told js)∈js:=(NH.mp (gM (tops:=tops) (len:=len) z)).1;have a:=λT l=>BH (len:=len) (T:=T) f hv z l
  rw[e];generalize c7 tops len (b9 told js)=b at *;refine⟨λi hi j c T h1 h2=>?_,λj c p g T e=>?_⟩
  ·rcases nO hi with⟨hi,m⟩|rfl
   ·rcases nO c with⟨c,h⟩|rfl
    ·exact hv.one i hi j c T h1 h2
    ·exact (m (a T (nV (f.ok.ok b hm) h2) i hi h1)).elim
   ·rcases nO c with⟨c,h⟩|rfl
    ·exact (h (a T (nV (f.ok.ok b hm) h1) j c h2)).elim
    ·rfl
  ·rcases lQ hm c with c|rfl
   ·exact hv.top j c p g T e
   ·rw[ji]at g;rw[nv];exact hv.top b hm p g T e
section
end
theorem ia {f:Gf} {a:Ds->Rs (List PyData)} {d:PyData} (ha:a δ=.ok ds) (b:f ds=.ok d):aq f a δ=.ok d:=by rw[bf,ha,Rs.ag,b]
theorem j8 {a b:Ds->Sr} {c:Ds} (h:a δ=.nx c):aF a b δ=b c:=by rw[aL,h]
theorem DJ {body:Ds->Sr} (h:src (mask O δ)=.ok ds):fW O src tgt body δ=forL tgt body ds δ:=by rw[kQ,h,av]
theorem Cms.sorted (h:Cms es rows) (ok:∀e∈es,e.Ok):∀r∈rows,r.Pairwise (· < ·):=by
 induction h with
 |nil=>intro r a;cases a
 |cons a hv _ ih =>
  intro b h';rcases N5.mp h' with rfl|h'
  ·have o:=ok _ N3;exact (sS o.l3 o.l1 _ _ hv).2
  ·exact ih (λe c=>ok e (N2 _ c)) b h'
section
variable {len:Str}
theorem Ec (h:i<(startJ es rs rows).length):∃row,(startJ es rs rows)[i]=mkJ es rs i row:=by
 have e:=ku (es:=es) (rs:=rs) (rows:=rows) i;rw[My h]at e;cases q:rows[i]? with
 |none=>rw[q]at e;cases e
 |some row=>rw[q]at e;exact⟨row,Option.some.inj e⟩
theorem E4 (R:Ran es rs rows len) (C:Cms es rows):IvJ (aH es rs) ((([]:List PyData).length:Nat):Int) (startJ es rs rows):=by
 refine⟨mz R.eok R.rok R.ln,λj a=>?_,λj a=>?_⟩
 ·obtain⟨k,row,_,hm,_,rfl⟩:=dH a;exact C.sorted R.eok.ok row hm
 ·have hw:=lG ((mz R.eok R.rok R.ln).ok j a);obtain⟨k,row,_,hm,_,rfl⟩:=dH a;unfold fh;rw[nr];have:=Pe (OX (ej (mkJ es rs k row).row ((([]:List PyData).length:Nat):Int))) (show 0<=(mkJ es rs k row).work by omega);omega
theorem Dy (R:Ran es rs rows len) (C:Cms es rows):Sx (startJ es rs rows):=by
 refine⟨λi hi=>?_,λj a=>?_,λj a=>?_⟩
 ·obtain⟨row,e⟩:=Ec hi;rw[e];rfl
 ·obtain⟨k,row,_,hm,_,rfl⟩:=dH a;have:=(C.n5 row hm).few;show row.length<=1000;omega
 ·obtain⟨k,row,hk,hm,_,rfl⟩:=dH a;have ok:=R.eok.ok _ (cy (n:=(k:Int)) (by omega) (by have:=R.ln;omega));have h1:=vB λp b=>(ok.pl p b).2.1
  have h2:=ok.p2;show cV (aW es (k:Int)).parts<=1000;omega
end
structure Er.Wk (e:Er):Prop where
 sh:e.Sh
 e2:e.every<=60
 l1:0<=e.late
 p2:e.parts.length<=4
 pl:∀p∈e.parts,1<=p.1/\p.1<=1000000
 p1:e.parts≠[]
theorem Er.Ok.wk (h:e.Ok):e.Wk:=⟨h.sh,h.e2,h.l1,h.p2,λp a=>by have:=h.pl p a;exact⟨this.1,by omega⟩,h.p1⟩
theorem Er.Wk.work1 (h:e.Wk):1<=e.work:=by obtain⟨p,a⟩:=List.exists_mem_of_ne_nil _ h.p1;have h1:=h.sh.part_le a;have h2:=(h.pl p a).1;omega
def wkB (e:Er):Bool:=decide (e.every<=60)&&decide (0<=e.late)&&decide (e.parts.length<=4)&&e.parts.all (λp=>decide (1<=p.1))&&decide (e.parts≠[])
theorem K1 (h:e.Wk):wkB e=true:=by unfold wkB;simp only[N6,decide_eq_true_eq,Nr];exact⟨⟨⟨⟨h.e2,h.l1⟩,h.p2⟩,λp a=>(h.pl p a).1⟩,h.p1⟩
theorem KU (h:wkB e=true) (g:e.Sh):e.Wk:=by unfold wkB at h;simp only[N6,decide_eq_true_eq,Nr]at h;obtain⟨⟨⟨⟨a,b⟩,c⟩,d⟩,f⟩:=h;exact⟨g,a,b,c,λp i=>⟨d p i,(g.pl p i).2.1⟩,f⟩
def xh (d:PyData):Bool:=pR d&&decide (1<=(cO d).length)&&decide ((cO d).length<=6)&&(cO d).all wkB
theorem E6 (h1:1<=es.length) (h2:es.length<=6) (h:∀e∈es,e.Wk):xh (ay es)=true:=by unfold xh;rw[qX (by omega) λe a=>(h e a).sh,eZ];simp only[N6,decide_eq_true_eq,Nr];exact⟨⟨⟨trivial,h1⟩,h2⟩,λe a=>K1 (h e a)⟩
theorem Kc {d:PyData} (h:xh d=true):ay (cO d)=d/\1<=(cO d).length/\(cO d).length<=6/\∀e∈cO d,e.Wk:=by unfold xh at h;simp only[N6,decide_eq_true_eq,Nr]at h;obtain⟨⟨⟨a,b⟩,c⟩,f⟩:=h;obtain⟨e1,_,i⟩:=yv a;exact⟨e1,b,c,λe g=>KU (f e g) (i e g)⟩
def okW (d r:PyData) (n:Int):Bool:=xh d&&dP (cO d).length r&&decide (0<=n)&&decide (n<(cO d).length)
theorem nK (h1:1<=es.length) (h2:es.length<=6) (h:∀e∈es,e.Wk) (a:cn es.length rs) (n0:0<=n) (n1:n<es.length):okW (ay es) (au rs) n=true:=by unfold okW;rw[E6 h1 h2 h,eZ,gR a];simp only[N6,decide_eq_true_eq];exact⟨⟨⟨trivial,trivial⟩,n0⟩,n1⟩
theorem gH {d r:PyData} (h:okW d r n=true):∃es rs,d=ay es/\r=au rs/\cO d=es/\cf r=rs/\1<=es.length/\es.length<=6/\(∀e∈es,e.Wk)/\cn es.length rs/\0<=n/\n<es.length:=by unfold okW at h;simp only[N6,decide_eq_true_eq]at h;obtain⟨⟨⟨c1,a⟩,n0⟩,n1⟩:=h;obtain⟨e1,l1,l6,hok⟩:=Kc c1;obtain⟨e2,b⟩:=ml a;exact⟨cO d,cf r,e1.symm,e2.symm,rfl,rfl,l1,l6,hok,b,n0,n1⟩
theorem C6 {ev la:Int} (b:0<ev) {t:Int}:∀{row:List Int} {m:Int},hvM ev la m row=true->ej row t=0\/((ej row t:Int)-1)*ev<=t-m
 |[],m,_=>.inl rfl
 |c::r,m,h=>by
  unfold hvM at h;have hm:m<=(if c-la>m then c-la else m):=by split <;> omega
  generalize (if c-la>m then c-la else m)=mo at h hm;split at h
  ·cases h
  ·rename_i hc;rw[dG];have a:=C6 b (t:=t) h;by_cases hct:c<=t
   ·rw[if_pos hct];right;rcases a with a|a
    ·rw[a];show (1-1)*ev<=t-m;rw[show (1:Int)-1=0 from rfl,Int.zero_mul];omega
    ·rw[show ((1+ej r t:Nat):Int)-1=(ej r t:Int)-1+1 by omega,OP,Int.one_mul];omega
   ·rw[if_neg hct,O5];rcases a with a|a
    ·exact .inl a
    ·right;omega
theorem E8 {ev la:Int} (f:0<ev) (hl:0<=la) {u t:Int} (g:u<t):∀{row:List Int} {m:Int},hvM ev la m row=true->row.Pairwise (· < ·)->(ej row t:Int)-ej row u<=(t-u-1+la) / ev+1
 |[],m,_,_=>by have:=Int.ediv_nonneg (a:=t-u-1+la) (b:=ev) (by omega) (by omega);show ((0:Nat):Int)-((0:Nat):Int)<=_;omega
 |c::r,m,h,hs=>by
  obtain⟨e,i⟩:=OG.mp hs;unfold hvM at h;have hm:c-la<=(if c-la>m then c-la else m):=by split <;> omega
  generalize (if c-la>m then c-la else m)=mo at h hm;split at h
  ·cases h
  ·rename_i hc;rw[dG,dG];by_cases hcu:c<=u
   ·rw[if_pos hcu,if_pos (by omega)];have ih:=E8 f hl g h i;omega
   ·rw[if_neg hcu];have z:ej r u=0:=i7 λx j=>by have:=e x j;omega
    rw[z];have nn:=Int.ediv_nonneg (a:=t-u-1+la) (b:=ev) (by omega) (by omega);by_cases hct:c<=t
    ·rw[if_pos hct];rcases C6 f (t:=t) h with q|q
     ·rw[q];omega
     ·have:(ej r t:Int)<=(t-u-1+la) / ev:=by refine Int.le_ediv_of_mul_le f ?_;rw[Int.sub_mul,Int.one_mul]at q;omega
      omega
    ·rw[if_neg hct];have z2:ej r t=0:=i7 λx j=>by have:=e x j;omega
     rw[z2];omega
def stJ (tops:PyData) (len:Str) (js:List Jb):Nat->List Jb×List PyData
 |0=>(js,[])
 |i+1=>cU tops len (stJ tops len js i)
section
variable {len:Str}
theorem fk:∀i,(stJ tops len js i).2.length=i
 |0=>rfl
 |i+1=>by show (cU tops len _).2.length=_;rw[wo,fk i]
theorem pq {b:Jb}:∀{js:List Jb},(js.map (·.num)).Nodup->b∈js->(dW b js).map (·.rank)=js.map (·.rank)
 |[],_,a=>(nomatch a)
 |j::r,nd,a=>by
  rcases mX nd a with⟨f,e⟩|⟨_,c,e⟩
  ·rw[e,N0,N0,f,nv]
  ·rw[N0,NP]at nd;rw[e,N0,N0,pq nd.2 c]
theorem uz (a:IvJ tops 0 js) (hv:HvJ tops js):∀i:Nat,IvJ tops (i:Int) (stJ tops len js i).1/\HvJ tops (stJ tops len js i).1/\(stJ tops len js i).1.map fM=js.map fM/\(stJ tops len js i).1.map (·.rank)=js.map (·.rank)
 |0=>⟨a,hv,rfl,rfl⟩
 |i+1=>by
  obtain⟨h1,h2,g,h⟩:=uz a hv i;have hl:=fk (tops:=tops) (len:=len) (js:=js) i;have h1:IvJ tops ((stJ tops len js i).2.length:Int) (stJ tops len js i).1:=by rw[hl];exact h1
  have q:=F8 (len:=len) h1;have c:=HU (len:=len) h1 h2;have e:cU tops len ((stJ tops len js i).1,(stJ tops len js i).2)=stJ tops len js (i+1):=rfl;rw[e]at q c;rw[fk]at q;refine⟨q,c,?_,?_⟩
  all_goals
   rw[<-e];by_cases z:b9 (stJ tops len js i).2 (stJ tops len js i).1=[]
   ·rw[kD z];assumption
   ·obtain⟨b,f,_,e2⟩:=mP (tops:=tops) (len:=len) z;rw[e2]
    first|exact (uh h1.ok.nd f).trans g|exact (pq h1.ok.nd f).trans h
end
structure Trc (tops:PyData) (n:Nat) (q:Nat->Nat->Jb) (who:Nat->Option Nat):Prop where
 lt:∀{i m:Nat},who i=some m->m<n
 on:∀{i m},who i=some m->q m (i+1)=(q m i).next
 off:∀{i m},m<n->who i≠some m->q m (i+1)=q m i
 ok:∀{m} i,m<n->JOk tops (q m i)
 thr:∀{i m:Nat},who i=some m->(q m i).there (i:Int)=true
 idl:∀{i m:Nat},who i=none->m<n->(q m i).there (i:Int)=false
 srt:∀{m} i,m<n->(q m i).row.Pairwise (· < ·)
 low:∀{m:Nat} (i:Nat),m<n->0<=fh (i:Int) (q m i)
 spt:∀{m:Nat} (i:Nat),m<n->(q m i).spent≠0->(q m i).there (i:Int)=true
 tp:∀{m:Nat} (i:Nat) {T:Int},m<n->(q m i).held=some T->fN tops T<=(q m i).rank
 num:∀{m:Nat} (i:Nat),m<n->(q m i).num=(m:Int)
section
variable {n:Nat} {q:Nat->Nat->Jb} {who:Nat->Option Nat}
theorem Trc.stay (R:Trc tops n q who) (hm:m<n):∀i,(q m i).parts=(q m 0).parts/\(q m i).row=(q m 0).row/\(q m i).rank=(q m 0).rank
 |0=>⟨rfl,rfl,rfl⟩
 |i+1=>by
  have h:=R.stay hm i;by_cases w:who i=some m
  ·rw[R.on w,ji,i6,nv];exact h
  ·rw[R.off hm w];exact h
theorem Trc.tot1 (R:Trc tops n q who) (hm:m<n):(q m (i+1)).tot=(q m i).tot+(if who i=some m then 1 else 0):=by
 by_cases w:who i=some m
 ·rw[R.on w,if_pos w,qg (R.ok i hm)]
 ·rw[R.off hm w,if_neg w];omega
theorem Trc.mono (R:Trc tops n q who) (hm:m<n) {j:Nat} (h:i<=j):(q m i).tot<=(q m j).tot:=by
 induction h with
 |refl=>exact Ob _
 |step _ ih=>rw[R.tot1 hm];split <;> omega
theorem Trc.wk (R:Trc tops n q who) (hm:m<n) (i:Nat):(q m i).work=(q m 0).work:=by unfold Jb.work;rw[(R.stay hm i).1]
theorem Trc.wpos (R:Trc tops n q who) (hm:m<n) (i:Nat):0<(q m i).work:=by have:=lG (R.ok i hm);omega
theorem Trc.job_tot (R:Trc tops n q who) (hm:m<n) (i:Nat):((q m i).job:Int)=(q m i).tot / (q m 0).work:=by rw[<-R.wk hm i];exact (Gr (R.ok i hm)).symm
theorem Trc.come (R:Trc tops n q who) (hm:m<n) (i:Nat):(q m (i+1)).tot<=(ej (q m 0).row (i:Int):Int)*(q m 0).work:=by
 have h:=R.low i hm;unfold fh at h;rw[R.wk hm,(R.stay hm i).2.1]at h;rw[R.tot1 hm];split
 ·rename_i w;have:=qk (R.ok i hm) (R.srt i hm) (R.thr w);unfold fh at this;rw[R.wk hm,(R.stay hm i).2.1]at this;omega
 ·omega
def Trc.Clr (q:Nat->Nat->Jb) (m i:Nat):Prop:=(q m i).tot=(ej (q m 0).row ((i:Int)-1):Int)*(q m 0).work
theorem Trc.not_clr (R:Trc tops n q who) (hm:m<n) (h:¬ Trc.Clr q m (i+1)):(q m i).there (i:Int)=true/\(q m (i+1)).tot<(ej (q m 0).row (i:Int):Int)*(q m 0).work:=by
 have h1:=R.come hm i;unfold Trc.Clr at h;rw[show ((i+1:Nat):Int)-1=(i:Int) by omega]at h;refine⟨?_,by omega⟩;by_cases t:(q m i).there (i:Int)=true
 ·exact t
 ·have t:(q m i).there (i:Int)=false:=by simpa using t
  have w:who i≠some m:=λw=>by rw[R.thr w]at t;cases t
  have:=xp (R.ok i hm) (R.srt i hm) (R.low i hm) t;unfold fh at this;rw[R.wk hm,(R.stay hm i).2.1]at this;rw[R.tot1 hm,if_neg w]at h h1;omega
theorem Trc.left (R:Trc tops n q who) (hm:m<n) (h:(q m i).tot<(ej (q m 0).row (i:Int):Int)*(q m 0).work):(q m i).there (i:Int)=true:=by
 by_cases t:(q m i).there (i:Int)=true
 ·exact t
 ·have t:(q m i).there (i:Int)=false:=by simpa using t
  have:=xp (R.ok i hm) (R.srt i hm) (R.low i hm) t;unfold fh at this;rw[R.wk hm,(R.stay hm i).2.1]at this;omega
end
def qJ (tops:PyData) (len:Str) (js:List Jb) (m i:Nat):Jb:=(stJ tops len js i).1.getD m default
def thA (tops:PyData) (len:Str) (js:List Jb) (i:Nat):List Jb:=b9 (stJ tops len js i).2 (stJ tops len js i).1
open Classical in
def rM (tops:PyData) (len:Str) (js:List Jb) (i:Nat):Option Nat:=if thA tops len js i=[] then none else some (c7 tops len (thA tops len js i)).num.toNat
section
variable {len:Str}
theorem kR (h:m<(stJ tops len js i).1.length):qJ tops len js m i=(stJ tops len js i).1[m]:=by unfold qJ;rw[Nw,My h];rfl
theorem uK (a:IvJ tops 0 js) (hv:HvJ tops js) (i:Nat):(stJ tops len js i).1.length=js.length:=wC (uz a hv i).2.2.1
theorem sv (h:j∈thA tops len js i):j∈(stJ tops len js i).1/\j.there (i:Int)=true:=by have:=NH.mp h;rw[fk]at this;exact this
theorem iH (b:IvJ tops 0 js) (hv:HvJ tops js) (c:Sx js) (h:rM tops len js i=some m):m<js.length/\thA tops len js i≠[]/\qJ tops len js m i=c7 tops len (thA tops len js i):=by
 unfold rM at h;split at h
 ·cases h
 ·rename_i z;have hm:=(sv (gM (tops:=tops) (len:=len) z)).1;obtain⟨k,a,e⟩:=OD hm;have hn:=(As (uz b hv i).2.2.1 c).num k a;rw[e]at hn;have:m=k:=by injection h with h;omega
  subst this;exact⟨by rw[<-uK b hv i];exact a,z,by rw[kR a,e]⟩
theorem zV (i:Nat):(stJ tops len js (i+1)).1=if thA tops len js i=[] then (stJ tops len js i).1 else dW (c7 tops len (thA tops len js i)) (stJ tops len js i).1:=by show (cU tops len (stJ tops len js i)).1=_;unfold cU thA;split <;> rfl
theorem HF {T:Nat} (h:i<T):(stJ tops len js T).2[i]?=some (if thA tops len js i=[] then .none else gP (c7 tops len (thA tops len js i))):=by
 induction h with
 |refl =>show (cU tops len (stJ tops len js i)).2[i]?=_;unfold cU thA;split <;> (show (_++[_])[i]?=_;rw[NF (by rw[fk];omega),fk,Nat.sub_self];rfl)
 |step a ih =>
  rename_i T;have hl:=fk (tops:=tops) (len:=len) (js:=js) T;have:(stJ tops len js (T+1)).2[i]?=(stJ tops len js T).2[i]?:=by show (cU tops len (stJ tops len js T)).2[i]?=_;unfold cU;have a:i<T:=a;split <;> (show (_++[_])[i]?=_;rw[NB (by omega)])
  rw[this,ih]
theorem JH (a:IvJ tops 0 js) (hv:HvJ tops js) (c:Sx js):Trc tops js.length (qJ tops len js) (rM tops len js):=by
 have inv:=λi=>uz (len:=len) a hv i
 have f:=λi=>uK (len:=len) a hv i
 have mem:∀{m} i,m<js.length->qJ tops len js m i∈(stJ tops len js i).1:=λ{m} i h=>by
  have hm:m<(stJ tops len js i).1.length:=by rw[f];exact h
  rw[kR hm];exact NL hm
 have num:∀{m} i,m<js.length->(qJ tops len js m i).num=(m:Int):=λ{m} i h=>by
  have hm:m<(stJ tops len js i).1.length:=by rw[f];exact h
  rw[kR hm];exact (As (inv i).2.2.1 c).num m hm
 have iv':∀i,IvJ tops ((stJ tops len js i).2.length:Int) (stJ tops len js i).1:=λi=>by rw[fk];exact (inv i).1
 refine⟨λh=>(iH a hv c h).1,λ{i m} h=>?_,λ{i m} hm h=>?_,λ{m} i h=>(inv i).1.ok.ok _ (mem i h),λ{i m} h=>?_,λ{i m} h hm=>?_,λ{m} i h=>(inv i).1.srt _ (mem i h),λ{m} i h=>(inv i).1.low _ (mem i h),λ{m} i h hs=>og (inv i).1 (mem i h) hs,λ{m} i {T} h ht=>?_,λ{m} i h=>num i h⟩
 ·obtain⟨hm,z,e⟩:=iH a hv c h;have h1:m<(stJ tops len js (i+1)).1.length:=by rw[f];exact hm
  have b:m<(stJ tops len js i).1.length:=by rw[f];exact hm
  have e1:qJ tops len js m (i+1)=(dW (c7 tops len (thA tops len js i)) (stJ tops len js i).1).getD m default:=by unfold qJ;rw[zV,if_neg z]
  rw[e1,<-e];unfold dW;rw[Nw,Nx,My b,<-kR b];simp
 ·unfold qJ;rw[zV];split
  ·rfl
  ·rename_i z;have b:m<(stJ tops len js i).1.length:=by rw[f];exact hm
   have hn:=num i hm;rw[kR b]at hn;have hw:rM tops len js i=some (c7 tops len (thA tops len js i)).num.toNat:=by unfold rM;rw[if_neg z]
   have hw':=iH a hv c hw;have g:¬ (stJ tops len js i).1[m].num=(c7 tops len (thA tops len js i)).num:=λe=>h (by rw[hw,<-e,hn];rfl)
   unfold dW;rw[Nw,Nx,My b,Nw,My b];simp[g]
 ·obtain⟨hm,z,e⟩:=iH a hv c h;rw[e];exact (sv (gM z)).2
 ·unfold rM at h;split at h
  ·rename_i z;by_cases t:(qJ tops len js m i).there (i:Int)=true
   ·have:qJ tops len js m i∈thA tops len js i:=NH.mpr ⟨mem i hm,by rw[fk];exact t⟩;rw[z]at this;cases this
   ·simpa using t
  ·cases h
 ·obtain⟨h1,h2⟩:=iU ht;obtain⟨p,j,e⟩:=sY ((inv i).1.ok.ok _ (mem i h)) h1;exact (inv i).2.1.top _ (mem i h) p j T e
theorem F7 (a:IvJ tops 0 js) (hv:HvJ tops js) (c:Sx js) {p:Nat} (h:rM tops "high" js i=some m) (f:p<js.length) (t:(qJ tops "high" js p i).there (i:Int)=true):ltD (hU tops (qJ tops "high" js p i)) (hU tops (qJ tops "high" js m i))=false:=by
 obtain⟨hm,z,e⟩:=iH a hv c h;have b:p<(stJ tops "high" js i).1.length:=by rw[uK a hv];exact f
 have:qJ tops "high" js p i∈thA tops "high" js i:=NH.mpr ⟨by rw[kR b];exact NL b,by rw[fk];exact t⟩;rw[e];have e2:c7 tops "high" (thA tops "high" js i)=iT (hU tops) (thA tops "high" js i):=by unfold c7;exact if_pos (by decide)
 rw[e2];exact t8 z this
end
def pB (tops:PyData) (n:Nat) (q:Nat->Nat->Jb) (who:Nat->Option Nat):Prop:=∀{i m p:Nat},who i=some m->p<n->(q p i).there (i:Int)=true->ltD (hU tops (q p i)) (hU tops (q m i))=false
def hgt (tops:PyData) (j:Jb):Int:=match j.held with
 |some T=>if fN tops T<j.rank then fN tops T else j.rank
 |none=>j.rank
theorem AY {a b:Jb} (h:ltD (hU tops a) (hU tops b)=false):hgt tops b<=hgt tops a/\(hgt tops b=hgt tops a->b.held=none->a.held=none):=by
 have key:∀j:Jb,hU tops j=.tuple [.int (hgt tops j),.int (if j.held=none then 1 else 0)]:=λj=>by
  unfold hgt;cases e:j.held with
  |none=>rw[sE e];rfl
  |some T=>rw[ud e];rfl
 rw[key,key,Ba]at h;by_cases e:hgt tops a=hgt tops b
 ·rw[if_pos e]at h;refine⟨by omega,λ_ c=>?_⟩;rw[if_pos c]at h;cases ha:a.held with
  |none=>rfl
  |some T=>rw[ha]at h;simp at h
 ·rw[if_neg e]at h;have:=of_decide_eq_false h;exact⟨by omega,λz=>absurd z.symm e⟩
theorem J6 (tops:PyData) (j:Jb):hgt tops j<=j.rank:=by
 unfold hgt;split
 ·split <;> omega
 ·exact Ob _
theorem wg (h:j.held=some T) (ht:fN tops T<=j.rank):hgt tops j=fN tops T:=by unfold hgt;rw[h];show (if _ then _ else _)=_;split <;> omega
theorem xu (h:j.held=none):hgt tops j=j.rank:=by unfold hgt;rw[h]
section
variable {n:Nat} {q:Nat->Nat->Jb} {who:Nat->Option Nat}
theorem Trc.pair (R:Trc tops n q who) (c:pB tops n q who) (f:∀m,m<n->(q m 0).held=none):∀(i:Nat) {a b:Nat} {S T:Int},a<n->b<n->a≠b->(q a i).held=some S->(q b i).held=some T->(q a i).rank<fN tops T\/(q b i).rank<fN tops S
 |0,a,_,S,_,ha,_,_,e,_=>by rw[f a ha]at e;cases e
 |i+1,a,b,S,T,ha,hb,hab,ea,eb=>by
  have step:∀{a b:Nat} {S T:Int},a<n->b<n->a≠b->who i=some a->(q a (i+1)).held=some S->(q b (i+1)).held=some T->(q a i).spent=0->(q a (i+1)).rank<fN tops T:=λ{a b S T} ha hb hab w ea eb hs=>by
   have g:who i≠some b:=λz=>hab (by rw[w]at z;cases z;rfl)
   rw[R.off hb g]at eb;have na:(q a i).held=none:=by unfold Jb.held;rw[if_pos hs]
   have k:=AY (c w hb (R.spt i hb (iU eb).2));rw[xu na,wg eb (R.tp i hb eb)]at k;have:¬ (q a i).rank=fN tops T:=λz=>by rw[k.2 z na]at eb;cases eb
   rw[(R.stay ha (i+1)).2.2,<- (R.stay ha i).2.2];omega
  have old:∀{a:Nat} {S:Int},a<n->(q a (i+1)).held=some S->¬ (who i=some a/\(q a i).spent=0)->(q a i).held=some S:=λ{a S} ha ea hn=>by
   by_cases w:who i=some a
   ·rw[R.on w]at ea;have:=nV (R.ok i ha) ea;unfold Jb.held;rw[if_neg (λz=>hn ⟨w,z⟩)];exact this
   ·rw[R.off ha w]at ea;exact ea
  by_cases na:who i=some a/\(q a i).spent=0
  ·exact .inl (step ha hb hab na.1 ea eb na.2)
  ·by_cases nb:who i=some b/\(q b i).spent=0
   ·exact .inr (step hb ha (Ne.symm hab) nb.1 eb ea nb.2)
   ·have:=R.pair c f i ha hb hab (old ha ea na) (old hb eb nb);rw[(R.stay ha (i+1)).2.2,<- (R.stay ha i).2.2,(R.stay hb (i+1)).2.2,<- (R.stay hb i).2.2];exact this
theorem Trc.below (R:Trc tops n q who) (a:pB tops n q who) {p:Nat} {r:Int} (w:who i=some m) (b:p<n) (t:(q p i).there (i:Int)=true) (h1:(q p i).rank<=r) (h2:r<(q m i).rank):∃T,(q m i).held=some T/\fN tops T<=r:=by
 have k:=(AY (a w b t)).1;have:=J6 tops (q p i);cases e:(q m i).held with
 |none=>rw[xu e]at k;omega
 |some T=>rw[wg e (R.tp i (R.lt w) e)]at k;exact⟨T,rfl,by omega⟩
theorem Trc.begun (R:Trc tops n q who) (b:pB tops n q who) {E:Nat} {r:Int} (hw:∀t,B<=t->t<E->∃p,p<n/\(q p t).there (t:Int)=true/\(q p t).rank<=r) (hm:m<n) (c:r<(q m 0).rank):∀{t:Nat},B<=t->t<E->(q m t).spent≠0->∀u,B<=u->u<=t->(q m u).job=(q m t).job/\(q m u).part=(q m t).part/\(q m u).spent≠0/\(q m u).spent<=(q m t).spent
 |0,h1,h2,hs,u,h3,h4=>by
  have:u=0:=by omega
  subst this;exact⟨rfl,rfl,hs,N7 _⟩
 |t+1,h1,h2,hs,u,h3,h4=>by
  by_cases e:u=t+1
  ·subst e;exact⟨rfl,rfl,hs,N7 _⟩
  ·by_cases w:who t=some m
   ·obtain⟨p,h,tp,i⟩:=hw t (by omega) (by omega);obtain⟨T,j,_⟩:=R.below b w h tp i (by rw[(R.stay hm t).2.2];exact c);have f:=(iU j).2;have g:=R.begun b hw hm c (t:=t) (by omega) (by omega) f u h3 (by omega);have nx:=R.on w;have a:(q m (t+1)).job=(q m t).job/\(q m (t+1)).part=(q m t).part/\(q m (t+1)).spent=(q m t).spent+1:=by
     rw[nx]at hs ⊢;unfold Jb.next Jb.step1 at hs ⊢;split at hs
     ·exfalso;apply hs;unfold Jb.step2;split <;> rfl
     ·rename_i z;rw[if_neg z];unfold Jb.step2;rw[if_neg (by have:=(R.ok t hm).pt;simp only;omega)];exact⟨rfl,rfl,rfl⟩
    exact⟨g.1.trans a.1.symm,g.2.1.trans a.2.1.symm,g.2.2.1,by omega⟩
   ·have nx:=R.off hm w;rw[nx]at hs ⊢;exact R.begun b hw hm c (t:=t) (by omega) (by omega) hs u h3 (by omega)
end
theorem An {α:Type} {f g:α->Int}:∀{l:List α},(∀x∈l,f x<=g x)->(l.map f).sum<=(l.map g).sum
 |[],_=>by simp
 |x::r,h=>by
  rw[N0,N0,NO,NO];have:=h x N3;have:=An (l:=r) λy a=>h y (N2 _ a)
  omega
theorem Ax {α:Type} {f:α->Int} {P:α->Prop} {H:Int} (c:0<=H):∀{l:List α},l.Nodup->(∀x∈l,f x=0\/(P x/\f x<=H))->(∀x∈l,∀y∈l,P x->P y->x=y)->(l.map f).sum<=H
 |[],_,_,_=>by simpa using c
 |x::r,nd,h,u=>by
  rw[N0,NO];have b:=NP.mp nd;rcases h x N3 with e|⟨g,hx⟩
  ·have:=Ax c (l:=r) b.2 (λy a=>h y (N2 _ a)) (λy a z i=>u y (N2 _ a) z (N2 _ i));omega
  ·have:(r.map f).sum=0:=lK f λy a=>by
    rcases h y (N2 _ a) with e|⟨j,_⟩
    ·exact e
    ·have:=u x N3 y (N2 _ a) g j;subst this;exact (b.1 a).elim
   omega
theorem zP {m:Nat}:∀{l:List Int},l.Nodup->(∀x∈l,0<=x)->(m:Int)∈l->(l.map λx=>if m=x.toNat then (1:Int) else 0).sum=1
 |[],_,_,h=>(nomatch h)
 |x::r,nd,hp,h=>by
  rw[N0,NO];have a:=NP.mp nd;have hx:=hp x N3;by_cases e:m=x.toNat
  ·have:(r.map λx=>if m=x.toNat then (1:Int) else 0).sum=0:=lK _ λy b=>by
    rw[if_neg];intro z;have:=hp y (N2 _ b);have:y=x:=by omega
    subst this;exact a.1 b
   rw[if_pos e];omega
  ·rw[if_neg e];have:(m:Int)∈r:=by
    rcases N5.mp h with z|z
    ·exact absurd (by omega:m=x.toNat) e
    ·exact z
   have:=zP a.2 (λy b=>hp y (N2 _ b)) this;omega
section
variable {n:Nat} {q:Nat->Nat->Jb} {who:Nat->Option Nat}
theorem Trc.low_one (R:Trc tops n q who) (a:pB tops n q who) {r:Int} (hm:m<n) (b:r<(q m 0).rank):∀(d:Nat),(∀t,B<=t->t<B+d->∃p,p<n/\(q p t).there (t:Int)=true/\(q p t).rank<=r) ->
  (q m (B+d)).tot=(q m B).tot\/∃p∈(q m 0).parts,∃T,p.2=some T/\fN tops T<=r/\(q m (B+d)).tot-(q m B).tot<=p.1-1/\(q m B).held=some T
 |0,_=>.inl rfl
 |d+1,hw=>by
  by_cases w:who (B+d)=some m
  ·right;obtain⟨p,h,tp,j⟩:=hw (B+d) (by omega) (by omega);obtain⟨T,l,o⟩:=R.below a w h tp j (by rw[(R.stay hm _).2.2];exact b);obtain⟨e1,s⟩:=iU l;obtain⟨u,g,v,j4⟩:=R.begun a (E:=B+d+1) (λt h1 h2=>hw t h1 (by omega)) hm b (t:=B+d) (by omega) (by omega) s B (N7 _) (by omega);have ok:=R.ok (B+d) hm;have pt:=ok.pt;have c:(q m (B+d)).parts[(q m (B+d)).part]'pt∈(q m 0).parts:=by rw[<- (R.stay hm (B+d)).1];exact NL pt
   have hl:(q m (B+d)).len=((q m (B+d)).parts[(q m (B+d)).part]'pt).1:=by unfold Jb.len;rw[My pt];rfl
   have f:(q m (B+d)).tool=((q m (B+d)).parts[(q m (B+d)).part]'pt).2:=by unfold Jb.tool;rw[My pt];rfl
   refine⟨_,c,T,by rw[<-f];exact e1,o,?_,?_⟩
   ·have h1:=R.tot1 (i:=B+d) hm;rw[if_pos w]at h1;have h2:(q m (B+d)).tot-(q m B).tot=((q m (B+d)).spent:Int)-(q m B).spent:=by unfold Jb.tot Jb.cur;rw[R.wk hm (B+d),R.wk hm B,(R.stay hm (B+d)).1,(R.stay hm B).1,u,g];omega
    have:=ok.sp;show (q m (B+d+1)).tot-(q m B).tot<=_;omega
   ·unfold Jb.held;rw[if_neg v];have:(q m B).tool=(q m (B+d)).tool:=by unfold Jb.tool;rw[g,(R.stay hm B).1,(R.stay hm (B+d)).1]
    rw[this];exact e1
  ·have h1:=R.tot1 (i:=B+d) hm;rw[if_neg w]at h1;have x:=R.low_one a hm b d λt h1 h2=>hw t h1 (by omega)
   show (q m (B+d+1)).tot=_\/_;rw[h1,Int.add_zero];rcases x with e|⟨p,a1,T,a2,y,z,A⟩
   ·exact .inl e
   ·exact .inr ⟨p,a1,T,a2,y,by show (q m (B+d+1)).tot-_<=_;rw[h1,Int.add_zero];exact z,A⟩
theorem Trc.works (R:Trc tops n q who) (b:cn n rs):∀(d:Nat),(∀t,B<=t->t<B+d->who t≠none)->(rs.map λx=>(q x.toNat (B+d)).tot-(q x.toNat B).tot).sum=(d:Int)
 |0,_=>lK _ λx _=>by show (q x.toNat B).tot-(q x.toNat B).tot=0;omega
 |d+1,h=>by
  have c:=R.works b d λt h1 h2=>h t h1 (by omega)
  obtain⟨m,hm⟩:=Option.ne_none_iff_exists'.mp (h (B+d) (by omega) (by omega));have hit:=zP (m:=m) b.nd (λx j=>(b.rng x j).1) (b.mem (by omega) (by have:=R.lt hm;omega));have:(rs.map λx=>(q x.toNat (B+(d+1))).tot-(q x.toNat B).tot)=rs.map λx=>((q x.toNat (B+d)).tot-(q x.toNat B).tot)+(if m=x.toNat then (1:Int) else 0):=by
   refine Nv λx j=>?_
   have hx':=b.rng x j;have h1:=R.tot1 (i:=B+d) (m:=x.toNat) (by omega);show (q x.toNat (B+d+1)).tot-_=_;rw[h1,hm];by_cases e:m=x.toNat
   ·rw[if_pos (by rw[e]),if_pos e];omega
   ·rw[if_neg (by intro z;cases z;exact e rfl),if_neg e];omega
  rw[this];have add:∀(f g:Int->Int) (l:List Int),(l.map λx=>f x+g x).sum=(l.map f).sum+(l.map g).sum:=λf g l=>by
   induction l with
   |nil=>rfl
   |cons a r c=>simp only[N0,NO,c];omega
  rw[add,c,hit];omega
theorem B0 (h:JOk tops j) (hl:∀p,j.parts.getLast?=some p->p.2=none) (hc:j.cur=j.work-1):j.held=none:=by
 have pt:=h.pt;have hlen:j.len=j.parts[j.part].1:=by unfold Jb.len;rw[My pt];rfl
 have sp:=h.sp;have htk:=iN pt;have e:j.part+1=j.parts.length:=by
  by_cases z:j.part+1=j.parts.length
  ·exact z
  ·exfalso;have lt:j.part+1<j.parts.length:=by omega
   have h1:=iN lt;have h2:=lO h.ln (j.part+1+1);have h3:=h.ln _ (NL lt);unfold Jb.cur Jb.work at hc;omega
 have a:j.tool=none:=by unfold Jb.tool;rw[My pt];refine hl _ ?_;rw[List.getLast?_eq_getElem?,<-My pt];congr 1;omega
 unfold Jb.held;split
 ·rfl
 ·exact a
end
theorem BG (a:row.Pairwise (· < ·)) {k:Nat} (b:k<row.length):ej row (row[k]-1)=k:=by
 have h1:=oX b a (t:=row[k]-1) (by omega);by_cases z:k=0
 ·omega
 ·have h2:=oY (t:=row[k]-1) (k:=k-1) (by omega) a (by have:=List.pairwise_iff_getElem.mp a (k-1) k (by omega) b (by omega);omega)
  omega
theorem Fc {p:Nat} {m:Int} (h:m∈rs.take p):placeOf rs m<p:=by have e:placeOf (rs.take p++rs.drop p) m=placeOf (rs.take p) m:=yJ h;rw[Pb]at e;have h1:=kS h;rw[OI]at h1;omega
theorem uf {P:Nat->Prop} (a:P 0):∀c,∃B,B<=c/\P B/\∀b,B<b->b<=c->¬ P b
 |0=>⟨0,N7 _,a,λb h1 h2=>by omega⟩
 |c+1=>by
  by_cases h:P (c+1)
  ·exact⟨c+1,N7 _,h,λb h1 h2=>by omega⟩
  ·obtain⟨B,a1,a2,f⟩:=uf a c;refine⟨B,by omega,a2,λb h1 h2=>?_⟩;by_cases e:b=c+1
   ·subst e;exact h
   ·exact f b h1 (by omega)
section
variable {n:Nat} {q:Nat->Nat->Jb} {who:Nat->Option Nat}
theorem Trc.passed (R:Trc tops n q who) (hm:m<n) {v:Int}:∀(d:Nat),(q m B).tot<v->v<=(q m (B+d)).tot->∃t,B<=t/\t<B+d/\who t=some m/\(q m t).tot=v-1
 |0,h1,h2=>by rw[Nat.add_zero]at h2;omega
 |d+1,h1,h2=>by
  by_cases h:v<=(q m (B+d)).tot
  ·obtain⟨t,a1,a2,a⟩:=R.passed hm d h1 h;exact⟨t,a1,by omega,a⟩
  ·have:=R.tot1 (i:=B+d) hm;have h2:v<=(q m (B+d+1)).tot:=h2;by_cases w:who (B+d)=some m
   ·rw[if_pos w]at this;exact⟨B+d,by omega,by omega,w,by omega⟩
   ·rw[if_neg w]at this;omega
theorem Trc.answer (R:Trc tops n q who) (Q:pB tops n q who) (U:∀m,m<n->(q m 0).tot=0) (F:∀m,m<n->(q m 0).held=none) (E:cn n rs) (s:∀m,m<n->(q m 0).rank=(placeOf rs (m:Int):Int)) (pos:∀m,m<n->∀c∈(q m 0).row,0<=c)
  {a:Nat} (ha:a<n) {H:Int} {L:Nat} {tm:Int->Int} (G:0<=H) (hH:∀m,m<n->placeOf rs (a:Int)<placeOf rs (m:Int)->∀p∈(q m 0).parts,∀T,p.2=some T->fN tops T<=(placeOf rs (a:Int):Int)->p.1-1<=H)
  (f:∀p,(q a 0).parts.getLast?=some p->p.2=none) (C:∀m,m<n->placeOf rs (m:Int)<placeOf rs (a:Int)->∀B:Nat,(ej (q m 0).row ((B:Int)+L-1):Int)-ej (q m 0).row ((B:Int)-1)<=tm (m:Int))
  (hL:1<=L) (need:H+(q a 0).work+((rs.take (placeOf rs (a:Int))).map λx=>tm x*(q x.toNat 0).work).sum<=(L:Int)) (gap:∀k (h:k+1<(q a 0).row.length),(q a 0).row[k]+L<=(q a 0).row[k+1]) :
  ∀k (W:k<(q a 0).row.length),((k:Int)+1)*(q a 0).work<=(q a ((q a 0).row[k].toNat+L)).tot
 |k,W=>by
  have hs:=R.srt 0 ha;have c0:=pos a ha _ (NL W);have wp:=R.wpos ha 0
  -- the earlier ones are done when it comes
  have e1:(k:Int)*(q a 0).work<=(q a (q a 0).row[k].toNat).tot:=by
   by_cases z:k=0
   ·subst z;have:=R.mono ha (NY (q a 0).row[0].toNat);rw[U a ha]at this;simpa using this
   ·have I:k-1<(q a 0).row.length:=by omega
    have ih:=R.answer Q U F E s pos ha G hH f C hL need gap (k-1) I;have g:=gap (k-1) (by omega);have ek:k-1+1=k:=by omega
    simp only[ek]at g;have c1:=pos a ha _ (NL I);have m1:=R.mono ha (i:=(q a 0).row[k-1].toNat+L) (j:=(q a 0).row[k].toNat) (by omega);rw[show ((k-1:Nat):Int)+1=(k:Int) by omega]at ih;exact Int.le_trans ih m1
  have e2:(q a (q a 0).row[k].toNat).tot<=(k:Int)*(q a 0).work:=by
   by_cases z:(q a 0).row[k].toNat=0
   ·rw[z,U a ha];exact Pe (by omega) (by omega)
   ·have:=R.come ha ((q a 0).row[k].toNat-1);rw[show (q a 0).row[k].toNat-1+1=(q a 0).row[k].toNat by omega,show (((q a 0).row[k].toNat-1:Nat):Int)=(q a 0).row[k]-1 by omega,BG hs W]at this;exact this
  generalize hc:(q a 0).row[k].toNat=c at *;have hcI:(q a 0).row[k]=(c:Int):=by omega
  refine Int.not_lt.mp λno=>?_
  -- the last time Y to its coming at which nothing higher is left from before
  obtain⟨B,b1,b2,b3⟩:=uf (P:=λb=>∀m,m<n->placeOf rs (m:Int)<placeOf rs (a:Int)->Trc.Clr q m b) (λm hm _=>by unfold Trc.Clr;rw[U m hm,i7 (λc hc=>by have:=pos m hm c hc;omega)];simp) c
  have Y:∀t,B<=t->t<c->∃p,p<n/\(q p t).there (t:Int)=true/\(q p t).rank<(q a 0).rank:=λt h1 h2=>by have D:=b3 (t+1) (by omega) (by omega);obtain⟨m,D⟩:=Classical.not_forall.mp D;obtain⟨hm,D⟩:=Classical.not_forall.mp D;obtain⟨Z,D⟩:=Classical.not_forall.mp D;refine⟨m,hm,(R.not_clr hm D).1,?_⟩;rw[(R.stay hm t).2.2,s m hm,s a ha];omega
  have self:∀t,c<=t->t<c+L->(q a t).there (t:Int)=true:=λt h1 h2=>by refine R.left ha ?_;have J:=oY W hs (t:=(t:Int)) (by omega);have h4:=R.mono ha (i:=t) (j:=c+L) (by omega);have h5:=NK (a:=(k:Int)+1) (b:=(ej (q a 0).row (t:Int):Int)) (c:=(q a 0).work) (by omega) (by omega);omega
  have K:∀t,B<=t->t<B+L->∃p,p<n/\(q p t).there (t:Int)=true/\(q p t).rank<=(q a 0).rank:=λt h1 h2=>by
   by_cases z:t<c
   ·obtain⟨p,x1,x2,x3⟩:=Y t h1 z;exact⟨p,x1,x2,by omega⟩
   ·exact⟨a,ha,self t (by omega) (by omega),by rw[(R.stay ha t).2.2];exact Ob _⟩
  -- its own earlier jobs are done by then
  have own:(k:Int)*(q a 0).work<=(q a B).tot:=by
   refine Int.not_lt.mp λlt=>?_
   obtain⟨t,h1,h2,w,J⟩:=R.passed ha (B:=B) (v:=(k:Int)*(q a 0).work) (c-B) lt (by rw[show B+(c-B)=c by omega];exact e1);obtain⟨p,x1,x2,x3⟩:=Y t h1 (by omega);obtain⟨T,X,_⟩:=R.below Q w x1 x2 (Ob _) (by rw[(R.stay ha t).2.2];exact x3);have ok:=R.ok t ha;have M:(q a t).cur=(q a t).work-1:=by
    have cb:=lG ok;have e:(q a t).tot=((q a t).job:Int)*(q a t).work+(q a t).cur:=rfl;rw[J,R.wk ha t]at e;rw[R.wk ha t]at cb ⊢;have hj:((q a t).job:Int)<k:=by
     refine Int.not_le.mp λz=>?_
     have:=NK (a:=(k:Int)) (b:=((q a t).job:Int)) (c:=(q a 0).work) z (by omega);omega
    have hj2:(k:Int)<=(q a t).job+1:=by
     refine Int.not_lt.mp λz=>?_
     have:=NK (a:=((q a t).job:Int)+2) (b:=(k:Int)) (c:=(q a 0).work) (by omega) (by omega);rw[OP]at this;omega
    have:(k:Int)=(q a t).job+1:=by omega
    rw[this,OP]at e;omega
   rw[B0 ok (by rw[(R.stay ha t).1];exact f) M]at X;cases X
  -- all that is done from there on
  have sum:=R.works E (B:=B) L λt h1 h2 z=>by obtain⟨p,x1,x2,_⟩:=K t h1 h2;rw[R.idl z x1]at x2;cases x2
  have N:(a:Int)∈rs:=E.mem (by omega) (by omega);have u:=kA N;have O:placeOf rs (a:Int)<rs.length:=by
   refine Nat.not_le.mp λz=>?_
   rw[Ox z]at u;cases u
  have split:rs=rs.take (placeOf rs (a:Int))++(a:Int)::rs.drop (placeOf rs (a:Int)+1):=by
   conv=>lhs;rw[<-Pb (placeOf rs (a:Int)) rs]
   congr 1;rw[Oz O];rw[My O]at u;rw[Option.some.inj u]
  have s1:((rs.take (placeOf rs (a:Int))).map λx=>(q x.toNat (B+L)).tot-(q x.toNat B).tot).sum<=((rs.take (placeOf rs (a:Int))).map λx=>tm x*(q x.toNat 0).work).sum:=An λx o=>by
   have hxr:=E.rng x (Oc o);have A:x.toNat<n:=by omega
   have ex:((x.toNat:Nat):Int)=x:=by omega
   have Z:placeOf rs ((x.toNat:Nat):Int)<placeOf rs (a:Int):=by rw[ex];exact Fc o
   have h1:=b2 x.toNat A Z;unfold Trc.Clr at h1;have h2:=R.come A (B+L-1);rw[show B+L-1+1=B+L by omega,show ((B+L-1:Nat):Int)=(B:Int)+L-1 by omega]at h2;have J:=C x.toNat A Z B;rw[ex]at J;have h4:=NK J (Int.le_of_lt (R.wpos A 0));rw[Int.sub_mul]at h4;show (q x.toNat (B+L)).tot-(q x.toNat B).tot<=tm x*(q x.toNat 0).work;omega
  have s2:((rs.drop (placeOf rs (a:Int)+1)).map λx=>(q x.toNat (B+L)).tot-(q x.toNat B).tot).sum<=H:=by
   have nd:=E.nd;have l:∀x∈rs.drop (placeOf rs (a:Int)+1),x.toNat<n/\((x.toNat:Nat):Int)=x/\placeOf rs (a:Int)<placeOf rs ((x.toNat:Nat):Int):=λx o=>by
    have hxr:=E.rng x (OA o);have ex:((x.toNat:Nat):Int)=x:=by omega
    refine⟨by omega,ex,?_⟩;rw[ex];refine Nat.not_le.mp λz=>?_
    obtain⟨i,hi,e⟩:=OD o;rw[List.getElem_drop]at e;have h5:=kA (OA o);have hi2:placeOf rs (a:Int)+1+i<rs.length:=by rw[OJ]at hi;omega
    have h6:placeOf rs x<rs.length:=by omega
    rw[My h6]at h5;exact (List.pairwise_iff_getElem.mp nd (placeOf rs x) (placeOf rs (a:Int)+1+i) h6 hi2 (by omega)) ((Option.some.inj h5).trans e.symm)
   refine Ax (P:=λx=>∃T,(q x.toNat B).held=some T/\fN tops T<=(q a 0).rank) G (List.Nodup.sublist (List.drop_sublist _ _) nd) (λx o=>?_) (λx o y hy hX hY=>?_)
   ·obtain⟨x1,x2,x3⟩:=l x o;rcases R.low_one Q x1 (B:=B) (r:=(q a 0).rank) (by rw[s _ x1,s a ha];omega) L K with e|⟨p,p1,T,p2,p3,p4,p5⟩
    ·left;show (q x.toNat (B+L)).tot-(q x.toNat B).tot=0;omega
    ·right;refine⟨⟨T,p5,p3⟩,?_⟩;have:=hH _ x1 x3 p p1 T p2 (by rw[<-s a ha];exact p3);show (q x.toNat (B+L)).tot-(q x.toNat B).tot<=H;omega
   ·obtain⟨x1,x2,x3⟩:=l x o;obtain⟨y1,y2,y3⟩:=l y hy;obtain⟨S,hS,lS⟩:=hX;obtain⟨T,X,lT⟩:=hY;by_cases e:x.toNat=y.toNat
    ·omega
    ·exfalso;have hx4:=s _ x1;have hy4:=s _ y1;have ha4:=s a ha;rcases R.pair Q F B x1 y1 e hS X with z|z
     ·rw[(R.stay x1 B).2.2]at z;omega
     ·rw[(R.stay y1 B).2.2]at z;omega
  have s3:(q a (B+L)).tot-(q a B).tot<=(q a 0).work-1:=by have:=R.mono ha (i:=B+L) (j:=c+L) (by omega);rw[OP]at no;omega
  rw[split,NQ,List.sum_append,N0,NO]at sum;rw[show ((a:Int)).toNat=a by omega]at sum;omega
end
theorem nA (l:PTl) (k:Int×Int) (v:Int) (a:Int×Int):dO (qM l k v) a=if a=k then some v else dO l a:=by
 unfold qM;by_cases ha:(l.any λp=>decide (p.1=k))=true
 ·rw[if_pos ha];unfold dO
  induction l with
  |nil=>cases ha
  |cons p r ih =>
   rw[N0];by_cases z:p.1=k
   ·rw[if_pos z,NN,NN];by_cases y:a=k
    ·rw[if_pos y];have:decide (p.1=a)=true:=decide_eq_true (by rw[z,y]);simp only[this];rfl
    ·rw[if_neg y];have:decide (p.1=a)=false:=decide_eq_false λq=>y (q.symm.trans z)
     simp only[this];cases b:(r.any λp=>decide (p.1=k)) with
     |true=>rw[ih b,if_neg y]
     |false =>
      have:r.map (λp=>if p.1=k then (p.1,v) else p)=r:=by
       have h:∀q∈r,(λp:(Int×Int)×Int=>if p.1=k then (p.1,v) else p) q=id q:=λq c=>if_neg λe=>by have:=List.any_eq_false.mp b q c;exact this (decide_eq_true e)
       rw[Nv h,O2]
      rw[this]
   ·rw[if_neg z,NN,NN];have b:(r.any λp=>decide (p.1=k))=true:=by rw[Oy,decide_eq_false z,Bool.false_or]at ha;exact ha
    by_cases y:p.1=a
    ·simp only[decide_eq_true y];rw[if_neg λq=>z (y.trans q)]
    ·simp only[decide_eq_false y];exact ih b
 ·rw[if_neg ha];unfold dO;rw[List.find?_append];by_cases y:a=k
  ·rw[if_pos y];have:l.find? (λp=>decide (p.1=a))=none:=OF.mpr λp f q=>ha (Ow.mpr ⟨p,f,by rw[<-y];exact q⟩)
   rw[this,y];show ((([(k,v)]:PTl).find? λp=>decide (p.1=k))).map (·.2)=_;rw[NN];simp
  ·rw[if_neg y];have:([(k,v)]:PTl).find? (λp=>decide (p.1=a))=none:=by
    rw[NN];have:decide (k=a)=false:=decide_eq_false λq=>y q.symm
    simp only[this];rfl
   rw[this,Option.or_none]
def vc (d:PyData):Prop:=d=.none\/∃k:Int×Int,d=.tuple [.int k.1,.int k.2]
def endsF:Nat->List PyData->PTl->PTl
 |_,[],l=>l
 |i,d::r,l=>endsF (i+1) r (match iZ d with
  |some k=>qM l k ((i:Int)+1)
  |none=>l)
theorem sP {k:Int×Int}:∀(t:List PyData) (i:Nat) (l:PTl) {v:Int},dO (endsF i t l) k=some v->(∃(j:Nat) (d:PyData),t[j]?=some d/\iZ d=some k/\v=(i:Int)+j+1)\/dO l k=some v
 |[],i,l,v,h=>.inr h
 |d::r,i,l,v,h=>by
  unfold endsF at h;rcases sP r (i+1) _ h with⟨j,e,h1,h2,h3⟩|h
  ·exact .inl ⟨j+1,e,h1,h2,by omega⟩
  ·split at h
   ·rename_i k0 a;rw[nA]at h;split at h
    ·rename_i z;cases h;exact .inl ⟨0,d,rfl,by rw[a,z],by omega⟩
    ·exact .inr h
   ·exact .inr h
theorem xr {k:Int×Int}:∀(t:List PyData) (i:Nat) (l:PTl),((∃(j:Nat) (d:PyData),t[j]?=some d/\iZ d=some k)\/∃v,dO l k=some v)->∃v,dO (endsF i t l) k=some v
 |[],i,l,h=>by
  rcases h with⟨j,d,h,_⟩|h
  ·simp at h
  ·exact h
 |d::r,i,l,h=>by
  unfold endsF;refine xr r (i+1) _ ?_;rcases h with⟨j,e,h1,h2⟩|⟨v,h⟩
  ·cases j with
   |zero =>cases h1;right;rw[h2];exact⟨_,by show dO (qM l k _) k=_;rw[nA,if_pos rfl]⟩
   |succ j=>exact .inl ⟨j,e,h1,h2⟩
  ·right;split
   ·rename_i k0 hk;rw[nA];split
    ·exact⟨_,rfl⟩
    ·exact⟨v,h⟩
   ·exact⟨v,h⟩
theorem C3 (l:PTl) (k:Int×Int) (v:Int):(qM l k v).length<=l.length+1:=by unfold qM;split <;> simp
def anD (W D:PyData) (l:PTl) (x3 x4:Option PyData):Ds:=[some W,some D,some (dtD l),x3,x4]
def anB:Ds->Sr:=sIf (gT (g1 iJ (af 4))) (nE 2 (af 4) (g2 aX (af 3) (gC (.int 1)))) ba
theorem F5 {W D d:PyData} {l:PTl} (hd:vc d) (hl:l.length<1000000):anB (anD W D l (some (.int (i:Int))) (some d))=.nx (anD W D (match iZ d with
  |some k=>qM l k ((i:Int)+1)
  |none=>l) (some (.int (i:Int))) (some d)):=by
 rcases hd with rfl|⟨k,rfl⟩
 ·rfl
 ·have e:anB (anD W D l (some (.int (i:Int))) (some (.tuple [.int k.1,.int k.2])))=nE 2 (af 4) (g2 aX (af 3) (gC (.int 1))) (anD W D l (some (.int (i:Int))) (some (.tuple [.int k.1,.int k.2]))):=rfl;rw[e];unfold nE;show (match zE (dtD l) with
   |some l=>_
   |none=>_)=_
  rw[Ac];show (if l.length<1000000 then _ else _)=_;rw[if_pos hl];rfl
theorem Bc {W D:PyData}:∀(t:List PyData) (i:Nat) (l:PTl) (x3 x4:Option PyData),(∀d∈t,vc d)->l.length+t.length<1000000->∃a b,forL (iu [3,4]) anB (pY i t) (anD W D l x3 x4)=.nx (anD W D (endsF i t l) a b)
 |[],i,l,x3,x4,_,_=>⟨x3,x4,rfl⟩
 |d::r,i,l,x3,x4,h,hl=>by
  rw[Nu]at hl;rw[rn,sk (δ1:=anD W D l (some (.int (i:Int))) (some d)) rfl (F5 (h d N3) (by omega))];refine Bc r (i+1) _ _ _ (λe c=>h e (N2 _ c)) ?_;split
  ·have:=C3 l ‹_› ((i:Int)+1);omega
  ·omega
theorem sU {α:Type} {f:α->PyData} {elt:Ds->Rs PyData} {δ:Ds} {g:Nat->α->PyData}:∀(l:List α) (i:Nat),(∀(j:Nat) a,l[j]?=some a->elt (δ++[some (.int ((i+j:Nat):Int)),some (f a)])=.ok (g (i+j) a))->eF bH elt eO δ (pY i (l.map f))=.ok (l.mapIdx λj a=>g (i+j) a)
 |[],_,_=>rfl
 |a::r,i,h=>by
  have e:=sU r (i+1) λj b m=>by have:=h (j+1) b m;rw[show i+(j+1)=i+1+j by omega]at this;exact this
  rw[N0,rn];unfold eF;have c:=h 0 a rfl;rw[Nat.add_zero]at c;simp only[eO,bH,Rs.cW,Rs.ag,if_true,c,e];rw[P7,Nat.add_zero];congr 3;funext j b;rw[show i+(j+1)=i+1+j by omega]
theorem zU (l:List PyData):fO l=pY 0 l:=by unfold fO pY;congr 1;funext i d;rw[O5]
theorem pF {f:α->PyData} {elt:Ds->Rs PyData} {g:Nat->α->PyData} {l:List α} (hn:δ.length=n0) (b:src δ=.ok (fO (l.map f))) (hl:l.length<=1000000) (h:∀(j:Nat) a,l[j]?=some a->elt (δ++[some (.int (j:Int)),some (f a)])=.ok (g j a)):bw n0 src bH elt eO δ=.ok (l.mapIdx g):=by
 unfold bw;rw[if_pos hn,b,Rs.ag,if_pos (by rw[iK,N4];exact hl),zU];have:=sU (f:=f) (elt:=elt) (δ:=δ) (g:=g) l 0 λj a e=>by rw[O5];exact h j a e
 rw[this];congr 2;funext j a;rw[O5]
theorem uI (h:δ[i]?=some (some (.list ds))) (hl:ds.length<=1000000):fw (ae (af i) ah) δ=.ok (fO ds):=by
 have e:af i δ=.ok (.list ds):=by unfold af;rw[h]
 unfold fw;rw[aA,e,aG];rfl
def cT (cs:Cs):Gf:=gfG 3 0 (eW cs)
def xl (l:PTl) (n k:Nat) (c:Int):PyData:=.int ((dO l ((n:Int),(k:Int))).getD 0-c)
theorem rG {n:Nat} {l:PTl} (hl:row.length<=1000) (h:∀k,k<row.length->∃v,dO l ((n:Int),(k:Int))=some v):cT cs [.int (n:Int),cC row,dtD l]=.ok (.list (row.mapIdx (xl l n))):=by
 have b:bw 3 (fw (ae (af 1) ah)) bH (g2 fo (DK (af 2) (hZ (ae (af 0) (ae (af 3) ah)))) (af 4)) eO [some (.int (n:Int)),some (cC row),some (dtD l)]=.ok (row.mapIdx (xl l n)):=by
  refine pF (f:=PyData.int) rfl (uI rfl (by rw[N4];omega)) (by omega) λj a e=>?_
  obtain⟨v,hv⟩:=h j (ND.mp e).1;have h1:DK (af 2) (hZ (ae (af 0) (ae (af 3) ah))) [some (.int (n:Int)),some (cC row),some (dtD l),some (.int (j:Int)),some (.int a)]=.ok (.int v):=by
   show (match zE (dtD l),iZ (.tuple [.int (n:Int),.int (j:Int)]) with
    |some l,some k=>(match dO l k with
     |some v=>Rs.ok (PyData.int v)
     |none=>.no)
    |_,_=>.no)=_
   rw[Ac];show (match dO l ((n:Int),(j:Int)) with
     |some v=>Rs.ok (PyData.int v)
     |none=>.no)=_
   rw[hv]
  show g2 fo _ (af 4) [some (.int (n:Int)),some (cC row),some (dtD l),some (.int (j:Int)),some (.int a)]=_;rw[AR (x:=.int v) (y:=.int a) (z:=.int (v-a)) h1 rfl rfl];unfold xl;rw[hv];rfl
 show a8 (eW cs [some (.int (n:Int)),some (cC row),some (dtD l)])=_;unfold eW;simp only[bM,rD,b,Rs.ag,av,aT]
def cR (cs:Cs):Gf:=gfG 2 3 (fi cs (cT cs))
theorem rY {t:List PyData} (hr:rows.length<=1000) (hl:∀r∈rows,r.length<=1000) (i:∀d∈t,vc d) (tl:t.length<1000000) (h:∀(n:Nat) (row:List Int),rows[n]?=some row->∀k,k<row.length->∃v,dO (endsF 0 t []) ((n:Int),(k:Int))=some v) :
  cR cs [cmD rows,.list t]=.ok (.list (rows.mapIdx λn row=>.list (row.mapIdx (xl (endsF 0 t []) n)))):=by
 show a8 (fi cs (cT cs) [some (cmD rows),some (.list t),none,none,none])=_;unfold fi;have e1:zZ 2 [some (cmD rows),some (.list t),none,none,none]=.nx (anD (cmD rows) (.list t) [] none none):=rfl;rw[j8 e1];obtain⟨b,c,e2⟩:=Bc (W:=cmD rows) (D:=.list t) t 0 [] none none i (by simpa using tl);have g:fW [2] (fw (ae (af 1) ah)) (iu [3,4]) anB (anD (cmD rows) (.list t) [] none none)=.nx (anD (cmD rows) (.list t) (endsF 0 t []) b c):=by rw[DJ (ds:=fO t) (uI rfl (by omega)),zU,e2]
 unfold anB at g;rw[j8 g];have l:bw 5 (fw (ae (af 0) ah)) bH (aq (cT cs) (ae (af 5) (ae (af 6) (ae (af 2) ah)))) eO (anD (cmD rows) (.list t) (endsF 0 t []) b c)=.ok (rows.mapIdx λn row=>.list (row.mapIdx (xl (endsF 0 t []) n))):=by
  refine pF (f:=cC) rfl (uI rfl (by rw[N4];omega)) (by omega) λj a e=>?_
  exact ia rfl (rG (hl a (NV e)) (h j a e))
 simp only[bM,rD,l,Rs.ag,av,aT]
theorem Ee {len:Str} (R:Ran es rs rows len):HvJ (aH es rs) (startJ es rs rows):=by
 refine⟨λi hi j f T h1 h2=>?_,λj f p g T e=>?_⟩
 ·obtain⟨k,row,_,_,_,rfl⟩:=dH hi;cases h1
 ·obtain⟨k,row,hk,_,_,rfl⟩:=dH f;have hln:=R.ln;have h:(0:Int)<=(k:Int):=by omega
  have h1:(k:Int)<es.length:=by omega
  have ok:=R.eok.ok _ (cy h h1);obtain⟨l,m⟩:=(ok.pl p g).2.2 T e;have o:(aW es (k:Int)).has T=true:=by unfold Er.has;rw[Ow];exact⟨p,g,by rw[e];exact beq_self_eq_true _⟩
  have hm:=R.rok.mem h h1;have a:=kS hm;have b:rs[placeOf rs (k:Int)]?=some (k:Int):=by have:=List.findIdx_getElem (xs:=rs) (p:=(·==(k:Int))) (w:=a);rw[My a];exact congrArg some (eq_of_beq this)
  have c:(k:Int)∈rs.take (placeOf rs (k:Int)+1):=by rw[List.take_succ,b];exact N8 _ N3
  obtain⟨n,hn,hle⟩:=(pC es T rs 0 (placeOf rs (k:Int))).mpr ⟨(k:Int),c,o⟩;have:fN (aH es rs) T=n:=by unfold fN;rw[kZ l m hn]
  rw[this];show n<=(placeOf rs (k:Int):Int);omega
def hdD (C:Addr) (m k t l:Int):PyData:=EW C [("number",.int m),("part",.int k),("tool",.int t),("times",.int l)]
def iI (C:Addr) (es:List Er) (rs:List Int) (pl m k:Int) (p:Int×Option Int):List PyData:=match p.2 with
 |some t=>(match bo es rs t with
  |some h=>if h<=pl then [hdD C m k t (p.1-1)] else []
  |none=>[])
 |none=>[]
def hdM (C:Addr) (es:List Er) (rs:List Int) (pl m:Int):Nat->List (Int×Option Int)->List PyData
 |_,[]=>[]
 |k,p::r=>iI C es rs pl m k p++hdM C es rs pl m (k+1) r
def gO (C:Addr) (es:List Er) (rs:List Int) (pl:Int):List Int->List PyData
 |[]=>[]
 |m::r=>hdM C es rs pl m 0 (aW es m).parts++gO C es rs pl r
theorem tL (C:Addr) (es:List Er) (rs:List Int) (pl m k:Int) (p:Int×Option Int):(iI C es rs pl m k p).length<=1:=by
 unfold iI;split
 ·split
  ·split <;> simp
  ·simp
 ·simp
theorem ux (C:Addr) (es:List Er) (rs:List Int) (pl m:Int):∀(ps:List (Int×Option Int)) (k:Nat),(hdM C es rs pl m k ps).length<=ps.length
 |[],_=>by simp[hdM]
 |p::r,k=>by have h1:=tL C es rs pl m k p;have h2:=ux C es rs pl m r (k+1);unfold hdM;rw[Nl,Nu];omega
abbrev DX (cs:Cs):Ds->Sr:=hV [5] 5 (aq (tG cs.Holding ["number", "part", "tool", "times"]) (ae (af 6) (ae (af 7) (ae (g2 dIx (af 8) (gC (.int 1))) (ae (g2 fo (g2 dIx (af 8) (gC (.int 0))) (gC (.int 1))) ah)))))
abbrev lq (cs:Cs):Ds->Sr:=sIf (rL (gT (g1 iJ (g2 dIx (af 8) (gC (.int 1))))) (gT (g2 dLe (g2 dIx (af 4) (g2 dIx (af 8) (gC (.int 1)))) (af 3)))) (DX cs) ba
theorem Gp (cs:Cs) (es:List Er) (rs:List Int) (E R n:PyData) (pl:Nat) (m:Int) (a:List PyData) (c:∀t:Int,0<=t->t<=3->atI a t=some (bO (bo es rs t))) (p:Int×Option Int) (k:Nat) (acc:List PyData) (hl:acc.length<1000000) (h:∀t,p.2=some t->0<=t/\t<=3/\∃h,bo es rs t=some h) :
  lq cs [some E,some R,some n,some (.int pl),some (.list a),some (.list acc),some (.int m),some (.int k),some (aS p)]
   =.nx [some E,some R,some n,some (.int pl),some (.list a),some (.list (acc++iI cs.Holding es rs pl m k p)),some (.int m),some (.int k),some (aS p)]:=by
 obtain⟨l,o⟩:=p;cases o with
 |none=>simp[lq,Dz,bO,iI]
 |some t =>
  obtain⟨i,j,e,g⟩:=h t rfl;have ha:=c t i j;rw[g]at ha;have e1:dIx (aS (l,some t)) (.int 1)=some (.int t):=rfl;have q:dIx (aS (l,some t)) (.int 0)=some (.int l):=rfl;have b:dIx (.list a) (.int t)=some (.int e):=ha;have add:DX cs [some E,some R,some n,some (.int pl),some (.list a),some (.list acc),some (.int m),some (.int k),some (aS (l,some t))]=.nx [some E,some R,some n,some (.int pl),some (.list a),some (.list (acc++[hdD cs.Holding m k t (l-1)])),some (.int m),some (.int k),some (aS (l,some t))]:=by unfold DX hV;simp only[Od,Oe];simp only[bf,aA,aG,bN,aB (show 6∉[5] by decide),aB (show 7∉[5] by decide),aB (show 8∉[5] by decide),ao,ar,cB,Rs.ag,e1,q,oz,Rs.ai];have hm:tG cs.Holding ["number", "part", "tool", "times"] [.int m,.int (k:Int),.int t,.int (l-1)]=.ok (hdD cs.Holding m k t (l-1)):=rfl;rw[hm,av,if_pos hl];rfl
  have f:iI cs.Holding es rs pl m k (l,some t)=if e<=(pl:Int) then [hdD cs.Holding m k t (l-1)] else []:=by unfold iI;simp only[g]
  rw[f];by_cases hle:e<=(pl:Int)
  · rw[if_pos hle,<-add];simp[lq,e1,b,hle]
  · rw[if_neg hle,O8];simp[lq,e1,b,hle]
theorem xO (cs:Cs) (es:List Er) (rs:List Int) (E R n:PyData) (pl:Nat) (m:Int) (a:List PyData) (b:∀t:Int,0<=t->t<=3->atI a t=some (bO (bo es rs t))):∀(ps:List (Int×Option Int)) (k:Nat) (acc:List PyData) (x7 x8:Option PyData),acc.length+ps.length<1000000->(∀p∈ps,∀t,p.2=some t->0<=t/\t<=3/\∃h,bo es rs t=some h) ->
  ∃c f,forL (iu [7,8]) (lq cs) ((ps.map aS).mapIdx λi d=>.tuple [.int ((k+i:Nat):Int),d])
    [some E,some R,some n,some (.int pl),some (.list a),some (.list acc),some (.int m),x7,x8]
   =.nx [some E,some R,some n,some (.int pl),some (.list a),some (.list (acc++hdM cs.Holding es rs pl m k ps)),some (.int m),c,f]
 |[],k,acc,x7,x8,_,_=>⟨x7,x8,by simp[forL,hdM]⟩
 |p::r,k,acc,x7,x8,hz,h=>by
  have hz':acc.length+(r.length+1)<1000000:=hz;have hl1:=tL cs.Holding es rs pl m k p;obtain⟨c,f,e⟩:=xO cs es rs E R n pl m a b r (k+1) (acc++iI cs.Holding es rs pl m k p) (some (.int (k:Int))) (some (aS p)) (by rw[Nl];omega) (λq g=>h q (N2 _ g));refine⟨c,f,?_⟩;rw[N0,P7];unfold forL;have e1:iu [7,8] (PyData.tuple [.int ((k+0:Nat):Int),aS p]) [some E,some R,some n,some (.int pl),some (.list a),some (.list acc),some (.int m),x7,x8]=some [some E,some R,some n,some (.int pl),some (.list a),some (.list acc),some (.int m),some (.int (k:Int)),some (aS p)]:=rfl;rw[e1];simp only[Gp cs es rs E R n pl m a b p k acc (by omega) (h p N3)];have j:(λ(i:Nat) (d:PyData)=>PyData.tuple [.int ((k+(i+1):Nat):Int),d])=λi d=>.tuple [.int ((k+1+i:Nat):Int),d]:=by funext i d;rw[show k+(i+1)=k+1+i by omega]
  rw[j,e];rw[show hdM cs.Holding es rs pl m k (p::r)=iI cs.Holding es rs pl m k p++hdM cs.Holding es rs pl m (k+1) r from rfl,Ot]
theorem xv {es:List Er} {rs:List Int} (cs:Cs) (f:∀e∈es,e.Sh) (w:cn es.length rs) (n:PyData) (pl:Nat):∀(l:List Int) (acc:List PyData) (x6 x7 x8:Option PyData),acc.length+1000*l.length<1000000->(∀m∈l,m∈rs) ->
  ∃q s u,forL (bB 6) (fW [5] (fw (ae (g2 dIx (g2 dIx (af 0) (af 6)) (gC (.int 3))) ah)) (iu [7,8]) (lq cs)) (l.map PyData.int)
    [some (ay es),some (au rs),some n,some (.int pl),some (aH es rs),some (.list acc),x6,x7,x8]
   =.nx [some (ay es),some (au rs),some n,some (.int pl),some (aH es rs),some (.list (acc++gO cs.Holding es rs pl l)),q,s,u]
 |[],acc,x6,x7,x8,_,_=>⟨x6,x7,x8,by simp[forL,gO]⟩
 |m::r,acc,x6,x7,x8,hz,h=>by
  have hz':acc.length+1000*(r.length+1)<1000000:=hz;have hm:=h m N3;have g:=w.rng m hm;have j:=f _ (cy g.1 (by omega));have hpn:=j.pn;have hml:=ux cs.Holding es rs pl m (aW es m).parts 0;obtain⟨y,z,e1⟩:=xO cs es rs (ay es) (au rs) n pl m ((List.range 4).map λ(t:Nat)=>bO (bo es rs t)) (λt a b=>xV a b) (aW es m).parts 0 acc x7 x8 (by omega) λp A t o=>by obtain⟨_,_,c⟩:=j.pl p A;have:=c t o;exact⟨this.1,this.2,pK es t rs 0 m hm (KL A o)⟩
  obtain⟨q,s,u,e2⟩:=xv cs f w n pl r (acc++hdM cs.Holding es rs pl m 0 (aW es m).parts) (some (.int m)) y z (by rw[Nl];omega) λx B=>h x (N2 _ B)
  refine⟨q,s,u,?_⟩;rw[N0];unfold forL;have a2:atI (es.map Er.d) m=some (aW es m).d:=jf g.1 (by omega);have src:fw (ae (g2 dIx (g2 dIx (af 0) (af 6)) (gC (.int 3))) ah) (mask [5] [some (ay es),some (au rs),some n,some (.int pl),some (aH es rs),some (.list acc),some (.int m),x7,x8])=.ok (((aW es m).parts.map aS).mapIdx λi d=>.tuple [.int ((0+i:Nat):Int),d]):=by simp only[AV,aA,aG,bN,aB (show 0∉[5] by decide),aB (show 6∉[5] by decide),ao,ar,cB,Rs.ag,ay,xM,a2,Rs.ai,F4,A1,fO,O5]
  have o:bB 6 (.int m) [some (ay es),some (au rs),some n,some (.int pl),some (aH es rs),some (.list acc),x6,x7,x8]=some [some (ay es),some (au rs),some n,some (.int pl),some (aH es rs),some (.list acc),some (.int m),x7,x8]:=rfl;have v:forL (iu [7,8]) (lq cs) (((aW es m).parts.map aS).mapIdx λi d=>.tuple [.int ((0+i:Nat):Int),d]) [some (ay es),some (au rs),some n,some (.int pl),some (aH es rs),some (.list acc),some (.int m),x7,x8]=.nx [some (ay es),some (au rs),some n,some (.int pl),some (aH es rs),some (.list (acc++hdM cs.Holding es rs pl m 0 (aW es m).parts)),some (.int m),y,z]:=e1;rw[o];simp only[kQ,src,av,v,e2];rw[show gO cs.Holding es rs pl (m::r)=hdM cs.Holding es rs pl m 0 (aW es m).parts++gO cs.Holding es rs pl r from rfl,Ot]
def cH (cs:Cs):Gf
 |[d,r,.int n]=>if okW d r n then .ok (.list (gO cs.Holding (cO d) (cf r) (placeOf (cf r) n) ((cf r).drop (placeOf (cf r) n+1)))) else .no
 |_=>.no
theorem kh (cs:Cs) (h1:1<=es.length) (h2:es.length<=6) (h:∀e∈es,e.Wk) (a:cn es.length rs) (n0:0<=n) (n1:n<es.length):cH cs [ay es,au rs,.int n]=.ok (.list (gO cs.Holding es rs (placeOf rs n) (rs.drop (placeOf rs n+1)))):=by unfold cH;simp only[nK h1 h2 h a n0 n1,if_true,eZ,eM]
theorem yN (cs:Cs):LLq (jc cs aP) 3 6 (cH cs):=by
 intro ds hl a;obtain⟨d,r,n,i,h⟩:=ky a;clear a;subst i;have a:=h;clear h
 ·skip
  split at a
  ·rename_i hc;obtain⟨es,rs,rfl,rfl,_,_,l1,l6,hok,b,n0,n1⟩:=gH hc;rw[kh cs l1 l6 hok b n0 n1];have c:∀e∈es,e.Sh:=λe j=>(hok e j).sh
   have f:=b.mem n0 (by omega);have g:=kl f;have l:=fB (by omega) c b;have hrl:=b.len;obtain⟨y6,y7,y8,e⟩:=xv cs c b (.int n) (placeOf rs n) (rs.drop (placeOf rs n+1)) [] none none none (by rw[OJ];simp;omega) (λm hm=>OA hm);have src:cz (lj (af 1) (qr (g2 aX (af 3) (gC (.int 1)))) km) (mask [5] [some (ay es),some (au rs),some (.int n),some (.int (placeOf rs n)),some (aH es rs),some (.list []),none,none,none])=.ok ((rs.drop (placeOf rs n+1)).map PyData.int):=by simp only[yY,wZ,zX,tP,bN,aB (show 1∉[5] by decide),aB (show 3∉[5] by decide),ao,ar,cB,Rs.ag,d6,Rs.ai,Ae,au,Eb,EJ];rw[show (placeOf rs n:Int)+1=((placeOf rs n+1:Nat):Int) by omega,DZ,List.map_drop]
   have o:aQ [5] 3 (rm (af 1) (af 2)) [some (ay es),some (au rs),some (.int n),none,none,none,none,none,none]=.nx [some (ay es),some (au rs),some (.int n),some (.int (placeOf rs n)),none,none,none,none,none]:=by rw[fT,if_pos (by simp)];simp only[zy,aB (show 1∉[5] by decide),aB (show 2∉[5] by decide),ao,ar,Rs.ag,au,g,Rs.ai,av];rfl
   have s2:aQ [5] 4 (aq aP (ae (af 0) (ae (af 1) ah))) [some (ay es),some (au rs),some (.int n),some (.int (placeOf rs n)),none,none,none,none,none]=.nx [some (ay es),some (au rs),some (.int n),some (.int (placeOf rs n)),some (aH es rs),none,none,none,none]:=by rw[fT,if_pos (by simp)];simp only[bf,aA,aG,aB (show 0∉[5] by decide),aB (show 1∉[5] by decide),ao,ar,Rs.ag,l,av];rfl
   have p:iL [5] 5 ah [some (ay es),some (au rs),some (.int n),some (.int (placeOf rs n)),some (aH es rs),none,none,none,none]=.nx [some (ay es),some (au rs),some (.int n),some (.int (placeOf rs n)),some (aH es rs),some (.list []),none,none,none]:=rfl;show a8 (jc cs aP [some (ay es),some (au rs),some (.int n),none,none,none,none,none,none])=_;simp only[jc];rw[aL,o];simp only;rw[aL,s2];simp only;rw[aL,p];simp only;rw[aL,kQ,src,av,e];rfl
  ·exact absurd rfl a
def kM (es:List Er) (rs:List Int) (pl:Int) (p:Int×Option Int):List Int:=match p.2 with
 |some t=>(match bo es rs t with
  |some h=>if h<=pl then [p.1-1] else []
  |none=>[])
 |none=>[]
def tms (es:List Er) (rs:List Int) (pl:Int):List (Int×Option Int)->List Int
 |[]=>[]
 |p::r=>kM es rs pl p++tms es rs pl r
theorem Ag (es:List Er) (rs:List Int) (pl:Int) (b:List (Int×Option Int)):∀a,tms es rs pl (a++b)=tms es rs pl a++tms es rs pl b
 |[]=>rfl
 |p::r=>by show kM es rs pl p++tms es rs pl (r++b)=(kM es rs pl p++tms es rs pl r)++_;rw[Ag es rs pl b r,Ot]
theorem wV (es:List Er) (rs:List Int) (pl:Int):∀(ps:List (Int×Option Int)) (acc:Int),ps.foldl (iS es rs pl) acc=(tms es rs pl ps).foldl max acc
 |[],_=>rfl
 |p::r,acc=>by
  rw[OU,wV es rs pl r];show _=(kM es rs pl p++tms es rs pl r).foldl max acc;rw[List.foldl_append];have e:iS es rs pl acc p=(kM es rs pl p).foldl max acc:=by
   unfold iS kM;cases p.2 with
   |none=>rfl
   |some t =>
    simp only;cases bo es rs t with
    |none=>rfl
    |some h=>simp only;split <;> rfl
  rw[e]
theorem p6 (es:List Er) (rs:List Int) (pl:Int):∀(ps:List (Int×Option Int)),(∀p∈ps,1<=p.1)->∀a∈tms es rs pl ps,0<=a
 |[],_,a,h=>by cases h
 |p::r,hp,a,h=>by
  have h1:=hp p N3;unfold tms at h;rcases NI.mp h with h|h
  ·unfold kM at h;split at h
   ·split at h
    ·split at h
     ·cases N9.mp h;omega
     ·cases h
    ·cases h
   ·cases h
  ·exact p6 es rs pl r (λq b=>hp q (N2 _ b)) a h
theorem BO (h:∀a∈ns,0<=a):(lV ns).getD 0=ns.foldl max 0:=by
 have c:(λa b:Int=>if b>a then b else a)=max:=by funext a b;split <;> omega
 cases ns with
 |nil=>rfl
 |cons x r =>have hx:=h x N3;show r.foldl (λa b:Int=>if b>a then b else a) x=r.foldl max (max 0 x);rw[c,show max 0 x=x by omega]
def tmD (C:Addr) (d:PyData):PyData:=(br C "times" d).getD .none
theorem vW (C:Addr) (m k t l:Int):br C "times" (hdD C m k t l)=some (.int l):=by
 have n1:¬ (("number":Str)="times"):=by decide +kernel
 have n2:¬ (("part":Str)="times"):=by decide +kernel
 have a:¬ (("tool":Str)="times"):=by decide +kernel
 simp only[hdD,EW,N0,Oi,br,and_self,if_true,jG,n1,n2,a,if_false]
theorem Bo (C:Addr) (es:List Er) (rs:List Int) (pl m k:Int) (p:Int×Option Int):(iI C es rs pl m k p).map (tmD C)=(kM es rs pl p).map PyData.int/\∀d∈iI C es rs pl m k p,br C "times" d=some (tmD C d):=by
 unfold iI kM;cases p.2 with
 |none=>exact⟨rfl,λd hd=>by cases hd⟩
 |some t =>
  simp only;cases bo es rs t with
  |none=>exact⟨rfl,λd hd=>by cases hd⟩
  |some h =>
   simp only;split
   ·rw[N0,Oi];refine⟨by unfold tmD;rw[vW];rfl,λd hd=>?_⟩;cases N9.mp hd;unfold tmD;rw[vW];rfl
   ·exact⟨rfl,λd hd=>by cases hd⟩
theorem Ak (C:Addr) (es:List Er) (rs:List Int) (pl m:Int):∀(ps:List (Int×Option Int)) (k:Nat),(hdM C es rs pl m k ps).map (tmD C)=(tms es rs pl ps).map PyData.int/\∀d∈hdM C es rs pl m k ps,br C "times" d=some (tmD C d)
 |[],_=>⟨rfl,λd hd=>by cases hd⟩
 |p::r,k=>by
  obtain⟨a1,a2⟩:=Bo C es rs pl m k p;obtain⟨a,b⟩:=Ak C es rs pl m r (k+1);rw[show hdM C es rs pl m k (p::r)=iI C es rs pl m k p++hdM C es rs pl m (k+1) r from rfl,show tms es rs pl (p::r)=kM es rs pl p++tms es rs pl r from rfl];refine⟨by rw[NQ,NQ,a1,a],λd hd=>?_⟩;rcases NI.mp hd with h|h
  ·exact a2 d h
  ·exact b d h
theorem sV (C:Addr) (es:List Er) (rs:List Int) (pl:Int):∀(a:List Int),(gO C es rs pl a).map (tmD C)=(tms es rs pl ((a.map λm=>(aW es m).parts).flatten)).map PyData.int/\∀d∈gO C es rs pl a,br C "times" d=some (tmD C d)
 |[]=>⟨rfl,λd hd=>by cases hd⟩
 |m::r=>by
  obtain⟨a1,a2⟩:=Ak C es rs pl m (aW es m).parts 0;obtain⟨b,c⟩:=sV C es rs pl r;unfold gO;refine⟨by rw[NQ,N0,Oq,Ag,NQ,a1,b],λd hd=>?_⟩;rcases NI.mp hd with h|h
  ·exact a2 d h
  ·exact c d h
theorem tY (C:Addr) (es:List Er) (rs:List Int) (pl:Int) (b:Nat):∀(a:List Int),(∀m∈a,(aW es m).parts.length<=b)->(gO C es rs pl a).length<=b*a.length
 |[],_=>by simp[gO]
 |m::r,h=>by
  have h1:=h m N3;have h2:=ux C es rs pl m (aW es m).parts 0;have h3:=tY C es rs pl b r λx c=>h x (N2 _ c)
  unfold gO;rw[Nl,Nu,Nat.mul_succ];omega
def bR:Gf
 |[d,r,.int n]=>if okW d r n then .ok (.int (ju (cO d) (cf r) n)) else .no
 |_=>.no
theorem gU (h1:1<=es.length) (h2:es.length<=6) (h:∀e∈es,e.Wk) (a:cn es.length rs) (n0:0<=n) (n1:n<es.length):bR [ay es,au rs,.int n]=.ok (.int (ju es rs n)):=by unfold bR;simp only[nK h1 h2 h a n0 n1,if_true,eZ,eM]
theorem pk (cs:Cs):LLq (ff cs (cH cs)) 3 0 bR:=by
 intro ds hl a;obtain⟨d,r,n,i,h⟩:=ky a;clear a;subst i;have a:=h;clear h
 ·skip
  split at a
  ·rename_i hc;obtain⟨es,rs,rfl,rfl,_,_,l1,l6,hok,c,n0,n1⟩:=gH hc;rw[gU l1 l6 hok c n0 n1];have j:=kh cs l1 l6 hok c n0 n1;obtain⟨o,q⟩:=sV cs.Holding es rs (placeOf rs n) (rs.drop (placeOf rs n+1));have hrl:=c.len;have b:∀m∈rs.drop (placeOf rs n+1),(aW es m).Wk:=λm hm=>by have:=c.rng m (OA hm);exact hok _ (cy this.1 (by omega))
   have hln:=tY cs.Holding es rs (placeOf rs n) 4 (rs.drop (placeOf rs n+1)) λm hm=>(b m hm).p2
   have hdl:(rs.drop (placeOf rs n+1)).length<=6:=by rw[OJ];omega
   have e:bw 3 (cz (aq (cH cs) (ae (af 0) (ae (af 1) (ae (af 2) ah))))) bH (g1 (br cs.Holding "times") (af 3)) aZ [some (ay es),some (au rs),some (.int n)]=.ok ((gO cs.Holding es rs (placeOf rs n) (rs.drop (placeOf rs n+1))).map (tmD cs.Holding)) :=
    dj rfl (by simp only[yY,bf,aA,aG,ao,ar,Rs.ag,j];rfl) (by omega) λx s=>by simp only[NU,NT,iA,ao,ar,Rs.ag,q x s,Rs.ai]
   have f:xR (.list ((gO cs.Holding es rs (placeOf rs n) (rs.drop (placeOf rs n+1))).map (tmD cs.Holding))) (.int 0)=some (.int (ju es rs n)):=by
    unfold xR;simp only;rw[o,ee,Of,BO (p6 _ _ _ _ λp u=>?_),<-wV]
    ·rfl
    ·obtain⟨l,hl,g⟩:=List.mem_flatten.mp u;obtain⟨m,hm,rfl⟩:=Nn.mp hl;exact ((b m hm).pl p g).1
   show a8 (ff cs (cH cs) [some (ay es),some (au rs),some (.int n)])=_;simp only[ff,bM,bN,rD,e,Rs.ag,cB,f,Rs.ai,av,aT]
  ·exact absurd rfl a
def oB (f:Int->Int) (T:Int):Nat->Int->List Int
 |0,l=>[l]
 |m+1,l=>if l=T then [l] else l::oB f T m (f l)
def BR:Option (List Int)->PyData
 |some l=>.list (l.map .int)
 |none=>.none
structure Top (f:Int->Int) (T:Int):Prop where
 fix:f T=T
 one:1<=T
 low:∀s,1<=s->s<T->¬ f s<=s
theorem pH {f:Int->Int} {T:Int} (R:nG f) (P:Top f T):∀(m:Nat) (l:Int),1<=l->l<=T->T-l<=m->(oB f T m l).getLast?=some T
 |0,l,h1,h2,h3=>by
  have:l=T:=by omega
  rw[this];rfl
 |m+1,l,h1,h2,h3=>by
  unfold oB;by_cases z:l=T
  ·rw[if_pos z,z];rfl
  ·rw[if_neg z,List.getLast?_cons];have hf:=P.low l h1 (by omega);have a:=R.mono l T h1 h2;rw[P.fix]at a;rw[pH R P m (f l) (by omega) a (by omega)];rfl
def bJ:Gf
 |[.int t,.int e]=>if 0<e/\e<1073741824 then .ok (.int ((t+e-1) / e)) else .no
 |_=>.no
theorem Js {f:Int->Int->Rs PyData} (h:(match ds with|[.int a,.int x1]=>f a x1|_=>.no)≠.no):∃a x1,ds=[.int a,.int x1]/\f a x1≠.no:=by
 rcases ds with _|⟨a,_|⟨x1,_|⟨y,ys⟩⟩⟩
 ·exact absurd rfl h
 ·first|exact absurd rfl h|(cases a <;> exact absurd rfl h)
 ·skip
  cases a with
  |int a =>
   cases x1 with
   |int x1 =>exact⟨_,_,rfl,h⟩
   |_=>exact absurd rfl h
  |_=>first|exact absurd rfl h|(cases x1 <;> exact absurd rfl h)
 ·first|exact absurd rfl h|(cases a <;> first|exact absurd rfl h|(cases x1 <;> exact absurd rfl h))
theorem uv (cs:Cs):LLq (gu cs) 2 0 bJ:=by
 intro ds hl a;obtain⟨t,e,c,b⟩:=Js a;clear a;subst c;have a:=b;clear b;unfold bJ
 ·skip
  split at a
  ·rename_i hc;simp only[if_pos hc];show a8 (gu cs [some (.int t),some (.int e)])=_;simp only[gu,bM,bN,ao,ar,cB,Rs.ag,d6,oz,Rs.ai,vU,if_pos hc,av,aT]
  ·exact absurd rfl a
theorem AX {x e:Int} (h:0<e):(x+e-1) / e=x / e+(if x % e>0 then 1 else 0):=by
 have h1:=Pa x e;have h2:=O1 x (show e≠0 by omega);have h3:=Ol x h;generalize x / e=q at *;generalize x % e=r at *;have ex:x+e-1=r+e-1+e*q:=by omega
 rw[ex,Pc _ _ (by omega)];by_cases z:r>0
 ·rw[if_pos z,show r+e-1=(r-1)+e*1 by omega,Pc _ _ (by omega),P5 (by omega) (by omega)];omega
 ·rw[if_neg z,P5 (by omega) (by omega)];omega
theorem r8 {t:Int} (h:e.Sh):bJ [.int (t+e.late),.int e.every]=.ok (.int (e.times t)):=by have h1:=h.e1;have h2:=h.e2;unfold bJ;simp only[if_pos (show 0<e.every/\e.every<1073741824 from⟨by omega,h2⟩)];rw[AX (by omega)];rfl
def dY (es:List Er) (rs:List Int) (n h t:Int):Int:=h+(aW es n).work+((rs.take (placeOf rs n)).map λm=>(aW es m).times t*(aW es m).work).sum
theorem me (hok:∀e∈es,e.Wk) (c:cn es.length rs) (n0:0<=n) (n1:n<es.length) (h0:0<=h):nG (dY es rs n h) where
 mono:=λt u _ f=>by have:=v9 (n:=n) (λe g=>(hok e g).sh) c f;unfold nW at this;unfold dY;omega
 one:=λt f=>by
  unfold dY;have h2:=(hok _ (cy n0 n1)).work1;have h3:=kY (λm=>(aW es m).times t*(aW es m).work) (rs.take (placeOf rs n)) λm hm=>by have a:=c.rng m (Oc hm);have b:=hok _ (cy a.1 a.2);have l0:=b.l1;exact Pe (Er.times_pos b.sh.e1 (by omega)) b.sh.work_b.1
  omega
def cY:Gf
 |[d,r,.int n,.int h,.int t]=>if okW d r n then .ok (.int (dY (cO d) (cf r) n h t)) else .no
 |_=>.no
theorem pz {t:Int} (h1:1<=es.length) (h2:es.length<=6) (a:∀e∈es,e.Wk) (b:cn es.length rs) (n0:0<=n) (n1:n<es.length):cY [ay es,au rs,.int n,.int h,.int t]=.ok (.int (dY es rs n h t)):=by unfold cY;simp only[nK h1 h2 a b n0 n1,if_true,eZ,eM]
theorem HD {b:Int} (h:δ[i]?=some (some (.int a))) (c:g δ=.ok (.int b)):yq [] i g δ=.nx (δ.set i (some (.int (a+b)))):=by unfold yq;rw[lX,h];simp only[c,av]
abbrev Eu:Ds->Sr:=aF (aQ [] 7 (g2 dIx (af 0) (af 6)))
 (yq [] 5 (g2 eJ (aq b8 (ae (af 7) ah)) (aq bJ (ae (g2 aX (af 4) (g2 dIx (af 7) (gC (.int 2)))) (ae (g2 dIx (af 7) (gC (.int 0))) ah)))))
theorem Bb {es:List Er} {rs:List Int} (f:∀e∈es,e.Sh) (u:cn es.length rs) (n h:PyData) (t:Int):∀(i:List Int) (acc:Int) (x6 x7:Option PyData),(∀m∈i,m∈rs) ->
  ∃j l,forL (bB 6) Eu (i.map PyData.int) [some (ay es),some (au rs),some n,some h,some (.int t),some (.int acc),x6,x7]
   =.nx [some (ay es),some (au rs),some n,some h,some (.int t),some (.int (acc+(i.map λm=>(aW es m).times t*(aW es m).work).sum)),j,l]
 |[],acc,x6,x7,_=>⟨x6,x7,by simp[forL]⟩
 |m::r,acc,x6,x7,hm'=>by
  have hm:=hm' m N3;have g:=u.rng m hm;have c:=f _ (cy g.1 (by omega));have a2:atI (es.map Er.d) m=some (aW es m).d:=jf g.1 (by omega);obtain⟨j,l,e2⟩:=Bb f u n h t r (acc+(aW es m).times t*(aW es m).work) (some (.int m)) (some (aW es m).d) λx v=>hm' x (N2 _ v)
  refine⟨j,l,?_⟩;have hw:=c.work_b;have o:=gN c;have p:=r8 (t:=t) c;rw[N0,N0,NO,<-Int.add_assoc];unfold forL;generalize hE:aW es m=e at *;have i2:dIx e.d (.int 2)=some (.int e.late):=rfl;have w:dIx e.d (.int 0)=some (.int e.every):=rfl;have q:aQ [] 7 (g2 dIx (af 0) (af 6)) [some (ay es),some (au rs),some n,some h,some (.int t),some (.int acc),some (.int m),x7]=.nx [some (ay es),some (au rs),some n,some h,some (.int t),some (.int acc),some (.int m),some e.d]:=by rw[ig,if_pos (by simp)];simp only[bN,ao,ar,Rs.ag,ay,xM,a2,Rs.ai,av];rfl
  have s:yq [] 5 (g2 eJ (aq b8 (ae (af 7) ah)) (aq bJ (ae (g2 aX (af 4) (g2 dIx (af 7) (gC (.int 2)))) (ae (g2 dIx (af 7) (gC (.int 0))) ah)))) [some (ay es),some (au rs),some n,some h,some (.int t),some (.int acc),some (.int m),some e.d]=.nx [some (ay es),some (au rs),some n,some h,some (.int t),some (.int (acc+e.times t*e.work)),some (.int m),some e.d]:=by
    rw[HD (a:=acc) (b:=e.times t*e.work) rfl]
    ·rfl
    ·simp only[bN,bf,aA,aG,ao,ar,cB,Rs.ag,i2,w,Rs.ai,d6,o,p,qm (b:=e.times t) (show -(2 ^ 64)<e.work by omega) (show e.work<2 ^ 64 by omega)];rw[Int.mul_comm e.work]
  have y:bB 6 (.int m) [some (ay es),some (au rs),some n,some h,some (.int t),some (.int acc),x6,x7]=some [some (ay es),some (au rs),some n,some h,some (.int t),some (.int acc),some (.int m),x7]:=rfl;rw[y];simp only[Eu,aL,q,s];exact e2
theorem BW {f:PyData->PyData->Int->Int->Int->Rs PyData} (h:(match ds with|[a,x1,.int x2,.int x3,.int x4]=>f a x1 x2 x3 x4|_=>.no)≠.no):∃a x1 x2 x3 x4,ds=[a,x1,.int x2,.int x3,.int x4]/\f a x1 x2 x3 x4≠.no:=by
 rcases ds with _|⟨a,_|⟨x1,_|⟨x2,_|⟨x3,_|⟨x4,_|⟨y,ys⟩⟩⟩⟩⟩⟩
 ·exact absurd rfl h
 ·exact absurd rfl h
 ·exact absurd rfl h
 ·first|exact absurd rfl h|(cases x2 <;> exact absurd rfl h)
 ·first|exact absurd rfl h|(cases x2 <;> first|exact absurd rfl h|(cases x3 <;> exact absurd rfl h))
 ·skip
  cases x2 with
  |int x2 =>
   cases x3 with
   |int x3 =>
    cases x4 with
    |int x4 =>exact⟨_,_,_,_,_,rfl,h⟩
    |_=>exact absurd rfl h
   |_=>first|exact absurd rfl h|(cases x4 <;> exact absurd rfl h)
  |_=>first|exact absurd rfl h|(cases x3 <;> first|exact absurd rfl h|(cases x4 <;> exact absurd rfl h))
 ·first|exact absurd rfl h|(cases x2 <;> first|exact absurd rfl h|(cases x3 <;> first|exact absurd rfl h|(cases x4 <;> exact absurd rfl h)))
theorem Lb (cs:Cs):LLq (uP cs b8 bJ) 5 3 cY:=by
 intro ds hl a;obtain⟨d,r,n,h,t,p,o⟩:=BW a;clear a;subst p;have a:=o;clear o
 ·skip
  split at a
  ·rename_i hc;obtain⟨es,rs,rfl,rfl,_,_,l1,l6,hok,f,n0,n1⟩:=gH hc;rw[pz l1 l6 hok f n0 n1];have b:∀e∈es,e.Sh:=λe q=>(hok e q).sh
   have c:=f.mem n0 (by omega);have g:=kl c;have i:=b _ (cy n0 n1);have a2:atI (es.map Er.d) n=some (aW es n).d:=jf n0 n1;have j:=gN i;obtain⟨y6,y7,e⟩:=Bb b f (.int n) (.int h) t (rs.take (placeOf rs n)) (h+(aW es n).work) none none (λm hm=>Oc hm);have src:cz (lj (af 1) km (qr (rm (af 1) (af 2)))) [some (ay es),some (au rs),some (.int n),some (.int h),some (.int t),some (.int (h+(aW es n).work)),none,none]=.ok ((rs.take (placeOf rs n)).map PyData.int):=by simp only[yY,wZ,zX,tP,zy,ao,ar,Rs.ag,au,g,Rs.ai,Ae,Eb,EJ];rw[JY,List.map_take]
   have l:aQ [] 5 (g2 aX (af 3) (aq b8 (ae (g2 dIx (af 0) (af 2)) ah))) [some (ay es),some (au rs),some (.int n),some (.int h),some (.int t),none,none,none]=.nx [some (ay es),some (au rs),some (.int n),some (.int h),some (.int t),some (.int (h+(aW es n).work)),none,none]:=by rw[ig,if_pos (by simp)];simp only[bN,bf,aA,aG,ao,ar,Rs.ag,ay,xM,a2,Rs.ai,j,d6,av];rfl
   show a8 (uP cs b8 bJ [some (ay es),some (au rs),some (.int n),some (.int h),some (.int t),none,none,none])=_;simp only[uP];rw[aL,l];simp only;rw[aL,kQ,lX,src,av,e];rfl
  ·exact absurd rfl a
def qH (es:List Er) (rs:List Int) (n h:Int):Option Int:=gz ((aW es n).every-(aW es n).late).toNat λt=>decide (dY es rs n h t<=t)
theorem yh (es:List Er) (rs:List Int) (n:Int):qH es rs n (ju es rs n)=cu es rs n:=rfl
def ib (es:List Er) (rs:List Int) (n h:Int):Option (List Int):=(qH es rs n h).map λT=>oB (dY es rs n h) T T.toNat (dY es rs n h 1)
abbrev uY:Ds->Rs Bool:=gT (g2 dLe (af 6) (af 4))
abbrev uD:Ds->Sr:=aF (hV [5] 5 (af 6))
 (aF (aQ [5] 7 (aq cY (ae (af 0) (ae (af 1) (ae (af 2) (ae (af 3) (ae (af 6) ah)))))))
 (aF (sIf (gT (g2 dEq (af 7) (af 6))) (bj (af 5)) ba)
 (aQ [5] 6 (af 7))))
section
variable {E Rr N h:PyData} {f:Int->Int} {most:Int}
theorem uF (a:∀t,cY [E,Rr,N,h,.int t]=.ok (.int (f t))) (l:Int) (acc:List PyData) (hl:acc.length<1000000) (x7:Option PyData) :
  uD [some E,some Rr,some N,some h,some (.int most),some (.list acc),some (.int l),x7]
   =if f l=l then .rt (.list (acc++[.int l])) else .nx [some E,some Rr,some N,some h,some (.int most),some (.list (acc++[.int l])),some (.int (f l)),some (.int (f l))]:=by
 have b:hV [5] 5 (af 6) [some E,some Rr,some N,some h,some (.int most),some (.list acc),some (.int l),x7]=.nx [some E,some Rr,some N,some h,some (.int most),some (.list (acc++[.int l])),some (.int l),x7]:=by unfold hV;simp only[Od,Oe,aB (show 6∉[5] by decide),ao,ar,av,if_pos hl];rfl
 have s2:aQ [5] 7 (aq cY (ae (af 0) (ae (af 1) (ae (af 2) (ae (af 3) (ae (af 6) ah)))))) [some E,some Rr,some N,some h,some (.int most),some (.list (acc++[.int l])),some (.int l),x7]=.nx [some E,some Rr,some N,some h,some (.int most),some (.list (acc++[.int l])),some (.int l),some (.int (f l))]:=by rw[fT,if_pos (by simp)];simp only[bf,aA,aG,aB (show 0∉[5] by decide),aB (show 1∉[5] by decide),aB (show 2∉[5] by decide),aB (show 3∉[5] by decide),aB (show 6∉[5] by decide),ao,ar,Rs.ag,a,av];rfl
 have c:aQ [5] 6 (af 7) [some E,some Rr,some N,some h,some (.int most),some (.list (acc++[.int l])),some (.int l),some (.int (f l))]=.nx [some E,some Rr,some N,some h,some (.int most),some (.list (acc++[.int l])),some (.int (f l)),some (.int (f l))]:=by rw[fT,if_pos (by simp)];simp only[aB (show 7∉[5] by decide),ao,ar,av];rfl
 unfold uD;rw[aL,b];simp only;rw[aL,s2];simp only;rw[aL];by_cases z:f l=l
 ·rw[if_pos z];have q:(f l==l)=true:=by simpa using z
  simp only[dZ,fD,bN,ao,ar,Rs.ag,jC,q,Rs.ai,bx,if_true,av,bM]
 ·rw[if_neg z];have q:(f l==l)=false:=by simpa using z
  simp only[dZ,fD,bN,ao,ar,Rs.ag,jC,q,Rs.ai,bx,if_false,NC,av,fH,c]
theorem oR (l:Int) (a x7:Option PyData):uY [some E,some Rr,some N,some h,some (.int most),a,some (.int l),x7]=.ok (decide (l<=most)):=by simp only[uY,fD,bN,ao,ar,Rs.ag,Ma,Rs.ai,bx]
theorem A9 (a:∀t,cY [E,Rr,N,h,.int t]=.ok (.int (f t))) (R:nG f) {T:Int} (P:Top f T) (c:T<=most):∀(j fuel:Nat) (l:Int) (acc:List PyData) (x7:Option PyData),1<=l->l<=T->T-l<=j->j<fuel->acc.length+j<1000000 ->
  bL uY uD fuel [some E,some Rr,some N,some h,some (.int most),some (.list acc),some (.int l),x7]=.rt (.list (acc++(oB f T j l).map PyData.int))
 |j,0,l,acc,x7,_,_,_,hf,_=>absurd hf (Nat.not_lt_zero _)
 |0,fuel+1,l,acc,x7,h1,h2,h3,hf,hc=>by
  have e:l=T:=by omega
  have b:f l=l:=by rw[e];exact P.fix
  unfold bL;rw[oR,av,decide_eq_true (show l<=most by omega),if_pos rfl,uF a l acc (by omega),if_pos b];rfl
 |j+1,fuel+1,l,acc,x7,h1,h2,h3,hf,hc=>by
  unfold bL;rw[oR,av,decide_eq_true (show l<=most by omega),if_pos rfl,uF a l acc (by omega)];unfold oB;by_cases e:l=T
  ·have b:f l=l:=by rw[e];exact P.fix
   rw[if_pos b,if_pos e];rfl
  ·have hl:=P.low l h1 (by omega);have hm:=R.mono l T h1 h2;rw[P.fix]at hm;rw[if_neg (show ¬ f l=l by omega),if_neg e];simp only;rw[A9 a R P c j fuel (f l) (acc++[PyData.int l]) _ (by omega) hm (by omega) (by omega) (by rw[Nl,NS];omega)];rw[N0,Ot];rfl
theorem z0 (a:∀t,cY [E,Rr,N,h,.int t]=.ok (.int (f t))) (no:∀s,1<=s->s<=most->¬ f s<=s):∀(j fuel:Nat) (l:Int) (acc:List PyData) (x7:Option PyData),1<=l->most-l<j->j<fuel->acc.length+j<1000000 ->
  ∃δ,bL uY uD fuel [some E,some Rr,some N,some h,some (.int most),some (.list acc),some (.int l),x7]=.nx δ
 |j,0,l,acc,x7,_,_,hf,_=>absurd hf (Nat.not_lt_zero _)
 |0,fuel+1,l,acc,x7,h1,h3,hf,hc=>by unfold bL;rw[oR,av,decide_eq_false (show ¬ l<=most by omega),if_neg (by decide)];exact⟨_,rfl⟩
 |j+1,fuel+1,l,acc,x7,h1,h3,hf,hc=>by
  unfold bL;rw[oR,av];by_cases e:l<=most
  ·rw[decide_eq_true e,if_pos rfl,uF a l acc (by omega)];have hl:=no l h1 e;rw[if_neg (show ¬ f l=l by omega)];simp only;exact z0 a no j fuel (f l) (acc++[PyData.int l]) _ (by omega) (by omega) (by omega) (by rw[Nl,NS];omega)
  ·rw[decide_eq_false e,if_neg (by decide)];exact⟨_,rfl⟩
end
def cN:Gf
 |[d,r,.int n,.int h]=>if okW d r n&&decide (0<=h) then .ok (BR (ib (cO d) (cf r) n h)) else .no
 |_=>.no
theorem jB (h1:1<=es.length) (h2:es.length<=6) (a:∀e∈es,e.Wk) (b:cn es.length rs) (n0:0<=n) (n1:n<es.length) (c:0<=h):cN [ay es,au rs,.int n,.int h]=.ok (BR (ib es rs n h)):=by unfold cN;simp only[nK h1 h2 a b n0 n1,decide_eq_true c,Pj,if_true,eZ,eM]
theorem zY (R:nG (dY es rs n h)) (e:qH es rs n h=some T):Top (dY es rs n h) T/\T<=(aW es n).every-(aW es n).late:=by
 obtain⟨h1,h2,f,g⟩:=mn e;have c:∀s,1<=s->s<T->¬ dY es rs n h s<=s:=λs a b=>of_decide_eq_false (g s a b)
 exact⟨⟨R.fix h1 (of_decide_eq_true f) c,h1,c⟩,by omega⟩
theorem xE {f:PyData->PyData->Int->Int->Rs PyData} (h:(match ds with|[a,x1,.int x2,.int x3]=>f a x1 x2 x3|_=>.no)≠.no):∃a x1 x2 x3,ds=[a,x1,.int x2,.int x3]/\f a x1 x2 x3≠.no:=by
 rcases ds with _|⟨a,_|⟨x1,_|⟨x2,_|⟨x3,_|⟨y,ys⟩⟩⟩⟩⟩
 ·exact absurd rfl h
 ·exact absurd rfl h
 ·exact absurd rfl h
 ·first|exact absurd rfl h|(cases x2 <;> exact absurd rfl h)
 ·skip
  cases x2 with
  |int x2 =>
   cases x3 with
   |int x3 =>exact⟨_,_,_,_,rfl,h⟩
   |_=>exact absurd rfl h
  |_=>first|exact absurd rfl h|(cases x3 <;> exact absurd rfl h)
 ·first|exact absurd rfl h|(cases x2 <;> first|exact absurd rfl h|(cases x3 <;> exact absurd rfl h))
theorem xw (cs:Cs):LLq (iw cs cY) 4 4 cN:=by
 intro ds hl c;obtain⟨d,r,n,h,m,i⟩:=xE c;clear c;subst m;have c:=i;clear i
 ·skip
  split at c
  ·rename_i hc;simp only[N6,decide_eq_true_eq]at hc;obtain⟨hc,j⟩:=hc;obtain⟨es,rs,rfl,rfl,_,_,l1,l6,hok,g,n0,n1⟩:=gH hc;rw[jB l1 l6 hok g n0 n1 j];have e:∀t,cY [ay es,au rs,.int n,.int h,.int t]=.ok (.int (dY es rs n h t)):=λt=>pz l1 l6 hok g n0 n1
   have R:=me (h:=h) hok g n0 n1 j;have f:=hok _ (cy n0 n1);have a2:atI (es.map Er.d) n=some (aW es n).d:=jf n0 n1;have o:dIx (ay es) (.int n)=some (aW es n).d:=a2;have i2:dIx (aW es n).d (.int 2)=some (.int (aW es n).late):=rfl;have p:dIx (aW es n).d (.int 0)=some (.int (aW es n).every):=rfl;have e60:=f.e2;have la0:=f.l1;have f1:=R.one 1 (by decide);generalize hM:(aW es n).every-(aW es n).late=M at *;have u:aQ [5] 4 (g2 fo (g2 dIx (g2 dIx (af 0) (af 2)) (gC (.int 0))) (g2 dIx (g2 dIx (af 0) (af 2)) (gC (.int 2)))) [some (ay es),some (au rs),some (.int n),some (.int h),none,none,none,none]=.nx [some (ay es),some (au rs),some (.int n),some (.int h),some (.int M),none,none,none]:=by rw[fT,if_pos (by simp)];simp only[bN,aB (show 0∉[5] by decide),aB (show 2∉[5] by decide),ao,ar,cB,Rs.ag,o,i2,p,Rs.ai,oz,av,hM];rfl
   have s2:iL [5] 5 ah [some (ay es),some (au rs),some (.int n),some (.int h),some (.int M),none,none,none]=.nx [some (ay es),some (au rs),some (.int n),some (.int h),some (.int M),some (.list []),none,none]:=rfl;have v:aQ [5] 6 (aq cY (ae (af 0) (ae (af 1) (ae (af 2) (ae (af 3) (ae (gC (.int 1)) ah)))))) [some (ay es),some (au rs),some (.int n),some (.int h),some (.int M),some (.list []),none,none]=.nx [some (ay es),some (au rs),some (.int n),some (.int h),some (.int M),some (.list []),some (.int (dY es rs n h 1)),none]:=by rw[fT,if_pos (by simp)];simp only[bf,aA,aG,aB (show 0∉[5] by decide),aB (show 1∉[5] by decide),aB (show 2∉[5] by decide),aB (show 3∉[5] by decide),ao,ar,cB,Rs.ag,e,av];rfl
   show a8 (iw cs cY [some (ay es),some (au rs),some (.int n),some (.int h),none,none,none,none])=_;simp only[iw];rw[aL,u];simp only;rw[aL,s2];simp only;rw[aL,v];simp only;rw[aL];cases q:qH es rs n h with
   |some T =>
    obtain⟨P,l⟩:=zY R q;rw[hM]at l;have hle:dY es rs n h 1<=T:=by have:=R.mono 1 T (by decide) P.one;rw[P.fix]at this;exact this
    have w:=A9 e R P l T.toNat 1000000 (dY es rs n h 1) [] none f1 hle (by omega) (by omega) (by simp;omega);rw[w];simp only[ib,q,Of,BR,NT,aT]
   |none =>
    have no:∀s,1<=s->s<=M->¬ dY es rs n h s<=s:=λs a b=>by have:=uG q s a (by omega);exact of_decide_eq_false this
    obtain⟨δ,w⟩:=z0 e no 100 1000000 (dY es rs n h 1) [] none f1 (by omega) (by decide) (by decide);rw[w];simp only[ib,q,Option.map_none,BR,bM,cB,av,aT]
  ·exact absurd rfl c
def cm:Gf
 |[d,r,.int n,.int h]=>if okW d r n&&decide (0<=h) then .ok (bO (qH (cO d) (cf r) n h)) else .no
 |_=>.no
theorem iO (h1:1<=es.length) (h2:es.length<=6) (a:∀e∈es,e.Wk) (b:cn es.length rs) (n0:0<=n) (n1:n<es.length) (c:0<=h):cm [ay es,au rs,.int n,.int h]=.ok (bO (qH es rs n h)):=by unfold cm;simp only[nK h1 h2 a b n0 n1,decide_eq_true c,Pj,if_true,eZ,eM]
theorem uW (cs:Cs):LLq (eV cs cN) 4 1 cm:=by
 intro ds hl a;obtain⟨d,r,n,h,j,i⟩:=xE a;clear a;subst j;have a:=i;clear i
 ·skip
  split at a
  ·rename_i hc;simp only[N6,decide_eq_true_eq]at hc;obtain⟨hc,f⟩:=hc;obtain⟨es,rs,rfl,rfl,_,_,l1,l6,hok,g,n0,n1⟩:=gH hc;rw[iO l1 l6 hok g n0 n1 f];have c:=jB l1 l6 hok g n0 n1 f;have R:=me (h:=h) hok g n0 n1 f;show a8 (eV cs cN [some (ay es),some (au rs),some (.int n),some (.int h),none])=_;cases q:qH es rs n h with
   |none =>
    have e:ib es rs n h=none:=by unfold ib;rw[q];rfl
    rw[e]at c;simp[eV,c,BR,bO,gIf]
   |some T =>
    obtain⟨P,hT⟩:=zY R q;have hle:dY es rs n h 1<=T:=by have:=R.mono 1 T (by decide) P.one;rw[P.fix]at this;exact this
    have f1:=R.one 1 (by decide);have e:ib es rs n h=some (oB (dY es rs n h) T T.toNat (dY es rs n h 1)):=by unfold ib;rw[q];rfl
    rw[e]at c;have b:=pH R P T.toNat (dY es rs n h 1) f1 hle (by omega);have l:dIx (.list ((oB (dY es rs n h) T T.toNat (dY es rs n h 1)).map PyData.int)) (.int (-1))=some (.int T):=by show atI _ (-1)=_;rw[ko,P4,b];rfl
    simp[eV,c,BR,bO,l,gIf];rfl
  ·exact absurd rfl a
def bA:Gf
 |[d,r,.int n]=>if okW d r n then .ok (bO (cu (cO d) (cf r) n)) else .no
 |_=>.no
theorem fu (h1:1<=es.length) (h2:es.length<=6) (h:∀e∈es,e.Wk) (a:cn es.length rs) (n0:0<=n) (n1:n<es.length):bA [ay es,au rs,.int n]=.ok (bO (cu es rs n)):=by unfold bA;simp only[nK h1 h2 h a n0 n1,if_true,eZ,eM]
theorem lA (cs:Cs):LLq (dN cs bR cm) 3 0 bA:=by
 intro ds hl a;obtain⟨d,r,n,e,c⟩:=ky a;clear a;subst e;have a:=c;clear c
 ·skip
  split at a
  ·rename_i hc;obtain⟨es,rs,rfl,rfl,_,_,l1,l6,hok,b,n0,n1⟩:=gH hc;rw[fu l1 l6 hok b n0 n1];have h1:=gU l1 l6 hok b n0 n1;have h2:=iO l1 l6 hok b n0 n1 (qh es rs n);rw[yh]at h2;show a8 (dN cs bR cm [some (ay es),some (au rs),some (.int n)])=_;simp only[dN,bM,bf,aA,aG,ao,ar,Rs.ag,h1,h2,av,aT]
  ·exact absurd rfl a
theorem CB (cs:Cs):LLq (kn cs bA b0) 3 0 cQ:=by
 intro ds hl a;obtain⟨d,r,n,f,c⟩:=ky a;clear a;subst f;have a:=c;clear c
 ·skip
  split at a
  ·rename_i hc;obtain⟨es,rs,rfl,rfl,_,_,l1,l6,hok,b,n0,n1⟩:=sX hc;have h1:=kL l1 l6 hok b n0 n1;have g:=fu l1 l6 (λe h=>(hok e h).wk) b n0 n1;have h2:=ic l1 l6 hok b n0 n1;show a8 (kn cs bA b0 [some (ay es),some (au rs),some (.int n)])=_;simp only[kn,aL,uS,bf,aA,aG,ao,ar,Rs.ag,h2,av,bM,g,h1,aT]
  ·exact absurd rfl a
theorem AS {tops:PyData} {len:Str} {js:List Jb} {out:List PyData}:∀(n k:Nat),uN tops len n (stJ tops len js k)=some out->∃T,k<=T/\T<k+n/\out=(stJ tops len js T).2/\(stJ tops len js T).1.all Jb.done=true
 |0,k,h=>by cases h
 |n+1,k,h=>by
  unfold uN at h;split at h
  ·rename_i hd;cases h;exact⟨k,N7 _,by omega,rfl,hd⟩
  ·obtain⟨T,h1,h2,a,b⟩:=AS n (k+1) h;exact⟨T,by omega,by omega,a,b⟩
section
variable {len:Str} {t:List PyData}
theorem GB (R:Ran es rs rows len) (C:Cms es rows) (c:kF es rs rows len=some t) :
  ∃q who T,Trc (aH es rs) es.length q who/\(len="high"->pB (aH es rs) es.length q who)/\(∀m,m<es.length->∃row,rows[m]?=some row/\q m 0=mkJ es rs m row)/\t.length=T/\T<1000000 /\
   (∀i,i<T->t[i]?=some (match who i with
    |some m=>gP (q m i)
    |none=>.none))/\∀m,m<es.length->(q m T).job=(q m T).row.length:=by
 have b:IvJ (aH es rs) 0 (startJ es rs rows):=E4 R C;have hv:=Ee R;have f:=Dy R C;have hl:(startJ es rs rows).length=es.length:=by rw[gG,R.ln]
 have c:uN (aH es rs) len 1000000 (stJ (aH es rs) len (startJ es rs rows) 0)=some t:=c;obtain⟨T,_,h2,g,l⟩:=AS 1000000 0 c;have h:=JH (len:=len) b hv f;rw[hl]at h;refine⟨qJ (aH es rs) len (startJ es rs rows),rM (aH es rs) len (startJ es rs rows),T,h,λe {i m p} w hp th=>?_,λm hm=>?_,by rw[g,fk],by omega,λi hi=>?_,λm hm=>?_⟩
 ·subst e;exact F7 b hv f w (by rw[hl];exact hp) th
 ·have a:m<rows.length:=by rw[R.ln];exact hm
  refine⟨rows[m],My a,?_⟩;unfold qJ;show (startJ es rs rows).getD m default=_;rw[Nw,ku,My a];rfl
 ·rw[g,HF hi];cases w:rM (aH es rs) len (startJ es rs rows) i with
  |none =>
   unfold rM at w;split at w
   ·rename_i z;rw[if_pos z]
   ·cases w
  |some m =>obtain⟨_,z,e⟩:=iH b hv f w;rw[if_neg z];show _=some (gP (qJ _ _ _ m i));rw[e]
 ·have j:m<(stJ (aH es rs) len (startJ es rs rows) T).1.length:=by rw[uK b hv,hl];exact hm
  rw[kR j];have:=Nr.mp l _ (NL j);unfold Jb.done at this;have:=eq_of_beq this;omega
end
section
variable {len:Str} {t:List PyData}
theorem ue (j:Jb):iZ (gP j)=some (j.num,(j.job:Int)):=rfl
theorem Trc.told {n:Nat} {q:Nat->Nat->Jb} {who:Nat->Option Nat} (R:Trc tops n q who) {t:List PyData} {T:Nat} (g:∀i,i<T->t[i]?=some (match who i with
    |some m=>gP (q m i)
    |none=>.none)) (hl:t.length=T) (h:∀m,m<n->(q m 0).tot=0) (l:∀m,m<n->(q m T).job=(q m T).row.length) {a:Nat} (ha:a<n) {k:Nat} (hk:k<(q a 0).row.length) :
  (∃(j:Nat) (d:PyData),t[j]?=some d/\iZ d=some ((a:Int),(k:Int)))/\∀(j:Nat) (d:PyData),t[j]?=some d->iZ d=some ((a:Int),(k:Int))->(q a j).tot<((k:Int)+1)*(q a 0).work:=by
 have wp:=R.wpos ha 0;constructor
 ·have h1:((k:Int)+1)*(q a 0).work<=(q a T).tot:=by have e:(q a T).tot=((q a T).job:Int)*(q a T).work+(q a T).cur:=rfl;have cb:=lG (R.ok T ha);rw[R.wk ha T,l a ha,(R.stay ha T).2.1]at e;have:=NK (a:=(k:Int)+1) (b:=((q a 0).row.length:Int)) (c:=(q a 0).work) (by omega) (by omega);omega
  have hkn:0<=(k:Int)*(q a 0).work:=Pe (by omega) (by omega);have h2:(k:Int)*(q a 0).work+1<=(q a T).tot:=by rw[OP]at h1;omega
  obtain⟨i,_,hi,w,e⟩:=R.passed ha (B:=0) (v:=(k:Int)*(q a 0).work+1) T (by rw[h a ha];omega) (by rw[O5];exact h2);rw[O5]at hi;have:=g i hi;rw[w]at this;refine⟨i,_,this,?_⟩;show iZ (gP (q a i))=_;rw[ue,R.num i ha,R.job_tot ha i,e];rw[show (k:Int)*(q a 0).work+1-1=(k:Int)*(q a 0).work by omega,Int.mul_ediv_cancel _ (by omega)]
 ·intro j d hd f;have o:j<T:=by rw[<-hl];exact (ND.mp hd).1
  rw[g j o]at hd;cases w:who j with
  |none=>rw[w]at hd;cases hd;cases f
  |some m =>
   rw[w]at hd;cases hd;rw[ue]at f;have e1:=Option.some.inj f;have hm:=R.lt w;have e2:=congrArg Prod.fst e1;have p:=congrArg Prod.snd e1;simp only at e2 p;rw[R.num j hm]at e2;have:m=a:=by omega
   subst this;have:=yW (R.ok j hm) (k:=k+1) (by omega);rw[R.wk hm j]at this;rw[show ((k+1:Nat):Int)=(k:Int)+1 by omega]at this;exact this
end
theorem Cms.at (h:Cms es rows):∀{i:Nat} {e:Er} {row:List Int},es[i]?=some e->rows[i]?=some row->lR row/\hvE e row=true:=by
 induction h with
 |nil=>intro i e row h;simp at h
 |cons h1 h2 _ ih =>
  intro i e row a b;cases i with
  |zero=>cases a;cases b;exact⟨h1,h2⟩
  |succ i=>exact ih a b
theorem CN {ev la:Int}:∀{row:List Int} {m:Int},hvM ev la m row=true->∀k (h:k+1<row.length),row[k]+ev-la<=row[k+1]
 |[],_,_,k,h=>by simp at h
 |[_],_,_,k,h=>by simp at h
 |c::d::r,m,hh,k,h=>by
  unfold hvM at hh;have hw:c-la<=(if c-la>m then c-la else m):=by split <;> omega
  generalize (if c-la>m then c-la else m)=w at hh hw;by_cases h1:c<w
  ·rw[if_pos h1]at hh;cases hh
  ·rw[if_neg h1]at hh;cases k with
   |zero =>
    unfold hvM at hh;have a:w+ev<=(if d-la>w+ev then d-la else w+ev):=by split <;> omega
    generalize (if d-la>w+ev then d-la else w+ev)=u at hh a;by_cases h2:d<u
    ·rw[if_pos h2]at hh;cases hh
    ·show c+ev-la<=d;omega
   |succ k=>exact CN hh k (by simpa using h)
theorem Dq (ok:e.Ok) {L:Int} (h:1<=L):(L-1+e.late) / e.every+1=e.times L:=by unfold Er.times;have e1:=ok.e1;have:=AX (x:=L+e.late) (e:=e.every) (by omega);rw[<-this];rw[show L+e.late+e.every-1=L-1+e.late+e.every*1 by omega,Pc _ _ (by omega)]
theorem sj {L:Int} (h:cu es rs n=some L):1<=L/\L<=(aW es n).every-(aW es n).late/\nW es rs n L<=L:=by unfold cu at h;have h1:=List.find?_some h;obtain⟨i,hi,e⟩:=Nn.mp (List.mem_of_find?_eq_some h);have:=Ou.mp hi;exact⟨by omega,by omega,of_decide_eq_true h1⟩
theorem Ai {t:List PyData} (R:Ran es rs rows "high") (C:Cms es rows) (Z:kF es rs rows "high"=some t) :
  (∀d∈t,vc d)/\t.length<1000000/\(∀(a:Nat) (row:List Int),rows[a]?=some row->∀k,k<row.length->∃v,dO (endsF 0 t []) ((a:Int),(k:Int))=some v) /\
   ∀(a:Nat) (row:List Int) (L:Int),rows[a]?=some row->cu es rs (a:Int)=some L->∀k (y:k<row.length) v,dO (endsF 0 t []) ((a:Int),(k:Int))=some v->v-row[k]<=L:=by
 obtain⟨q,who,T,F,y,A,hlen,K,f,r⟩:=GB R C Z;have Hk:pB (aH es rs) es.length q who:=y rfl;have M:∀m,m<es.length->(q m 0).tot=0:=λm hm=>by obtain⟨row,_,e⟩:=A m hm;rw[e];exact nr m row
 have b:∀{a:Nat} {row:List Int},rows[a]?=some row->a<es.length/\(q a 0).row=row/\(q a 0).parts=(aW es (a:Int)).parts/\(q a 0).rank=(placeOf rs (a:Int):Int):=λ{a row} h=>by
  have ha:a<es.length:=by rw[<-R.ln];exact (ND.mp h).1
  obtain⟨s,h',e⟩:=A a ha;rw[h]at h';cases h';rw[e];exact⟨ha,rfl,rfl,rfl⟩
 have G:∀m:Nat,m<es.length->es[m]?=some (aW es (m:Int)):=λm hm=>by have:=my (es:=es) (n:=(m:Int)) (by omega) (by omega);rw[NM]at this;exact this
 have D:∀m:Nat,m<es.length->(aW es (m:Int)).Ok:=λm hm=>R.eok.ok _ (cy (by omega) (by omega))
 have g:∀m:Nat,m<es.length->∃row,rows[m]?=some row/\lR row/\hvE (aW es (m:Int)) row=true:=λm hm=>by obtain⟨row,h,_⟩:=A m hm;exact⟨row,h,C.at (G m hm) h⟩
 refine⟨λd hd=>?_,by omega,λa row h k y=>?_,λa row L h hL k y v hv=>?_⟩
 ·obtain⟨i,hi,e⟩:=OD hd;have:=f i (by omega);rw[My hi,e]at this;cases w:who i with
  |none=>rw[w]at this;left;exact Option.some.inj this
  |some m=>rw[w]at this;right;exact⟨((q m i).num,((q m i).job:Int)),Option.some.inj this⟩
 ·obtain⟨ha,e1,_,_⟩:=b h;exact xr t 0 [] (.inl (F.told f hlen M r ha (k:=k) (by rw[e1];exact y)).1)
 ·obtain⟨ha,e1,e2,e3⟩:=b h;have I:k<(q a 0).row.length:=by rw[e1];exact y
  obtain⟨L1,L2,L3⟩:=sj hL;have N:((L.toNat:Nat):Int)=L:=by omega
  have main:=F.answer Hk M (λm hm=>by obtain⟨row,_,e⟩:=A m hm;rw[e];rfl) R.rok (λm hm=>by obtain⟨row,h,_⟩:=A m hm;exact (b h).2.2.2)
   (λm hm c hc=>by obtain⟨row,h,i1,_⟩:=g m hm;rw[(b h).2.1]at hc;exact i1.lo c hc)
   ha (H:=ju es rs (a:Int)) (L:=L.toNat) (tm:=λx=>(aW es x).times L) (qh es rs _)
   (λm hm hp p o T K X=>by
    have O:(m:Int)∈rs.drop (placeOf rs (a:Int)+1):=by have l:=R.rok.mem (n:=(m:Int)) (by omega) (by omega);have hg:=kA l;rw[List.mem_iff_getElem?];refine⟨placeOf rs (m:Int)-(placeOf rs (a:Int)+1),?_⟩;rw[List.getElem?_drop,show placeOf rs (a:Int)+1+(placeOf rs (m:Int)-(placeOf rs (a:Int)+1))=placeOf rs (m:Int) by omega];exact hg
    obtain⟨row,h',_⟩:=A m hm;rw[(b h').2.2.1]at o;obtain⟨P,Q⟩:=((D m hm).pl p o).2.2 T K;have hh:(aW es (m:Int)).has T=true:=by unfold Er.has;rw[Ow];exact⟨p,o,by rw[K];exact beq_self_eq_true _⟩
    have l:=R.rok.mem (n:=(m:Int)) (by omega) (by omega);have S:(m:Int)∈rs.take (placeOf rs (m:Int)+1):=by rw[List.take_succ,kA l];exact N8 _ N3
    obtain⟨x,E,_⟩:=(pC es T rs 0 (placeOf rs (m:Int))).mpr ⟨(m:Int),S,hh⟩;have E:bo es rs T=some x:=E;have J:fN (aH es rs) T=x:=by unfold fN;rw[kZ P Q E]
    rw[J]at X;exact (sr.mp (Ob _)).2 (m:Int) O p o T K (by
     first
     |exact⟨x,E,X⟩
     |exact (pC es T rs 0 (placeOf rs (a:Int))).mp ⟨x,E,by omega⟩))
   (by rw[e2];exact (D a ha).la)
   (λm hm hp B=>by
    obtain⟨row,h',i1,i2⟩:=g m hm;rw[(b h').2.1];have ok:=D m hm;have:=E8 (ev:=(aW es (m:Int)).every) (la:=(aW es (m:Int)).late) (u:=(B:Int)-1) (t:=(B:Int)+L.toNat-1) (by have:=ok.e1;omega) ok.l1 (by omega) i2 (by have:=F.srt 0 hm;rw[(b h').2.1]at this;exact this)
    rw[N]at this ⊢;rw[show (B:Int)+L-1-((B:Int)-1)-1+(aW es (m:Int)).late=L-1+(aW es (m:Int)).late by omega,Dq ok L1]at this;exact this)
   (by omega)
   (by
    rw[N];have Y:∀m:Nat,m<es.length->(q m 0).work=(aW es (m:Int)).work:=λm hm=>by obtain⟨row,h',_⟩:=A m hm;unfold Jb.work;rw[(b h').2.2.1];rfl
    have U:((rs.take (placeOf rs (a:Int))).map λx=>(aW es x).times L*(q x.toNat 0).work)=(rs.take (placeOf rs (a:Int))).map λx=>(aW es x).times L*(aW es x).work:=Nv λx E=>by have hr':=R.rok.rng x (Oc E);rw[Y x.toNat (by omega),show ((x.toNat:Nat):Int)=x by omega]
    rw[U,Y a ha];exact L3)
   (λj hj=>by
    have W:j+1<row.length:=by rw[<-e1];exact hj
    obtain⟨s,h',_,i2⟩:=g a ha;rw[h]at h';cases h';have:=CN i2 j W;have g1:(q a 0).row[j]=row[j]:=by simp only[e1]
    have g2:(q a 0).row[j+1]=row[j+1]:=by simp only[e1]
    rw[g1,g2,N];omega) k I
  have g1:(q a 0).row[k]=row[k]:=by simp only[e1]
  have c0:0<=row[k]:=by obtain⟨s,h',i1,_⟩:=g a ha;rw[h]at h';cases h';exact i1.lo _ (NL y)
  rcases sP t 0 [] hv with⟨j,d,d1,d2,d3⟩|z
  ·have lt:=(F.told f hlen M r ha I).2 j d d1 d2;have:j<row[k].toNat+L.toNat:=by
    refine Nat.not_le.mp λz=>?_
    have:=F.mono ha z;rw[g1]at main;omega
   omega
  ·cases z
def eQ (cs:Cs):Gf:=gfG 4 0 (iP cs (g6 cs) (cR cs))
def gX (rows:List (List Int)) (l:PTl):PyData:=.list (rows.mapIdx λn row=>.list (row.mapIdx (xl l n)))
theorem yi {t:List PyData} (R:Ran es rs rows "high") (C:Cms es rows) (a:kF es rs rows "high"=some t):eQ cs [ay es,au rs,cmD rows,.str "high"]=.ok (gX rows (endsF 0 t [])):=by
 obtain⟨h1,h2,b,_⟩:=Ai R C a;have hl:rows.length<=1000:=by have:=R.ln;have:=R.eok.l6;omega
 show a8 (iP cs (g6 cs) (cR cs) [some (ay es),some (au rs),some (cmD rows),some (.str "high")])=_;unfold iP;have e1:aq (g6 cs) (ae (af 0) (ae (af 1) (ae (af 2) (ae (af 3) ah)))) [some (ay es),some (au rs),some (cmD rows),some (.str "high")]=.ok (.list t):=ia rfl (tj R C a);have e2:aq (cR cs) (ae (af 2) (ae (aq (g6 cs) (ae (af 0) (ae (af 1) (ae (af 2) (ae (af 3) ah))))) ah)) [some (ay es),some (au rs),some (cmD rows),some (.str "high")]=.ok (gX rows (endsF 0 t [])):=by refine ia (ds:=[cmD rows,.list t]) ?_ (rY hl (λr a=>by have:=(C.n5 r a).few;omega) h1 h2 b);simp only[aA,aG,ao,ar,e1,Rs.ag]
 simp only[bM,e2,av,aT]
def w12 (S E R C F:PyData) (a x6:Option PyData):Ds:=[some S,some E,some R,some C,some F,a,x6]
def b12:Ds->Sr:=(aF (aQ [] 6 (aq cQ (ae (af 1) (ae (af 2) (ae (af 5) ah)))))
 (sIf (rL (gT (g1 iJ (af 6))) (gT (g2 dGt (gF lW (ae (g2 aX (jN (ae (gC (.int 0)) ah)) (g2 dIx (af 4) (af 5))) ah)) (af 6)))) (bj (gC (.bool false))) ba))
theorem Fe (l:PTl) (n:Nat) (row:List Int):row.mapIdx (xl l n)=(row.mapIdx λk c=>(dO l ((n:Int),(k:Int))).getD 0-c).map PyData.int:=by exact Pr (by simp) λi h1 h2=>by simp[xl]
theorem t12 {S C:PyData} {l:PTl} (l1:1<=es.length) (l6:es.length<=6) (ok:∀e∈es,e.Ok) (o:cn es.length rs) {a:Nat} (ha:a<es.length) (b:rows[a]?=some row) (few:row.length<=1000)
  (h:∀L,cu es rs (a:Int)=some L->∀k (j:k<row.length),(dO l ((a:Int),(k:Int))).getD 0-row[k]<=L) (x6:Option PyData) :
  b12 (w12 S (ay es) (au rs) C (gX rows l) (some (.int (a:Int))) x6)=.nx (w12 S (ay es) (au rs) C (gX rows l) (some (.int (a:Int))) (some (bO (cu es rs (a:Int))))):=by
 unfold b12;have p:aQ [] 6 (aq cQ (ae (af 1) (ae (af 2) (ae (af 5) ah)))) (w12 S (ay es) (au rs) C (gX rows l) (some (.int (a:Int))) x6)=.nx (w12 S (ay es) (au rs) C (gX rows l) (some (.int (a:Int))) (some (bO (cu es rs (a:Int))))) :=
  fm (by decide:6<7) (ia rfl (kL l1 l6 ok o (by omega) (by omega)))
 rw[j8 p];cases q:cu es rs (a:Int) with
 |none=>rfl
 |some L =>
  have f:dIx (gX rows l) (.int (a:Int))=some (.list ((row.mapIdx λk c=>(dO l ((a:Int),(k:Int))).getD 0-c).map PyData.int)):=by rw[<-Fe];exact CK (by rw[Oo,b];rfl)
  generalize hv:(row.mapIdx λk c=>(dO l ((a:Int),(k:Int))).getD 0-c)=vs at f;have g:vs.length=row.length:=by rw[<-hv];simp
  have hle:∀x∈vs,x<=L:=λx n=>by rw[<-hv]at n;obtain⟨k,j,e⟩:=OD n;rw[List.getElem_mapIdx]at e;rw[<-e];exact h L q k (by simpa using j)
  have L1:=(sj q).1;have i:∃m,lV (0::vs)=some m/\m<=L:=⟨_,rfl,by
   rcases N5.mp (fold_max vs 0).1 with z|z
   ·rw[z];omega
   ·exact hle _ z⟩
  obtain⟨m,hm,hmL⟩:=i;have r:gF lW (ae (g2 aX (jN (ae (gC (.int 0)) ah)) (g2 dIx (af 4) (af 5))) ah) (w12 S (ay es) (au rs) C (gX rows l) (some (.int (a:Int))) (some (bO (some L))))=.ok (.int m):=by
   have s:g2 aX (jN (ae (gC (.int 0)) ah)) (g2 dIx (af 4) (af 5)) (w12 S (ay es) (au rs) C (gX rows l) (some (.int (a:Int))) (some (bO (some L))))=.ok (.list ((0::vs).map PyData.int)):=by refine AR (x:=.list [.int 0]) (y:=.list (vs.map PyData.int)) rfl (AR (x:=gX rows l) (y:=.int (a:Int)) rfl rfl f) ?_;show (if _<=1000000 then _ else _)=_;rw[if_pos (by simp[g];omega)];rfl
   rw[gA,aA,s,aG];show Rs.eE ((eS ((0::vs).map PyData.int)).bind λns=>(lV ns).map PyData.int)=_;rw[ee];show Rs.eE ((lV (0::vs)).map PyData.int)=_;rw[hm];rfl
  have u:gT (g2 dGt (gF lW (ae (g2 aX (jN (ae (gC (.int 0)) ah)) (g2 dIx (af 4) (af 5))) ah)) (af 6)) (w12 S (ay es) (au rs) C (gX rows l) (some (.int (a:Int))) (some (bO (some L))))=.ok false:=by
   have:g2 dGt (gF lW (ae (g2 aX (jN (ae (gC (.int 0)) ah)) (g2 dIx (af 4) (af 5))) ah)) (af 6) (w12 S (ay es) (au rs) C (gX rows l) (some (.int (a:Int))) (some (bO (some L))))=.ok (.bool false) :=
    AR r (y:=.int L) rfl (by show some (PyData.bool (decide (L<m)))=_;rw[decide_eq_false (by omega)])
   unfold gT;rw[this];rfl
  have v:rL (gT (g1 iJ (af 6))) (gT (g2 dGt (gF lW (ae (g2 aX (jN (ae (gC (.int 0)) ah)) (g2 dIx (af 4) (af 5))) ah)) (af 6))) (w12 S (ay es) (au rs) C (gX rows l) (some (.int (a:Int))) (some (bO (some L))))=.ok false:=by have w:gT (g1 iJ (af 6)) (w12 S (ay es) (au rs) C (gX rows l) (some (.int (a:Int))) (some (bO (some L))))=.ok true:=rfl;unfold rL;rw[w,Rs.ag];show (if true=true then _ else _)=_;rw[if_pos rfl,u]
  unfold sIf;rw[v];rfl
theorem l12 {S C:PyData} {es:List Er} {rs:List Int} {rows:List (List Int)} {l:PTl} (l1:1<=es.length) (l6:es.length<=6) (ok:∀e∈es,e.Ok) (f:cn es.length rs) (hl:rows.length=es.length) (few:∀r∈rows,r.length<=1000)
  (h:∀(a:Nat) (row:List Int) (L:Int),rows[a]?=some row->cu es rs (a:Int)=some L->∀k (hk:k<row.length),(dO l ((a:Int),(k:Int))).getD 0-row[k]<=L) :
  ∀(d:Nat) (a:Nat) (c x6:Option PyData),a+d=es.length->∃g j,forL (bB 5) b12 (bG (a:Int) d) (w12 S (ay es) (au rs) C (gX rows l) c x6)=.nx (w12 S (ay es) (au rs) C (gX rows l) g j)
 |0,a,c,x6,_=>⟨c,x6,rfl⟩
 |d+1,a,c,x6,e=>by
  have ha:a<rows.length:=by omega
  have b:rows[a]?=some rows[a]:=My ha;have m:bG (a:Int) (d+1)=.int (a:Int)::bG ((a+1:Nat):Int) d:=by unfold bG;rw[List.range_succ_eq_map,N0,Nz];refine List.cons_eq_cons.mpr ⟨by simp,Nv λi _=>?_⟩;show PyData.int ((a:Int)+((i+1:Nat):Int))=PyData.int (((a+1:Nat):Int)+(i:Int));congr 1;omega
  rw[m,sk (δ1:=w12 S (ay es) (au rs) C (gX rows l) (some (.int (a:Int))) x6) rfl (t12 l1 l6 ok f (by omega) b (few _ (NL ha)) (λL q=>h a _ L b q) x6)];exact l12 l1 l6 ok f hl few h d (a+1) _ _ (by omega)
theorem CF:rq "high":=⟨Am⟩
theorem law_holds (cs:Cs) (ns:List Int):Af cs cQ (eQ cs) (bZ cs) bW bD (some (aj ns)::List.replicate 6 none)=.rt (.bool true):=by
 obtain⟨es,rs,_,l1,l4,hok,i,c,e⟩:=Fs ns 12 28 (by decide) (by decide) (by decide);have l6:es.length<=6:=by omega
 have ok:yG es:=⟨l1,l6,hok⟩
 obtain⟨rows,f,C⟩:=ye (cs:=cs) ok (ns:=ns) (a:=5) (span:=80) (by decide) (by decide);have R:Ran es rs rows "high":=⟨ok,i,C.len,CF⟩
 obtain⟨t,j⟩:=C5 R C;have g:=yi (cs:=cs) R C j;obtain⟨_,_,o,p⟩:=Ai R C j;obtain⟨s,u,w⟩:=l12 (S:=aj ns) (C:=cmD rows) (l:=endsF 0 t []) l1 l6 hok i C.len (λr h=>by have:=(C.n5 r h).few;omega) (λa row L h q k m=>by obtain⟨v,hv⟩:=o a row h k m;rw[hv];exact p a row L h q k m v hv) es.length 0 none none (by omega)
 have x:aQ [] 1 (aq bD (ae (af 0) (ae (gC (.int 12)) (ae (gC (.int 4)) (ae (gC (.int 28)) (ae (gC (.bool true)) ah)))))) [some (aj ns),none,none,none,none,none,none]=.nx [some (aj ns),some (ay es),none,none,none,none,none]:=fm (by decide:1<7) (ia rfl c);have s2:aQ [] 2 (aq bW (ae (af 0) (ae (gC (.int 0)) (ae (gF bY (ae (af 1) ah)) ah)))) [some (aj ns),some (ay es),none,none,none,none,none]=.nx [some (aj ns),some (ay es),some (au rs),none,none,none,none]:=by refine fm (by decide:2<7) (ia (ds:=[aj ns,.int 0,.int (es.length:Int)]) ?_ e);show (ae (af 0) (ae (gC (.int 0)) (ae (gF bY (ae (af 1) ah)) ah))) [some (aj ns),some (ay es),none,none,none,none,none]=_;simp only[aA,aG,gA,ao,ar,cB,Rs.ag,Jf,Rs.ai]
 have y:aQ [] 3 (aq (bZ cs) (ae (af 0) (ae (gC (.int 5)) (ae (af 1) (ae (gC (.int 80)) ah))))) [some (aj ns),some (ay es),some (au rs),none,none,none,none]=.nx [some (aj ns),some (ay es),some (au rs),some (cmD rows),none,none,none]:=fm (by decide:3<7) (ia rfl f);have z:aQ [] 4 (aq (eQ cs) (ae (af 1) (ae (af 2) (ae (af 3) (ae (gC (.str "high")) ah))))) [some (aj ns),some (ay es),some (au rs),some (cmD rows),none,none,none]=.nx (w12 (aj ns) (ay es) (au rs) (cmD rows) (gX rows (endsF 0 t [])) none none):=fm (by decide:4<7) (ia rfl g);have b:fR (ae (gF bY (ae (af 1) ah)) ah) (mask [] (w12 (aj ns) (ay es) (au rs) (cmD rows) (gX rows (endsF 0 t [])) none none))=.ok (bG ((0:Nat):Int) es.length):=by
  have e1:(ae (gF bY (ae (af 1) ah)) ah) (mask [] (w12 (aj ns) (ay es) (au rs) (cmD rows) (gX rows (endsF 0 t [])) none none))=.ok [.int (es.length:Int)]:=by show (ae (gF bY (ae (af 1) ah)) ah) (w12 (aj ns) (ay es) (au rs) (cmD rows) (gX rows (endsF 0 t [])) none none)=_;unfold w12;simp only[aA,aG,gA,ao,ar,Rs.ag,Jf,Rs.ai]
  unfold fR;rw[e1,Rs.ag,kC (by omega) (by omega),NM];rfl
 have n:fW [] (fR (ae (gF bY (ae (af 1) ah)) ah)) (bB 5) b12 (w12 (aj ns) (ay es) (au rs) (cmD rows) (gX rows (endsF 0 t [])) none none)=.nx (w12 (aj ns) (ay es) (au rs) (cmD rows) (gX rows (endsF 0 t [])) s u):=by rw[DJ b,w]
 unfold b12 at n;unfold Af;show aF _ _ [some (aj ns),none,none,none,none,none,none]=_;rw[j8 x,j8 s2,j8 y,j8 z,j8 n];rfl
theorem Lq (cs:Cs):LLq (Af cs cQ (eQ cs) (bZ cs) bW bD) 1 6 (fL 63):=lawT_of (law_holds cs)
end RS
namespace L2
open PySem PySem.Spec PyProof.Rows
section
variable {E:XK}
end
end L2
set_option maxHeartbeats 4000000
namespace L2
open PySem PySem.Spec PyProof.Rows
def ndB:List Str->Bool
 |[]=>true
 |x::r=>!r.elem x&&ndB r
theorem uj:∀{l:List Str},ndB l=true->l.Nodup
 |[],_=>Pd
 |x::r,h=>by simp only[ndB,N6,Pk]at h;exact NP.mpr ⟨λz=>(by have:=List.elem_eq_true_of_mem z;rw[h.1]at this;cases this),uj h.2⟩
section
variable {k n n':Nat} {m:Str}
def AtX (X:Cx) (P:Program) (w:World) (K:PySem.W.Frag) (mg:Str->Option Value) (base:Heap):Prop:=X.prog=P/\X.w=w/\X.K=K/\X.mg=mg/\X.base=base
theorem iC.to (h:iC P w K mg base k x n gf) (a:AtX X P w K mg base) (hn:n=n'):iC X.prog X.w X.K X.mg X.base k x n' gf:=by obtain⟨rfl,rfl,rfl,rfl,rfl⟩:=a;subst hn;exact h
theorem i4.to (h:i4 P w K mg base k C m n gf) (a:AtX X P w K mg base) (hn:n=n'):i4 X.prog X.w X.K X.mg X.base k C m n' gf:=by obtain⟨rfl,rfl,rfl,rfl,rfl⟩:=a;subst hn;exact h
theorem jZ.to (h:jZ P w K mg base k C m g) (a:AtX X P w K mg base):jZ X.prog X.w X.K X.mg X.base k C m g:=by obtain⟨rfl,rfl,rfl,rfl,rfl⟩:=a;exact h
theorem qw.to {l:List Str} (h:qw P w K mg base k x C l) (a:AtX X P w K mg base):qw X.prog X.w X.K X.mg X.base k x C l:=by obtain⟨rfl,rfl,rfl,rfl,rfl⟩:=a;exact h
end
def yu (K:PySem.W.Frag) (C:Addr) (m q:Str) (st:Stmt) (ps:List Str):Prop:=∃f fd,Fun K m q st f fd/\Binds K fd ps []/\Meth K C m f
def Mf (K:PySem.W.Frag) (C:Addr) (q:Str) (st:Stmt) (ps:List Str):Prop:=∃f fd,Mk K C f/\Fun K "__init__" q st f fd/\Binds K fd ps []
end L2
namespace RS
open PySem PySem.Spec PyProof.Rows L2
theorem Bd (d:α) {us:List α} {n:Nat} (h:us.length=n):∃f:Nat->α,us=(List.range n).map f :=
 ⟨λi=>us.getD i d,Pr (by simp[h]) λi h1 h2=>by simp[Nw,My h1]⟩
section
variable {m q:Str} {G:Ds->Sr} {gf:Gf}
abbrev Bod (P:Program) (w:World) (K:PySem.W.Frag) (mg:Str->Option Value) (base:Heap) (q:Str) (st:Stmt) (k:Nat) (O:List Nat) (N:List Str) (G:Ds->Sr):Prop:=∀(f:Addr) (cdv:Value) (A:Around) (outer:List Env) (s:Shared) (H:Hp) (E:XK),N.Nodup->cg k (A.deeper (envOfC q (aC st) s.heap.objs.size f cdv))->PBD (c9 (CXW P w) P w K mg base N q (aC st) f cdv A outer s H E) E O (bV st) G
theorem dA (P:Program) (w:World) (base:Heap) (k:Nat) (O:List Nat) (N:List Str) (h:bF K mg x st ps) (a:∀ds,ds.length=ps.length->gf ds≠.no->a8 (G (ds.map some++List.replicate (N.length-ps.length) none))=gf ds)
  (body:Bod P w K mg base x st k O N G) (S:cX N ps (aC st):=by exact⟨rfl,rfl,rfl,by decide +kernel,rfl,by decide +kernel,by decide +kernel⟩) (c:∀i∈O,ps.length<=i:=by decide):iC P w K mg base (k+1) x ps.length gf:=by
 obtain⟨f,fd,F,b,m⟩:=h;exact iC.of F S b m c (λcdv A outer s H E=>body f cdv A outer s H E S.nd) a
theorem dM (P:Program) (w:World) (base:Heap) (k:Nat) (O:List Nat) (N:List Str) (h:yu K C m q st ps) (cl:Cls K C) (a:∀ds,ds.length=ps.length->gf ds≠.no->a8 (G (ds.map some++List.replicate (N.length-ps.length) none))=gf ds)
  (body:Bod P w K mg base q st k O N G) (S:cX N ps (aC st):=by exact⟨rfl,rfl,rfl,by decide +kernel,rfl,by decide +kernel,by decide +kernel⟩) (c:∀i∈O,ps.length<=i:=by decide):i4 P w K mg base (k+1) C m ps.length gf:=by
 obtain⟨f,fd,F,b,hm⟩:=h;exact i4.of F S b cl hm c (λcdv A outer s H E=>body f cdv A outer s H E S.nd) a
theorem dK (k:Nat) (N:List Str) {p:Str} {G:List Addr->Ds->Sr} (h:yu K C m q st [p]) (cl:Cls K C) (e:∀a fds c,f7 fds=true->fds.length<1000->g fds=some c->∃δ,G [a] (some (ck C a fds)::List.replicate (N.length-1) none)=.nx δ/\δ[0]?=some (some (ck C a c)))
  (body:∀(as:List Addr) (f:Addr) (cdv:Value) (A:Around) (outer:List Env) (s:Shared) (H:Hp) (E:XK),N.Nodup->cg k (A.deeper (envOfC q (aC st) s.heap.objs.size f cdv))->PBN as (c9 (CXW P w) P w K mg base N q (aC st) f cdv A outer s H E) E [] (bV st) (G as)) (S:cX N [p] (aC st):=by exact⟨rfl,rfl,rfl,by decide +kernel,rfl,by decide +kernel,by decide +kernel⟩):jZ P w K mg base (k+1) C m g:=by
 obtain⟨f,fd,F,b,hm⟩:=h;exact jZ.of F S b cl hm (λas cdv A outer s H E=>body as f cdv A outer s H E S.nd) e
theorem dT (k:Nat) (O:List Nat) (N:List Str) (h:bF K mg x st ps) (hm:∀g,PySem.W.nsIn K mainGlobals x=some (some (.ref g))->mg x=some (.ref g)) (a:G7 K x) (hB:oq mg base) (hK:K.In base) (e:∀ds,ds.length=ps.length->gf ds≠.no->a8 (G (ds.map some++List.replicate (N.length-ps.length) none))=gf ds)
  (body:∀(f:Addr) (cdv:Value) (A:Around) (outer:List Env) (s:Shared) (H:Hp) (E:XK),N.Nodup->cg k (A.deeper (envOfC x (aC st) s.heap.objs.size f cdv))->∀c j,Fm (c9 (CXW P w) P w K mg base N x (aC st) f cdv A outer s H E) c j->PBD (c9 (CXW P w) P w K mg base N x (aC st) f cdv A outer s H E) E O (bV st) G) (S:cX N ps (aC st):=by exact⟨rfl,rfl,rfl,by decide +kernel,rfl,by decide +kernel,by decide +kernel⟩) (l:∀i∈O,ps.length<=i:=by decide) (n:x∈mJ:=by decide) (o:∀(f L:Addr) (cdv:Value),(envOfC x (aC st) L f cdv).qual++"<lambda>"=x++".<locals>.<lambda>":=by exact λ_ _ _=>rfl):iC P w K mg base (k+1) x ps.length gf:=by
 obtain⟨f,fd,F,b,m⟩:=h;exact iC.ofL F S b m l n hm a hB hK (o f) (λcdv A outer s H E=>body f cdv A outer s H E S.nd) e
theorem dL (k:Nat) (O:List Nat) (N:List Str) (F:Fun K x x st f fd) (a:∀ds,ds.length=ps.length->gf ds≠.no->a8 (G (ds.map some++List.replicate (N.length-ps.length) none))=gf ds)
  (body:Bod P w K mg base x st k O N G) (S:cX N ps (aC st):=by exact⟨rfl,rfl,rfl,by decide +kernel,rfl,by decide +kernel,by decide +kernel⟩) (b:∀i∈O,ps.length<=i:=by decide):gB P w K mg base (CXW P w) (k+1) f fd ps (spD K ps.length gf) :=
 Ar F S b (λcdv A outer s H E=>body f cdv A outer s H E S.nd) a
end
end RS
set_option maxHeartbeats 0
namespace RS
open PySem PySem.Spec PyProof.Rows L2
def top (i:Nat):Stmt:=PySem.Challenge.pw_ranksure_k12_whole_no_longer.main.body.getD i (.Pass ⟨0,0,0,0⟩)
structure pG (K:PySem.W.Frag) (C:Addr):Prop where
 cl:Cls K C
 na:∀f∈["number", "part", "tool", "times"],fg K C f
 mi:Mf K C "Holding.__init__" (inClass (top 28) 0) ["self", "number", "part", "tool", "times"]
structure AF (K:PySem.W.Frag) (C:Addr):Prop where
 cl:Cls K C
 na:∀f∈["number", "parts", "rank", "row", "job", "part", "spent"],fg K C f
 mi:Mf K C "Jobs.__init__" (inClass (top 43) 0) ["self", "number", "parts", "rank", "row"]
 mt_Jobs_are_done:yu K C "are_done" "Jobs.are_done" (inClass (top 43) 1) ["self"]
 mt_Jobs_is_there:yu K C "is_there" "Jobs.is_there" (inClass (top 43) 2) ["self", "time"]
 mt_Jobs_held:yu K C "held" "Jobs.held" (inClass (top 43) 3) ["self"]
 mt_Jobs_wanted:yu K C "wanted" "Jobs.wanted" (inClass (top 43) 4) ["self"]
 mt_Jobs_go_on:yu K C "go_on" "Jobs.go_on" (inClass (top 43) 5) ["self"]
structure Tx (K:PySem.W.Frag) (mg:Str->Option Value) (cs:Cs):Prop where
 f_is_whole:bF K mg "is_whole" (top 14) ["thing", "least", "most"]
 f_is_tuple:bF K mg "is_tuple" (top 15) ["thing", "fewest", "most"]
 f_is_part:bF K mg "is_part" (top 16) ["thing"]
 f_are_parts:bF K mg "are_parts" (top 17) ["thing"]
 f_is_errand:bF K mg "is_errand" (top 18) ["thing"]
 f_checked:bF K mg "checked" (top 19) ["errands"]
 f_checked_ranks:bF K mg "checked_ranks" (top 20) ["errands", "ranks"]
 f_checked_number:bF K mg "checked_number" (top 21) ["errands", "number"]
 f_check_place:bF K mg "check_place" (top 22) ["errands", "ranks", "number"]
 f_work_of:bF K mg "work_of" (top 23) ["errand"]
 f_has_tool:bF K mg "has_tool" (top 24) ["errand", "tool"]
 f_height:bF K mg "height" (top 25) ["errands", "ranks", "tool"]
 f_heights_of:bF K mg "heights_of" (top 26) ["errands", "ranks"]
 f_holdings:bF K mg "holdings" (top 29) ["errands", "ranks", "number"]
 f_hold_by_high:bF K mg "hold_by_high" (top 30) ["errands", "ranks", "number"]
 f_rounded_up:bF K mg "rounded_up" (top 31) ["times", "every"]
 f_need:bF K mg "need" (top 32) ["errands", "ranks", "number", "held_up", "times"]
 f_levels_by:bF K mg "levels_by" (top 33) ["errands", "ranks", "number", "held_up"]
 f_longest_by:bF K mg "longest_by" (top 34) ["errands", "ranks", "number", "held_up"]
 f_longest_by_high:bF K mg "longest_by_high" (top 35) ["errands", "ranks", "number"]
 f_longest:bF K mg "longest" (top 36) ["errands", "ranks", "number"]
 f_have_moments:bF K mg "have_moments" (top 40) ["errand", "row"]
 f_is_row:bF K mg "is_row" (top 41) ["errand", "thing"]
 f_checked_comings:bF K mg "checked_comings" (top 42) ["errands", "comings"]
 f_height_by_high:bF K mg "height_by_high" (top 44) ["jobs", "tops"]
 f_holder:bF K mg "holder" (top 45) ["there", "tool"]
 f_lent_ranks:bF K mg "lent_ranks" (top 46) ["there"]
 f_picked:bF K mg "picked" (top 47) ["there", "tops", "lending"]
 f_run_of:bF K mg "run_of" (top 48) ["errands", "ranks", "rows", "lending"]
 f_run:bF K mg "run" (top 49) ["errands", "ranks", "comings", "lending"]
 f_answers_of:bF K mg "answers_of" (top 50) ["number", "row", "ends"]
 f_answers_in:bF K mg "answers_in" (top 51) ["rows", "told"]
 f_answers:bF K mg "answers" (top 52) ["errands", "ranks", "comings", "lending"]
 f_law_cell_at:bF K mg "_law_cell_at" (top 54) ["_law_script", "_law_k"]
 f_law_mixed:bF K mg "_law_mixed" (top 55) ["_law_script", "_law_k", "_law_many"]
 f_law_errand:bF K mg "_law_errand" (top 56) ["_law_script", "_law_at", "_law_top", "_law_tools"]
 f_law_errands:bF K mg "_law_errands" (top 57) ["_law_script", "_law_at", "_law_most", "_law_top", "_law_tools"]
 f_law_ranks:bF K mg "_law_ranks" (top 58) ["_law_script", "_law_at", "_law_many"]
 f_law_coming_row:bF K mg "_law_coming_row" (top 59) ["_law_script", "_law_at", "_law_errand_here", "_law_span"]
 f_law_comings:bF K mg "_law_comings" (top 60) ["_law_script", "_law_at", "_law_errands_here", "_law_span"]
 f_law:bF K mg "law" (top 61) ["_law_script"]
 bs:∀x∈["all", "bool", "enumerate", "int", "isinstance", "len", "list", "max", "min", "range", "set", "sum", "tuple", "zip"],mg x=none
 cst:∀q∈([("LAST_COMING",9999),("LEAST_EVERY",2),("MOST_COMINGS",60),("MOST_ERRANDS",6),("MOST_EVERY",60),("MOST_LATE",20),("MOST_LENGTH",20),("MOST_PARTS",4),("TOOLS",4)]:List (Str×Int)),∃t,mg q.1=some (.int q.2 t)
 e_NoComings:rZ K mg "NoComings" cs.NoComings
 e_NoErrand:rZ K mg "NoErrand" cs.NoErrand
 e_NoErrands:rZ K mg "NoErrands" cs.NoErrands
 e_NoRanks:rZ K mg "NoRanks" cs.NoRanks
 m_Holding:mg "Holding"=some (.ref cs.Holding)
 k_Holding:pG K cs.Holding
 m_Jobs:mg "Jobs"=some (.ref cs.Jobs)
 k_Jobs:AF K cs.Jobs
 tb_picked:G7 K "picked"
 nm_picked:∀g,PySem.W.nsIn K mainGlobals "picked"=some (some (.ref g))->mg "picked"=some (.ref g)
structure Ty (K:PySem.W.Frag) (mg:Str->Option Value) (cs:Cs) (base:Heap):Prop extends Tx K mg cs where
 hB:oq mg base
 hK:K.In base
section
theorem yE:cX ["_law_script", "_law_k"] ["_law_script", "_law_k"] (aC (top 54)):=⟨rfl,rfl,rfl,by decide +kernel,rfl,by decide +kernel,by decide +kernel⟩
theorem yX (F:Fun K "_law_cell_at" "_law_cell_at" (top 54) f fd) (bl:mg "len"=none):gB P w K mg base CX0 1 f fd ["_law_script", "_law_k"] (Em K):=by
 refine F.ok yE (λvs H Q E h=>?_) (λcdv A outer s H vs Q E l h=>?_)
 ·obtain⟨a,ns,k,rfl,_⟩:=h;rfl
 ·obtain⟨a,ns,k,rfl,e,m,g⟩:=h;refine⟨_,cx (Ay (zC (LC (pv 1) (eX i9 rfl bl PySem.boot_len (eB (pv 0) fV)))) (ie (qZ (De vD (pv 0) (pv 1) (λ_ _=>rfl)))) vt)
   (cx (Ay (kx (yw l.units) (pv 0) (yH fV) (jn _)) (ie (qZ f6)) vt)
   (ie (qZ (eR nX (eR nM (De vD (pv 0) (eR qN (pv 1) (eX i9 rfl bl PySem.boot_len (eB (pv 0) fV))) (λ_ _=>rfl)) f6) (pv 1))))),?_⟩
  refine⟨_,rfl,_,rfl,a,_,rfl,.inl e,k,_,rfl,rfl,_,rfl,?_⟩;have hlen:(ns.map V.int).length=ns.length:=N4 ..;rw[hlen];refine Me (λhc=>?_) (λhc=>?_)
  ·have hc:k<(ns.length:Int):=of_decide_eq_true hc;have hi:k.toNat<ns.length:=by omega
   refine⟨_,rfl,_,rfl,a,_,k,.int (ns.getD k.toNat 0),rfl,rfl,e,uA m ?_,?_⟩
   ·rw[Nx,My hi,Nw,My hi];rfl
   ·have:=g H (aw.refl H);rw[show cellAt ns k=ns.getD k.toNat 0 by unfold cellAt;rw[if_pos hc]]at this;exact this
  ·have hc:¬ k<(ns.length:Int):=λz=>hc (decide_eq_true z)
   refine⟨_,rfl,NY _,λp i=>⟨.list (ns.map .int),.list [],(vC e (sg ns)).same (g9 i),vC (SqL.of aE) rg,shaped_ints ns,yx,_,rfl,?_⟩⟩;rw[D6];refine Me (λb=>?_) (λb=>?_)
   ·have b:ns=[]:=of_decide_eq_true b;have:=g _ (g9 (o:=.lst []) i);rw[show cellAt ns k=0 by unfold cellAt;rw[if_neg hc,if_pos b]]at this;exact this
   ·have b:¬ ns=[]:=λz=>b (decide_eq_true z)
    have c:0<(ns.length:Int):=by
     cases ns with
     |nil=>exact absurd rfl b
     |cons _ _=>simp
    have h1:0<=k % (ns.length:Int):=O1 _ (by omega);have h2:k % (ns.length:Int)<(ns.length:Int):=Ol _ c;have hi:(k % (ns.length:Int)).toNat<ns.length:=by omega
    have j:aw H (upd H p (.lst [])):=g9 i;refine⟨_,rfl,_,rfl,_,rfl,a,_,rfl,.inl (j.seq e),_,_,rfl,rfl,by rw[hlen];exact c,a,_,_,.int (ns.getD (k % (ns.length:Int)).toNat 0),rfl,rfl,j.seq e,?_,_,_,rfl,rfl,.inr ⟨by decide,by decide⟩,_,rfl,_,_,rfl,rfl,?_⟩
    ·rw[hlen];refine uA h1 ?_;rw[Nx,My hi,Nw,My hi];rfl
    ·have:=g _ j;rw[show cellAt ns k=ns.getD (k % (ns.length:Int)).toNat 0*31+k by unfold cellAt;rw[if_neg hc,if_neg b]]at this;exact this
theorem wQ:cX ["_law_script", "_law_k", "_law_many", "_law_drawn"] ["_law_script", "_law_k", "_law_many"] (aC (top 55)):=⟨rfl,rfl,rfl,by decide +kernel,rfl,by decide +kernel,by decide +kernel⟩
theorem Eh {b:FuncData} (F:Fun K "_law_mixed" "_law_mixed" (top 55) f fd) (e:Fun K "_law_cell_at" "_law_cell_at" (top 54) c b) (g:Binds K b ["_law_script", "_law_k"] []) (j:mg "_law_cell_at"=some (.ref c)) (bl:mg "len"=none):gB P w K mg base CX0 2 f fd ["_law_script", "_law_k", "_law_many"] (Ir K):=by
 have l:gB P w K mg base CX0 1 c b _ (Em K):=yX e bl;refine F.ok wQ (λvs H Q E h=>?_) (λcdv A outer s H vs Q E m h=>?_)
 ·obtain⟨a,ns,k,many,rfl,_⟩:=h;rfl
 ·obtain⟨a,ns,k,many,rfl,n,o,hm,p⟩:=h;refine⟨_,cx (nN (i:=3) wQ.nd rfl (Or.inl rfl) (eR qN (eR nM (eR nX (eR nX (Az l m rfl j e.kp g .nil LQ (eB (pv 0) (eB (pv 1) fV))) (eR nM f6 (pv 1))) f6) f6) f6))
   (ie (qZ (eR qN (eR qN (eR nX (eR nX (eR nM (pv 3) (pv 3)) (eR nM f6 (pv 3))) (pv 1)) f6) (pv 2)))),?_⟩
  refine⟨_,rfl,_,rfl,a,ns,k,rfl,n,o,λH1 q=>?_⟩;refine⟨_,rfl,_,_,rfl,rfl,.inl ⟨by decide,by decide⟩,_,_,rfl,rfl,_,_,rfl,rfl,_,_,rfl,rfl,.inr ⟨by decide,by decide⟩,_,_,rfl,rfl,(by show (0:Int)<2147483647;decide),?_⟩;have b1:=Hz ns k;have b2:=GK ns k;have eD:(cellAt ns k+7919*k+1)*48271 % 2147483647=BB ns k:=rfl;refine⟨_,rfl,_,rfl,_,_,rfl,rfl,.inl ⟨?_,?_⟩,_,rfl,_,_,rfl,rfl,.inl ⟨by decide,by decide⟩,_,_,rfl,rfl,_,rfl,_,_,rfl,rfl,_,_,rfl,rfl,(by show (0:Int)<2147483629;decide),_,rfl,_,_,rfl,rfl,hm,p H1 q⟩
  ·show -(2 ^ 64)<(cellAt ns k+7919*k+1)*48271 % 2147483647;rw[eD];omega
  ·show (cellAt ns k+7919*k+1)*48271 % 2147483647<2 ^ 64;rw[eD];omega
theorem xy (T:Tx K mg cs):iC P w K mg base 2 "_law_mixed" 3 ak:=by obtain⟨f,fd,F,b,m⟩:=T.f_law_mixed;obtain⟨fC,fdC,a,c,e⟩:=T.f_law_cell_at;exact iC.old (Eh F a c e (T.bs _ (by decide))) m F.kp b HS
theorem Co (T:Tx K mg cs):qw P w K mg base 1 "Holding" cs.Holding ["number", "part", "tool", "times"]:=by
 obtain⟨f,fd,M,F,b⟩:=T.k_Holding.mi;refine⟨f,fd,_,M,l7 (k:=0) (N:=["self", "number", "part", "tool", "times"]) F ⟨rfl,rfl,rfl,by decide +kernel,rfl,by decide +kernel,by decide +kernel⟩ (λvs H Q E h=>?_) (λcdv A outer s H vs Q E hr h=>?_),b,T.m_Holding⟩
 ·obtain⟨x,dx,args,rfl,hl,_⟩:=h;rw[Nu,hl];rfl
 ·obtain⟨x,dx,args,rfl,hl,c,k⟩:=h;obtain⟨g,rfl⟩:=Bd .non hl;refine⟨_,(cx (fU (pv 0) (pv 1) rfl) (cx (fU (pv 0) (pv 2) rfl) (cx (fU (pv 0) (pv 3) rfl) (ie (fU (pv 0) (pv 4) rfl))))),?_⟩;refine⟨_,rfl,_,rfl,x,cs.Holding,dx,_,rfl,c,T.k_Holding.cl,T.k_Holding.na _ (by decide),(by show 0<1000;decide),_,rfl,_,rfl,x,cs.Holding,dx,_,rfl,aE,T.k_Holding.cl,T.k_Holding.na _ (by decide),(by show 1<1000;decide),_,rfl,_,rfl,x,cs.Holding,dx,_,rfl,aE,T.k_Holding.cl,T.k_Holding.na _ (by decide),(by show 2<1000;decide),_,rfl,_,rfl,x,cs.Holding,dx,_,rfl,aE,T.k_Holding.cl,T.k_Holding.na _ (by decide),(by show 3<1000;decide),?_⟩;exact k _ (λb a=>by rw[az a,az a,az a,az a]) (by rw[aE];rfl)
theorem zH (T:Tx K mg cs):MkD P w K mg base 1 "Jobs" cs.Jobs JN JT:=by
 obtain⟨f,fd,M,F,b⟩:=T.k_Jobs.mi;refine⟨f,fd,_,M,l7 (k:=0) (N:=["self", "number", "parts", "rank", "row"]) F ⟨rfl,rfl,rfl,by decide +kernel,rfl,by decide +kernel,by decide +kernel⟩ (λvs H Q E h=>?_) (λcdv A outer s H vs Q E hr h=>?_),b,T.m_Jobs⟩
 ·obtain⟨x,dx,args,rfl,hl,_⟩:=h;rw[Nu,hl];rfl
 ·obtain⟨x,dx,args,rfl,hl,c,k⟩:=h;obtain⟨g,rfl⟩:=Bd .non hl;refine⟨_,(cx (fU (pv 0) (pv 1) rfl) (cx (fU (pv 0) (pv 2) rfl) (cx (fU (pv 0) (pv 3) rfl) (cx (fU (pv 0) (pv 4) rfl) (cx (fU (pv 0) f6 rfl) (cx (fU (pv 0) f6 rfl) (ie (fU (pv 0) f6 rfl)))))))),?_⟩;refine⟨_,rfl,_,rfl,x,cs.Jobs,dx,_,rfl,c,T.k_Jobs.cl,T.k_Jobs.na _ (by decide),(by show 0<1000;decide),_,rfl,_,rfl,x,cs.Jobs,dx,_,rfl,aE,T.k_Jobs.cl,T.k_Jobs.na _ (by decide),(by show 1<1000;decide),_,rfl,_,rfl,x,cs.Jobs,dx,_,rfl,aE,T.k_Jobs.cl,T.k_Jobs.na _ (by decide),(by show 2<1000;decide),_,rfl,_,rfl,x,cs.Jobs,dx,_,rfl,aE,T.k_Jobs.cl,T.k_Jobs.na _ (by decide),(by show 3<1000;decide),_,rfl,x,cs.Jobs,dx,_,rfl,aE,T.k_Jobs.cl,T.k_Jobs.na _ (by decide),(by show 4<1000;decide),_,rfl,x,cs.Jobs,dx,_,rfl,aE,T.k_Jobs.cl,T.k_Jobs.na _ (by decide),(by show 5<1000;decide),_,rfl,x,cs.Jobs,dx,_,rfl,aE,T.k_Jobs.cl,T.k_Jobs.na _ (by decide),(by show 6<1000;decide),?_⟩;exact k _ (λb a=>by rw[az a,az a,az a,az a,az a,az a,az a]) (by rw[aE];rfl)
set_option hygiene false
local macro_rules | `(tactic| infer_instance)=>`(tactic| first|((with_reducible show _=_);exact rfl)|(with_reducible first|(show PD _ _ _ _;first|refine' IL ..|refine' KQ ..|refine' F6 ..|refine' Lp ..|refine' KW ..|refine' IK ..|refine' JS ..|refine' LO ..|refine' IH ..|refine' IU ..|refine' IZ ..|refine' Ju ..|refine' KN ..|refine' Ki ..|refine' Kb ..|refine' IY ..|refine' Km ..|refine' Lr ..|refine' Mw ..|refine' JM ..|refine' IT ..|refine' JK ..|refine' Dw ..|refine' FZ ..|refine' IJ ..|(show PD _ _ _ (aq (tG _ _) _);apply GX)|refine' GR ..|(show PD _ _ _ (aq _ _);apply F9)|refine' Bz ..|refine' Ci ..|refine' K8 ..|refine' JA ..|refine' JR ..|refine' Ea ..|refine' xW ..|refine' BJ ..|refine' HR ..|refine' FK ..|refine' GG ..|refine' Ib ..|refine' Ef ..|(show PD _ _ _ (bp _ _ _ _ ah);apply D8)|(show PD _ _ _ (bp _ _ _ _ _);apply Gm)|refine' LB ..|refine' Mv ..|refine' LH ..|refine' Mh ..|refine' IC ..|refine' GH ..)|(show PAD _ _ _ _;first|refine' C0 ..|refine' Ht ..)|(show PCD _ _ _ _;first|refine' Jc ..|refine' JB ..|refine' Jy ..|refine' II ..|refine' Jd ..|refine' HN ..|refine' CG ..|refine' FR ..|refine' Ih (AO ..)|refine' Ih (EN ..)|refine' GD ..)|(show PSD _ _ _ _ _;first|refine' vE ..|refine' Dx ..|refine' Cb ..|(show PSD _ _ _ _ (ph _ _ _ _ _ _ _);apply D3)|refine' EV ..|refine' E5 ..|(show PSD _ _ _ (.Assign _ (.ListComp _ _ _ _) _) (aQ _ _ (gL _));apply Dt;apply EC;focus with_unfolding_all exact rfl)|refine' Gb ..|refine' C4 ..|refine' HI ..|refine' B4 ..|refine' Eo ..|refine' FQ ..|refine' Gy ..|refine' yB ..|refine' FT ..|refine' EL ..|(show PSD _ _ _ _ (fW _ _ _ _);apply Hd)|refine' Cf ..)|(show PBD _ _ _ _ _;first|refine' uM ..|refine' oW ..|refine' iY ..)|(show PLD _ _ _ _;first|(show PLD _ _ _ (bw _ _ _ _ _);apply Fg)|refine' Gv ..|refine' Cp ..)|(show PID _ _ _ _ _;first|refine' ya ..|refine' DU ..|refine' Hw ..|refine' GP ..)|(show PIf _ _ _;first|exact PIf.nil|refine' PIf.one ..)|(show PWD _ _ _ _;first|refine' AO ..|refine' EN ..|refine' EO ..|refine' Hf ..)|(show TgS _ _ _ _;first|refine' CP ..|refine' G4 ..)|(show POD _ _ _ _;first|refine' Dv ..|refine' DS ..)|(show PSN _ _ _ _ _ _;first|refine' JG ..|refine' Bv ..|refine' Gk ..|refine' yD ..|(show PSN _ _ _ _ _ (k6 _ _ _ _ _);apply Fq)|refine' Jl ..)|(show PBN _ _ _ _ _ _;first|refine' FV ..|refine' AJ ..|refine' xA ..)) <;> infer_instance|((with_reducible show PBD _ _ _ _ _); first|refine' iY ?_ ?_|refine' oW ?_) <;> infer_instance|((with_reducible show PBN _ _ _ _ _ _); first|refine' xA ?_ ?_|refine' AJ ?_) <;> infer_instance|((with_reducible show PG _ _ _); first|refine' uu ?_ ?_ ?_|refine' DE ?_ ?_) <;> infer_instance|((with_reducible show PGs _ _ _); first|refine' pA ?_ ?_|exact Ad) <;> infer_instance|exact rfl|((with_reducible show iC _ _ _ _ _ _ _ _ _);(with_reducible refine' iC.to ?z1 ?z2 ?z3);(case z1=>with_reducible assumption);(case z2=>exact⟨rfl,rfl,rfl,rfl,rfl⟩);(case z3=>rfl))|((with_reducible show i4 _ _ _ _ _ _ _ _ _ _);(with_reducible refine' i4.to ?z1 ?z2 ?z3);(case z1=>with_reducible assumption);(case z2=>exact⟨rfl,rfl,rfl,rfl,rfl⟩);(case z3=>rfl))|((with_reducible show jZ _ _ _ _ _ _ _ _ _);(with_reducible refine' jZ.to ?z1 ?z2);(case z1=>with_reducible assumption);(case z2=>exact⟨rfl,rfl,rfl,rfl,rfl⟩))|((with_reducible show qw _ _ _ _ _ _ _ _ _);(with_reducible refine' qw.to ?z1 ?z2);(case z1=>with_reducible assumption);(case z2=>exact⟨rfl,rfl,rfl,rfl,rfl⟩))|exact hr|exact HA|exact xj|exact T.bs _ (by decide +kernel)|exact T.cst (_,_) (by decide +kernel)|exact .inl rfl|exact .inr rfl|exact .inr (.inl rfl)|exact .inr (.inr rfl)|exact nd|exact uj (by kernel_rfl)|exact PassesOwn.leaving|exact DC|exact vR|exact λ_=>rfl|exact λ_ _=>rfl|((with_reducible intro _ _ _ _);infer_instance)|exact T.e_NoComings|exact T.e_NoErrand|exact T.e_NoErrands|exact T.e_NoRanks|exact J9|exact T.k_Holding.cl|exact T.k_Holding.na _ (by decide +kernel)|exact T.k_Jobs.cl|exact T.k_Jobs.na _ (by decide +kernel)|exact En|exact bt_bool|exact vL|exact vo|exact cg.u1 hr|exact hr.units|exact⟨rfl,rfl,rfl,rfl⟩|exact hr.in1.deeper _|exact cg.u1 (hr.in1.deeper _)|decide|with_unfolding_all rfl)
local macro_rules | `(tactic| nofun)=>`(tactic| (try have:=Co (P:=P) (w:=w) (base:=base) T.toTx;try have:=yr P w T;try have:=DW P w T;try have:=jl P w T;try have:=yd P w T;try have:=qY P w T;try have:=Bg P w T;try have:=uT P w T;try have:=KR P w T;try have:=wN P w T;try have:=uE P w T;try have:=mF P w T;try have:=yQ P w T;try have:=mZ P w T;try have:=zt P w T;try have:=oM P w T;try have:=BV P w T;try have:=wt P w T;try have:=wH P w T;try have:=BA P w T;try have:=rQ P w T;try have:=Bp P w T;try have:=qW P w T;try have:=DR P w T;try have:=mq P w T;try have:=fX P w T;try have:=rK P w T;try have:=wq P w T;try have:=DB P w T;try have:=uq P w T;try have:=nR P w T;try have:=qS P w T;try have:=fZ P w T;try have:=jq P w T;try have:=CH P w T;try have:=Mn P w T;try have:=vj P w T;try have:=vG P w T;try have:=Cv P w T;try have:=xy (P:=P) (w:=w) (base:=base) T.toTx;try have:=mU P w T;try have:=rJ P w T;try have:=vV P w T;try have:=vz P w T;try have:=rO P w T))
local macro_rules | `(tactic| and_intros)=>`(tactic| (nofun;intro f cdv A outer s H E nd hr;infer_instance))
theorem Bf (T:Tx K mg cs) { aP aU cE aO gf:Gf} {gm_Jobs_go_on:List (Str×PyData)->Option (List (Str×PyData))} (jl:iC P w K mg base 3 "heights_of" 2 aP) (fX:i4 P w K mg base 1 cs.Jobs "are_done" 1 aU) (qS:iC P w K mg base 6 "picked" 3 cE) (fZ:i4 P w K mg base 1 cs.Jobs "is_there" 2 aO) (jq:jZ P w K mg base 3 cs.Jobs "go_on" gm_Jobs_go_on) (zH:MkD P w K mg base 1 "Jobs" cs.Jobs JN JT) {Gt:Ds->Sr}
  (hGt:∀δ,Gt δ≠.no->∃d ds fss,Gt δ=.rt d/\5<δ.length/\δ.length=9/\(fw (ae (af 2) ah)) (mask [6] δ)=.ok ds/\ds.length<=1000000/\fss.length=ds.length/\(∀(i:Nat) d,ds[i]?=some d->∃ow fs,eO d=some ow/\fss[i]?=some fs/\(ae (af 9) (ae (g2 dIx (g2 dIx (af 0) (af 9)) (gC (.int 3))) (ae (rm (af 1) (af 9)) (ae (af 10) ah)))) (mask [6] δ++ow)=.ok fs/\fs.length=JN.length) /\
   ∀as:List Addr,as.length=ds.length->as.Nodup->jt cs aP aU cE aO gm_Jobs_go_on as (δ.set 5 (some (.list (kI cs.Jobs JN JT as fss))))=.rt d)
  (hL:∀ds,ds.length=4->gf ds≠.no->a8 (aF (aQ [6] 4 (aq aP (ae (af 0) (ae (af 1) ah)))) Gt (ds.map some++List.replicate 5 none))=gf ds):iC P w K mg base 7 "run_of" 4 gf :=
 dA P w base 6 [6] ["errands", "ranks", "rows", "lending", "tops", "queues", "told", "there", "best"] T.f_run_of hL λf cdv A outer s H E nd hr=>iY (by infer_instance) (FO (PS.imp (pP (i:=5) (M:=["errands", "ranks", "rows", "lending", "tops", "queues", "told", "there", "best"]) (own:=["number", "row"]) (te:=eMk K E0 cs.Jobs JN JT (ae (af 9) (ae (g2 dIx (g2 dIx (af 0) (af 9)) (gC (.int 3))) (ae (rm (af 1) (af 9)) (ae (af 10) ah))))) rfl nd rfl (by first|exact Or.inl rfl|exact Or.inr rfl) rfl (show PID _ E _ _ (fw (ae (af 2) ah)) from by infer_instance) (λ_ _ _ _=>(DE rfl (pA (uu (i:=9) (uj (by kernel_rfl)) rfl (Or.inl rfl) (.inr rfl)) (pA (uu (i:=10) (uj (by kernel_rfl)) rfl (Or.inl rfl) (.inr rfl)) Ad)))) (λ_ _ _ _=>.nil) (λ_ _ _ _=>Lv zH hr xj (by infer_instance))) (λD σ H h=>JC (n0:=9) vR σ H _ h)) (λas=>by delta jt;infer_instance) (by decide) hGt)
variable (P w) (T:Ty K mg cs base)
def yr:=dA P w base 0 [] ["errand", "tool"] T.f_has_tool (zL cs) (by delta ja;and_intros)
def DW:=dA P w base 1 [] ["errands", "ranks", "tool", "place", "number"] T.f_height (ES cs) (by delta lU;and_intros)
def jl:=dA P w base 2 [] ["errands", "ranks"] T.f_heights_of (u7 cs) (by delta gw;and_intros)
def yd:=dA P w base 3 [5] ["errands", "ranks", "number", "place", "tops", "found", "lower", "part", "pair"] T.f_holdings (yN cs) (by delta jc;and_intros)
def qY:=dA P w base 4 [] ["errands", "ranks", "number"] T.f_hold_by_high (pk cs) (by delta ff;and_intros)
def Bg:=dA P w base 0 [] ["errand"] T.f_work_of (Cq cs) (by delta tF;and_intros)
def uT:=dA P w base 0 [] ["times", "every"] T.f_rounded_up (uv cs) (by delta gu;and_intros)
def KR:=dA P w base 1 [] ["errands", "ranks", "number", "held_up", "times", "total", "higher", "errand"] T.f_need (Lb cs) (by delta uP;and_intros)
def wN:=dA P w base 2 [5] ["errands", "ranks", "number", "held_up", "most", "found", "level", "following"] T.f_levels_by (xw cs) (by delta iw;and_intros)
def uE:=dA P w base 3 [] ["errands", "ranks", "number", "held_up", "found"] T.f_longest_by (uW cs) (by delta eV;and_intros)
def mF:=dA P w base 5 [] ["errands", "ranks", "number"] T.f_longest_by_high (lA cs) (by delta dN;and_intros)
def yQ:=dA P w base 0 [] ["thing", "least", "most"] T.f_is_whole (yP cs) (by delta jo;and_intros)
def mZ:=dA P w base 1 [] ["errands", "number"] T.f_checked_number (m9 cs) (by delta eC;and_intros)
def zt:=dA P w base 0 [] ["thing", "fewest", "most"] T.f_is_tuple (zA cs) (by delta jj;and_intros)
def oM:=dA P w base 1 [] ["errands", "ranks", "last"] T.f_checked_ranks (oO cs) (by delta cF;and_intros)
def BV:=dA P w base 1 [] ["thing"] T.f_is_part (B6 cs) (by delta gK;and_intros)
def wt:=dA P w base 2 [] ["thing"] T.f_are_parts (wz cs) (by delta fP;and_intros)
def wH:=dA P w base 3 [] ["thing", "every", "due", "late"] T.f_is_errand (xk cs) (by delta dX;and_intros)
def BA:=dA P w base 4 [] ["errands"] T.f_checked (Bk cs) (by delta i3;and_intros)
def rQ:=dA P w base 5 [] ["errands", "ranks", "number"] T.f_check_place (rS cs) (by delta fJ;and_intros)
def Bp:=dA P w base 6 [] ["errands", "ranks", "number"] T.f_longest (CB cs) (by delta kn;and_intros)
def qW:=dA P w base 0 [] ["errand", "row", "every", "late", "earliest", "came", "moment"] T.f_have_moments (pj cs) (by delta fj;and_intros)
def DR:=dA P w base 1 [] ["errand", "thing"] T.f_is_row (DP cs) (by delta mr;and_intros)
def mq:=dA P w base 5 [] ["errands", "comings"] T.f_checked_comings (mf cs) (by delta dR;and_intros)
def fX:=dM P w base 0 [] ["self"] (gf:=aU cs) (G:=dE cs) T.k_Jobs.mt_Jobs_are_done T.k_Jobs.cl (mg:=mg) iM (by delta dE;and_intros)
def rK:=dM P w base 0 [] ["self"] (gf:=aK cs) (G:=eK cs) T.k_Jobs.mt_Jobs_wanted T.k_Jobs.cl (mg:=mg) iM (by delta eK;and_intros)
def wq:=dM P w base 0 [] ["self"] (gf:=aR cs) (G:=fS cs) T.k_Jobs.mt_Jobs_held T.k_Jobs.cl (mg:=mg) iM (by delta fS;and_intros)
def DB:=dA P w base 1 [] ["there", "tool", "jobs"] (gf:=bI cs) (G:=jX cs _) T.f_holder iM (by delta jX;and_intros)
def uq:=dA P w base 2 [1] ["there", "lent", "jobs", "other"] (gf:=cp cs) (G:=gx cs _ _) T.f_lent_ranks iM (by delta gx;and_intros)
def nR:=dA P w base 1 [] ["jobs", "tops", "tool"] (gf:=bP cs) (G:=bT cs _) T.f_height_by_high iM (by delta bT;and_intros)
def qS:=dT (P:=P) (w:=w) 5 [] ["there", "tops", "lending", "free", "lent"] (gf:=cE cs) (G:=ki cs _ _ _ _) T.f_picked T.nm_picked T.tb_picked T.hB T.hK iM λf cdv A outer s H E nd hr c Pt TAB=>by delta ki;nofun;exact (iY (Dx (by infer_instance) (oW (vE (rh (N:=["jobs", "tops"]) (p:="jobs") (cap:=[1]) (T.bs _ (by decide)) hr (by infer_instance) TAB (λq c' s H=>(by infer_instance))))) uM)      (iY (by infer_instance)      (iY (by infer_instance)      (oW (vE (rh (N:=["jobs", "lent"]) (p:="jobs") (cap:=[4]) (T.bs _ (by decide)) hr (by infer_instance) TAB (λq c' s H=>(by infer_instance))))))))
def fZ:=dM P w base 0 [] ["self", "time"] (gf:=aO cs) (G:=dD cs) T.k_Jobs.mt_Jobs_is_there T.k_Jobs.cl (mg:=mg) iM (by delta dD;and_intros)
def jq:=dK (P:=P) (w:=w) (base:=base) (mg:=mg) 2 ["self"] T.k_Jobs.mt_Jobs_go_on T.k_Jobs.cl (FE cs) λas f cdv A outer s H E nd hr=>by delta gE;nofun;infer_instance
def CH:=Bf (P:=P) (w:=w) (base:=base) T.toTx (jl P w T) (fX P w T) (qS P w T) (fZ P w T) (jq P w T) (zH T.toTx) (G5 cs) (FA cs)
def Mn:=dA P w base 7 [] ["errands", "ranks", "comings", "lending"] T.f_run (LP cs) (by delta AD;and_intros)
def vj:=dA P w base 0 [] ["number", "row", "ends"] (gf:=cT cs) (G:=eW cs) T.f_answers_of iM (by delta eW;and_intros)
def vG:=dA P w base 1 [2] ["rows", "told", "ends", "time", "done"] (gf:=cR cs) (G:=fi cs _) T.f_answers_in iM (by delta fi;and_intros)
def Cv:=dA P w base 8 [] ["errands", "ranks", "comings", "lending"] (gf:=eQ cs) (G:=iP cs _ _) T.f_answers iM (by delta iP;and_intros)
def mU:=dA P w base 2 [6] ["_law_script", "_law_at", "_law_errand_here", "_law_span", "_law_seed", "_law_moment", "_law_made", "_law_k", "_law_drawn", "_law_come"] T.f_law_coming_row (mY cs) (by delta dg;and_intros)
def rJ:=dA P w base 3 [] ["_law_script", "_law_at", "_law_errands_here", "_law_span"] T.f_law_comings (rT cs) (by delta eG;and_intros)
def vV:=dA P w base 2 [3,4] ["_law_script", "_law_at", "_law_many", "_law_left", "_law_made", "_law_k"] T.f_law_ranks (wO cs) (by delta ix;and_intros)
def vz:=dA P w base 2 [7] ["_law_script", "_law_at", "_law_top", "_law_tools", "_law_every", "_law_late", "_law_due", "_law_parts", "_law_k", "_law_cell"] T.f_law_errand (u5 cs) (by delta gy;and_intros)
def rO:=dA P w base 3 [] ["_law_script", "_law_at", "_law_most", "_law_top", "_law_tools", "_law_many"] T.f_law_errands (rX cs) (by delta fK;and_intros)
theorem law_ok (T:Ty K mg cs base) (F:Fun K "law" "law" (top 61) f fd):gB P w K mg base (CXW P w) 10 f fd ["_law_script"] (spD K 1 (fL 63)) :=
 dL (ps:=["_law_script"]) 9 [] ["_law_script", "_law_errands_here", "_law_ranks_here", "_law_comings_here", "_law_found", "_law_number", "_law_most"] F (Lq cs) (by delta Af;and_intros)
end
end RS
namespace L2
open PySem PySem.Spec PyProof.Rows
theorem Hh {m:Str} {kV dc:Value}
  (hb:∀(kV doc pm:Value) (an:Option Addr) (cdv ct:Value) (us:List Value),us.length=ps.length->bindArgs (PySem.W.fnOf m qual (fc st) (bV st) (aC st) .none kV doc pm an cdv ct) ⟨us,[]⟩=pure (ps.zip us))
  (hm:Meth K C m f) (l:K.lookup f=some ⟨oc,od,.func (PySem.W.fnOf m qual (fc st) (bV st) (aC st) .none kV dc pm an cd ct),sl⟩)
  (c:PySem.W.codeIn K cd qual=true) (k:PySem.W.keepIn K (.ref f)=true):∃f fd,Fun K m qual st f fd/\Binds K fd ps []/\Meth K C m f :=
 have F:=xZ (st:=st) l c k
 ⟨f,_,F,F.binds hb,hm⟩
end L2
set_option maxHeartbeats 4000000
namespace L2
open PySem PySem.Spec PyProof.Rows
variable {P:Addr} {vs:Array Value}
theorem C7 {o:Obj} (h1:PySem.W.nsIn K mainGlobals x=some (some (.ref f))) (h2:K.lookup f=some ⟨oc,od,.func fd,sl⟩) (h3:fd.code=.ref c) (h4:K.lookup c=some o) (h5:o.data=.fields vs) (h6:vs[11]?=some (.ref P)):PySem.W.tabIn K x=some (c,P):=by obtain⟨cl,di,da,so⟩:=o;cases h5;unfold PySem.W.tabIn;rw[h1];simp only;rw[h2];simp only;rw[h3];simp only;rw[h4];simp only;rw[h6]
theorem Bj (hl:mJ=[x]) {p:Program} {d:DefRec} (hr:(recsOf p).find? (λe=>e.name==x)=some d) (hn:PySem.W.noTabs K=true) (T:Top p loose mean mg mb h) (X:K.In h):nC K h:=by
 refine⟨λP q ⟨x',hx,f,oc,od,fd,sl,c,h1,h2,h3,⟨o,vs,h4,h5,h6⟩,hq⟩=>?_,λP q q' ⟨x1,hx1,_,_,_,_,_,_,_,_,_,_,e1⟩ ⟨x2,hx2,_,_,_,_,_,_,_,_,_,_,e2⟩=>?_⟩
 ·rw[hl]at hx;cases N9.mp hx;have ht:=C7 h1 h2 h3 h4 h5 h6;obtain⟨hc,hp⟩:=PySem.W.tab_of T X hr ht;refine⟨hp,?_,?_⟩
  ·cases z:K.lookup P with
   |none=>rfl
   |some o' =>exfalso;have e:=X P o' z;rw[hp]at e;cases e;have h7:=Nr.mp hn (P,_) (PySem.W.mem_of_lookupK z);exact absurd (show false=true from h7) NA
  ·obtain⟨o2,vs2,_,_,_,_,_,_,_,g1,g2,g3,g4,_⟩:=hc;exact⟨c,o2,vs2,g1,g2,g3,g4⟩
 ·rw[hl]at hx1 hx2;rw[e1,e2,N9.mp hx1,N9.mp hx2]
theorem Cw {file:Str} {tf:Nat} {flags text:Int} {tg tt:Nat} {inF:Bool} (l:K.lookup c=some ⟨.type "code",od,.fields vs,sl⟩) (h11:vs[11]?=some (.ref P)) (h18:vs.getD 18 .none=.str file tf) (h7:vs.getD 7 .none=.int flags tg) (h9:vs.getD 9 .none=.bool inF) (h10:vs.getD 10 .none=.int text tt) (ne:(c != P)=true):PySem.W.codeHdIn K c P=true:=by unfold PySem.W.codeHdIn;rw[l];simp only;rw[h11,h18,h7,h9,h10,ne];simp
theorem G8 {od2:Option Addr} {sl2:Array (Option Value)} {file:Str} {tf:Nat} {flags text:Int} {tg tt:Nat} {inF:Bool} (h1:PySem.W.nsIn K mainGlobals x=some (some (.ref f))) (h2:K.lookup f=some ⟨oc,od,.func fd,sl⟩) (h3:fd.code=.ref c) (l:K.lookup c=some ⟨.type "code",od2,.fields vs,sl2⟩) (h11:vs[11]?=some (.ref P)) (h18:vs.getD 18 .none=.str file tf) (h7:vs.getD 7 .none=.int flags tg) (h9:vs.getD 9 .none=.bool inF) (h10:vs.getD 10 .none=.int text tt) (ne:(c != P)=true):G7 K x :=
 ⟨f,oc,od,fd,sl,c,P,_,vs,h1,h2,h3,l,rfl,h11,Cw l h11 h18 h7 h9 h10 ne⟩
theorem yf (hl:mJ=[x]) {p:Program} (hr:((recsOf p).find? (λe=>e.name==x)).isSome=true) (hn:PySem.W.noTabs K=true) (T:Top p loose mean mg mb h) (X:K.In h):nC K h:=by obtain⟨d,hd⟩:=Option.isSome_iff_exists.mp hr;exact Bj hl hd hn T X
end L2
set_option hygiene false
local macro_rules | `(tactic| and_intros)=>`(tactic| first|(refine' RS.D9 KX G (λ_ _ _ _ _ _ us hl=>by obtain⟨f,rfl⟩:=RS.Bd PySem.Value.none hl;rfl) ?za ?zl ?zc ?zk;(case za=>k_is);(case zl=>k_is);(case zc=>k_is);(case zk=>k_is))|(refine' L2.Hh (λ_ _ _ _ _ _ us hl=>by obtain⟨f,rfl⟩:=RS.Bd PySem.Value.none hl;rfl) ⟨?zm,?zf,?zp⟩ ?zl ?zc ?zq;(case zm=>k_is);(case zf=>k_is);(case zp=>k_is);(case zl=>k_is);(case zc=>k_is);(case zq=>k_is))|(refine' PySem.W.mg_of KX G ?za;(case za=>k_is))|(refine' PySem.W.mg_none_of KX G ?zz;(case zz=>k_is))|(refine' RS.F2 KX G ?zz;(case zz=>k_is))|(refine' RS.AZ KX G ?za ?ze;(case za=>k_is);(case ze=>k_exc))|(refine'⟨_,RS.AZ KX G ?za ?ze⟩;(case za=>k_is);(case ze=>k_exc))|(refine'⟨?zp,?zh,?zo,?zs⟩;(case zp=>k_is);(case zh=>k_is);(case zo=>k_is);(case zs=>k_is))|(refine' L2.F0 (λ_ _ _ _ _ _ us hl=>by obtain⟨f,rfl⟩:=RS.Bd PySem.Value.none hl;rfl) ?za ?zi ?zl ?zc ?zk ?zm ?zx;(case za=>k_is);(case zi=>k_is);(case zl=>k_is);(case zc=>k_is);(case zk=>k_is);(case zm=>k_is);(case zx=>k_is))|exact List.forall_mem_nil _|((first|refine List.forall_mem_cons.2 ⟨?_,?_⟩|refine List.forall_mem_singleton.2 ?_) <;> (try dsimp only) <;> and_intros)|(refine' L2.G8 ?za ?zb ?zc ?zd ?ze ?zf ?zg ?zh ?zi ?zj;(case za=>k_is);(case zb=>k_is);(case zc=>exact rfl);(case zd=>k_is);(case ze=>exact rfl);(case zf=>exact rfl);(case zg=>exact rfl);(case zh=>exact rfl);(case zi=>exact rfl);(case zj=>decide))|exact λg e=>PySem.W.mg_of KX G e|(delta L2.fg;k_is)|(dsimp only;and_intros))
open PySem PySem.W PyProof.Rows
set_option maxRecDepth 100000 in
set_option maxHeartbeats 0 in
theorem PySem.Challenge.cw_ranksure_k12_whole_no_longer_holds : PySem.Challenge.rw_ranksure_k12_whole_no_longer.Holds := by
 refine RS.hdTop ?_
 k_fill
 refine RS.Mq (l:=PySem.Challenge.rw_ranksure_k12_whole_no_longer) (n:=63) (k:=10) (x:="_law_script") (st:=RS.top 61) rfl (by decide) rfl ⟨rfl,by decide,by decide⟩ (λw h Y=>PySem.W.km_in_of Y) (λ_ _ _ _ _ _ us hl=>by obtain⟨f,rfl⟩:=RS.Bd PySem.Value.none hl;rfl) ?F (λw h l m mg mb T X=>L2.yf (x:="picked") rfl (by kernel_rfl) (by kernel_rfl) T X)
 case F =>
  intro w mg h KX G;obtain⟨c_NoComings,h_NoComings⟩:∃C,L2.rZ (L2.KOf KX) mg "NoComings" C:=by delta L2.KOf;and_intros
  obtain⟨c_NoErrand,h_NoErrand⟩:∃C,L2.rZ (L2.KOf KX) mg "NoErrand" C:=by delta L2.KOf;and_intros
  obtain⟨c_NoErrands,h_NoErrands⟩:∃C,L2.rZ (L2.KOf KX) mg "NoErrands" C:=by delta L2.KOf;and_intros
  obtain⟨c_NoRanks,h_NoRanks⟩:∃C,L2.rZ (L2.KOf KX) mg "NoRanks" C:=by delta L2.KOf;and_intros
  obtain⟨c_Holding,h_Holding,k_Holding⟩:∃C,mg "Holding"=some (.ref C)/\RS.pG (L2.KOf KX) C:=by
   delta L2.KOf
   refine'⟨_,PySem.W.mg_of KX G ?za,⟨?zp,?zh,?zo,?zs⟩,?yHolding0,?yHolding1⟩
   (case za=>k_is);(case zp=>k_is);(case zh=>k_is);(case zo=>k_is);(case zs=>k_is);all_goals and_intros
  obtain⟨c_Jobs,h_Jobs,k_Jobs⟩:∃C,mg "Jobs"=some (.ref C)/\RS.AF (L2.KOf KX) C:=by
   delta L2.KOf
   refine'⟨_,PySem.W.mg_of KX G ?za,⟨?zp,?zh,?zo,?zs⟩,?yJobs0,?yJobs1,?yJobs2,?yJobs3,?yJobs4,?yJobs5,?yJobs6⟩
   (case za=>k_is);(case zp=>k_is);(case zh=>k_is);(case zo=>k_is);(case zs=>k_is);all_goals and_intros
  have T:RS.Tx (L2.KOf KX) mg ⟨0,c_NoErrands,c_NoRanks,c_NoComings,c_NoErrand,0,0,0,c_Holding,c_Jobs⟩:=by constructor <;> first|assumption|((try delta L2.KOf);and_intros)
  exact⟨T.f_law,λf fd F base hb hn hB=>RS.law_ok _ _ ⟨T,hB,hb⟩ F⟩
end
