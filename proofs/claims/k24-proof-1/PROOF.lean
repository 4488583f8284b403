import PyProof.Rows.All
import OpenK.AllK
import PySem.Challenge.RW_ranksure_k24_texts
import KE.RegKIsAll
import PyProof.Rows.SumAny
import PyProof.WalksMore
import PyProof.Rows.TupIter
import PyProof.StationsW
import Wide.All
import OpenK.KWalk
import OpenK.KMake
import OpenK.KDescr
import OpenK.KCall
import OpenK.KOwn
import KE.KIsAll
import KE.KItem
import KE.KxBytes
import Wide.FinOn
import Lean
import PyProof.EqAt
import PyProof.EqKinds
import PyProof.TupleCall
import KE.LcSums
import PyProof.Rows.EqDataRows
import PyProof.RulesAs
import PyProof.ZipIter
import PyProof.Draws
import PyProof.Rows.TupAdd
import PyProof.ListMulRoad
import PyProof.AutoListH
import PyProof.Rows.Range3
import PyProof.ListRange
import PyProof.EnumMake
import PyProof.EnumFor
import PyProof.Rows.SetFrom
import PyProof.StrOps2
import PyProof.ExcArgsOwn
import PyProof.StrBlock2
import PyProof.NsDelKeeps
import PyProof.Rows.MinMaxN
import PyProof.ConsumeWalk
import PyProof.Rows.SortWalk
import KE.KMinKey
import PyProof.Rows.CallKwBuiltin
import PySem.PyData
import KE.KIntText
import PyProof.Rows.StrJoin2
import PyProof.Rows.CatFin
import PyProof.StrLawsNeg
import PyProof.StrLawsTight
import PyProof.StrLawsChain
import PyProof.StrLawsIn
import PyProof.StrLawsFirst
import PyProof.Rows.StrRevDown
import PyProof.Rows.StrItems
import PyProof.Rows.StrSplitAre
noncomputable section
set_option genSizeOf false
set_option genSizeOfSpec false
set_option genInjectivity false
set_option compiler.extract_closed false
set_option bootstrap.genMatcherCode false
set_option Elab.async false
set_option linter.all false
abbrev A6:=@List.mem_cons_of_mem
abbrev A7:=@PySem.Heap.get?_push_of_some
abbrev A8:=@List.not_mem_nil
abbrev A9:=@List.mem_append_right
abbrev B0:=@Nat.le_refl
abbrev B1:=@List.length_append
abbrev B3:=@Bool.and_eq_true
abbrev B4:=@List.size_toArray
abbrev B5:=@Nat.lt_of_lt_of_le
abbrev B6:=@List.getElem?_eq_getElem
abbrev B7:=@List.length_map
abbrev B8:=@List.mem_append
abbrev B9:=@PySem.Heap.get?_update_other
abbrev Ba:=@PySem.Heap.get?_push_size
abbrev Bb:=@List.mem_append_left
abbrev Bc:=@List.mem_map
abbrev Bd:=@List.getElem?_set_ne
abbrev Be:=@Array.getElem?_eq_some_iff
abbrev Bf:=@List.getElem?_append_right
abbrev Bg:=@List.all_eq_true
abbrev Bh:=@List.getElem?_append_left
abbrev Bi:=@List.length_singleton
abbrev Bj:=@Nat.le_trans
abbrev Bk:=@List.map_cons
abbrev Bl:=@PySem.Heap.get?_update_self
abbrev Bm:=@List.map_map
abbrev Bn:=@List.length_cons
abbrev Bo:=@Array.getElem?_setIfInBounds_ne
abbrev Bp:=@List.length_eq_zero_iff
abbrev Bq:=@Bool.false_ne_true
abbrev Br:=@List.flatten_cons
abbrev Bs:=@Nat.lt_irrefl
abbrev Bt:=@Bool.and_eq_false_iff
abbrev Bu:=@List.getElem?_set_self
abbrev Bv:=@Nat.lt_succ_of_lt
abbrev Bw:=@List.getElem?_eq_some_iff
abbrev Bx:=@Int.emod_lt_of_pos
abbrev By:=@List.replicate_succ
abbrev Bz:=@List.map_congr_left
abbrev BA:=@List.length_take
abbrev BB:=@Int.emod_nonneg
abbrev BC:=@List.append_nil
abbrev BD:=@List.getD_eq_getElem?_getD
abbrev BE:=@Int.toNat_natCast
abbrev BF:=@List.getElem?_map
abbrev BG:=@Bool.and_eq_true_iff
abbrev BH:=@List.drop_eq_getElem_cons
abbrev BI:=@List.findIdx?_eq_some_iff_getElem
abbrev BJ:=@List.mem_range
abbrev BK:=@List.length_drop
abbrev BL:=@List.lookup_cons
abbrev BM:=@List.filterMap_cons
abbrev BN:=@Int.eq_ofNat_of_zero_le
abbrev BO:=@List.mem_filterMap
abbrev BP:=@List.take_of_length_le
abbrev BQ:=@Nat.lt_succ_self
abbrev BR:=@List.getLast?_append
abbrev BS:=@List.nodup_cons
abbrev BU:=@List.nil_append
abbrev BV:=@List.map_append
abbrev BW:=@Bool.false_eq_true
abbrev BX:=@Nat.ne_of_gt
abbrev BY:=@List.getElem?_replicate
abbrev BZ:=@Nat.le_succ
abbrev C0:=@Nat.zero_le
abbrev C1:=@List.mem_of_getElem?
abbrev C3:=@List.length_set
abbrev C4:=@Option.map_some
abbrev C5:=@Array.length_toList
abbrev C6:=@Nat.add_sub_cancel
abbrev C7:=@List.all_cons
abbrev C8:=@List.drop_length
abbrev C9:=@Option.bind_some
abbrev Ca:=@List.getElem_mem
abbrev Cb:=@Nat.add_mul
variable {q P:Program} {loose ws N M ps own ys:List Str} {α β:Type} {A fp A0:List Addr} {h h' base B:Heap} {a it b L C D ea:Addr} {l x t w qual y z:Str} {i j c k n n0:Nat} {items:Array Value} {Q:Unit->Shared->Prop} {e tg iter elt:Expr} {env:Env} {pos cpos pos' p p2 np yp apos:Pos} {mN mg:Str->Option Value} {args us its' bmB:List Value} {outer:List Env} {oe:Obj} {a0 cls u cd pm ct oc:Value} {g':Array GenState} {E Qf:Value->Shared->Prop} {s' s:Shared} {pins:List (Addr×Obj)} {K:PySem.W.Frag} {es ifs:List Expr} {lo hi:Option Int} {body ss:List Stmt} {fd:FuncData} {scope:Scope} {f:PyData->PyData->Option PyData} {an od:Option Addr} {osl:Array (Option Value)} {YP:World->Heap->Prop} {ns:List Int} {st:Stmt} {ds:List PyData} {newId:String} {O:List Nat} {many:Int} {x3 x4:Option PyData}
namespace RS
open PySem PySem.W PyProof.Rows
def oI (p:Program) (w:World) (m:Nat) (ann:Option Value):Nat->SharedT->Thread->Option SharedT
 |0,_,_=>none
 |n+1,s,t=>match through t with
  |true=>some s
  |false=>match Fast.tw6613529449190102663 m ann t with
   |false=>none
   |true=>match Fast.tw10156331382660048174 (Fast.tw11892475500146522536 Fast.tw14364793385576792824) p w s t with
    |some x=>oI p w m ann n x.1 x.2
    |none=>none
theorem lK {p:Program} {w:World} {m:Nat} {ann:Option Value}:∀{n:Nat} {s s':SharedT} {t:Thread},oI p w m ann n s t=some s'->topRun treeTable p w m ann n s.abs t=some s'.abs
 |0,_,_,_,h=>by cases h
 |n+1,s,s',t,h=>by
  unfold oI at h;rw[<-Fast.te6613529449190102663,<-Fast.te10156331382660048174,<-Fast.te11892475500146522536,<-Fast.te14364793385576792824]at h;unfold topRun;cases ht:through t with
  |true=>rw[ht]at h;cases h;rfl
  |false =>
   rw[ht]at h;cases hk:stepOk m ann t with
   |false=>rw[hk]at h;cases h
   |true =>
    rw[hk]at h;cases hs:stepT (denote treeTable) p w s t with
    |none=>rw[hs]at h;cases h
    |some x =>rw[hs]at h;rw[stepT_spec (s':=x.1) (t':=x.2) hs];exact lK h
def wC (l:List Obj):BT:=(l.foldl (λx o=>(x.1.ins x.2 o,x.2+1)) (BT.nil,0)).1
def hdS (w:World) (os:OsState):SharedT:=⟨wC (boot_heap w.params).objs.toList,11,(boot_heap w.params).life,Array.mk [],boot_drawn,boot_toks,os⟩
theorem tM (w:World):(λos=>(hdS w os).abs)=λos=>⟨boot_heap w.params,Array.mk [],boot_drawn,boot_toks,os⟩:=by kernel_rfl
theorem wG (w:World):((boot_heap w.params).isNs mainGlobals&&(Array.mk []:Array GenState).size==0,(boot_heap w.params).objs.size,(boot_heap w.params).nsMap mainGlobals "__annotations__")=(true,11,some (.ref 6)):=by kernel_rfl
def qT (p q:Program) (loose:List Str) (Xt:Shared->Bool) {α:Type} (Yf:Shared->α) (h:Heap) (s:Shared) :=
 (staticsOk (importedModules p.main.body) h s.heap&&namesBound p s.heap&&gensDone s&&laidKept h s.heap,Fast.tw4187177175401517315 q loose (importedModules p.main.body) Xt true s,Yf s)
theorem ya {p:Program} {Xt:Shared->Bool} {Yf:Shared->α} {Ya:World->α} {N M:Nat}
  (e:opening p=plainProg p.main.scope.names) (a:Nat.ble 600 N=true) (f:∀s,fenceModules? p s=some s) (le:Nat.ble M N=true)
  (h:∀w,(λos=>(oI p w 11 (some (.ref 6)) M (hdS w os) (topStub p)).map λs=>qT p q loose Xt Yf (boot_heap w.params) s.abs)=λ_=>some (true,openGood q loose,Ya w)):LeftO p q loose Xt Yf Ya N:=λw=>by
 obtain⟨⟨b,gs,d,k,os⟩,e1,c⟩:=Option.map_eq_some_iff.mp (boot_open e a f w);obtain⟨rfl,rfl,rfl,rfl⟩:b=boot_heap w.params/\gs=Array.mk []/\d=boot_drawn/\k=boot_toks:=by simpa using c
 obtain⟨z1,z2,z3⟩:_/\_/\_:=by simpa only[Prod.mk.injEq] using wG w
 obtain⟨s,g,i⟩:=Option.map_eq_some_iff.mp (congrFun (h w) os);obtain⟨l1,l2,l3⟩:_/\_/\_:=by simpa only[qT,<-Fast.te4187177175401517315,Prod.mk.injEq] using i
 have r:=lK g;rw[congrFun (tM w) os]at r;have r:=topRun_mono (N-M) _ _ _ _ r;rw[show M+(N-M)=N by have:=Nat.le_of_ble_eq_true le;omega]at r;unfold openEnds;rw[e1];show (topFrom treeTable p w N _).map _=_;have t:topFrom treeTable p w N ⟨boot_heap w.params,Array.mk [],boot_drawn,boot_toks,os⟩=some s.abs:=by unfold topFrom;dsimp only;rw[z1,z2,z3,r];show (match staticsOk (importedModules p.main.body) (boot_heap w.params) s.abs.heap&&namesBound p s.abs.heap&&gensDone s.abs&&laidKept (boot_heap w.params) s.abs.heap with|true=>_|false=>_)=_;rw[l1]
 rw[t];exact congrArg some (Prod.ext l2 l3)
end RS
section
open PySem PySem.W PyProof.Rows
def RS.vw:Program:=view PySem.Challenge.pw_ranksure_k24_texts [1,2,3,5,6,7,8,9,10,11,12,13,14,15,16,17,19,20,21,22,23,24,25,27,28,29,30,31,32,33,34,35,36]
local macro_rules | `(tactic| o_head $H)=>`(tactic| (refine holds_open (N:=2906) (Xt:=λs=>xlAt RS.vw [] s&&recOk (RowW.records (OpenRow.toRowW (OpenLaw.row PySem.Challenge.rw_ranksure_k24_texts))) s) (XP:=XL RS.vw []) (q:=RS.vw) (loose:=[]) (Yf:=Hook.obs $H) (Ya:=Hook.val $H) (YP:=Hook.says $H) ?hl (Hook.of $H) (Hook.keeps $H) (λs e=>xl_of s (BG.mp e).1) XL.keeps (by rfl) (by rfl) (by rfl) (λs e=>recFacts_of (BG.mp e).2) (by rfl) (by assumption) (by decide +kernel) ⟨rfl,rfl,rfl,rfl,rfl,by decide +kernel⟩ ?hw ?hc;(case hl=>refine RS.ya (M:=1503) (by kernel_rfl) (by rfl) (by intro s;kernel_rfl) (by rfl) λw=>?_;kernel_rfl)))
set_option maxRecDepth 100000 in
set_option maxHeartbeats 0 in
open_top RS.hdTop for PySem.Challenge.rw_ranksure_k24_texts
end
set_option maxRecDepth 100000
set_option maxHeartbeats 4000000
namespace L2
open PySem PySem.Spec PyProof.Rows
variable {w:World} {o:Obj} {g:Int->Int->Int} {vs:Array Value} {A:Around} {M:Model}
def HdH (A:Around) (h:Heap):Prop:=A.handled=none\/∃e oe vs,A.handled=some (.ref e)/\h.get? e=some oe/\oe.data=.fields vs/\vs[2]?=some .none
theorem HdH.stay (x:HdH A h) (k:∀e o vs,A.handled=some (.ref e)->h.get? e=some o->o.data=.fields vs->h'.get? e=some o):HdH A h':=by
 rcases x with x|⟨e,oe,vs,x1,x2,x3,x4⟩
 ·exact .inl x
 ·exact .inr ⟨e,oe,vs,x1,k e oe vs x1 x2 x3,x3,x4⟩
theorem jH:entryFor table "proto.unchain"=some Builtin.«proto.unchain»:=by first|exact entryFor_of_fast (by kernel_rfl)|exact entryFor_of_tree (by kernel_rfl)
section
variable {prog:Program}
theorem fk {Q:α->Shared->Prop} (hd:HdH A s.heap) (ha:s.heap.get? a=some o) (f:o.data=.fields vs) (h2:2<vs.size) (g:∀e,A.handled=some (.ref e)->e≠a)
  (h:∀h' c,(∀b u,b≠a->s.heap.get? b=some u->h'.get? b=some u)->h'.get? a=some { o with data:=.fields c }->c[0]?=vs[0]?->c[1]?=vs[1]?->(A.handled=none->c=vs)->E (.ref a) { s with heap:=h' }) :
  wpAny (model prog w) A (raiseNew (.ref a):Sem α) Q E s:=by
 unfold raiseNew;refine wpAny_bind (wpAny_handled ?_);rcases hd with hd|⟨e,oe,ve,x1,x2,x3,x4⟩
 ·rw[hd];have:{ o with data:=.fields vs }=o:=by rw[<-f]
  exact wpAny_bind (wpAny_pure (wpAny_throw (h s.heap vs (λ_ _ _ e=>e) (by rw[this];exact ha) rfl rfl λ_=>rfl)))
 ·rw[x1];have hn:=g e x1;have i:(Value.ref e != Value.ref a)=true:=by simp[hn]
  dsimp only;rw[if_pos i];refine wpAny_bind (wpAny_holding (wpAny_runValue (codeAny_builtin jH ?_)));unfold Builtin.«proto.unchain»;refine wpAny_bind (wpAny_field x2 x3 x4 ?_);rw[if_pos (by rfl)];refine wpAny_pure ?_;show wpAny _ _ (updateField a 2 (.ref e) >>= _) _ _ _;refine wpAny_bind (m:=updateField a 2 (.ref e)) ?_;have k:=wpAny_setField (M:=model prog w) (A:=A) (E:=E) (x:=.ref e) (Q:=λ_ s'=>wpAny (model prog w) A (throw (Value.ref a):Sem α) Q E s') ha f h2 ?_
  ·unfold setField at k;exact k
  ·refine wpAny_throw ?_;have l:=Heap.SameBut.update s.heap a (Obj.mapFields (·.setIfInBounds 2 (Value.ref e)));have j:=Obj.data_mapFields f (·.setIfInBounds 2 (Value.ref e));have n:=Bl (Obj.mapFields (·.setIfInBounds 2 (Value.ref e))) ha (Obj.isFreed_of_fields j);refine h _ (vs.setIfInBounds 2 (.ref e)) (λb u i q=>(l.2 b i).trans q) ?_ (Bo (by decide)) (Bo (by decide)) λz=>by rw[x1]at z;cases z
   rw[n];obtain⟨oc,od,odt,osl⟩:=o;simp only at f;subst f;rfl
theorem kU {Q:α->Shared->Prop} (hd:HdH A s.heap) (h:∀h' e vs,(∀b o,s.heap.get? b=some o->h'.get? b=some o)->h'.get? e=some { cls:=.type "StopIteration",data:=.fields vs }->E (.ref e) { s with heap:=h' }) :
  wpAny (model prog w) A (newExc (.type "StopIteration") [] >>= λe=>(raiseNew e:Sem α)) Q E s:=by
 refine wpAny_bind ?_;simp only[newExc,newTuple];refine wpAny_bind (wpAny_newObj_type ?_ (by size_fits));refine wpAny_bind (m:=firstArgMember _ _) (wpAny_of_eq (a:=Value.none) (by first|rfl|(simp only[firstArgMember];rfl)) ?_);refine wpAny_newObj_type ?_ (by size_fits);refine fk (hd.stay λe o vs _ q _=>A7 _ (A7 _ q)) (Ba _ rfl) rfl (by rw[Array.size_append];show 2<6+_;omega) (λe q=>?_) λh' c k f _ _ _=>h _ _ c (λb o q=>?_) f
 ·rcases hd with hd|⟨e',oe,ve,x1,x2,_⟩
  ·rw[hd]at q;cases q
  ·rw[x1]at q;cases q;have:=Heap.lt_size x2;rw[Heap.size_push];exact Nat.ne_of_lt (Bv this)
 ·exact k b o (by rw[Heap.size_push];exact Nat.ne_of_lt (Bv (Heap.lt_size q))) (A7 _ (A7 _ q))
theorem gr {l:Addr} {Q:Option Value->Shared->Prop} (h:HdH A s.heap) (hn:∀e,A.handled=some (.ref e)->e≠it) (hit:s.heap.IsListIter it l i) (hl:s.heap.IsList l items) (j:items[i]?=none)
  (m:∀h',Heap.ExtBut it s.heap h'->Q none { s with heap:=h' }):wpAny (model prog w) A (pyNext (.ref it)) Q E s:=by
 obtain⟨o,a,hc,hd⟩:=id hit;obtain⟨ol,c,_,nl,f⟩:=hl;unfold pyNext;refine wpAny_bind (wpAny_attempt (wpAny_callSpecial?_slot (name:=Str.ofString "__next__") hit.typeIs slot_listiter_next (wpAny_call_entry slot_listiter_next hit.typeIs entry_listiter_next ?_ (args_listiter_next _))));show wpAny _ _ (field (.ref it) 0 >>= _) _ _ s;refine wpAny_bind (wpAny_field a hd (x:=.ref l) rfl ?_);show wpAny _ _ (if (Value.ref l==Value.none)=true then _ else _) _ _ s;rw[if_neg (show ¬ ((Value.ref l==Value.none)=true) from Bq)];show wpAny _ _ (field (.ref it) 1 >>= _) _ _ s;refine wpAny_bind (wpAny_field a hd (x:=.int i 0) rfl ?_);show wpAny _ _ (seqItems? (.ref l) >>= _) _ _ s;refine wpAny_bind (wpAny_seqItems c f ?_);simp only[BE,j];refine wpAny_bind (wpAny_rule (wpAny_bind (wpAny_setField a hd (by simp) ?_)));have g:=Heap.SameBut.update s.heap it (Obj.mapFields (·.setIfInBounds 0 Value.none));show wpAny _ _ (newExc (.type "StopIteration") [] >>= _) _ _ _;refine kU (A:=A.in1) (h.stay λe o vs n q _=>(g.2 e (hn e n)).trans q) λh' e vs k p=>?_
 refine wpAny_bind (wpAny_isInstance (T:="StopIteration") (b:=true) ⟨_,p,rfl⟩ isSubtype_stop (wpAny_pure (m _ λb o r q=>k b o ((g.2 b r).trans q))))
theorem ej {l:Addr} {Q:Option Value->Shared->Prop} (h:HdH A s.heap) (hn:∀e,A.handled=some (.ref e)->e≠it) (hit:s.heap.IsTupleIter it l i) (hl:s.heap.IsTuple l items) (j:items[i]?=none)
  (m:∀h',Heap.ExtBut it s.heap h'->Q none { s with heap:=h' }):wpAny (model prog w) A (pyNext (.ref it)) Q E s:=by
 obtain⟨o,a,hc,hd⟩:=id hit;obtain⟨ol,c,_,nl,f⟩:=hl;unfold pyNext;refine wpAny_bind (wpAny_attempt (wpAny_callSpecial?_slot (name:=Str.ofString "__next__") hit.typeIs F.slot_tuple_iterator_next (wpAny_call_entry F.slot_tuple_iterator_next hit.typeIs F.entry_tuple_iterator_next ?_ (F.args_tuple_iterator_next_1 _))));show wpAny _ _ (field (.ref it) 0 >>= _) _ _ s;refine wpAny_bind (wpAny_field a hd (x:=.ref l) rfl ?_);show wpAny _ _ (if (Value.ref l==Value.none)=true then _ else _) _ _ s;rw[if_neg (show ¬ ((Value.ref l==Value.none)=true) from Bq)];show wpAny _ _ (field (.ref it) 1 >>= _) _ _ s;refine wpAny_bind (wpAny_field a hd (x:=.int i 0) rfl ?_);show wpAny _ _ (seqItems? (.ref l) >>= _) _ _ s;refine wpAny_bind (wpAny_seqItems c f ?_);simp only[BE,j];refine wpAny_bind (wpAny_rule (wpAny_bind (wpAny_setField a hd (by simp) ?_)));have g:=Heap.SameBut.update s.heap it (Obj.mapFields (·.setIfInBounds 0 Value.none));show wpAny _ _ (newExc (.type "StopIteration") [] >>= _) _ _ _;refine kU (A:=A.in1) (h.stay λe o vs n q _=>(g.2 e (hn e n)).trans q) λh' e vs k p=>?_
 refine wpAny_bind (wpAny_isInstance (T:="StopIteration") (b:=true) ⟨_,p,rfl⟩ isSubtype_stop (wpAny_pure (m _ λb o r q=>k b o ((g.2 b r).trans q))))
theorem jI {x left step:Int} {Q:Option Value->Shared->Prop} (f:HdH A s.heap) (hit:IsRangeIter s.heap it x left step) (a:left<=0)
  (g:∀h',Heap.ExtBut it s.heap h'->Q none { s with heap:=h' }):wpAny (model prog w) A (pyNext (.ref it)) Q E s:=by
 have c:s.TypeIs (.ref it) "range_iterator":=⟨_,hit,rfl⟩
 unfold pyNext;refine wpAny_bind (wpAny_attempt (wpAny_callSpecial?_slot (name:=Str.ofString "__next__") c F.slot_range_iterator_next (wpAny_call_entry F.slot_range_iterator_next c F.entry_range_iterator_next ?_ (F.args_range_iterator_next_1 _))));show wpAny _ _ (field (.ref it) 0 >>= _) _ _ s;refine wpAny_bind (wpAny_field hit rfl (x:=rawInt x) rfl ?_);show wpAny _ _ (field (.ref it) 1 >>= _) _ _ s;refine wpAny_bind (wpAny_field hit rfl (x:=rawInt left) rfl ?_);show wpAny _ _ (field (.ref it) 2 >>= _) _ _ s;refine wpAny_bind (wpAny_field hit rfl (x:=rawInt step) rfl ?_);show wpAny _ _ (if left<=0 then _ else _) _ _ s;rw[if_pos a];refine wpAny_bind (wpAny_rule (wpAny_bind ?_));show wpAny _ _ (newExc (.type "StopIteration") [] >>= _) _ _ _;refine kU (A:=A.in1) f λh' e vs k h=>?_
 refine wpAny_bind (wpAny_isInstance (T:="StopIteration") (b:=true) ⟨_,h,rfl⟩ isSubtype_stop (wpAny_pure (g _ λb o _ q=>k b o q)))
def hdA (A:Around):List Addr:=match A.handled with
 |some (.ref e)=>[e]
 |_=>[]
theorem o6 {e:Addr} (h:A.handled=some (.ref e)):e∈hdA A:=by unfold hdA;rw[h];exact List.mem_cons_self
theorem HdH.at (x:HdH A h) (k:∀b∈hdA A,∀o,h.get? b=some o->h'.get? b=some o):HdH A h':=x.stay λe o _ a c _=>k e (o6 a) o c
theorem nN (I f:Addr) (k:f≠I) (hn:∀e,A.handled=some (.ref e)->e≠I) (items:Array Value) :
  Walks prog w A I ([I,f]++hdA A) [I] items.size (λi v=>items[i]?=some v) (λi h=>(h.IsListIter I f i/\h.IsList f items)/\HdH A h) where
 sub:=λb a=>by simp at a;simp[a]
 frame:=λ_ _ _ st l=>⟨⟨st.1.1.at λo e=>l I (by simp) o e,st.1.2.at λo e=>l f (by simp) o e⟩,st.2.at λb a o e=>l b (A9 _ a) o e⟩
 item:=λi s Q E hi st g=>by
  refine wpAny_pyNext_list_item st.1.1 st.1.2 (x:=items[i]) (by simp[hi]) λh' j c=>?_
  exact g _ h' s.toks (by simp[hi]) ⟨⟨j,st.1.2.extBut c.extBut k⟩,st.2.stay λe o _ n p _=>c.extBut e o (hn e n) p⟩ λb o a e=>c.extBut b o (λh=>a (by simp[h])) e
 done:=λs Q E st g=>gr st.2 hn st.1.1 st.1.2 (by simp) λh' m=>g h' s.toks λb o a e=>m b o (λh=>a (by simp[h])) e
 self:=λ_ _ _ _ st g=>wpAny_pyIter_listiter st.1.1 g
theorem mz (I f:Addr) (k:f≠I) (hn:∀e,A.handled=some (.ref e)->e≠I) (items:Array Value) :
  Walks prog w A I ([I,f]++hdA A) [I] items.size (λi v=>items[i]?=some v) (λi h=>(h.IsTupleIter I f i/\h.IsTuple f items)/\HdH A h) where
 sub:=λb a=>by simp at a;simp[a]
 frame:=λ_ _ _ st l=>⟨⟨st.1.1.at λo e=>l I (by simp) o e,st.1.2.at λo e=>l f (by simp) o e⟩,st.2.at λb a o e=>l b (A9 _ a) o e⟩
 item:=λi s Q E hi st g=>by
  refine wpAny_pyNext_tuple_item st.1.1 st.1.2 (x:=items[i]) (by simp[hi]) λh' j c=>?_
  exact g _ h' s.toks (by simp[hi]) ⟨⟨j,st.1.2.extBut c.extBut k⟩,st.2.stay λe o _ n p _=>c.extBut e o (hn e n) p⟩ λb o a e=>c.extBut b o (λh=>a (by simp[h])) e
 done:=λs Q E st g=>ej st.2 hn st.1.1 st.1.2 (by simp) λh' m=>g h' s.toks λb o a e=>m b o (λh=>a (by simp[h])) e
 self:=λ_ _ _ _ st g=>wpAny_pyIter_tupleiter st.1.1 g
end
section
variable {prog:Program} {l:Addr} {xs:Array (Int×Tok)}
theorem HdH.lt (x:HdH A h):∀b∈hdA A,b<h.objs.size:=λb a=>by
 rcases x with x|⟨e,oe,vs,x1,x2,_⟩
 ·unfold hdA at a;rw[x]at a;cases a
 ·unfold hdA at a;rw[x1]at a;cases List.mem_singleton.mp a;exact Heap.lt_size x2
theorem HdH.ne (x:HdH A h) (a:h.objs.size<=b):∀e,A.handled=some (.ref e)->e≠b:=λe c=>Nat.ne_of_lt (B5 (x.lt e (o6 c)) a)
theorem HdH.push (x:HdH A h) (o:Obj):HdH A (h.push o):=x.stay λe o' _ _ q _=>A7 _ q
theorem t9 {a b:Int} {t u:Tok} {Q:Value->Shared->Prop} (k:HdH A s.heap)
  (h:∀h' tk,(∀c o,s.heap.get? c=some o->h'.get? c=some o)->Q (if b<a then .int b u else .int a t) { s with heap:=h',toks:=tk }) :
  wpAny (model prog w) A (call (.builtin "min") [.int a t,.int b u]) Q E s:=by
 have l:(s.heap.push { cls:=.type "tuple",data:=.seq #[.int a t,.int b u] }).IsTuple s.heap.objs.size (intItems #[(a,t),(b,u)]):=⟨_,Ba _ rfl,rfl,0,by simp[intItems]⟩
 refine call_min_two (wpAny_pyIter_tuple l ?_);have hsz:(s.heap.push { cls:=.type "tuple",data:=.seq #[.int a t,.int b u] }).objs.size=s.heap.objs.size+1:=Heap.size_push ..;refine⟨_,[_,s.heap.objs.size]++hdA A,[_],_,_,_,_,rfl,mz (A:=A.in1) _ s.heap.objs.size (by rw[hsz];exact Nat.ne_of_lt (BQ _)) (λe m=>k.ne (by rw[hsz];exact BZ _) e m) (intItems #[(a,t),(b,u)]),
  ⟨⟨⟨_,Ba _ rfl,rfl,rfl⟩,l.push _⟩,(k.push _).push _⟩,λc hc=>?_,by simp[intItems],CmpOf.ints_lt (numAt #[(a,t),(b,u)]) (λ_ _=>intItems_at),λv h' tk n p=>?_⟩
 ·show c<((s.heap.push _).push _).objs.size;rcases B8.mp hc with hc|hc
  ·rw[Heap.size_push,hsz];rcases List.mem_cons.mp hc with rfl|hc
   ·rw[hsz];exact BQ _
   ·cases List.mem_singleton.mp hc;exact Bv (BQ _)
  ·exact ((k.push _).push _).lt c hc
 ·have hold:∀c o,s.heap.get? c=some o->h'.get? c=some o:=λc o e=>by refine p c o (λhm=>?_) (A7 _ (A7 _ e));have:=Heap.lt_size e;rw[List.mem_singleton.mp hm,hsz]at this;exact Bs _ (Nat.lt_of_succ_lt this)
  have:=h h' tk hold;have q:v=if b<a then Value.int b u else Value.int a t:=by
   have f:(intItems #[(a,t),(b,u)])[argBest (λi j=>decide (numAt #[(a,t),(b,u)] i<numAt #[(a,t),(b,u)] j)) 1]?=some v:=by
    have g:(intItems #[(a,t),(b,u)]).size-1=1:=by simp[intItems]
    rw[<-g];exact n
   by_cases hba:b<a
   ·rw[show argBest (λi j=>decide (numAt #[(a,t),(b,u)] i<numAt #[(a,t),(b,u)] j)) 1=1 by simp[argBest,numAt,hba]]at f;simpa[intItems,hba] using f.symm
   ·rw[show argBest (λi j=>decide (numAt #[(a,t),(b,u)] i<numAt #[(a,t),(b,u)] j)) 1=0 by simp[argBest,numAt,hba]]at f;simpa[intItems,hba] using f.symm
  rw[q];exact this
theorem o7 {elts:List Expr} {x1} {t:Addr} (m:HdH A s.heap) (j:IsTup s.heap t items)
  (hn:(assignEach elts env).length=items.size) (f:(assignEach elts env).findIdx? (·.1)=none)
  (h:∀h',Heap.ExtBut s.heap.objs.size s.heap h'->wpAny (model prog w) A (assignInOrder ((assignEach elts env).map (·.2)) items.toList) Q E { s with heap:=h' }) :
  wpAny (model prog w) A (assign (.Tuple elts x1 pos) env (.ref t)) Q E s:=by
 rw[assign_Tuple];refine wpAny_bind (wpAny_standAt ?_);unfold unpack;rw[hn,f];refine wpAny_bind (wpAny_holding ?_);have k:t≠s.heap.objs.size:=by obtain⟨o,p,_⟩:=j;exact Nat.ne_of_lt (Heap.lt_size p)
 unfold unpackItems;refine wpAny_bind ?_
 ·unfold notIterableAtAll;refine wpAny_bind (wpAny_specialOf j.typeIs slot_tuple_iter.lookup (wpAny_pure ?_));simp only[BW,if_false];refine wpAny_bind (wpAny_holding (iter_tuple j ?_));refine wpAny_bind (wpAny_holding (draw_tuple k items.size 0 _ _ ⟨_,Ba _ rfl,rfl,rfl⟩ (j.push _) (by omega) λh₁ c a=>?_));rw[show List.take items.size (List.drop 0 items.toList)=items.toList by rw[List.drop_zero];exact BP (by simp),if_neg (by simp)];have g:IsTup h₁ t items:=(j.push _).extBut a.extBut k;refine wpAny_bind (wpAny_holding (ej ((m.push _).stay λe o _ q r _=>a.extBut e o (m.ne (B0 _) e q) r) (λe u=>m.ne (B0 _) e u) c g (by simp) λl i=>?_));simp only[Option.isSome_none,BW,if_false];exact wpAny_pure (h l λb o n e=>i b o n (a.extBut b o n (A7 _ e)))
structure i8 (A:Around) (h h':Heap) (e:Addr) (cls:Value) (args:List Value):Prop where
 keeps:∀b o,h.get? b=some o->h'.get? b=some o
 new:h.get? e=none
 there:∃t vs,h'.get? e=some { cls:=cls,data:=.fields vs }/\vs[0]?=some (.ref t)/\vs[1]?=some .none/\(A.handled=none->vs[2]?=some .none)/\h.get? t=none/\h'.get? t=some { cls:=.type "tuple",data:=.seq args.toArray }
end
section
variable {prog:Program}
variable {nm q:Str} {N:Addr} {bs bm:List Value} {hdct:Bool} {sn:List Str} {sub:List Value} {ab:Bool} {col:Option Bool} {dd:Option Addr} {k0 k1 k2 k3 k5:Option Value} {B initId:String}
theorem gj {x:Sem Value} {Q:Flow->Shared->Prop} (c:bm.contains (.type "BaseException")=true)
  (h:wpAny (model prog w) A x (λv a=>∃e t,v=.ref e/\HdH A a.heap/\(∀l,A.handled=some (.ref l)->l≠e)/\a.heap.get? C=some (excClassObj nm q C N bs bm hdct sn sub ab col dd k0 k1 k2 k3 k5 newId) /\
   a.heap.get? e=some { cls:=.ref C,data:=.fields #[.ref t,.none,.none,.none,.bool false,.none] } /\
   ∀h' vs,(∀b u,b≠e->a.heap.get? b=some u->h'.get? b=some u)->h'.get? e=some { cls:=.ref C,data:=.fields vs }->vs[0]?=some (.ref t)->vs[1]?=some .none->(A.handled=none->vs[2]?=some .none)->E (.ref e) { a with heap:=h' }) E s) :
  wpAny (model prog w) A (raiseStmt env (some x) none) Q E s:=by
 have f:(Value.ref C::bm).contains (.type "BaseException")=true:=by rw[List.contains_cons,c,Bool.or_true]
 unfold raiseStmt;refine wpAny_bind (wpAny_mono h (λv a h₁=>?_) λ_ _ x=>x);obtain⟨e,t,rfl,o,i,m,n,p⟩:=h₁;obtain⟨hp,g,d,tk,os⟩:=a
 repeat (first|with_reducible refine wpAny_loadPart_at n ?_|with_reducible refine wpAny_loadPart_at m ?_|(with_reducible refine wpAny_isSubtype_exc m ?_;rw[f])|wp_step)
 exact fk o n rfl (by show 2<6;decide) i λh' j k e1 e2 r y=>p h' j k e1 e2 r λz=>by rw[y z];rfl
theorem jB (F:ExcBaseFacts B newId initId bmB) {J:Pos} {args:List Expr} {Q:Flow->Shared->Prop}
  (i:bm.contains (.type "BaseException")=true) (n:(backTo cpos (starEach args env)).any (·.1)=false) (D:mN "__init__"=none)
  (h:wpAny (model prog w) A (eval (.Name x J) env) (λf j=>f=.ref C/\wpAny (model prog w) A (evalArgs (.ref C) true (backTo cpos (starEach args env)) [])
   (λa c=>a.kw=[]/\a.pos.length<=sizeLine/\c.heap.get? C=some (excClassObj nm q C N bs bm hdct sn sub ab col dd k0 k1 k2 k3 k5 newId)/\c.heap.Ns N mN/\OwnTail c.heap bmB bm/\HdH A c.heap /\
    ∀h' e,i8 A c.heap h' e (.ref C) a.pos->E (.ref e) { c with heap:=h' }) E j) E s) :
  wpAny (model prog w) A (exec (.Raise (some (.Call (.Name x J) args [] cpos)) none pos) env) Q E s:=by
 rw[arm_exec_Raise]
 first
  |refine wpAny_bind (wpAny_standAt (gj (C:=C) (nm:=nm) (q:=q) (N:=N) (bs:=bs) (bm:=bm) (hdct:=hdct) (sn:=sn) (sub:=sub) (ab:=ab) (col:=col) (dd:=dd) (k0:=k0) (k1:=k1) (k2:=k2) (k3:=k3) (k5:=k5) (newId:=newId) i (wpAny_bind (wpAny_mono (wpAny_Call_ofName (wpAny_mono h (λf j h₁=>?_) λ_ _ x=>x)) (λv r l=>wpAny_bind (wpAny_standAt (wpAny_pure l))) λ_ _ x=>x))))
  |(simp only[evalOpt,Option.map];refine wpAny_bind (wpAny_standAt (gj (C:=C) (nm:=nm) (q:=q) (N:=N) (bs:=bs) (bm:=bm) (hdct:=hdct) (sn:=sn) (sub:=sub) (ab:=ab) (col:=col) (dd:=dd) (k0:=k0) (k1:=k1) (k2:=k2) (k3:=k3) (k5:=k5) (newId:=newId) i (wpAny_bind (wpAny_mono (wpAny_Call_ofName (wpAny_mono h (λf j h₁=>?_) λ_ _ x=>x)) (λv r l=>wpAny_bind (wpAny_standAt (wpAny_pure l))) λ_ _ x=>x)))))
 obtain⟨rfl,h₁⟩:=h₁;unfold callWith;refine wpAny_bind (wpAny_holding (wpAny_mono h₁ (λa c m=>wpAny_bind (wpAny_standAt ?_)) λ_ _ x=>x));obtain⟨apos,G⟩:=a;obtain⟨H,hlen,I,hn,T,u,m⟩:=m;obtain rfl:G=[]:=H;obtain⟨L,g,d,tk,os⟩:=c;simp only[n];refine wpAny_bind (wpAny_keeperOf_exc I ?_);refine wpAny_bind (wpAny_call_exc_subT (hrest:=hlen) F T I hn D λh' e hm=>wpAny_bind (wpAny_holding (wpAny_point (wpAny_pure ?_))));obtain⟨t,K,M,y⟩:=hm.there;have ne:∀b o,L.get? b=some o->b≠e:=λb o q z=>by rw[z,hm.new]at q;cases q
 refine⟨e,t,rfl,u.stay λO o _ _ P _=>hm.keeps _ _ P,λO p=>?_,hm.keeps _ _ I,K,λh2 vs k x1 x2 x3 x4=>m h2 e ⟨λb o q=>k b o (ne b o q) (hm.keeps b o q),hm.new,t,vs,x1,x2,x3,x4,M,k t _ (λz=>?_) y⟩⟩
 ·rcases u with u|⟨e1,oe,ve,R,S,_⟩
  ·rw[u]at p;cases p
  ·rw[R]at p;cases p;exact ne _ _ S
 ·rw[z]at y;rw[K]at y;cases y
end
def eQ (h:Heap) (e:Addr):Prop:=∃oe vs,h.get? e=some oe/\oe.data=.fields vs/\vs[2]?=some .none
section
variable {P:Prop}
theorem gK {e:Addr} {head:Value} {m:Bool}
  (G:A.frames=some (env::outer)) (hl:s.heap.FunFrames base (env::outer)) (U:env.frame=some L)
  (H:s.heap.get? e=some oe) (I:base.StaysIn s.heap) (J:base.get? e=none) (hd:oe.data=.fields vs) (hsz:1<vs.size) (W:vs[0]?=some a0) (X:P->vs[2]?=some .none)
  (h:∀h',Heap.LeftW base (env::outer) e oe.cls a0 s.heap h'->(P->eQ h' e)->Q () { s with heap:=h' }) :
  wpAny M A (do let a <-frameOf env;let pl <-entryPlaceOf L m;let b <-EntryCells.newEntry head a .none (rawInt L) .none pl;setField (.ref e) 1 b) (λ_ s'=>wpAny M A (setFlight (.ref e) none) Q E s') E s:=by
 have D:e∉(env::outer).filterMap (·.frame):=λhm=>by obtain⟨_,o,F,j⟩:=hl.mem hm;rw[H]at F;injection F with F;subst F;exact j vs hd
 refine wpAny_bind (wpAny_frameOf_fun G hl U λh₁ g=>wpAny_bind (wpAny_entryPlaceOf λpl K=>?_));unfold EntryCells.newEntry newFields;refine wpAny_bind (wpAny_newObj_type ?_ (K.sizeOk5 _ _ _ _ _));generalize hO:({ cls:=.type "traceback",dict:=none,data:=.fields ([head,.ref L,.none,rawInt L,.none]++(if pl.isEmpty then List.replicate 6 Value.none else pl)).toArray }:Obj)=tb;have N:∃ts,tb.data=.fields ts/\3<ts.size:=⟨_,by rw[<-hO],by simp only[B4,B1,Bn,List.length_nil];omega⟩
 obtain⟨ts,z,T⟩:=N;have n:h₁.get? e=some oe:=(g.2.1 e D).trans H;have r:base.StaysIn h₁:=λb o k=>(g.2.1 b λhm=>by rw[(hl.mem hm).1]at k;cases k).trans (I b o k)
 have t:=A7 (h:=h₁) tb n;refine wpAny_setField t hd hsz ?_;have B:h₁.objs.size≠e:=BX (Heap.lt_size n);have i:=Obj.data_mapFields hd (·.setIfInBounds 1 (Value.ref h₁.objs.size));have u:=Bl (Obj.mapFields (·.setIfInBounds 1 (Value.ref h₁.objs.size))) t (Obj.isFreed_of_fields i);have v:=(B9 (h₁.push tb) (Obj.mapFields (·.setIfInBounds 1 (Value.ref h₁.objs.size))) (Ne.symm B)).trans (Ba h₁ (Obj.isFreed_of_fields z));have w:=Obj.data_mapFields z (·.setIfInBounds 3 ((none:Option Addr).elim Value.none λf=>rawInt f));have C:=Bl (Obj.mapFields (·.setIfInBounds 3 ((none:Option Addr).elim Value.none λf=>rawInt f))) v (Obj.isFreed_of_fields w);unfold setFlight;refine wpAny_bind (wpAny_field u i (x:=.ref h₁.objs.size) (by simp[hsz]) ?_);rw[if_pos (show (Value.ref h₁.objs.size != Value.none)=true from by simp)];refine wpAny_setField v z T ?_;have keep:∀b o,b≠e->h₁.get? b=some o->(((h₁.push tb).update e (Obj.mapFields (·.setIfInBounds 1 (Value.ref h₁.objs.size)))).update h₁.objs.size (Obj.mapFields (·.setIfInBounds 3 ((none:Option Addr).elim Value.none λf=>rawInt f)))).get? b=some o:=λb o O l=>by have R:h₁.objs.size≠b:=BX (Heap.lt_size l);rw[B9 _ _ R,B9 _ _ (Ne.symm O)];exact A7 _ l
 have c:∀b o,s.heap.get? b=some o->(∀vs,o.data≠.fields vs)->b≠e:=λb o l j q=>by rw[q,H]at l;injection l with l;subst l;exact j vs hd
 have y:=(B9 _ (Obj.mapFields (·.setIfInBounds 3 ((none:Option Addr).elim Value.none λf=>rawInt f))) B).trans u;refine h _ ⟨λb o k=>keep b o (λq=>by rw[q,J]at k;cases k) (r b o k),hl.of_keeps λb o l j=>?_,?_,λb o l j=>?_⟩ λp=>⟨_,_,y,i,by rw[Bo (by decide)];exact X p⟩
 ·obtain⟨sl,S⟩:=g.2.2 b o l;exact⟨_,keep b _ (c b o l j) S,rfl⟩
 ·exact⟨_,_,h₁.objs.size,_,_,y,⟨Obj.cls_mapFields _ _,by rw[Bo (by decide)];exact W⟩,i,by simp[hsz],r.fresh,B,C,w,by simp[T]⟩
 ·obtain⟨sl,S⟩:=g.2.2 b o l;exact⟨sl,keep b _ (c b o l j) S⟩
theorem l8 {e:Addr}
  (a:A.frames=some (env::outer)) (hl:s.heap.FunFrames base (env::outer)) (f:env.frame=some L)
  (g:s.heap.get? e=some oe) (b:base.StaysIn s.heap) (c:base.get? e=none) (hd:oe.data=.fields vs) (h1:vs[1]?=some .none) (i:vs[0]?=some a0) (j:P->vs[2]?=some .none)
  (h:∀h',Heap.LeftW base (env::outer) e oe.cls a0 s.heap h'->(P->eQ h' e)->Q () { s with heap:=h' }):wpAny M A (leaving env (.ref e)) Q E s:=by
 unfold leaving noteFrame;simp only[f];refine wpAny_bind (wpAny_bind (wpAny_field g hd h1 ?_));rw[if_neg (by decide)];exact gK a hl f g b c hd (Be.mp h1).1 i j h
theorem mM {e:Addr}
  (k:A.frames=some (env::outer)) (w:env.frame=some L) (l:Heap.FlyingW base (env::outer) e cls a0 s.heap) (C:P->eQ s.heap e)
  (D:∀h',Heap.FlyingW base outer e cls a0 h'->s.heap.UpToSlots h'->(P->eQ h' e)->Q () { s with heap:=h' }):wpAny M A (leaving env (.ref e)) Q E s:=by
 obtain⟨m,i,hl,oe,vs,T,oT,ts,n,⟨j,F⟩,hd,h1,r,t,u,g,x⟩:=l;subst j;unfold leaving noteFrame;simp only[w];refine wpAny_bind (wpAny_bind (wpAny_field n hd h1 ?_));rw[if_pos (show (Value.ref T != Value.none)=true from by simp)];refine wpAny_bind (wpAny_field u g x ?_);rw[if_neg (show ¬ ((Value.none==rawInt L)=true) from by simp[rawInt])];refine wpAny_bind (wpAny_setField u g (Be.mp x).1 ?_);have other:∀b,b≠T->(s.heap.update T (Obj.mapFields (·.setIfInBounds 3 Value.none))).get? b=s.heap.get? b:=λb f=>B9 _ _ (Ne.symm f)
 have a:∀b o,s.heap.get? b=some o->(∀vs,o.data≠.fields vs)->b≠T:=λb o f c q=>by rw[q,u]at f;injection f with f;subst f;exact c ts g
 refine gK (P:=P) k (hl.of_keeps λb o f c=>⟨o,(other b (a b o f c)).trans f,rfl⟩) w ((other e (Ne.symm t)).trans n)
  (λb o h=>(other b λq=>by rw[q,r]at h;cases h).trans (m b o h)) i hd (Be.mp h1).1 F (λp=>?_)
  λh' v y=>(by obtain⟨x1,⟨_,_,x2⟩,x3,x4⟩:=v;exact D h' ⟨x1,i,x2,x3⟩ (λb o f c=>x4 b o ((other b (a b o f c)).trans f) c) y)
 obtain⟨oe',vs',z,B,G⟩:=C p;rw[n]at z;cases z;rw[hd]at B;cases B;exact G
theorem nH {e:Addr}
  (g:A.frames=some (env::outer)) (i:env.frame=some L) (a:base.StaysIn h) (hl:h.FunFrames base (env::outer)) (c:i8 A h s.heap e cls args)
  (j:∀h' t,Heap.FlyingW base outer e cls (.ref t) h'->s.heap.UpToSlots h'->(A.handled=none->eQ h' e)->Q () { s with heap:=h' }):wpAny M A (leaving env (.ref e)) Q E s:=by
 obtain⟨t,vs,k,l,m,n,htn,ht⟩:=c.there;have fresh:∀b,h.get? b=none->base.get? b=none:=λb f=>by
  cases hq:base.get? b with
  |none=>rfl
  |some o'=>have:=a b o' hq;rw[f]at this;cases this
 refine l8 (P:=A.handled=none) (a0:=.ref t) g (hl.of_keeps λb o f _=>⟨o,c.keeps b o f,rfl⟩) i k (λb o f=>c.keeps b o (a b o f)) (fresh e c.new) rfl m l n λh' p y=>?_
 obtain⟨k1,⟨_,_,k2⟩,k3,q⟩:=p;exact j h' t ⟨k1,fresh e c.new,k2,k3⟩ q y
end
abbrev Key:=Sum Int Str
def vX:Key->Value->Bool
 |.inl k,v=>Value.isInt k v
 |.inr x,v=>Value.isStrOf x v
def AB (w:World):Key->Int
 |.inl k=>hashInt k
 |.inr x=>hashStr w x
theorem bB:∀{k:Key} {v:Value},vX k v=true->(∃i t,k=Sum.inl i/\v=Value.int i t)\/(∃x t,k=Sum.inr x/\v=Value.str x t)
 |.inl i,v,h=>by obtain⟨t,e⟩:=Value.isInt_shape (k:=i) (v:=v) h;exact .inl ⟨i,t,rfl,e⟩
 |.inr x,v,h=>by obtain⟨t,e⟩:=Value.isStrOf_shape (x:=x) (v:=v) h;exact .inr ⟨x,t,rfl,e⟩
theorem xw (a b:Int):decide ((Sum.inl a:Key)=Sum.inl b)=(a==b):=by
 by_cases e:a=b
 ·subst e;simp
 ·have h:¬ (Sum.inl a:Key)=Sum.inl b:=λq=>e (Sum.inl.inj q)
  rw[decide_eq_false h];exact (beq_eq_false_iff_ne.mpr e).symm
theorem wm (a b:Str):decide ((Sum.inr a:Key)=Sum.inr b)=decide (a=b):=by
 by_cases e:a=b
 ·subst e;simp
 ·have h:¬ (Sum.inr a:Key)=Sum.inr b:=λq=>e (Sum.inr.inj q)
  rw[decide_eq_false h,decide_eq_false e]
theorem xv (a:Int) (b:Str):decide ((Sum.inl a:Key)=Sum.inr b)=false:=decide_eq_false (λq=>nomatch q)
theorem yg (a:Str) (b:Int):decide ((Sum.inr a:Key)=Sum.inl b)=false:=decide_eq_false (λq=>nomatch q)
def oR (prog:Program) (w:World):PySem.KeyKind prog w Key where
 is:=vX
 hash:=AB w
 inj:=λv a b ha f=>by
  rcases bB ha with⟨i,t,rfl,rfl⟩|⟨x,t,rfl,rfl⟩
  ·rcases bB f with⟨j,u,rfl,e⟩|⟨y,u,rfl,e⟩
   ·injection e with e1 _;rw[e1]
   ·exact nomatch e
  ·rcases bB f with⟨j,u,rfl,e⟩|⟨y,u,rfl,e⟩
   ·exact nomatch e
   ·injection e with e1 _;rw[e1]
 byValue:=λk v h=>by rcases bB h with⟨i,t,rfl,rfl⟩|⟨x,t,rfl,rfl⟩ <;> rfl
 pyHash:=λc h=>by
  rcases bB c with⟨i,t,rfl,rfl⟩|⟨x,t,rfl,rfl⟩
  ·exact wpAny_pyHash_int h
  ·exact wpAny_pyHash_str h
 eqBool:=λg c h=>by
  rcases bB g with⟨i,t,rfl,rfl⟩|⟨x,t,rfl,rfl⟩
  ·rcases bB c with⟨j,u,rfl,rfl⟩|⟨y,u,rfl,rfl⟩
   ·rw[xw]at h;exact wpAny_eqBool_int h
   ·rw[xv]at h;exact SeqAt.EqAt.int_str i t y u _ _ _ _ h
  ·rcases bB c with⟨j,u,rfl,rfl⟩|⟨y,u,rfl,rfl⟩
   ·rw[yg]at h;exact SeqAt.EqAt.str_int x t j u _ _ _ _ h
   ·rw[wm]at h;exact wpAny_eqBool_str h
 «strs»:=λk x t v h=>by
  rcases bB h with⟨i,u,rfl,e⟩|⟨y,u,rfl,e⟩
  ·exact nomatch e
  ·injection e with e1 _
   subst e1;cases v <;> rfl
inductive V where
 |non|bl (b:Bool)|int (i:Int)|str (x:Str)|byt (b:Array UInt8)|flt (b:UInt64)|ref (a:Addr)|ty (n:String)
 deriving DecidableEq
variable {xs:List V}
def RelV:V->Value->Prop
 |.non,u=>u=Value.none
 |.bl b,u=>u=Value.bool b
 |.int i,u=>∃t,u=Value.int i t
 |.str x,u=>∃t,u=Value.str x t
 |.byt b,u=>∃t,u=Value.bytes b t
 |.flt b,u=>∃t,u=Value.float b t
 |.ref a,u=>u=Value.ref a
 |.ty n,u=>u=Value.type n
abbrev Vals:List V->List Value->Prop:=Paired RelV
theorem Vals.length (r:Vals xs us):xs.length=us.length:=Paired.length r
theorem Vals.get:∀{xs:List V} {us:List Value} {i:Nat} {x:V},Vals xs us->xs[i]?=some x->∃u,us[i]?=some u/\RelV x u
 |_,_,_,_,.nil,e=>by simp at e
 |_,_,0,_,.cons r _,e=>by simp at e;subst e;exact⟨_,rfl,r⟩
 |_,_,i+1,x,.cons _ t,e=>by obtain⟨u,h1,h2⟩:=Vals.get (i:=i) (x:=x) t (by simpa using e);exact⟨u,by simpa using h1,h2⟩
theorem Vals.set {x:V} {u:Value} (r:RelV x u):∀{xs:List V} {us:List Value} (i:Nat),Vals xs us->Vals (xs.set i x) (us.set i u)
 |_,_,_,.nil=>.nil
 |_,_,0,.cons _ t=>.cons r t
 |_,_,i+1,.cons q t=>.cons q (Vals.set r i t)
theorem Vals.append {ys:List V} {ws:List Value} (h:Vals xs us) (s:Vals ys ws):Vals (xs++ys) (us++ws):=by
 induction h with
 |nil=>exact s
 |cons r t ih=>exact .cons r ih
theorem Vals.take:∀{xs:List V} {us:List Value} (n:Nat),Vals xs us->Vals (xs.take n) (us.take n)
 |_,_,0,_=>.nil
 |_,_,_+1,.nil=>.nil
 |_,_,n+1,.cons r t=>.cons r (Vals.take n t)
theorem Vals.drop:∀{xs:List V} {us:List Value} (n:Nat),Vals xs us->Vals (xs.drop n) (us.drop n)
 |_,_,0,r=>r
 |_,_,_+1,.nil=>.nil
 |_,_,n+1,.cons _ t=>Vals.drop n t
def zF:Option V->Option Value->Prop
 |some v,some u=>RelV v u
 |none,none=>True
 |_,_=>False
def KV {κ:Type}:List (κ×V)->List (κ×Value)->Prop:=Paired λ(p:κ×V) (q:κ×Value)=>p.1=q.1/\RelV p.2 q.2
def kV:Key->V
 |.inl i=>.int i
 |.inr x=>.str x
inductive HO where
 |lst (xs:List V)
 |tup (xs:List V)
 |dK (kvs:List (Key×V))|dT (kvs:List (List Key×V))
 |set (S:Int->Bool) (n:Nat)
 |ins (C dx:Addr) (fs:List (Str×V))
 |own (x:Addr)
 |xd (fs:List (Str×V))
 |met (f x:Addr)
 |rng (lo hi:Int)
 |frz (o:Obj) (u:HO)
 |tbl (q:Str)
 |ext (φ:Heap->Prop)
abbrev Hp:=Addr->Option HO
variable {R:V->V->Hp->Prop} {H:Hp}
def upd (H:Hp) (a:Addr) (o:HO):Hp:=λb=>if b=a then some o else H b
theorem bS {o:HO}:upd H a o a=some o:=by unfold upd;rw[if_pos rfl]
theorem aV {o:HO} (h:b≠a):upd H a o b=H b:=by unfold upd;rw[if_neg h]
theorem a6 {o:HO} (h:H a=some o) (h':H b=none):a≠b:=by intro e;subst e;rw[h]at h';cases h'
def kl (h:Heap) (a:Addr) (items:Array Value):Prop:=∃o,h.get? a=some o/\o.cls=.type "tuple"/\o.dict=none/\∃n,o.data=.seq items n
theorem kl.tup (x:kl h a items):IsTup h a items:=by obtain⟨o,e,c,_,n,d⟩:=x;exact⟨o,e,c,n,d⟩
theorem kl.new (h:Heap) (items:Array Value):kl (h.push { cls:=.type "tuple",data:=.seq items }) h.objs.size items:=⟨_,Ba _ rfl,rfl,rfl,_,rfl⟩
section
variable (P:Program) (w:World)
def dk (H:Hp) (h:Heap) (a:Addr):HO->Prop
 |.lst xs=>xs.length<=sizeLine/\∃(b:List Value) (n:Nat),Vals xs b/\h.get? a=some { cls:=.type "list",data:=.seq b.toArray n }
 |.tup xs=>xs.length<=sizeLine/\∃b:List Value,Vals xs b/\kl h a b.toArray
 |.dK kvs=>kvs.length<=sizeLine/\(a==sysModules)=false/\∃vs,KV kvs vs/\h.DictOf (oR P w) a vs
 |.dT kvs=>kvs.length<=sizeLine/\(a==sysModules)=false/\∃xs:List (List Key×Addr×Value),
  Paired (λ(p:List Key×V) (q:List Key×Addr×Value)=>p.1=q.1/\H q.2.1=some (.tup (p.1.map kV))/\RelV p.2 q.2.2) kvs xs /\
  ∃o es g,h.get? a=some o/\o.ExactDict/\o.data=.dict es g/\es.toList=xs.map (entryOfKey (tupleKind (oR P w)))/\(xs.map (·.1)).Nodup
 |.set S n=>h.SetOf (intKind P w) a S n
 |.ins C dx fs=>H dx=some (.own a)/\fs.length<=1000/\dx≠a/\h.get? a=some (PySem.W.instObj C dx) /\
  ∃mA,h.Ns1 dx mA/\(∀f,zF (fs.lookup f) (mA f))/\PySem.Within mA (fs.map (·.1))
 |.own _=>∃o,h.get? a=some o
 |.xd fs=>∃mA,h.Ns1 a mA/\∀f,zF (fs.lookup f) (mA f)
 |.rng lo hi=>∃t u v,h.get? a=some { cls:=.type "range",data:=.fields #[.int lo t,.int hi u,.int 1 v] }
 |.frz o u=>h.get? a=some o/\dk H h a u
 |.tbl q=>∃ps:Array Value,h.get? a=some { cls:=.none,data:=.fields ps }/\TriplesOk ps.toList/\∀pos e,codeAmong pos ps.toList=some e->∃c o vs t,e=.ref c/\H c=some (.frz o (.own c))/\o.data=.fields vs/\vs[1]?=some (.str q t)
 |.met f x=>h.get? a=some (PySem.W.methodObj (.ref f) (.ref x))
 |.ext φ=>φ h/\(∃o,h.get? a=some o)/\∀h1 h2:Heap,φ h1->(∀o,h1.get? a=some o->h2.get? a=some o)->φ h2
def HOk (H:Hp) (h:Heap):Prop:=∀a o,H a=some o->dk P w H h a o
end
section
variable {H':Hp} {o:HO}
theorem dk.lt (x:dk P w H h a o):a<h.objs.size:=by
 cases o with
 |lst xs=>obtain⟨_,_,_,_,e⟩:=x;exact Heap.lt_size e
 |tup xs=>obtain⟨_,_,_,p⟩:=x;exact p.tup.lt
 |dK kvs=>obtain⟨_,_,_,_,o,_,_,e,_⟩:=x;exact Heap.lt_size e
 |dT kvs=>obtain⟨_,_,_,_,o,_,_,e,_⟩:=x;exact Heap.lt_size e
 |set S n=>obtain⟨o,_,_,_,e,_⟩:=x;exact Heap.lt_size e
 |ins C dx fs=>obtain⟨_,_,_,e,_⟩:=x;exact Heap.lt_size e
 |own y=>obtain⟨_,e⟩:=x;exact Heap.lt_size e
 |xd fs=>obtain⟨_,⟨_,_,_,e,_⟩,_⟩:=x;exact Heap.lt_size e
 |rng lo hi=>obtain⟨_,_,_,e⟩:=x;exact Heap.lt_size e
 |frz ob u=>obtain⟨e,_⟩:=x;exact Heap.lt_size e
 |tbl q=>obtain⟨_,e,_⟩:=x;exact Heap.lt_size e
 |met f y=>exact Heap.lt_size (show h.get? a=some _ from x)
 |ext φ=>obtain⟨_,⟨_,e⟩,_⟩:=x;exact Heap.lt_size e
theorem Paired.mapP {F G:α->β->Prop} {l₁:List α} {l₂:List β} (h:Paired F l₁ l₂) (f:∀a b,F a b->G a b):Paired G l₁ l₂:=by
 induction h with
 |nil=>exact .nil
 |cons r t ih=>exact .cons (f _ _ r) ih
theorem dk.stay (x:dk P w H h a o) (k:∀b u,(b=a\/H b=some (.own a))->h.get? b=some u->h'.get? b=some u)
  (j:∀b,H b=some (.own a)->H' b=some (.own a)) (l:∀b xs,H b=some (.tup xs)->H' b=some (.tup xs)) (m:∀b o u,H b=some (.frz o u)->H' b=some (.frz o u):=by exact λ_ _ _ q=>q):dk P w H' h' a o:=by
 induction o with
 |lst xs=>obtain⟨z,i,n,r,e⟩:=x;exact⟨z,i,n,r,k _ _ (.inl rfl) e⟩
 |tup xs=>obtain⟨z,i,r,ob,e,c⟩:=x;exact⟨z,i,r,ob,k _ _ (.inl rfl) e,c⟩
 |dK kvs=>obtain⟨z,y,vs,r,ob,es,g,e,c⟩:=x;exact⟨z,y,vs,r,ob,es,g,k _ _ (.inl rfl) e,c⟩
 |dT kvs =>obtain⟨z,y,xs,r,ob,es,g,e,c⟩:=x;exact⟨z,y,xs,Paired.mapP r λp q z=>⟨z.1,l _ _ z.2.1,z.2.2⟩,ob,es,g,k _ _ (.inl rfl) e,c⟩
 |set S n=>obtain⟨ob,es,g,t,e,c⟩:=x;exact⟨ob,es,g,t,k _ _ (.inl rfl) e,c⟩
 |ins C dx fs =>obtain⟨d,z,ne,e,mA,⟨od,es,g,e2,c⟩,r⟩:=x;exact⟨j _ d,z,ne,k _ _ (.inl rfl) e,mA,⟨od,es,g,k _ _ (.inr d) e2,c⟩,r⟩
 |own y=>obtain⟨ob,e⟩:=x;exact⟨ob,k _ _ (.inl rfl) e⟩
 |xd fs=>obtain⟨mA,⟨od,es,g,e,c⟩,r⟩:=x;exact⟨mA,⟨od,es,g,k _ _ (.inl rfl) e,c⟩,r⟩
 |rng lo hi=>obtain⟨t,u,v,e⟩:=x;exact⟨t,u,v,k _ _ (.inl rfl) e⟩
 |frz ob u ih=>obtain⟨e,q⟩:=x;exact⟨k _ _ (.inl rfl) e,ih q⟩
 |tbl q =>obtain⟨ps,e,t,c⟩:=x;exact⟨ps,k a _ (.inl rfl) e,t,λpos s z=>by obtain⟨A,o,vs,t',e1,e2,B⟩:=c pos s z;exact⟨A,o,vs,t',e1,m _ _ _ e2,B⟩⟩
 |met f y =>have e:h.get? a=some (PySem.W.methodObj (.ref f) (.ref y)):=x;show h'.get? a=some (PySem.W.methodObj (.ref f) (.ref y));exact k a _ (.inl rfl) e
 |ext φ=>obtain⟨p,⟨o,e⟩,st⟩:=x;exact⟨st _ _ p λo q=>k _ _ (.inl rfl) q,⟨o,k _ _ (.inl rfl) e⟩,st⟩
theorem HOk.lt (x:HOk P w H h) (e:H a=some o):a<h.objs.size:=(x a o e).lt
theorem HOk.fresh (x:HOk P w H h) (e:h.objs.size<=a):H a=none:=by
 cases q:H a with
 |none=>rfl
 |some u=>exact absurd (B5 (x.lt q) e) (Bs _)
theorem HOk.kept (x:HOk P w H h) (k:∀b u,h.get? b=some u->h'.get? b=some u):HOk P w H h':=λa o e =>
 (x a o e).stay (λb u _ q=>k b u q) (λ_ q=>q) λ_ _ q=>q
theorem HOk.laid (x:HOk P w H h) (k:∀b u,h.get? b=some u->h'.get? b=some u) (f:h.objs.size<=a) (new:dk P w (upd H a o) h' a o):HOk P w (upd H a o) h':=λb u e=>by
 have hn:=x.fresh f;by_cases hb:b=a
 ·subst hb;rw[bS]at e;cases e;exact new
 ·rw[aV hb]at e;exact (x b u e).stay (λc v _ q=>k c v q) (λc q=>by rw[aV (a6 q hn)];exact q) (λc xs q=>by rw[aV (a6 q hn)];exact q) λc ob w' q=>by rw[aV (a6 q hn)];exact q
end
def Rd (H:Hp) (a:Addr) (u:HO):Prop:=H a=some u\/∃o,H a=some (.frz o u)
theorem Rd.ok {u:HO} (r:Rd H a u) (x:HOk P w H h):dk P w H h a u:=by
 rcases r with r|⟨o,r⟩
 ·exact x a u r
 ·obtain⟨_,q⟩:=x a _ r;exact q
def Mut:Option HO->Prop
 |some (.lst _)=>True
 |some (.dK _)=>True
 |some (.dT _)=>True
 |some (.set _ _)=>True
 |some (.ins _ _ _)=>True
 |some (.ext _)=>True
 |_=>False
section
variable {x e:Addr} {o':HO}
theorem HOk.write (ok:HOk P w H h) (f:Mut (H x)) (l:e=x\/H e=some (.own x)) (k:∀b u,b≠e->h.get? b=some u->h'.get? b=some u) (j:∃u,h'.get? e=some u)
  (new:dk P w (upd H x o') h' x o'):HOk P w (upd H x o') h':=λb u q=>by
 have a:∀c y,H c=some (.own y)->c≠x:=λc y r z=>by subst z;rw[r]at f;exact f
 have g:∀c xs,H c=some (.tup xs)->c≠x:=λc xs r z=>by subst z;rw[r]at f;exact f
 have i:∀c o u,H c=some (.frz o u)->c≠x:=λc o u r z=>by subst z;rw[r]at f;exact f
 by_cases hb:b=x
 ·subst hb;rw[bS]at q;cases q;exact new
 ·rw[aV hb]at q;by_cases hbe:b=e
  ·have m:H b=some (.own x):=by
    rcases l with z|z
    ·exact absurd (hbe.trans z) hb
    ·rw[hbe];exact z
   rw[q]at m;cases m;obtain⟨v,n⟩:=j;exact⟨v,by rw[hbe];exact n⟩
  ·refine (ok b u q).stay (λc v hc r=>k c v ?_ r) (λc r=>by rw[aV (a c b r)];exact r) (λc xs r=>by rw[aV (g c xs r)];exact r) λc o p r=>by rw[aV (i c o p r)];exact r
   rcases hc with rfl|hc
   ·exact hbe
   ·rintro rfl
    rcases l with z|z
    ·exact a c b hc z
    ·rw[hc]at z;cases z;exact hb rfl
end
structure Un (fs ex:List Addr) (H H':Hp) (h h':Heap):Prop where
 keep:∀b o,h.get? b=some o->H b=none->b∉fs->b∉ex->h'.get? b=some o
 slot:∀b o,h.get? b=some o->H b=none->b∈fs->b∉ex->∃sl,h'.get? b=some { o with slots:=sl }
 free:∀b o,h.get? b=some o->H b=none->b∉ex->H' b=none
 there:∀b o,h.get? b=some o->b∉ex->∃o',h'.get? b=some o'
 tups:∀b xs,H b=some (.tup xs)->H' b=some (.tup xs)
 frzs:∀b o u,H b=some (.frz o u)->H' b=some (.frz o u)
 tbls:∀b q,H b=some (.tbl q)->H' b=some (.tbl q)
section
variable {fs fs' ex ex':List Addr} {H1 H2:Hp} {h1 h2:Heap} {x e:Addr} {o:HO}
theorem Un.any (u:Un fs ex H H1 h h1) {ob:Obj} (q:h.get? b=some ob) (n:H b=none) (a:b∉ex):∃sl,h1.get? b=some { ob with slots:=sl }:=by
 by_cases hb:b∈fs
 ·exact u.slot b ob q n hb a
 ·exact⟨ob.slots,u.keep b ob q n hb a⟩
theorem Un.kept (k:∀b u,h.get? b=some u->h'.get? b=some u):Un fs ex H H h h' :=
 ⟨λb ob q _ _ _=>k b ob q,λb ob q _ _ _=>⟨ob.slots,k b ob q⟩,λ_ _ _ n _=>n,λb ob q _=>⟨ob,k b ob q⟩,λ_ _ q=>q,λ_ _ _ q=>q,λ_ _ q=>q⟩
theorem Un.refl:Un fs ex H H h h:=Un.kept λ_ _ q=>q
theorem Un.laid (k:∀b u,h.get? b=some u->h'.get? b=some u) (c:h.objs.size<=a) (hn:H a=none):Un fs ex H (upd H a o) h h' where
 keep:=λb u q _ _ _=>k b u q
 slot:=λb u q _ _ _=>⟨u.slots,k b u q⟩
 free:=λb u q n _=>by rw[aV (Nat.ne_of_lt (B5 (Heap.lt_size q) c))];exact n
 there:=λb u q _=>⟨u,k b u q⟩
 tups:=λb xs q=>by rw[aV (a6 q hn)];exact q
 frzs:=λb u xs q=>by rw[aV (a6 q hn)];exact q
 tbls:=λb ps q=>by rw[aV (a6 q hn)];exact q
theorem Un.write (a:Mut (H x)) (i:e=x\/H e=some (.own x)) (k:∀b u,b≠e->h.get? b=some u->h'.get? b=some u) (c:∃u,h'.get? e=some u):Un fs ex H (upd H x o) h h':=by
 have f:∀b,H b=none->b≠x:=λb n z=>by subst z;rw[n]at a;exact a
 have g:∀b,H b=none->b≠e:=λb n z=>by
  subst z;rcases i with r|r
  ·exact f b n r
  ·rw[n]at r;cases r
 have hm:∀b u,H b=some u->¬ Mut (some u)->b≠x:=λb u q nm z=>by subst z;rw[q]at a;exact nm a
 refine⟨λb u q n _ _=>k b u (g b n) q,λb u q n _ _=>⟨u.slots,k b u (g b n) q⟩,λb u q n _=>by rw[aV (f b n)];exact n,λb u q _=>?_,
  λb xs q=>by rw[aV (hm b _ q λz=>z)];exact q,λb u xs q=>by rw[aV (hm b _ q λz=>z)];exact q,λb ps q=>by rw[aV (hm b _ q λz=>z)];exact q⟩
 by_cases hbe:b=e
 ·subst hbe;exact c
 ·exact⟨u,k b u hbe q⟩
end
def trk (h:Heap) (H:Hp):List Addr:=(List.range h.objs.size).filter λa=>(H a).isSome
def jE (h:Heap) (H:Hp):Heap:=PySem.W.hideAll h (trk h H)
theorem pB (h:Heap) (H:Hp):(jE h H).objs.size=h.objs.size:=PySem.W.hideAll_size _ _
theorem rX (e:h.get? b=some o) (n:H b=none):(jE h H).get? b=some o :=
 PySem.W.hideAll_get _ e λhm=>by have q:(H b).isSome=true:=(List.mem_filter.mp hm).2;rw[n]at q;simp at q
theorem vH (e:(jE h H).get? b=some o):h.get? b=some o/\H b=none:=by
 have a:h.get? b=some o:=PySem.W.of_hideAll (trk h H) e;refine⟨a,?_⟩;cases q:H b with
 |none=>rfl
 |some x =>have hm:b∈trk h H:=List.mem_filter.mpr ⟨BJ.mpr (Heap.lt_size a),by simp[q]⟩;have z:(jE h H).get? b=none:=PySem.W.hideAll_none (trk h H) hm;rw[z]at e;cases e
structure Mod (K:PySem.W.Frag) (mg:Str->Option Value) (base:Heap):Prop where
 kin:K.In base
 glob:base.Ns mainGlobals mg
 blt:∃mb,base.Ns builtinsNs mb/\∀x:Str,x≠"__name__"->mb x=bootBuiltins x
 nolimit:base.NoLimit
def oW:List Str:=[]
def TabOf (K:PySem.W.Frag) (P:Addr) (q:Str):Prop:=∃x∈oW,∃f oc od fd sl c,PySem.W.nsIn K mainGlobals x=some (some (.ref f))/\K.lookup f=some ⟨oc,od,.func fd,sl⟩/\fd.code=.ref c/\(∃o vs,K.lookup c=some o/\o.data=.fields vs/\vs[11]?=some (.ref P))/\q=x++".<locals>.<lambda>"
structure Cx where
 prog:Program
 w:World
 K:PySem.W.Frag
 mg:Str->Option Value
 base:Heap
 A:Around
 N:List Str
 s₀:Shared
 H₀:Hp
 env:Env
 outer:List Env
 stack:List Env
 ex:List Addr
 fn:Str->Bool
 calm:Bool
 pn:List (Addr×Obj)
 xe:Value->Shared->Prop
variable {X:Cx}
def frs (l:List Env):List Addr:=l.filterMap (·.frame)
abbrev Cx.fs (X:Cx):List Addr:=frs X.outer
def Vis (sc:Scope) (x:Str):Prop:=sc.names.lookup x=some .local\/sc.names.lookup x=some .cell\/sc.names.lookup x=some .free
def Loc (sc:Scope) (x:Str):Prop:=sc.names.lookup x=some .local\/sc.names.lookup x=some .cell
def Look (env:Env) (h:Heap) (m:Str->Option Value) (x:Str) (u:Value):Prop :=
 (env.kindOf x=some .local/\m x=some u)\/((env.kindOf x=some .cell\/env.kindOf x=some .free)/\∃c,env.cells.lookup x=some c/\h.IsCell c (some u))
def Cx.HdX (X:Cx):Prop:=X.A.handled=none\/∃e oe vs,X.A.handled=some (.ref e)/\(e,oe)∈X.pn/\oe.data=.fields vs/\vs[2]?=some .none
structure Cx.Ok (X:Cx):Prop where
 mod:Mod X.K X.mg X.base
 kind:X.env.scope.kind=.function
 glob:X.env.globals=mainGlobals
 blt:X.env.builtins=builtinsNs
 above:X.s₀.heap.objs.size<=X.env.locals
 inj:∀x y c,X.env.cells.lookup x=some c->X.env.cells.lookup y=some c->x=y
 has:∀x,(X.env.kindOf x=some .cell\/X.env.kindOf x=some .free)->∃c,X.env.cells.lookup x=some c
 cab:∀x c,X.fn x=true->X.env.cells.lookup x=some c->X.s₀.heap.objs.size<=c
 hd:X.calm=true->X.HdX
 frames:X.A.frames=some X.stack
 stk:X.stack=X.outer\/(X.stack=X.env::X.outer/\X.env.frame=some X.env.locals)
 exf:∀b∈X.ex,b≠X.env.locals/\∀x c,X.env.cells.lookup x=some c->c≠b
 bs:∀b o,X.base.get? b=some o->X.s₀.heap.get? b=some o/\X.H₀ b=none
 bsz:X.base.objs.size<=X.s₀.heap.objs.size
 noex:∀b o,X.base.get? b=some o->b∉X.ex
 exfs:∀b∈X.ex,b∉X.fs
 funs:X.s₀.heap.FunFrames X.base X.outer
 frf:∀b∈X.fs,X.H₀ b=none
structure Inv (X:Cx) (pins:List (Addr×Obj)) (σ:List (Option V)) (H:Hp) (s:Shared):Prop where
 ok:X.Ok
 os:s.os=X.s₀.os
 bare:AllBare s.gens
 base:Un X.fs X.ex X.H₀ H X.s₀.heap s.heap
 loc:∃m,s.heap.Ns X.env.locals m/\∀(i:Nat) (x:Str) (v:V),X.N[i]?=some x->σ[i]?=some (some v)->Vis X.env.scope x->∃u,RelV v u/\Look X.env s.heap m x u
 cell:∀x c,X.env.cells.lookup x=some c->∃v,s.heap.IsCell c v
 free:H X.env.locals=none
 freeC:∀x c,X.env.cells.lookup x=some c->H c=none
 pin:∀p∈X.pn++pins,s.heap.get? p.1=some p.2/\H p.1=none/\p.1≠X.env.locals/\p.1∉X.fs/\∀v,p.2.data≠.cell v
 hok:HOk X.prog X.w H s.heap
 len:σ.length=X.N.length
 tab:∀P q,TabOf X.K P q->H P=some (.tbl q)
section
variable {σ:List (Option V)} {H':Hp}
theorem Cx.Ok.nofr (ok:X.Ok) (e:X.base.get? b=some o):b∉X.fs:=λa=>by have:=(ok.funs.mem a).1;rw[e]at this;cases this
theorem Inv.bs (I:Inv X pins σ H s):∀b o,X.base.get? b=some o->s.heap.get? b=some o/\H b=none:=λb o e =>
 ⟨I.base.keep b o (I.ok.bs b o e).1 (I.ok.bs b o e).2 (I.ok.nofr e) (I.ok.noex b o e),I.base.free b o (I.ok.bs b o e).1 (I.ok.bs b o e).2 (I.ok.noex b o e)⟩
theorem Inv.bk (I:Inv X pins σ H s):∀b o,X.base.get? b=some o->s.heap.get? b=some o:=λb o e=>(I.bs b o e).1
theorem Inv.mod (I:Inv X pins σ H s):Mod X.K X.mg X.base:=I.ok.mod
theorem Inv.hdH (I:Inv X pins σ H s) (hc:X.calm=true):HdH X.A s.heap:=by
 rcases I.ok.hd hc with x|⟨e,oe,vs,x1,x2,x3,x4⟩
 ·exact .inl x
 ·exact .inr ⟨e,oe,vs,x1,(I.pin (e,oe) (Bb _ x2)).1,x3,x4⟩
theorem Inv.hdN (I:Inv X pins σ H s) (hc:X.calm=true) (h:∀p∈X.pn++pins,p.1≠it):∀e,X.A.handled=some (.ref e)->e≠it:=λe a=>by
 rcases I.ok.hd hc with x|⟨e',oe,vs,x1,x2,_⟩
 ·rw[x]at a;cases a
 ·rw[x1]at a;cases a;exact h _ (Bb _ x2)
theorem Inv.kIn (I:Inv X pins σ H s):X.K.In s.heap:=I.ok.mod.kin.keeps I.bk
theorem Inv.lt (I:Inv X pins σ H s):X.env.locals<s.heap.objs.size:=let ⟨_,hn,_⟩:=I.loc;hn.lt
theorem Inv.sz (I:Inv X pins σ H s):X.s₀.heap.objs.size<=s.heap.objs.size:=Bj I.ok.above (Nat.le_of_lt I.lt)
theorem Inv.nofs (I:Inv X pins σ H s) (h:s.heap.objs.size<=a):a∉X.fs:=λb=>by obtain⟨_,o,c,_⟩:=I.ok.funs.mem b;exact absurd (B5 (Heap.lt_size c) (Bj I.sz h)) (Bs _)
theorem Inv.cne (I:Inv X pins σ H s):∀x c,X.env.cells.lookup x=some c->c≠X.env.locals:=λx c e z=>by obtain⟨v,o,f,hd⟩:=I.cell x c e;obtain⟨m,⟨o',es,ep,a,b,_⟩,_⟩:=I.loc;rw[z,a]at f;cases f;rw[b]at hd;cases hd
theorem Inv.funs (I:Inv X pins σ H s):s.heap.FunFrames X.base X.outer:=by
 have all:∀(l:List Env),(∀b∈frs l,b∈X.fs)->X.s₀.heap.FunFrames X.base l->s.heap.FunFrames X.base l:=by
  intro l
  induction l with
  |nil=>intro _ _;trivial
  |cons env r ih =>
   intro g hl;obtain⟨h,⟨L,o,a,hn,i,hd⟩,j⟩:=hl;have c:L∈X.fs:=g L (by unfold frs;rw[BM,a];exact List.mem_cons_self);obtain⟨sl,e⟩:=I.base.slot L o i (I.ok.frf L c) c λz=>I.ok.exfs L z c
   exact⟨h,⟨L,_,a,hn,e,hd⟩,ih (λb f=>g b (by unfold frs;rw[BM,a];exact A6 _ f)) j⟩
 exact all X.outer (λ_ f=>f) I.ok.funs
theorem Inv.stack (I:Inv X pins σ H s):s.heap.FunFrames X.base X.stack:=by
 rcases I.ok.stk with e|⟨e,a⟩
 ·rw[e];exact I.funs
 ·rw[e];obtain⟨m,hn,_⟩:=I.loc;refine .cons (by rw[I.ok.kind];decide) a hn ?_ I.funs;exact Heap.get?_none_of_le (Bj I.ok.bsz I.ok.above)
theorem Inv.stkSub (I:Inv X pins σ H s):∀b∈frs X.stack,b∈X.env.locals::X.fs:=λb a=>by
 rcases I.ok.stk with e|⟨e,c⟩
 ·rw[e]at a;exact A6 _ a
 ·rw[e]at a;unfold frs at a;rw[BM,c]at a;exact a
theorem Inv.stkFree (I:Inv X pins σ H s):∀b∈frs X.stack,H b=none:=λb a=>by
 rcases List.mem_cons.mp (I.stkSub b a) with e|a
 ·rw[e];exact I.free
 ·obtain⟨_,o,c,_⟩:=I.ok.funs.mem a;exact I.base.free b o c (I.ok.frf b a) λz=>I.ok.exfs b z a
theorem Inv.step {t':Nat} {d':Drawn} {ch:List Addr} (I:Inv X pins σ H s)
  (f:∀b∈ch,(b∈X.ex\/X.s₀.heap.objs.size<=b)/\b≠X.env.locals/\(∀x c,X.env.cells.lookup x=some c->c≠b)/\∀p∈X.pn++pins,p.1≠b)
  (keep:∀b o,b≠X.env.locals->b∉X.fs->b∉ch->s.heap.get? b=some o->H b=none->h'.get? b=some o)
  (slot:∀b o,b≠X.env.locals->b∈X.fs->b∉ch->s.heap.get? b=some o->H b=none->∃sl,h'.get? b=some { o with slots:=sl }) (free:∀b o,b∉ch->s.heap.get? b=some o->H b=none->H' b=none)
  (there:∀b o,b∉ch->s.heap.get? b=some o->∃o',h'.get? b=some o')
  (tups:∀b xs,H b=some (.tup xs)->H' b=some (.tup xs)) (frzs:∀b o u,H b=some (.frz o u)->H' b=some (.frz o u)) (tbls:∀b q,H b=some (.tbl q)->H' b=some (.tbl q))
  (ns:∀m,s.heap.Ns X.env.locals m->h'.Ns X.env.locals m) (hok:HOk X.prog X.w H' h') (F:AllBare g') :
  Inv X pins σ H' { s with heap:=h',gens:=g',drawn:=d',toks:=t' }:=by
 have A:∀b o,X.s₀.heap.get? b=some o->b≠X.env.locals:=λb o e=>Nat.ne_of_lt (B5 (Heap.lt_size e) I.ok.above)
 have h:∀b o,X.s₀.heap.get? b=some o->b∉X.ex->b∉ch:=λb o e a j=>by
  rcases (f b j).1 with z|z
  ·exact a z
  ·exact absurd (B5 (Heap.lt_size e) z) (Bs _)
 have cellK:∀x c,X.env.cells.lookup x=some c->∀v,s.heap.IsCell c v->h'.IsCell c v:=λx c e v B=>by
  obtain⟨o,y,hd⟩:=B;have g:c∉ch:=λz=>(f c z).2.2.1 x c e rfl
  by_cases hc:c∈X.fs
  ·obtain⟨sl,q⟩:=slot c o (I.cne x c e) hc g y (I.freeC x c e);exact⟨_,q,hd⟩
  ·exact⟨o,keep c o (I.cne x c e) hc g y (I.freeC x c e),hd⟩
 refine⟨I.ok,I.os,F,⟨λb o e n j a=>?_,λb o e n j a=>?_,λb o e n a=>?_,λb o e a=>?_,λb xs e=>tups b xs (I.base.tups b xs e),λb o xs e=>frzs b o xs (I.base.frzs b o xs e),λb ps e=>?_⟩,?_,λx c e=>?_,?_,λx c e=>?_,λp D=>?_,hok,I.len,λP q t=>tbls P q (I.tab P q t)⟩
 ·exact keep b o (A b o e) j (h b o e a) (I.base.keep b o e n j a) (I.base.free b o e n a)
 ·obtain⟨sl,e1⟩:=I.base.slot b o e n j a;obtain⟨C,e2⟩:=slot b _ (A b o e) j (h b o e a) e1 (I.base.free b o e n a);exact⟨C,e2⟩
 ·obtain⟨o',e1⟩:=I.base.there b o e a;exact free b o' (h b o e a) e1 (I.base.free b o e n a)
 ·obtain⟨o',e1⟩:=I.base.there b o e a;exact there b o' (h b o e a) e1
 ·exact tbls b _ (I.base.tbls b ps e)
 ·obtain⟨m,hn,hl⟩:=I.loc;refine⟨m,ns m hn,λi x v e1 e2 G=>?_⟩;obtain⟨u,r,l⟩:=hl i x v e1 e2 G;refine⟨u,r,?_⟩;rcases l with l|⟨k,c,e,z⟩
  ·exact .inl l
  ·exact .inr ⟨k,c,e,cellK x c e _ z⟩
 ·obtain⟨v,z⟩:=I.cell x c e;exact⟨v,cellK x c e v z⟩
 ·obtain⟨m,⟨o,_,_,y,_⟩,_⟩:=I.loc;exact free _ o (λz=>(f _ z).2.1 rfl) y I.free
 ·obtain⟨v,o,y,hd⟩:=I.cell x c e;exact free c o (λz=>(f c z).2.2.1 x c e rfl) y (I.freeC x c e)
 ·obtain⟨e,n,ne,E,d⟩:=I.pin p D;have g:p.1∉ch:=λz=>(f p.1 z).2.2.2 p D rfl
  exact⟨keep p.1 p.2 ne E g e n,free p.1 p.2 g e n,ne,E,d⟩
theorem Inv.un {t':Nat} (I:Inv X pins σ H s) (u:Un X.fs [] H H' s.heap h') (hok:HOk X.prog X.w H' h'):Inv X pins σ H' { s with heap:=h',toks:=t' }:=by obtain⟨m,⟨o,es,ep,h,r⟩,_⟩:=id I.loc;obtain⟨sl,i⟩:=u.any h I.free (by simp);exact I.step (g':=s.gens) (d':=s.drawn) (ch:=[]) (λ_ z=>nomatch z) (λb o _ c _ e n=>u.keep b o e n c (by simp)) (λb o _ c _ e n=>u.slot b o e n c (by simp)) (λb o _ e n=>u.free b o e n (by simp)) (λb o _ e=>u.there b o e (by simp)) u.tups u.frzs u.tbls (λm' hm=>by obtain⟨o',f,g,a,j⟩:=hm;rw[h]at a;cases a;exact⟨_,f,g,i,j⟩) hok I.bare
theorem Inv.call {t':Nat} {d':Drawn} {ch:List Addr} (I:Inv X pins σ H s) (u:Un (frs X.stack) ch H H' s.heap h') (hok:HOk X.prog X.w H' h') (k:AllBare g')
  (a:∀b∈ch,(b∈X.ex\/X.s₀.heap.objs.size<=b)/\b≠X.env.locals/\(∀x c,X.env.cells.lookup x=some c->c≠b)/\∀p∈X.pn++pins,p.1≠b) :
  Inv X pins σ H' { s with heap:=h',gens:=g',drawn:=d',toks:=t' }:=by
 obtain⟨m,⟨o,es,ep,j,r⟩,_⟩:=id I.loc;obtain⟨sl,g⟩:=u.any j I.free λz=>(a _ z).2.1 rfl
 exact I.step (ch:=ch) a (λb o g l hc e n=>u.keep b o e n (λz=>(List.mem_cons.mp (I.stkSub b z)).elim g l) hc) (λb o _ _ hc e n=>u.any e n hc) (λb o hc e n=>u.free b o e n hc) (λb o hc e=>u.there b o e hc) u.tups u.frzs u.tbls (λm' hm=>by obtain⟨o',h,i,f,q⟩:=hm;rw[j]at f;cases f;exact⟨_,h,i,g,q⟩) hok k
theorem Inv.turned {t':Nat} (I:Inv X pins σ H s) (k:∀b o,b≠it->s.heap.get? b=some o->h'.get? b=some o) (hn:H it=none) (f:it≠X.env.locals)
  (h1:it∈X.ex\/X.s₀.heap.objs.size<=it) (h2:∀x c,X.env.cells.lookup x=some c->c≠it) (g:∀p∈X.pn++pins,p.1≠it):Inv X pins σ H { s with heap:=h',toks:=t' }:=by
 have a:∀b u,H b=some u->b≠it:=λb u e z=>by rw[z,hn]at e;cases e
 refine I.step (g':=s.gens) (d':=s.drawn) (ch:=[it]) (λb h=>?_) (λb o _ _ hc e _=>k b o (λz=>hc (by simp[z])) e) (λb o _ _ hc e _=>⟨o.slots,k b o (λz=>hc (by simp[z])) e⟩) (λ_ _ _ _ n=>n)
  (λb o hc e=>⟨o,k b o (λz=>hc (by simp[z])) e⟩) (λ_ _ e=>e) (λ_ _ _ e=>e) (λb ps e=>e) (λm hm=>?_) (λb u e=>?_) I.bare
 ·have e:b=it:=by simpa using h
  subst e;exact⟨h1,f,h2,g⟩
 ·obtain⟨o,es,i,j,r⟩:=hm;exact⟨o,es,i,k _ o (Ne.symm f) j,r⟩
 ·refine (I.hok b u e).stay (λc v hc q=>k c v ?_ q) (λ_ q=>q) λ_ _ q=>q
  rcases hc with z|z
  ·rw[z];exact a b u e
  ·exact a c _ z
theorem Inv.tok (I:Inv X pins σ H s) (t:Nat):Inv X pins σ H { s with toks:=t }:=I.un (h':=s.heap) (t':=t) Un.refl I.hok
theorem Inv.kept {t':Nat} (I:Inv X pins σ H s) (k:∀b u,s.heap.get? b=some u->h'.get? b=some u):Inv X pins σ H { s with heap:=h',toks:=t' }:=I.un (Un.kept k) (I.hok.kept k)
theorem Inv.laid {o:HO} {t':Nat} (I:Inv X pins σ H s) (k:∀b u,s.heap.get? b=some u->h'.get? b=some u) (c:s.heap.objs.size<=a) (new:dk X.prog X.w (upd H a o) h' a o) :
 Inv X pins σ (upd H a o) { s with heap:=h',toks:=t' }:=I.un (Un.laid k c (I.hok.fresh c)) (I.hok.laid k c new)
theorem Inv.write {x e:Addr} {o:HO} {t':Nat} (I:Inv X pins σ H s) (c:Mut (H x)) (f:e=x\/H e=some (.own x)) (k:∀b u,b≠e->s.heap.get? b=some u->h'.get? b=some u) (a:∃u,h'.get? e=some u)
 (new:dk X.prog X.w (upd H x o) h' x o):Inv X pins σ (upd H x o) { s with heap:=h',toks:=t' }:=I.un (Un.write c f k a) (I.hok.write c f k a new)
theorem Inv.pins_of {a:List (Addr×Obj)} (I:Inv X pins σ H s) (h:∀p∈a,s.heap.get? p.1=some p.2/\H p.1=none/\p.1≠X.env.locals/\p.1∉X.fs/\∀v,p.2.data≠.cell v):Inv X a σ H s :=
 ⟨I.ok,I.os,I.bare,I.base,I.loc,I.cell,I.free,I.freeC,λp b=>(B8.mp b).elim (λz=>I.pin p (Bb _ z)) (h p),I.hok,I.len,I.tab⟩
theorem iS (c:N.Nodup) (a:N[i]?=some x) (b:N[j]?=some x):i=j:=by obtain⟨h1,e1⟩:=Bw.mp a;obtain⟨h2,e2⟩:=Bw.mp b;exact (List.getElem_inj c).mp (e1.trans e2.symm)
theorem kh {v:V} (I:Inv X pins σ H s) (hN:X.N.Nodup) (hi:X.N[i]?=some x) (g:Loc X.env.scope x) (r:RelV v u)
  (h:∀s',Inv X pins (σ.set i (some v)) H s'->(∃a,Heap.SameBut a s.heap s'.heap/\(a=X.env.locals\/X.env.cells.lookup x=some a))->Q () s') (hf:X.fn x=true\/X.env.scope.names.lookup x=some .local:=by first|exact .inl rfl|exact .inr rfl|assumption):wpAny M A (storeName X.env x u) Q E s:=by
 obtain⟨m,hn,hl⟩:=id I.loc;have F:(X.env.scope.kind==.class||(X.env.scope.kind==.module&&X.env.locals != X.env.globals))=false:=by rw[I.ok.kind];rfl
 have t:i<σ.length:=by rw[I.len];exact (Bw.mp hi).1
 have cne:=I.cne;have tracked:∀{a:Addr} {h':Heap},(∃o,s.heap.get? a=some o/\H a=none)->Heap.SameBut a s.heap h'->HOk X.prog X.w H h':=λ{a h'} ha f b ob e=>by
  obtain⟨_,_,l⟩:=ha;refine (I.hok b ob e).stay (λc L hc q=>(f.2 c ?_).trans q) (λ_ q=>q) λ_ _ q=>q
  rintro rfl
  rcases hc with rfl|hc
  ·rw[l]at e;cases e
  ·rw[l]at hc;cases hc
 rcases g with B|B
 ·refine wpAny_storeName_local B hn (λh' P f=>?_) F;obtain⟨oL,_,_,R,_⟩:=id hn;refine h _ ⟨I.ok,I.os,I.bare,⟨λb o e n C g=>?_,λb o e n C g=>?_,I.base.free,λb o e g=>?_,I.base.tups,I.base.frzs,I.base.tbls⟩,⟨_,P,λj y S e1 e2 T=>?_⟩,λy c e=>?_,I.free,I.freeC,λp U=>?_,tracked ⟨oL,R,I.free⟩ f,by simpa using I.len,I.tab⟩ ⟨_,f,.inl rfl⟩
  ·exact (f.2 b (Nat.ne_of_lt (B5 (Heap.lt_size e) I.ok.above))).trans (I.base.keep b o e n C g)
  ·obtain⟨sl,e1⟩:=I.base.slot b o e n C g;exact⟨sl,(f.2 b (Nat.ne_of_lt (B5 (Heap.lt_size e) I.ok.above))).trans e1⟩
  ·obtain⟨o',e1⟩:=I.base.there b o e g;exact⟨o',(f.2 b (Nat.ne_of_lt (B5 (Heap.lt_size e) I.ok.above))).trans e1⟩
  ·by_cases hj:j=i
   ·subst hj;rw[hi]at e1;cases e1;rw[Bu t]at e2;cases e2;exact⟨u,r,.inl ⟨B,by simp⟩⟩
   ·rw[Bd (Ne.symm hj)]at e2;obtain⟨W,Y,q⟩:=hl j y S e1 e2 T;refine⟨W,Y,?_⟩;rcases q with⟨k,e⟩|⟨k,c,e,z⟩
    ·refine .inl ⟨k,?_⟩;have:y≠x:=λe=>hj (iS hN e1 (e▸hi))
     simp[this,e]
    ·exact .inr ⟨k,c,e,z.sameBut f (cne y c e)⟩
  ·obtain⟨L,z⟩:=I.cell y c e;exact⟨L,z.sameBut f (cne y c e)⟩
  ·obtain⟨e,n,ne,Z,d⟩:=I.pin p U;exact⟨(f.2 p.1 ne).trans e,n,ne,Z,d⟩
 ·have D:X.fn x=true:=by
   rcases hf with z|z
   ·exact z
   ·rw[z]at B;cases B
  obtain⟨c,hc⟩:=I.ok.has x (.inl B);obtain⟨L,z⟩:=I.cell x c hc;refine wpAny_storeName_cell I.ok.kind B hc z (λh' G f=>?_);obtain⟨oc,J,K⟩:=id z;refine h { s with heap:=h' } ⟨I.ok,I.os,I.bare,⟨λb o e n C g=>?_,λb o e n C g=>?_,I.base.free,λb o e g=>?_,I.base.tups,I.base.frzs,I.base.tbls⟩,⟨m,hn.sameBut f (Ne.symm (cne x c hc)),λj y S e1 e2 T=>?_⟩,λy O e=>?_,I.free,I.freeC,λp U=>?_,tracked ⟨oc,J,I.freeC x c hc⟩ f,by simpa using I.len,I.tab⟩ ⟨c,f,.inr hc⟩
  ·exact (f.2 b (Nat.ne_of_lt (B5 (Heap.lt_size e) (I.ok.cab x c D hc)))).trans (I.base.keep b o e n C g)
  ·obtain⟨sl,e1⟩:=I.base.slot b o e n C g;exact⟨sl,(f.2 b (Nat.ne_of_lt (B5 (Heap.lt_size e) (I.ok.cab x c D hc)))).trans e1⟩
  ·obtain⟨o',e1⟩:=I.base.there b o e g;exact⟨o',(f.2 b (Nat.ne_of_lt (B5 (Heap.lt_size e) (I.ok.cab x c D hc)))).trans e1⟩
  ·by_cases hj:j=i
   ·subst hj;rw[hi]at e1;cases e1;rw[Bu t]at e2;cases e2;exact⟨u,r,.inr ⟨.inl B,c,hc,G⟩⟩
   ·rw[Bd (Ne.symm hj)]at e2;obtain⟨W,Y,q⟩:=hl j y S e1 e2 T;refine⟨W,Y,?_⟩;rcases q with q|⟨k,O,e,z'⟩
    ·exact .inl q
    ·refine .inr ⟨k,O,e,z'.sameBut f ?_⟩
     rintro rfl
     exact hj (iS hN e1 (I.ok.inj _ _ _ e hc▸hi))
  ·by_cases hcc:O=c
   ·subst hcc;exact⟨_,G⟩
   ·obtain⟨w2,z2⟩:=I.cell y O e;exact⟨w2,z2.sameBut f hcc⟩
  ·obtain⟨e,n,ne,Z,d⟩:=I.pin p U;refine⟨(f.2 p.1 ?_).trans e,n,ne,Z,d⟩;intro q;rw[q,J]at e;have q':oc=p.2:=Option.some.inj e;exact d L (by rw[<-q'];exact K)
theorem gw {v:V} (I:Inv X pins σ H s) (a:X.N.Nodup) (hi:X.N[i]?=some x) (b:Loc X.env.scope x) (r:RelV v u)
  (h:∀s',Inv X pins (σ.set i (some v)) H s'->Q () s') (c:X.fn x=true\/X.env.scope.names.lookup x=some .local:=by first|exact .inl rfl|exact .inr rfl|assumption):wpAny M A (storeName X.env x u) Q E s :=
 kh I a hi b r (λs' e _=>h s' e) c
theorem Inv.call' {ch:List Addr} (I:Inv X pins σ H s) (f:s'.os=s.os) (u:Un (frs X.stack) ch H H' s.heap s'.heap) (hok:HOk X.prog X.w H' s'.heap) (g:AllBare s'.gens)
  (a:∀b∈ch,(b∈X.ex\/X.s₀.heap.objs.size<=b)/\b≠X.env.locals/\(∀x c,X.env.cells.lookup x=some c->c≠b)/\∀p∈X.pn++pins,p.1≠b):Inv X pins σ H' s':=by
 obtain⟨h',g',d',t',o'⟩:=s';have e:o'=s.os:=f;subst e;exact I.call (g':=g') (t':=t') (d':=d') u hok g a
end
abbrev XK:=Value->Option Addr->Hp->Prop
abbrev St:=List (Option V)
variable {σ:St}
abbrev VK:=V->Hp->Prop
abbrev TE:=St->Hp->VK->Prop
variable {t:TE}
abbrev TT:=St->Hp->(Bool->Hp->Prop)->Prop
abbrev TA:=St->Hp->(List V->Hp->Prop)->Prop
structure Ends where
 nx:St->Hp->Prop
 rt:VK
 bk:St->Hp->Prop:=λ_ _=>False
 ct:St->Hp->Prop:=λ_ _=>False
abbrev TS:=Ends->St->Hp->Prop
def EP (X:Cx) (pins:List (Addr×Obj)) (σ:St) (Q:VK) (u:Value) (s':Shared):Prop:=∃v H',Inv X pins σ H' s'/\RelV v u/\Q v H'
def TP (X:Cx) (pins:List (Addr×Obj)) (σ:St) (Q:Bool->Hp->Prop) (b:Bool) (s':Shared):Prop:=∃H',Inv X pins σ H' s'/\Q b H'
def AP (X:Cx) (pins:List (Addr×Obj)) (σ:St) (Q:List V->Hp->Prop) (us:List Value) (s':Shared):Prop:=∃vs H',Inv X pins σ H' s'/\Vals vs us/\Q vs H'
def SP (X:Cx) (pins:List (Addr×Obj)) (D:Ends) (f:Flow) (s':Shared):Prop :=
 match f with
 |.next=>∃a H',Inv X pins a H' s'/\D.nx a H'
 |.brk=>∃a H',Inv X pins a H' s'/\D.bk a H'
 |.cont=>∃a H',Inv X pins a H' s'/\D.ct a H'
 |.ret u=>∃v a H',Inv X pins a H' s'/\RelV v u/\D.rt v H'
def PE (X:Cx) (e:Expr) (t:TE):Prop :=
 ∀(pins:List (Addr×Obj)) (s:Shared) (σ:St) (H:Hp) (Q:VK),Inv X pins σ H s->t σ H Q->wpAny (model X.prog X.w) X.A (eval e X.env) (EP X pins σ Q) X.xe s
def PT (X:Cx) (e:Expr) (t:TT):Prop :=
 ∀(pins:List (Addr×Obj)) (s:Shared) (σ:St) (H:Hp) (Q:Bool->Hp->Prop),Inv X pins σ H s->t σ H Q->wpAny (model X.prog X.w) X.A (isTrue e X.env (eval e X.env)) (TP X pins σ Q) X.xe s
def PW (X:Cx) (e:Expr) (t:TT):Prop :=
 ∀(whole:Sem Value) (pins:List (Addr×Obj)) (s:Shared) (σ:St) (H:Hp) (Q:Bool->Hp->Prop),Inv X pins σ H s->t σ H Q->wpAny (model X.prog X.w) X.A (isTrue e X.env whole) (TP X pins σ Q) X.xe s
theorem PW.pt {t:TT} (h:PW X e t):PT X e t:=h _
def PA (X:Cx) (es:List Expr) (t:TA):Prop :=
 ∀(pos:Pos) (pins:List (Addr×Obj)) (s:Shared) (σ:St) (H:Hp) (Q:List V->Hp->Prop),Inv X pins σ H s->t σ H Q->wpAny (model X.prog X.w) X.A (spliced (backTo pos (starEach es X.env))) (AP X pins σ Q) X.xe s
def PS (X:Cx) (st:Stmt) (t:TS):Prop :=
 ∀(pins:List (Addr×Obj)) (s:Shared) (σ:St) (H:Hp) (D:Ends),Inv X pins σ H s->t D σ H->wpAny (model X.prog X.w) X.A (exec st X.env) (SP X pins D) X.xe s
def PSs (X:Cx) (st:List Stmt) (t:TS):Prop :=
 ∀(pins:List (Addr×Obj)) (s:Shared) (σ:St) (H:Hp) (D:Ends),Inv X pins σ H s->t D σ H->wpAny (model X.prog X.w) X.A (execs st X.env) (SP X pins D) X.xe s
theorem thn {t:Sem α} {Q b:α->Shared->Prop} (h:wpAny M A t Q E s) (c:∀a s,Q a s->b a s):wpAny M A t b E s:=wpAny_mono h c λ_ _ x=>x
section
theorem bin {a b:Expr} {ta tb:TE} (ha:PE X a ta) (i:PE X b tb) (I:Inv X pins σ H s) (h:ta σ H λx H1=>tb σ H1 λy H2=>R x y H2)
  {Q:α->Shared->Prop} {f:Value->Value->Sem α}
  (j:∀v u s2 x y H2,Inv X pins σ H2 s2->RelV x v->RelV y u->R x y H2->wpAny (model X.prog X.w) X.A (f v u) Q X.xe s2) :
  wpAny (model X.prog X.w) X.A (eval a X.env) (λv e=>wpAny (model X.prog X.w) X.A (eval b X.env) (λu g=>wpAny (model X.prog X.w) X.A (f v u) Q X.xe g) X.xe e) X.xe s:=by
 refine thn (ha pins s σ H _ I h) λv k c=>?_
 obtain⟨x,H1,l,m,n⟩:=c;refine thn (i pins k σ H1 _ l n) λu s2 c=>?_
 obtain⟨y,H2,o,p,q⟩:=c;exact j v u s2 x y H2 o m p q
def zK (i:Nat):TE:=λσ H Q=>∃v,σ[i]?=some (some v)/\Q v H
def tC (v:V):TE:=λ_ H Q=>Q v H
theorem i9 (g:X.N[i]?=some x) (j:Vis X.env.scope x) (hd:(x==("__debug__":Str))=false:=by decide) (f:(x==("__classdict__":Str))=false:=by decide):PE X (.Name x pos) (zK i):=by
 intro pins s σ H Q I h;obtain⟨v,e,h⟩:=h;obtain⟨m,hn,hl⟩:=I.loc;obtain⟨u,r,l⟩:=hl i x v g e j;have fin:EP X pins σ Q u s:=⟨v,H,I,r,h⟩
 rcases l with⟨b,hm⟩|⟨b,c,hc,a⟩
 ·exact wpAny_Name (wpAny_loadName_local I.ok.kind b hn hm fin) hd
 ·rcases b with b|b
  ·exact wpAny_Name (wpAny_loadName_cell I.ok.kind b hc a fin) hd
  ·exact wpAny_Name (wpAny_loadName_free I.ok.kind b hc a fin f) hd
theorem eV {i j pos}:PE X (.Constant (.int i) j pos) (tC (.int i)):=λ_ _ _ H _ I h=>wpAny_Constant_int ⟨.int i,H,I.tok _,⟨_,rfl⟩,h⟩
theorem zH {b j pos}:PE X (.Constant (.bool b) j pos) (tC (.bl b)):=λ_ _ _ H _ I h=>Constant_bool ⟨.bl b,H,I,rfl,h⟩
theorem xI {j pos}:PE X (.Constant .none j pos) (tC .non):=λ_ _ _ H _ I h=>Constant_none ⟨.non,H,I,rfl,h⟩
theorem qz {x j pos}:PE X (.Constant (.str x) j pos) (tC (.str x)):=λ_ _ _ H _ I h=>Calls.Constant_str ⟨.str x,H,I.tok _,⟨_,rfl⟩,h⟩
def Gl (X:Cx) (x:Str):Prop:=X.env.kindOf x=some .globalImplicit
theorem d5 {Q:Value->Shared->Prop} (I:Inv X pins σ H s) (a:Gl X x) (hm:X.mg x=some u) (h:Q u s)
  (hd:(x==("__debug__":Str))=false:=by decide):wpAny (model X.prog X.w) X.A (eval (.Name x pos) X.env) Q E s :=
 Calls.Name_function_global I.ok.kind a (Calls.loadGlobal_global (by rw[I.ok.glob];exact I.mod.glob.keeps I.bk) hm h) hd
theorem kW {Q:Value->Shared->Prop} (I:Inv X pins σ H s) (a:Gl X x) (hm:X.mg x=none) (b:bootBuiltins x=some u) (h:Q u s)
  (hn:x≠"__name__":=by decide) (hd:(x==("__debug__":Str))=false:=by decide):wpAny (model X.prog X.w) X.A (eval (.Name x pos) X.env) Q E s:=by
 obtain⟨mb,h1,h2⟩:=I.mod.blt;exact Calls.Name_function_global I.ok.kind a (Calls.loadGlobal_builtin (by rw[I.ok.glob];exact I.mod.glob.keeps I.bk) hm (by rw[I.ok.blt];exact h1.keeps I.bk) ((h2 x hn).trans b) h) hd
theorem kC {v:V} (a:Gl X x) (hm:X.mg x=some u) (r:RelV v u) (hd:(x==("__debug__":Str))=false:=by decide):PE X (.Name x pos) (tC v) :=
 λ_ _ _ H _ I h=>d5 I a hm ⟨v,H,I,r,h⟩ hd
theorem kT {v:V} (a:Gl X x) (hm:X.mg x=none) (b:bootBuiltins x=some u) (r:RelV v u) (hn:x≠"__name__":=by decide) (hd:(x==("__debug__":Str))=false:=by decide):PE X (.Name x pos) (tC v) :=
 λ_ _ _ H _ I h=>kW I a hm b ⟨v,H,I,r,h⟩ hn hd
def t2I (ta tb:TE) (k:Int->Int->Hp->Prop):St->Hp->Prop:=λσ H=>ta σ H λx H1=>tb σ H1 λy H2=>∃i j,x=.int i/\y=.int j/\k i j H2
variable {a b:Expr} {ta tb:TE}
def PC (X:Cx) (f:CmpOp) (a b:Expr) (t:TE):Prop :=
 ∀(pins:List (Addr×Obj)) (s:Shared) (σ:St) (H:Hp) (Q:VK),Inv X pins σ H s->t σ H Q ->
  wpAny (model X.prog X.w) X.A (eval a X.env) (λv c=>wpAny (model X.prog X.w) X.A (eval b X.env) (λu e=>wpAny (model X.prog X.w) X.A (compareOp f v u) (EP X pins σ Q) X.xe e) X.xe c) X.xe s
theorem lX (b:Expr) {a:CmpOp} (h:a≠.In) (h2:a≠.NotIn):behindInMarks a b=false:=by
 have e1:(a==CmpOp.In)=false:=by cases a <;> first|rfl|exact absurd rfl h
 have e2:(a==CmpOp.NotIn)=false:=by cases a <;> first|rfl|exact absurd rfl h2
 cases b <;> simp[behindInMarks,e1,e2]
def zO (p:Int->Int->Bool) (ta tb:TE):TE:=λσ H Q=>t2I ta tb (λi j H2=>Q (.bl (p i j)) H2) σ H
abbrev tLt:TE->TE->TE:=zO λi j=>decide (i<j)
theorem wj {c:CmpOp} {p:Int->Int->Bool} (ha:PE X a ta) (e:PE X b tb)
  (rule:∀(i j:Int) (t u:Tok) (Q:Value->Shared->Prop) (s:Shared),Q (.bool (p i j)) s->wpAny (model X.prog X.w) X.A (compareOp c (.int i t) (.int j u)) Q X.xe s):PC X c a b (zO p ta tb):=by
 intro pins s σ H Q I h;refine bin ha e I h λv u s2 x y H2 f g k q=>?_
 obtain⟨i,j,rfl,rfl,q⟩:=q;obtain⟨t,rfl⟩:=g;obtain⟨t',rfl⟩:=k;exact rule i j t t' _ s2 ⟨.bl _,H2,f,rfl,q⟩
theorem zv (ha:PE X a ta) (c:PE X b tb):PC X .Lt a b (tLt ta tb):=wj ha c λ_ _ _ _ _ _ h=>lt_int h
def AI (ta:TE):TE:=λσ H Q=>ta σ H λx H1=>Q (.bl (decide (x=.non))) H1
theorem RelV.none_iff {x:V} {v:Value} (r:RelV x v):(v==Value.none)=decide (x=.non):=by
 cases x with
 |non=>cases r;rfl
 |bl _=>cases r;rfl
 |int _=>obtain⟨t,rfl⟩:=r;rfl
 |str _=>obtain⟨t,rfl⟩:=r;rfl
 |byt _=>obtain⟨t,rfl⟩:=r;rfl
 |flt _=>obtain⟨t,rfl⟩:=r;rfl
 |ref _=>cases r;rfl
 |ty _=>cases r;rfl
theorem sY {j pos'} (ha:PE X a ta):PC X .Is a (.Constant .none j pos') (AI ta):=by
 intro pins s σ H Q I h;refine thn (ha pins s σ H _ I h) λv s1 b=>?_
 obtain⟨x,H1,c,e,f⟩:=b;exact Constant_none (is_none_gen ⟨.bl _,H1,c,by rw[e.none_iff];rfl,f⟩)
def tB (t:TE):TT:=λσ H Q=>t σ H λx H1=>∃c,x=.bl c/\Q c H1
theorem wF {c:CmpOp} (h:PC X c a b t) (h1:behindInMarks c b=false:=by first|exact lX _ (by decide) (by decide)|rfl):PE X (.Compare a [c] [b] pos) t:=λpins s σ H Q I hw=>wpAny_Compare1 (h pins s σ H Q I hw) h1
theorem rN {e:CmpOp} (h:PC X e a b t) (h1:behindInMarks e b=false:=by first|exact lX _ (by decide) (by decide)|rfl):PT X (.Compare a [e] [b] pos) (tB t):=by intro pins s σ H Q I hw;refine wpAny_isTrue_Compare1 (thn (h pins s σ H _ I hw) λv s1 h1=>thn h1 λu s2 h2=>thn h2 λc s3 f=>?_) h1;obtain⟨x,H1,g,i,j⟩:=f;obtain⟨d,rfl,q⟩:=j;cases i;exact wpAny_truthy_bool ⟨H1,g,q⟩
theorem rl (h:PE X e t) (b:∀whole,isTrue e X.env whole=(do let v <-whole;standAt e.pos;holding [v] (truthy v)):=by intro _;rfl):PT X e (tB t):=by intro pins s σ H Q I hw;refine isTrue_plain (thn (h pins s σ H _ I hw) λv s1 a=>?_) (b _);obtain⟨x,H1,c,f,g⟩:=a;obtain⟨d,rfl,q⟩:=g;cases f;exact wpAny_truthy_bool ⟨H1,c,q⟩
variable {tA tB':TT} {rest:List Expr}
def tOr (t u:TT):TT:=λσ H Q=>t σ H λc H1=>if c=true then Q true H1 else u σ H1 Q
def AM (t:TT):TT:=λσ H Q=>t σ H λc H1=>Q (!c) H1
theorem sT (ha:PT X a tA):PW X (.BoolOp .Or [a] pos) tA:=by
 intro wh pins s σ H Q I h;refine isTrue_or (thn (ha pins s σ H Q I h) λc s1 e=>?_);cases c with
 |false=>exact isTrue_or_nil e
 |true=>exact e
theorem vU (ha:PT X a tA) (i:PW X (.BoolOp .Or (b::rest) pos) tB'):PW X (.BoolOp .Or (a::b::rest) pos) (tOr tA tB'):=by
 intro j pins s σ H Q I h;refine isTrue_or (thn (ha pins s σ H _ I h) λc k e=>?_);obtain⟨H1,f,g⟩:=e;cases c with
 |true=>exact⟨H1,f,g⟩
 |false=>exact i j pins k σ H1 Q f g
theorem rO (ha:PT X a tA):PT X (.UnaryOp .Not a pos) (AM tA):=by intro pins s σ H Q I h;exact isTrue_not (ha pins s σ H (λc H1=>Q (!c) H1) I h)
def zw (ta tb:TE):TE:=λσ H Q=>ta σ H λx H1=>∃c,x=.bl c/\if c=true then tb σ H1 Q else Q (.bl false) H1
def Ac (ta tb:TE):TE:=λσ H Q=>ta σ H λx H1=>∃c,x=.bl c/\if c=true then Q (.bl true) H1 else tb σ H1 Q
theorem wA {op} (h:PE X a t):PE X (.BoolOp op [a] pos) t:=λpins s σ H Q I hw=>BoolOp_one (h pins s σ H Q I hw)
theorem xF (ha:PE X a ta) (i:PE X (.BoolOp .And (b::rest) pos) tb):PE X (.BoolOp .And (a::b::rest) pos) (zw ta tb):=by
 intro pins s σ H Q I h;refine BoolOp_and (thn (ha pins s σ H _ I h) λv j f=>?_);obtain⟨x,H1,g,k,e⟩:=f;obtain⟨c,rfl,e⟩:=e;cases k;refine wpAny_truthy_bool ?_;cases c with
 |true=>exact i pins j σ H1 Q g e
 |false=>exact⟨.bl false,H1,g,rfl,e⟩
theorem yX (ha:PE X a ta) (i:PE X (.BoolOp .Or (b::rest) pos) tb):PE X (.BoolOp .Or (a::b::rest) pos) (Ac ta tb):=by
 intro pins s σ H Q I h;refine BoolOp_or (thn (ha pins s σ H _ I h) λv j f=>?_);obtain⟨x,H1,g,k,e⟩:=f;obtain⟨c,rfl,e⟩:=e;cases k;refine wpAny_truthy_bool ?_;cases c with
 |false=>exact i pins j σ H1 Q g e
 |true=>exact⟨.bl true,H1,g,rfl,e⟩
def tIf (t:TT) (ta tb:TE):TE:=λσ H Q=>t σ H λc H1=>if c=true then ta σ H1 Q else tb σ H1 Q
theorem rn {c:Expr} (hc:PT X c tA) (ha:PE X a ta) (j:PE X b tb):PE X (.IfExp c a b pos) (tIf tA ta tb):=by
 intro pins s σ H Q I h;refine wpAny_IfExp (thn (hc pins s σ H _ I h) λd f e=>?_);obtain⟨H1,g,i⟩:=e;cases d with
 |true=>exact ha pins f σ H1 Q g i
 |false=>exact j pins f σ H1 Q g i
end
def SqL (K:PySem.W.Frag) (H:Hp) (a:Addr) (xs:List V):Prop :=
 Rd H a (.lst xs) \/
  ∃(o:Obj) (b:Array Value) (n:Nat),K.lookup a=some o/\o.cls=.type "list"/\o.dict=none/\o.data=.seq b n/\b.size<=sizeLine/\Vals xs b.toList
def SqT (K:PySem.W.Frag) (H:Hp) (a:Addr) (xs:List V):Prop :=
 Rd H a (.tup xs) \/
  ∃(o:Obj) (b:Array Value) (n:Nat),K.lookup a=some o/\o.cls=.type "tuple"/\o.data=.seq b n/\b.size<=sizeLine/\Vals xs b.toList
def AA:Value->Option V
 |.none=>some .non
 |.bool b=>some (.bl b)
 |.int i _=>some (.int i)
 |.str x _=>some (.str x)
 |.bytes b _=>some (.byt b)
 |.float b _=>some (.flt b)
 |.ref a=>some (.ref a)
 |.type n=>some (.ty n)
 |_=>none
theorem RelV.abs {x:V} (r:RelV x u):AA u=some x:=by
 cases x with
 |non=>cases r;rfl
 |bl _=>cases r;rfl
 |int _=>obtain⟨t,rfl⟩:=r;rfl
 |str _=>obtain⟨t,rfl⟩:=r;rfl
 |byt _=>obtain⟨t,rfl⟩:=r;rfl
 |flt _=>obtain⟨t,rfl⟩:=r;rfl
 |ref _=>cases r;rfl
 |ty _=>cases r;rfl
theorem RelV.inj {x y:V} (r:RelV x u) (q:RelV y u):x=y:=Option.some.inj (r.abs.symm.trans q.abs)
theorem Vals.inj {ys:List V} (h:Vals xs us) (h':Vals ys us):xs=ys:=by
 induction h generalizing ys with
 |nil=>cases h';rfl
 |cons r t ih =>
  cases h' with
  |cons r' t'=>rw[r.inj r',ih t']
section
variable {ys:List V}
theorem SqL.of (h:H a=some (.lst xs)):SqL K H a xs:=.inl (.inl h)
theorem SqT.of (h:H a=some (.tup xs)):SqT K H a xs:=.inl (.inl h)
theorem Inv.list (I:Inv X pins σ H s) (h:SqL X.K H a xs):∃b:List Value,Vals xs b/\PlainL s.heap a b.toArray/\xs.length<=sizeLine:=by
 rcases h with h|⟨o,b,n,c,hc,hd,f,hz,r⟩
 ·obtain⟨z,b,n,r,e⟩:=h.ok I.hok;exact⟨b,r,⟨_,n,e,rfl,rfl,rfl⟩,z⟩
 ·refine⟨b.toList,r,⟨o,n,I.kIn a o c,hc,hd,by simpa using f⟩,?_⟩;have e:=r.length;simp only[C5]at e;omega
theorem Inv.tuple (I:Inv X pins σ H s) (h:SqT X.K H a xs):∃b:List Value,Vals xs b/\IsTup s.heap a b.toArray/\xs.length<=sizeLine:=by
 rcases h with h|⟨o,b,n,c,hc,f,hz,r⟩
 ·obtain⟨z,b,r,p⟩:=h.ok I.hok;exact⟨b,r,p.tup,z⟩
 ·refine⟨b.toList,r,⟨o,I.kIn a o c,hc,n,by simpa using f⟩,?_⟩;have e:=r.length;simp only[C5]at e;omega
theorem Inv.list_inj (I:Inv X pins σ H s) (h:SqL X.K H a xs) (h':SqL X.K H a ys):xs=ys:=by
 obtain⟨b,r,⟨o,n,e,_,_,d⟩,_⟩:=I.list h;obtain⟨its',f,⟨o',n',c,_,_,d'⟩,_⟩:=I.list h';rw[e]at c;cases c;rw[d]at d';injection d' with d1 _
 have:b=its':=by simpa using congrArg Array.toList d1
 subst this;exact r.inj f
theorem Inv.tuple_inj (I:Inv X pins σ H s) (h:SqT X.K H a xs) (h':SqT X.K H a ys):xs=ys:=by
 obtain⟨b,r,⟨o,e,_,n,d⟩,_⟩:=I.tuple h;obtain⟨its',f,⟨o',c,_,n',d'⟩,_⟩:=I.tuple h';rw[e]at c;cases c;rw[d]at d';injection d' with d1 _
 have:b=its':=by simpa using congrArg Array.toList d1
 subst this;exact r.inj f
end
abbrev Cx.wish (X:Cx) (E:Value->Shared->Prop):Cx:={ X with xe:=E }
abbrev Cx.nox (X:Cx):Cx:=X.wish λ_ _=>False
theorem Cx.Ok.wish (ok:X.Ok) (E:Value->Shared->Prop):(X.wish E).Ok :=
 ⟨ok.mod,ok.kind,ok.glob,ok.blt,ok.above,ok.inj,ok.has,ok.cab,ok.hd,ok.frames,ok.stk,ok.exf,ok.bs,ok.bsz,ok.noex,ok.exfs,ok.funs,ok.frf⟩
theorem Cx.Ok.unwish (ok:(X.wish E).Ok):X.Ok :=
 ⟨ok.mod,ok.kind,ok.glob,ok.blt,ok.above,ok.inj,ok.has,ok.cab,ok.hd,ok.frames,ok.stk,ok.exf,ok.bs,ok.bsz,ok.noex,ok.exfs,ok.funs,ok.frf⟩
section
theorem Inv.wish (I:Inv X pins σ H s) (E:Value->Shared->Prop):Inv (X.wish E) pins σ H s:=⟨I.ok.wish E,I.os,I.bare,I.base,I.loc,I.cell,I.free,I.freeC,I.pin,I.hok,I.len,I.tab⟩
theorem Inv.unwish (I:Inv (X.wish E) pins σ H s):Inv X pins σ H s:=⟨I.ok.unwish,I.os,I.bare,I.base,I.loc,I.cell,I.free,I.freeC,I.pin,I.hok,I.len,I.tab⟩
theorem SP.unwish {D:Ends} {f:Flow} (h:SP (X.wish E) pins D f s'):SP X pins D f s':=by
 cases f with
 |next=>obtain⟨a,H',I,q⟩:=h;exact⟨a,H',I.unwish,q⟩
 |brk=>obtain⟨a,H',I,q⟩:=h;exact⟨a,H',I.unwish,q⟩
 |cont=>obtain⟨a,H',I,q⟩:=h;exact⟨a,H',I.unwish,q⟩
 |ret u=>obtain⟨v,a,H',I,r,q⟩:=h;exact⟨v,a,H',I.unwish,r,q⟩
theorem PSs.nox {st:List Stmt} {t:TS} (h:PSs X.nox st t):PSs X st t:=λpins s σ H D I hw =>
 wpAny_mono (h pins s σ H D (I.wish _) hw) (λ_ _ q=>q.unwish) λ_ _ z=>False.elim z
end
section
variable {rest:List Stmt} {t u:TS} {te:TE}
def zu:TS:=λD σ H=>D.nx σ H
def zZ (t u:TS):TS:=λD σ H=>t { D with nx:=u D } σ H
theorem kO:PSs X [] zu:=λ_ _ σ H _ I h=>wpAny_execs_nil ⟨σ,H,I,h⟩
theorem fR (h1:PS X st t) (h2:PSs X rest u):PSs X (st::rest) (zZ t u):=by
 intro pins s σ H D I h;refine wpAny_execs_cons (thn (h1 pins s σ H { D with nx:=u D } I h) λf b q=>?_);cases f with
 |next =>obtain⟨a,H',c,q⟩:=q;exact h2 pins b a H' D c q
 |ret v=>exact q
 |brk=>exact q
 |cont=>exact q
theorem fu (h1:PS X st t):PSs X [st] t:=by
 intro pins s σ H D I h;refine wpAny_execs_cons (thn (h1 pins s σ H D I h) λf s1 q=>?_);cases f with
 |next=>exact wpAny_execs_nil q
 |ret v=>exact q
 |brk=>exact q
 |cont=>exact q
theorem Inv.quiet (I:Inv X pins σ H s):interactive X.env=false:=by simp[interactive,I.ok.kind]
def y0 (te:TE):TS:=λD σ H=>te σ H λ_ H1=>D.nx σ H1
theorem o5 (b:PE X e te) (c:swapsWith e none pos.line X.env=pure false:=by rfl):PS X (.Expr e pos) (y0 te):=by intro pins s σ H D I h;exact wpAny_Expr_any (thn (b pins s σ H _ I h) λv s1 a=>(by obtain⟨x,H1,f,r1,g⟩:=a;exact⟨σ,H1,f,g⟩)) I.quiet c
def zg (te:TE):TS:=λD σ H=>te σ H D.rt
theorem gz (b:PE X e te):PS X (.Return (some e) pos) (zg te):=by intro pins s σ H D I h;exact wpAny_Return_some (thn (b pins s σ H _ I h) λv s1 a=>(by obtain⟨x,H1,c,f,g⟩:=a;exact⟨x,σ,H1,c,f,g⟩))
def Ak (c:TT) (t u:TS):TS:=λD σ H=>c σ H λb H1=>if b=true then t D σ H1 else u D σ H1
theorem qt {c:Expr} {a b:List Stmt} {tc:TT} (hc:PT X c tc) (ha:PSs X a t) (j:PSs X b u):PS X (.If c a b pos) (Ak tc t u):=by
 intro pins s σ H D I h;refine wpAny_If (thn (hc pins s σ H _ I h) λd f e=>?_);obtain⟨H1,g,i⟩:=e;cases d with
 |true=>exact ha pins f σ H1 D g i
 |false=>exact j pins f σ H1 D g i
end
abbrev TG:=V->St->Hp->(St->Hp->Prop)->Prop
abbrev TGs:=List V->St->Hp->(St->Hp->Prop)->Prop
def PG (X:Cx) (target:Expr) (t:TG):Prop :=
 ∀(pins:List (Addr×Obj)) (s:Shared) (σ:St) (H:Hp) (v:V) (u:Value) (Q:St->Hp->Prop),Inv X pins σ H s->RelV v u->t v σ H Q ->
  wpAny (model X.prog X.w) X.A (assign target X.env u) (λ_ s'=>∃a H',Inv X pins a H' s'/\Q a H') X.xe s
def PGs (X:Cx) (ts:List Expr) (t:TGs):Prop :=
 ∀(pins:List (Addr×Obj)) (s:Shared) (σ:St) (H:Hp) (vs:List V) (us:List Value) (Q:St->Hp->Prop),Inv X pins σ H s->Vals vs us->t vs σ H Q ->
  wpAny (model X.prog X.w) X.A (assignInOrder ((assignEach ts X.env).map (·.2)) us) (λ_ s'=>∃a H',Inv X pins a H' s'/\Q a H') X.xe s
abbrev xJ:=V->V->V->Hp->(Hp->Prop)->Prop
def zE (X:Cx) (t:xJ):Prop :=
 ∀(pins:List (Addr×Obj)) (s:Shared) (σ:St) (H:Hp) (o i v:V) (a b u:Value) (Q:Hp->Prop),Inv X pins σ H s->RelV o a->RelV i b->RelV v u->t o i v H Q ->
  wpAny (model X.prog X.w) X.A (setItem a b u) (λ_ s'=>∃H',Inv X pins σ H' s'/\Q H') X.xe s
section
def hW (i:Nat):TG:=λv σ H Q=>Q (σ.set i (some v)) H
theorem uX (a:X.N.Nodup) (hi:X.N[i]?=some x) (b:Loc X.env.scope x) (c:X.fn x=true\/X.env.scope.names.lookup x=some .local:=by first|exact .inl rfl|exact .inr rfl|assumption):PG X (.Name x pos) (hW i):=by intro pins s σ H v u Q I r h;exact wpAny_assign_Name (gw I a hi b r (λs' e=>⟨_,H,e,h⟩) c)
def yO:TGs:=λvs σ H Q=>vs=[]/\Q σ H
def vN (t:TG) (u:TGs):TGs:=λvs σ H Q=>∃v r,vs=v::r/\t v σ H λa H'=>u r a H' Q
theorem u9:PGs X [] yO:=by intro pins s σ H vs us Q I r h;obtain⟨e,h⟩:=h;subst e;cases r;exact assignInOrder_nil ⟨σ,H,I,h⟩
theorem sr {t:TG} {u:TGs} (h1:PG X e t) (h2:PGs X es u)
  (c:(assignEach (e::es) X.env).map (·.2)=assign e X.env::(assignEach es X.env).map (·.2):=by rfl):PGs X (e::es) (vN t u):=by
 intro pins s σ H vs us Q I r h;obtain⟨v,vr,e1,h⟩:=h;subst e1;cases r with
 |cons r rr =>rw[c];refine assignInOrder_cons (thn (h1 pins s σ H _ _ _ I r h) λ_ f a=>?_);obtain⟨b,H1,g,i⟩:=a;exact h2 pins f b H1 _ _ Q g rr i
def yC (K:PySem.W.Frag) (n:Nat) (t:TGs):TG:=λv σ H Q=>∃a xs,v=.ref a/\SqT K H a xs/\xs.length=n/\t xs σ H Q
theorem xQ {t:TGs} (hc:X.calm=true) (h:PGs X es t)
  (hn:(assignEach es X.env).length=n:=by rfl) (c:(assignEach es X.env).findIdx? (·.1)=none:=by rfl):PG X (.Tuple es k pos) (yC X.K n t):=by
 intro pins s σ H v u Q I r hw;obtain⟨a,xs,e1,g,hl,hw⟩:=hw;subst e1;cases r;obtain⟨its,f,i,hz⟩:=I.tuple g;refine o7 (I.hdH hc) i (by simp[hn,<-hl,f.length]) c λh' j=>?_
 have l:Inv X pins σ H { s with heap:=h' }:=I.kept (t':=s.toks) λb o e=>j b o (Nat.ne_of_lt (Heap.lt_size e)) e
 exact h pins _ σ H xs _ Q l (by simpa using f) hw
def Ao (to a:TE) (t:xJ):TG:=λv σ H Q=>to σ H λo H1=>a σ H1 λi H2=>t o i v H2 λb=>Q σ b
theorem wM {o i:Expr} {to e:TE} {t:xJ} (f:PE X o to) (hi:PE X i e) (g:zE X t)
  (ha:∀v,assign (.Subscript o i pos) X.env v=(do
   let b <-holding [v] (eval o X.env);let c <-holding [v,b] (eval i X.env)
   standAt pos
   holding [v,b,c] (setItem b c v)
   release [v,b,c] []):=by intro _;rfl):PG X (.Subscript o i pos) (Ao to e t):=by
 intro pins s σ H v u Q I r h;rw[ha];refine wpAny_bind (wpAny_holding (thn (f pins s σ H _ I h) λb j a=>?_));obtain⟨x,H1,k,l,m⟩:=a;refine wpAny_bind (wpAny_holding (thn (hi pins j σ H1 _ k m) λc s2 a=>?_));obtain⟨y,H2,n,p,q⟩:=a;refine wpAny_bind (wpAny_standAt (wpAny_bind (wpAny_holding (thn (g pins s2 σ H2 x y v b c u _ n l p r q) λ_ s3 a=>?_))));obtain⟨w,z,A⟩:=a;exact wpAny_release ⟨σ,w,z,A⟩
def uV (te:TE) (g:TG):TS:=λD σ H=>te σ H λx H1=>g x σ H1 D.nx
theorem xx {te:TE} {g:TG} (b:PE X e te) (c:PG X tg g) (f:swapsWithSole [tg] e pos.line X.env=pure false:=by rfl) (hw:swappedStores [tg] e X.env=pure none:=by rfl)
  (h1:(assignEach [tg] X.env).map (·.2)=[assign tg X.env]:=by rfl):PS X (.Assign [tg] e pos) (uV te g):=by
 intro pins s σ H D I h;refine wpAny_Assign_stores (thn (b pins s σ H _ I h) λv i a=>?_) f hw;obtain⟨x,H1,j,k,l⟩:=a;rw[h1];exact thn (c pins i σ H1 x v _ j k l) λ_ s2 q=>q
theorem lh {te:TE} (b:X.N.Nodup) (hi:X.N[i]?=some x) (c:Loc X.env.scope x) (f:PE X e te) (g:swapsWith e (some (.Name x pos')) pos.line X.env=pure false:=by rfl) (j:X.fn x=true\/X.env.scope.names.lookup x=some .local:=by first|exact .inl rfl|exact .inr rfl|assumption) :
  PS X (.Assign [.Name x pos'] e pos) (uV te (hW i)):=by
 intro pins s σ H D I h;refine wpAny_Assign_Name (thn (f pins s σ H _ I h) λv s1 a=>?_) g;obtain⟨y,H1,k,l,m⟩:=a;exact gw k b hi c l (λs2 n=>⟨_,H1,n,m⟩) j
end
section
end
structure It where
 go:Nat->Hp->Prop
 yld:Nat->Hp->V->Hp->Prop
 stop:Nat->Hp->Prop
def i4 (X:Cx) (pins:List (Addr×Obj)) (H:Hp) (b:Addr):Prop :=
 H b=none/\b≠X.env.locals/\b∉X.fs/\(b∈X.ex\/X.s₀.heap.objs.size<=b)/\(∀x c,X.env.cells.lookup x=some c->c≠b)/\∀p∈X.pn++pins,p.1≠b
theorem Inv.fpOk {H':Hp} (I:Inv X pins σ H s) (a:s.heap.objs.size<=b) (hn:H' b=none):i4 X pins H' b:=by
 refine⟨hn,BX (B5 I.lt a),I.nofs a,.inr (Bj I.sz a),λx c e z=>?_,λp f z=>?_⟩
 ·obtain⟨v,q⟩:=I.cell x c e;exact absurd (B5 q.lt (by rw[z];exact a)) (Bs _)
 ·exact absurd (B5 (Heap.lt_size (I.pin p f).1) (by rw[z];exact a)) (Bs _)
structure Turn (P:Program) (w:World) (K:PySem.W.Frag) (tg:Expr) (J:It) (fp:List Addr) (it:Addr) (tn:Nat->Heap->Prop):Prop where
 mem:it∈fp
 obj:∀i h,tn i h->∀b∈fp,∃o,h.get? b=some o/\∀v,o.data≠.cell v
 keep:∀i h h',tn i h->(∀b∈fp,∀o,h.get? b=some o->h'.get? b=some o)->tn i h'
 item:∀(X:Cx),X.prog=P->X.w=w->X.K=K->X.calm=true->∀(i:Nat) (pins:List (Addr×Obj)) (s:Shared) (σ:St) (H:Hp) (E:Value->Shared->Prop),Inv X pins σ H s->(∀b∈fp,i4 X pins H b)->tn i s.heap->J.go i H ->
  wpAny (model P w) X.A (pyNext (.ref it)) (λr s1=>∃u,r=some u /\
   wpAny (model P w) X.A (letOwnedTupleGo tg (.ref it) u) (λ_ s2=>∃x H',Inv X pins σ H' s2/\RelV x u/\J.yld i H x H'/\tn (i+1) s2.heap/\∀b∈fp,H' b=none) E s1) E s
 done:∀(X:Cx),X.prog=P->X.w=w->X.K=K->X.calm=true->∀(i:Nat) (pins:List (Addr×Obj)) (s:Shared) (σ:St) (H:Hp) (E:Value->Shared->Prop),Inv X pins σ H s->(∀b∈fp,i4 X pins H b)->tn i s.heap->J.stop i H ->
  wpAny (model P w) X.A (pyNext (.ref it)) (λr s1=>r=none/\Inv X pins σ H s1) E s
 self:∀(A:Around) (i:Nat) (s:Shared) (Q:Value->Shared->Prop) (E:Value->Shared->Prop),tn i s.heap->Q (.ref it) s->wpAny (model P w) A (pyIter (.ref it)) Q E s
abbrev TI:=St->Hp->(It->Hp->Prop)->Prop
def PIE (X:Cx) (pins:List (Addr×Obj)) (σ:St) (tg:Expr) (R:It->Hp->Prop) (a:Value) (s2:Shared):Prop :=
 ∃(it:Addr) (fp:List Addr) (tn:Nat->Heap->Prop) (J:It) (H':Hp),a=.ref it/\Inv X pins σ H' s2/\Turn X.prog X.w X.K tg J fp it tn/\tn 0 s2.heap/\(∀b∈fp,i4 X pins H' b)/\R J H'
def PI (X:Cx) (tg iter:Expr) (a:TI):Prop :=
 ∀(pins:List (Addr×Obj)) (s:Shared) (σ:St) (H:Hp) (R:It->Hp->Prop),Inv X pins σ H s->a σ H R ->
  wpAny (model X.prog X.w) X.A (eval iter X.env) (λv b=>wpAny (model X.prog X.w) X.A (pyIter v) (PIE X pins σ tg R) X.xe b) X.xe s
theorem rV {n:String} (b:s.heap.get? it=some o) (hc:o.cls=.type n) (hd:o.data=.fields vs)
    (hn:["enumerate", "zip", "dict_itemiterator", "dict_reverseitemiterator", "odict_iterator", "itertools.zip_longest", "itertools.pairwise"].contains n=false) (a:Q () s):wpAny M A (letOwnedTupleGo tg (.ref it) u) Q E s:=by
  unfold letOwnedTupleGo
  cases tg <;> first
    |exact wpAny_pure a
    | (cases u <;> first
        |exact wpAny_pure a
        | (refine wpAny_bind (wpAny_load b ?_)
           rw[hc,hd]
           show wpAny M A (if (["enumerate", "zip", "dict_itemiterator", "dict_reverseitemiterator", "odict_iterator", "itertools.zip_longest", "itertools.pairwise"].contains n&&vs[0]?==some (rawInt _))=true then _ else _) Q E s
           rw[if_neg (by intro h;rw[hn,Bool.false_and]at h;cases h)]
           exact wpAny_pure a))
def Itl (K:PySem.W.Frag) (a:Addr):It :=
 ⟨λi H=>∃xs x,SqL K H a xs/\xs[i]?=some x,λi H x H'=>H'=H/\∀xs,SqL K H a xs->xs[i]?=some x,λi H=>∃xs,SqL K H a xs/\xs.length<=i⟩
def Itt (K:PySem.W.Frag) (a:Addr):It :=
 ⟨λi H=>∃xs x,SqT K H a xs/\xs[i]?=some x,λi H x H'=>H'=H/\∀xs,SqT K H a xs->xs[i]?=some x,λi H=>∃xs,SqT K H a xs/\xs.length<=i⟩
def Itr (lo:Int) (n:Nat):It:=⟨λi _=>i<n,λi H x H'=>H'=H/\x=.int (lo+i),λi _=>n<=i⟩
theorem pj (a it:Addr):Turn P w K tg (Itl K a) [it] it (λi h=>h.IsListIter it a i) where
 mem:=by simp
 obj:=λi h st b f=>by
  have e:b=it:=by simpa using f
  subst e;obtain⟨o,e,c,d⟩:=st;exact⟨o,e,λv z=>by rw[d]at z;cases z⟩
 keep:=λi h h' st k=>st.at λo e=>k it (by simp) o e
 item:=by
  intro X n hw hK hc i pins s σ H E I j st q;subst n hw hK;obtain⟨xs,x,l,r⟩:=q;obtain⟨t,y,p,D⟩:=I.list l;obtain⟨u,F,G⟩:=y.get r;obtain⟨A,f1,f2,B,C,m⟩:=j it (by simp);refine wpAny_pyNext_list_item st p.isList (x:=u) (by simpa using F) λh' g J=>?_
  have L:Inv X pins σ H { s with heap:=h' }:=I.turned (t':=s.toks) (λb o f e=>(J.2 b f).trans e) A f1 B C m;obtain⟨o,e,c,d⟩:=id g;exact⟨u,rfl,rV (s:={ s with heap:=h' }) e c d (by decide) ⟨x,H,L,G,⟨rfl,λys M=>by rw[I.list_inj M l];exact r⟩,g,λb f=>(j b f).1⟩⟩
 done:=by intro X n hw hK hc i pins s σ H E I j st q;subst n hw hK;obtain⟨xs,l,r⟩:=q;obtain⟨t,y,p,D⟩:=I.list l;obtain⟨A,f1,f2,B,C,m⟩:=j it (by simp);have hl:=y.length;exact gr (I.hdH hc) (I.hdN hc m) st p.isList (by simp;omega) λh' N=>⟨rfl,I.turned (t':=s.toks) (λb o f e=>N b o f e) A f1 B C m⟩
 self:=λ_ _ _ _ _ st h=>wpAny_pyIter_listiter st h
theorem oa (a it:Addr):Turn P w K tg (Itt K a) [it] it (λi h=>h.IsTupleIter it a i) where
 mem:=by simp
 obj:=λi h st b f=>by
  have e:b=it:=by simpa using f
  subst e;obtain⟨o,e,c,d⟩:=st;exact⟨o,e,λv z=>by rw[d]at z;cases z⟩
 keep:=λi h h' st k=>st.at λo e=>k it (by simp) o e
 item:=by
  intro X q hw hK hc i pins s σ H E I l st r;subst q hw hK;obtain⟨xs,x,m,t⟩:=r;obtain⟨g,y,p,D⟩:=I.tuple m;obtain⟨u,F,G⟩:=y.get t;obtain⟨A,f1,f2,B,C,n⟩:=l it (by simp);refine wpAny_pyNext_tuple_item st (show s.heap.IsTuple a g.toArray from p) (x:=u) (by simpa using F) λh' j J=>?_
  have L:Inv X pins σ H { s with heap:=h' }:=I.turned (t':=s.toks) (λb o f e=>(J.2 b f).trans e) A f1 B C n;obtain⟨o,e,c,d⟩:=id j;exact⟨u,rfl,rV (s:={ s with heap:=h' }) e c d (by decide) ⟨x,H,L,G,⟨rfl,λys M=>by rw[I.tuple_inj M m];exact t⟩,j,λb f=>(l b f).1⟩⟩
 done:=by intro X q hw hK hc i pins s σ H E I l st r;subst q hw hK;obtain⟨xs,m,t⟩:=r;obtain⟨g,y,p,D⟩:=I.tuple m;obtain⟨A,f1,f2,B,C,n⟩:=l it (by simp);have hl:=y.length;exact ej (I.hdH hc) (I.hdN hc n) st (show s.heap.IsTuple a g.toArray from p) (by simp;omega) λh' N=>⟨rfl,I.turned (t':=s.toks) (λb o f e=>N b o f e) A f1 B C n⟩
 self:=λ_ _ _ _ _ st h=>wpAny_pyIter_tupleiter st h
theorem mL (it:Addr) (lo:Int) (n:Nat):Turn P w K tg (Itr lo n) [it] it (λi h=>IsRangeIter h it (lo+(i:Nat)*1) ((n:Int)-(i:Nat)) 1) where
 mem:=by simp
 obj:=λi h st b a=>by
  have e:b=it:=by simpa using a
  subst e;exact⟨_,st,λv z=>by have u:Data.fields _=Data.cell v:=z;cases u⟩
 keep:=λi h h' st k=>k it (by simp) _ st
 item:=by
  intro X j hw hK hc i pins s σ H E I g st l;subst j hw hK;obtain⟨m,f1,f2,p,q,r⟩:=g it (by simp);refine wpAny_pyNext_range_item st (by have:i<n:=l;omega) λh' c t=>?_
  have f:IsRangeIter h' it (lo+((i+1:Nat):Int)*1) ((n:Int)-((i+1:Nat):Int)) 1:=by rw[show lo+((i+1:Nat):Int)*1=lo+(i:Int)*1+1 by omega,show (n:Int)-((i+1:Nat):Int)=(n:Int)-(i:Int)-1 by omega];exact c
  refine⟨_,rfl,rV (n:="range_iterator") f rfl rfl (by decide) ⟨.int (lo+i),H,I.turned (λb o a e=>(t.2 b a).trans e) m f1 p q r,⟨s.toks,?_⟩,⟨rfl,rfl⟩,f,λb a=>(g b a).1⟩⟩;rw[Int.mul_one]
 done:=by intro X j hw hK hc i pins s σ H E I g st l;subst j hw hK;obtain⟨m,f1,f2,p,q,r⟩:=g it (by simp);exact jI (I.hdH hc) st (by have:n<=i:=l;omega) λh' x=>⟨rfl,I.turned (t':=s.toks) (λb o a e=>x b o a e) m f1 p q r⟩
 self:=λ_ _ _ _ _ st h=>wpAny_pyIter_rangeiter st h
section
def yQ (K:PySem.W.Frag) (tl:TE):TI:=λσ H R=>tl σ H λx H1=>∃a,x=.ref a/\(∃xs,SqL K H1 a xs)/\R (Itl K a) H1
def As (K:PySem.W.Frag) (tl:TE):TI:=λσ H R=>tl σ H λx H1=>∃a,x=.ref a/\(∃xs,SqT K H1 a xs)/\R (Itt K a) H1
theorem uC {l:Expr} {tl:TE} (hl:PE X l tl):PI X tg l (yQ X.K tl):=by
 intro pins s σ H R I h;refine thn (hl pins s σ H _ I h) λv c g=>?_
 obtain⟨x,H1,f,i,j⟩:=g;obtain⟨a,e,⟨xs,k⟩,q⟩:=j;subst e;cases i;obtain⟨its,rv,p,hz⟩:=f.list k;refine wpAny_pyIter_list p.isList ?_;refine⟨c.heap.objs.size,[c.heap.objs.size],_,_,H1,rfl,f.kept (t':=c.toks) λb o e=>A7 _ e,pj a _,⟨_,Ba _ rfl,rfl,rfl⟩,λb m=>?_,q⟩;have e:b=c.heap.objs.size:=by simpa using m
 subst e;exact f.fpOk (B0 _) (f.hok.fresh (B0 _))
theorem wu {l:Expr} {tl:TE} (hl:PE X l tl):PI X tg l (As X.K tl):=by
 intro pins s σ H R I h;refine thn (hl pins s σ H _ I h) λv c g=>?_
 obtain⟨x,H1,f,j,k⟩:=g;obtain⟨a,e,⟨xs,m⟩,q⟩:=k;subst e;cases j;obtain⟨i,rv,p,hz⟩:=f.tuple m;refine wpAny_pyIter_tuple (show c.heap.IsTuple a i.toArray from p) ?_;refine⟨c.heap.objs.size,[c.heap.objs.size],_,_,H1,rfl,f.kept (t':=c.toks) λb o e=>A7 _ e,oa a _,⟨_,Ba _ rfl,rfl,rfl⟩,λb n=>?_,q⟩;have e:b=c.heap.objs.size:=by simpa using n
 subst e;exact f.fpOk (B0 _) (f.hok.fresh (B0 _))
theorem sq {R:It->Hp->Prop} {lo hi:Int} {t u v:Tok} {tk:Nat} (I:Inv X pins σ H s) (h1:-(2 ^ 62)<=lo) (h2:lo<2 ^ 62) (c:-(2 ^ 62)<=hi) (f:hi<2 ^ 62)
  (q:R (Itr lo (hi-lo).toNat) H):wpAny (model X.prog X.w) X.A (pyIter (.ref s.heap.objs.size)) (PIE X pins σ tg R) E { s with heap:=s.heap.push { cls:=.type "range",data:=.fields #[.int lo t,.int hi u,.int 1 v] },toks:=tk }:=by
 refine wpAny_pyIter_range (IsRange.new ..) (small_one h1 h2 c f) ?_;have a:Inv X pins σ H { s with heap:=s.heap.push { cls:=.type "range",data:=.fields #[.int lo t,.int hi u,.int 1 v] },toks:=tk }:=I.kept λb o e=>A7 _ e
 refine⟨(s.heap.push { cls:=.type "range",data:=.fields #[.int lo t,.int hi u,.int 1 v] }).objs.size,[(s.heap.push { cls:=.type "range",data:=.fields #[.int lo t,.int hi u,.int 1 v] }).objs.size],_,_,H,rfl,
  a.kept (t':=tk) λb o e=>A7 _ e,mL _ lo (hi-lo).toNat,?_,λb g=>?_,q⟩
 ·have e1:lo+((0:Nat):Int)*1=lo:=by simp
  have e2:(((hi-lo).toNat:Nat):Int)-((0:Nat):Int)=Builtin.Range.rangeSize lo hi 1:=by rw[rangeSize_one];split <;> omega
  show IsRangeIter _ _ (lo+((0:Nat):Int)*1) ((((hi-lo).toNat:Nat):Int)-((0:Nat):Int)) 1;rw[e1,e2];exact Ba _ rfl
 ·have e:b=(s.heap.push { cls:=.type "range",data:=.fields #[.int lo t,.int hi u,.int 1 v] }).objs.size:=by simpa using g
  subst e;exact a.fpOk (B0 _) (a.hok.fresh (B0 _))
def zt (ta:TA):TI:=λσ H R=>ta σ H λvs H1=>∃j:Int,vs=[.int j]/\-(2 ^ 62)<=j/\j<2 ^ 62/\R (Itr 0 j.toNat) H1
theorem pw {a:Expr} {ta:TA} (f:Gl X "range") (hm:X.mg "range"=none) (ha:PA X [a] ta) (g:starEach [a] X.env=[(false,eval a X.env)]:=by rfl):PI X tg (.Call (.Name "range" p) [a] [] pos) (zt ta):=by
 intro pins s σ H R I h;refine Call_ (kW I f hm boot_range (PyProof.Rows.callWith_type1 (thn (ha pos pins s σ H _ I h) λus s1 b=>?_) g rfl));obtain⟨vs,H1,i,k,c⟩:=b;obtain⟨j,e,c,l,q⟩:=c;subst e;cases k with
 |cons r rr =>cases rr;obtain⟨t,rfl⟩:=r;exact call_range_1 (sq i (by omega) (by omega) c l (by simpa using q))
def Am (e:TI) (g:TG) (tb:TS):TS:=λD σ H=>e σ H λJ H1=>∃W:Nat->Nat->St->Hp->Prop,(∃m,W 0 m σ H1)/\∀i m σ H,W i m σ H ->
 (J.stop i H/\D.nx σ H)\/(J.go i H/\∃N:St->Hp->Prop,(∀a H',N a H'->∃c,c < m/\W (i+1) c a H')/\∀x H',J.yld i H x H'->g x σ H' λb H2=>tb { D with nx:=N,ct:=N,bk:=D.nx } b H2)
def gX (fp:List Addr) (h:Heap):List (Addr×Obj):=fp.filterMap λb=>(h.get? b).map λo=>(b,o)
theorem cX (a:b∈fp) (e:h.get? b=some o):(b,o)∈gX fp h:=BO.mpr ⟨b,a,by rw[e];rfl⟩
theorem pY {p:Addr×Obj} (a:p∈gX fp h):p.1∈fp/\h.get? p.1=some p.2:=by
 obtain⟨b,c,e⟩:=BO.mp a;cases q:h.get? b with
 |none=>rw[q]at e;cases e
 |some o =>rw[q]at e;have f:(b,o)=p:=Option.some.inj e;subst f;exact⟨c,q⟩
theorem Inv.pinned (I:Inv X pins σ H s) (f:∀b∈fp,i4 X pins H b) (g:∀b∈fp,∃o,s.heap.get? b=some o/\∀v,o.data≠.cell v):Inv X (pins++gX fp s.heap) σ H s :=
 I.pins_of λp h=>(B8.mp h).elim (λz=>I.pin p (A9 _ z)) λz=>by obtain⟨a,e⟩:=pY z;obtain⟨i,f1,f2,_⟩:=f p.1 a;obtain⟨o,c,d⟩:=g p.1 a;rw[e]at c;cases c;exact⟨e,i,f1,f2,d⟩
theorem Inv.unpinned {pl:List (Addr×Obj)} (I:Inv X (pins++pl) σ H s):Inv X pins σ H s:=I.pins_of λp a=>I.pin p (A9 _ (Bb _ a))
theorem xf {R:TI} {g:TG} {tb:TS} (B:PassesOwn (model X.prog X.w) X.A X.env X.xe) (hc:X.calm=true) (hi:PI X tg iter R) (hg:PG X tg g) (j:PSs X body tb)
  (hs:∀x,foldedSetIterable iter X.env x=pure x:=by intro _;rfl):PS X (.For tg iter body [] pos) (Am R g tb):=by
 intro pins s σ H D I h;refine wpAny_For (thn (hi pins s σ H _ I h) λv s1 h1=>thn h1 λitv s2 h2=>?_) hs;obtain⟨it,fp,tn,J,H2,e,I2,T,K,f2,W,⟨m0,w0⟩,turn⟩:=h2;subst e
 -- what stays true of the iterator's objects through the loop
 have k:∀{H':Hp},(∀b∈fp,H' b=none)->∀b∈fp,i4 X pins H' b:=λhn b j=>⟨hn b j,(f2 b j).2⟩
 refine codeAny_forLoop_any (λn s'=>∃i l H',Inv X pins l H' s'/\tn i s'.heap/\(∀b∈fp,H' b=none)/\W i n l H') ?_ m0 ⟨0,σ,H2,I2,K,λb j=>(f2 b j).1,w0⟩
 rintro n S ⟨i,p,G,U,C,E,w3⟩
 rcases turn i n p G w3 with⟨stop,qn⟩|⟨go,N,hN,step⟩
 ·refine wpAny_passesOwn B (thn (T.done X rfl rfl rfl hc i pins S p G X.xe U (k E) C stop) λr s4 c=>?_);obtain⟨L,I4⟩:=c;subst L;exact wpAny_execs_nil ⟨p,G,I4,qn⟩
 ·refine wpAny_passesOwn B (thn (T.item X rfl rfl rfl hc i pins S p G X.xe U (k E) C go) λr s4 c=>?_);obtain⟨u,L,h4⟩:=c;subst L;refine wpAny_passesOwn B (thn h4 λ_ Y c=>?_);obtain⟨x,Z,I5,r5,y5,z,M⟩:=c;have O:=I5.pinned (k M) (T.obj _ _ z);refine wpAny_passesOwn B (thn (hg _ Y p Z x u _ O r5 (step x Z y5)) λ_ s6 c=>?_);obtain⟨P,H6,I6,q6⟩:=c;refine wpAny_passesOwn B (thn (j _ s6 P H6 _ I6 q6) λf Q y=>?_);have again:∀{a:St} {q:Hp},Inv X (pins++gX fp Y.heap) a q Q->N a q->∃m,m<n/\∃i l H',Inv X pins l H' Q/\tn i Q.heap/\(∀b∈fp,H' b=none)/\W i m l H':=λ{a q} t F=>by obtain⟨m',hm,w7⟩:=hN a q F;refine⟨m',hm,i+1,a,q,t.unpinned,T.keep _ _ _ z λb j o e=>(t.pin (b,o) (A9 _ (A9 _ (cX j e)))).1,λb j=>?_,w7⟩;obtain⟨o,e,d⟩:=T.obj _ _ z b j;exact (t.pin (b,o) (A9 _ (A9 _ (cX j e)))).2.1
  cases f with
  |next=>obtain⟨a,q,t,F⟩:=y;exact again t F
  |cont=>obtain⟨a,q,t,F⟩:=y;exact again t F
  |brk=>obtain⟨a,q,t,y⟩:=y;exact⟨a,q,t.unpinned,y⟩
  |ret v=>obtain⟨x7,a,q,t,r7,y⟩:=y;exact⟨x7,a,q,t.unpinned,r7,y⟩
end
abbrev R2:=V->V->Hp->VK->Prop
variable {r:R2}
def OpR (X:Cx) (f:Value->Value->Sem Value) (r:R2):Prop :=
 ∀(pins:List (Addr×Obj)) (s:Shared) (σ:St) (H:Hp) (x y:V) (v u:Value) (Q:VK),Inv X pins σ H s->RelV x v->RelV y u->r x y H Q ->
  wpAny (model X.prog X.w) X.A (f v u) (EP X pins σ Q) X.xe s
def UnR (X:Cx) (f:Value->Sem Value) (r:V->Hp->VK->Prop):Prop :=
 ∀(pins:List (Addr×Obj)) (s:Shared) (σ:St) (H:Hp) (x:V) (v:Value) (Q:VK),Inv X pins σ H s->RelV x v->r x H Q ->
  wpAny (model X.prog X.w) X.A (f v) (EP X pins σ Q) X.xe s
def d7 (X:Cx) (f:Value) (r:List V->Hp->VK->Prop):Prop :=
 ∀(pins:List (Addr×Obj)) (s:Shared) (σ:St) (H:Hp) (xs:List V) (us:List Value) (Q:VK),Inv X pins σ H s->Vals xs us->r xs H Q ->
  wpAny (model X.prog X.w) X.A (call f us) (EP X pins σ Q) X.xe s
def tOp (r:R2) (ta tb:TE):TE:=λσ H Q=>ta σ H λx H1=>tb σ H1 λy H2=>r x y H2 Q
def tUn (r:V->Hp->VK->Prop) (ta:TE):TE:=λσ H Q=>ta σ H λx H1=>r x H1 Q
def rI (C:Int->Int->Prop) (g:Int->Int->V):R2:=λx y H Q=>∃i j,x=.int i/\y=.int j/\C i j/\Q (g i j) H
def rI0 (g:Int->Int->V):R2:=λx y H Q=>∃i j,x=.int i/\y=.int j/\Q (g i j) H
def rU (g:Int->V):V->Hp->VK->Prop:=λx H Q=>∃i,x=.int i/\Q (g i) H
section
variable {a b c:Expr} {ta tb tc:TE}
theorem wL (ha:PE X a ta) (i:PE X b tb) (I:Inv X pins σ H s)
  (h:ta σ H λx H1=>tb σ H1 λy H2=>R x y H2) {Q:Value->Shared->Prop} {f:Value->Value->Sem Value}
  (j:∀v u s2 x y H2,Inv X pins σ H2 s2->RelV x v->RelV y u->R x y H2->wpAny (model X.prog X.w) X.A (f v u) Q X.xe s2) :
  wpAny (model X.prog X.w) X.A (eval a X.env) (λv e=>wpAny (model X.prog X.w) X.A (eval b X.env) (λu g=>wpAny (model X.prog X.w) X.A (f v u) Q X.xe g) X.xe e) X.xe s:=by
 refine thn (ha pins s σ H _ I h) λv k c=>?_
 obtain⟨x,H1,l,m,n⟩:=c;refine thn (i pins k σ H1 _ l n) λu s2 c=>?_
 obtain⟨y,H2,o,p,q⟩:=c;exact j v u s2 x y H2 o m p q
theorem cq {c:Operator} (e:OpR X (binaryOp c) r) (ha:PE X a ta) (f:PE X b tb):PE X (.BinOp a c b pos) (tOp r ta tb):=by intro pins s σ H Q I h;exact wpAny_BinOp (wL ha f I h λv u s2 x y H2 g i j q=>e pins s2 σ H2 x y v u Q g i j q)
theorem zd {c:UnaryOp} {r:V->Hp->VK->Prop} (e:UnR X (unaryOp c) r) (ha:PE X a ta):PE X (.UnaryOp c a pos) (tUn r ta):=by intro pins s σ H Q I h;exact UnaryOp_ (thn (ha pins s σ H _ I h) λv f b=>(by obtain⟨x,H1,g,i,j⟩:=b;exact e pins f σ H1 x v Q g i j))
theorem opI {f:Value->Value->Sem Value} {C:Int->Int->Prop}
  (rule:∀(i j:Int) (t u:Tok) (s:Shared) (Q:Value->Shared->Prop) (E:Value->Shared->Prop),C i j->Q (.int (g i j) s.toks) { s with toks:=s.toks+1 }->wpAny (model X.prog X.w) X.A (f (.int i t) (.int j u)) Q E s) :
  OpR X f (rI C λi j=>.int (g i j)):=by
 intro pins s σ H x y v u Q I a b h;obtain⟨i,j,rfl,rfl,hc,q⟩:=h;obtain⟨t,rfl⟩:=a;obtain⟨t',rfl⟩:=b;exact rule i j t t' s _ _ hc ⟨.int (g i j),H,I.tok _,⟨_,rfl⟩,q⟩
theorem yT {f:Value->Value->Sem Value}
  (rule:∀(i j:Int) (t u:Tok) (s:Shared) (Q:Value->Shared->Prop) (E:Value->Shared->Prop),Q (.int (g i j) s.toks) { s with toks:=s.toks+1 }->wpAny (model X.prog X.w) X.A (f (.int i t) (.int j u)) Q E s) :
  OpR X f (rI0 λi j=>.int (g i j)):=by
 intro pins s σ H x y v u Q I a b h;obtain⟨i,j,rfl,rfl,q⟩:=h;obtain⟨t,rfl⟩:=a;obtain⟨t',rfl⟩:=b;exact rule i j t t' s _ _ ⟨.int (g i j),H,I.tok _,⟨_,rfl⟩,q⟩
theorem xZ {f:Value->Value->Sem Value} {g:Int->Int->Bool}
  (rule:∀(i j:Int) (t u:Tok) (s:Shared) (Q:Value->Shared->Prop) (E:Value->Shared->Prop),Q (.bool (g i j)) s->wpAny (model X.prog X.w) X.A (f (.int i t) (.int j u)) Q E s) :
  OpR X f (rI0 λi j=>.bl (g i j)):=by
 intro pins s σ H x y v u Q I a b h;obtain⟨i,j,rfl,rfl,q⟩:=h;obtain⟨t,rfl⟩:=a;obtain⟨t',rfl⟩:=b;exact rule i j t t' s _ _ ⟨.bl (g i j),H,I,rfl,q⟩
def yL (i j:Int):Prop:=0<j/\j<1073741824
def yU (i j:Int):Prop:=0<=j/\j<=1000000/\i.natAbs<2 ^ 64
def t6 (i j:Int):Prop:=(-(2 ^ 64)<i/\i<2 ^ 64)\/(-(2 ^ 64)<j/\j<2 ^ 64)
theorem t6.ok {i j:Int} (h:t6 i j):IntMulOk i j:=by
 rcases h with⟨h1,h2⟩|⟨h1,h2⟩
 ·exact .of_left (intBits_le_64 h1 h2)
 ·exact .of_right (intBits_le_64 h1 h2)
theorem fH:OpR X (binaryOp .Add) (rI0 λi j=>.int (i+j)):=yT λ_ _ _ _ _ _ _ q=>add_int q
theorem wW:OpR X (binaryOp .Sub) (rI0 λi j=>.int (i-j)):=yT λ_ _ _ _ _ _ _ q=>sub_int q
theorem gY:OpR X (binaryOp .Mult) (rI t6 λi j=>.int (i*j)):=opI λ_ _ _ _ _ _ _ hc q=>mul_int q hc.ok
theorem va:OpR X (binaryOp .FloorDiv) (rI yL λi j=>.int (i / j)):=opI λi j _ _ _ _ _ hc q=>by have h1:(0:Int)<j:=hc.1;have h2:j<1073741824:=hc.2;exact floordiv_int (by omega) (by rw[Int.fdiv_eq_ediv_of_nonneg i (by omega)];exact q) (.inl (PyProof.noPylong_small (by omega)))
theorem iM:OpR X (binaryOp .Mod) (rI (λ_ j=>0<j) λi j=>.int (i % j)):=opI λi j _ _ _ _ _ hc q=>by have h1:(0:Int)<j:=hc;exact mod_int' (by omega) (by rw[Int.fmod_eq_emod_of_nonneg i (by omega)];exact q)
theorem wY:OpR X (binaryOp .Pow) (rI yU λi j=>.int (i ^ j.toNat)):=opI λ_ _ _ _ _ _ _ hc q=>pow_int_small hc.1 hc.2.1 hc.2.2 q
theorem unI {f:Value->Sem Value} {g:Int->Int}
  (rule:∀(i:Int) (t:Tok) (s:Shared) (Q:Value->Shared->Prop) (E:Value->Shared->Prop),Q (.int (g i) s.toks) { s with toks:=s.toks+1 }->wpAny (model X.prog X.w) X.A (f (.int i t)) Q E s) :
  UnR X f (rU λi=>.int (g i)):=by
 intro pins s σ H x v Q I a h;obtain⟨i,rfl,q⟩:=h;obtain⟨t,rfl⟩:=a;exact rule i t s _ _ ⟨.int (g i),H,I.tok _,⟨_,rfl⟩,q⟩
theorem wR:UnR X (unaryOp .USub) (rU λi=>.int (-i)):=unI λ_ _ _ _ _ q=>neg_int q
end
section
variable {a b c:Expr} {ta tb tc:TE}
theorem yq {Q:VK} {k a:Bool} (I:Inv X pins σ H s) (q:Q (.bl k) H) (e:k=a):EP X pins σ Q (.bool a) s:=by subst e;exact⟨.bl k,H,I,rfl,q⟩
theorem yN:OpR X (compareOp .Lt) (rI0 λi j=>.bl (decide (i<j))):=xZ λ_ _ _ _ _ _ _ q=>lt_int q
theorem vS:OpR X (compareOp .LtE) (rI0 λi j=>.bl (decide (i<=j))):=xZ λ_ _ _ _ _ _ _ q=>le_int q
theorem yz:OpR X (compareOp .Gt) (rI0 λi j=>.bl (decide (j<i))):=xZ λ_ _ _ _ _ _ _ q=>gt_int q
theorem kv:OpR X (compareOp .NotIn) (λx y H Q=>∃i j,x=.str i/\y=.str j/\Q (.bl (!(!(Builtin.Str.occurrences j i 0 j.length 1).isEmpty))) H):=by intro pins s σ H x y v u Q I a b h;obtain⟨i,j,rfl,rfl,q⟩:=h;obtain⟨t,rfl⟩:=a;obtain⟨t',rfl⟩:=b;exact notIn_str (yq I q rfl)
theorem OpR.or {f:Value->Value->Sem Value} {a:R2} (h:OpR X f r) (h':OpR X f a):OpR X f (λx y H Q=>r x y H Q\/a x y H Q):=by
 intro pins s σ H x y v u Q I b c q;rcases q with q|q
 ·exact h pins s σ H x y v u Q I b c q
 ·exact h' pins s σ H x y v u Q I b c q
theorem gO (b:Expr) {a:CmpOp} (h:a≠.In:=by decide) (h2:a≠.NotIn:=by decide):behindInMarks a b=false:=by
 have e1:(a==CmpOp.In)=false:=by cases a <;> first|rfl|exact absurd rfl h
 have e2:(a==CmpOp.NotIn)=false:=by cases a <;> first|rfl|exact absurd rfl h2
 cases b <;> simp[behindInMarks,e1,e2]
theorem vp {c:CmpOp} (e:OpR X (compareOp c) r) (ha:PE X a ta) (f:PE X b tb) (hm:behindInMarks c b=false):PE X (.Compare a [c] [b] pos) (tOp r ta tb):=by intro pins s σ H Q I h;exact wpAny_Compare1 (wL ha f I h λv u s2 x y H2 g i j q=>e pins s2 σ H2 x y v u Q g i j q) hm
def vP (t:TE):TT:=λσ H Q=>t σ H λx H'=>∃k,x=.bl k/\Q k H'
theorem eP {g:CmpOp} (i:OpR X (compareOp g) r) (ha:PE X a ta) (j:PE X b tb) (hm:behindInMarks g b=false):PT X (.Compare a [g] [b] pos) (vP (tOp r ta tb)):=by
 intro pins s σ H Q I h;refine wpAny_isTrue_Compare1 (thn (ha pins s σ H _ I h) λv l f=>?_) hm;obtain⟨x,H1,m,n,o⟩:=f;refine thn (j pins l σ H1 _ m o) λu s2 f=>?_
 obtain⟨y,H2,p,q,t⟩:=f;refine thn (i pins s2 σ H2 x y v u _ p n q t) λc s3 f=>?_
 obtain⟨z,w,A,B,k,e,C⟩:=f;subst e;cases B;exact wpAny_truthy_bool ⟨w,A,C⟩
def we (r b:R2) (ta tb tc:TE):TE:=λσ H Q=>ta σ H λx H1=>tb σ H1 λy H2=>r x y H2 λz a=>∃k,z=.bl k /\
 (if k=true then tc σ a λc e=>b y c e Q else Q (.bl false) a)
theorem rD {i g:CmpOp} {m:R2} (t:OpR X (compareOp i) r) (j:OpR X (compareOp g) m) (ha:PE X a ta) (w:PE X b tb) (hc:PE X c tc)
  (hm:lastMarks [i,g] [b,c]=false:=by with_unfolding_all rfl):PE X (.Compare a [i,g] [b,c] pos) (we r m ta tb tc):=by
 intro pins s σ H Q I h;refine Compare_chain (thn (ha pins s σ H _ I h) λv A f=>?_) hm;obtain⟨x,H1,B,C,D⟩:=f;refine chain_link (thn (w pins A σ H1 _ B D) λu s2 f=>?_);obtain⟨y,H2,E,n,F⟩:=f;refine thn (t pins s2 σ H2 x y v u _ E C n F) λd G f=>?_
 obtain⟨z,o,p,J,k,e,q⟩:=f;subst e;cases J;refine wpAny_truthy_bool ?_;cases k with
 |false=>exact ite_ff ⟨.bl false,o,p,rfl,q⟩
 |true=>exact ite_tt (chain_last (thn (hc pins G σ o _ p q) λK L l=>(by obtain⟨M,N,O,P,R⟩:=l;exact j pins L σ N y M u K Q O n P R)))
theorem gB:(sizeLine:Nat)<2 ^ 63:=by rw[sizeLine_eq];decide
theorem nF:OpR X (binaryOp .Add) (λx y H Q=>∃i j,x=.str i/\y=.str j/\i.length+j.length<=sizeLine/\Q (.str (i++j)) H):=by intro pins s σ H x y v u Q I a b h;obtain⟨i,j,rfl,rfl,c,q⟩:=h;obtain⟨t,rfl⟩:=a;obtain⟨t',rfl⟩:=b;exact add_str (λt' tk=>⟨.str (i++j),H,I.tok _,⟨_,rfl⟩,q⟩) c
theorem vals1 {x:V} (r:Vals [x] us):∃u,us=[u]/\RelV x u:=by
 cases r with
 |cons r1 r2=>cases r2;exact⟨_,rfl,r1⟩
theorem vals2 {x y:V} (r:Vals [x,y] us):∃u a,us=[u,a]/\RelV x u/\RelV y a:=by
 cases r with
 |cons r1 r2 =>
  cases r2 with
  |cons r3 r4=>cases r4;exact⟨_,_,rfl,r1,r3⟩
theorem pA (hc:X.calm=true):d7 X (.builtin "min") (λxs H Q=>∃i j,xs=[.int i,.int j]/\Q (.int (if j<i then j else i)) H):=by
 intro pins s σ H xs us Q I r h;obtain⟨i,j,rfl,q⟩:=h;obtain⟨u,w',rfl,⟨t,rfl⟩,⟨t',rfl⟩⟩:=vals2 r;refine t9 (I.hdH hc) λh' tk k=>⟨_,H,I.kept k,?_,q⟩
 by_cases hj:j<i
 ·rw[if_pos hj,if_pos hj];exact⟨_,rfl⟩
 ·rw[if_neg hj,if_neg hj];exact⟨_,rfl⟩
theorem pW:d7 X (.type "int") (λxs H Q=>(∃i,xs=[.int i]/\Q (.int i) H)\/∃k,xs=[.bl k]/\Q (.int (if k then 1 else 0)) H):=by
 intro pins s σ H xs us Q I r h;rcases h with⟨i,rfl,q⟩|⟨k,rfl,q⟩
 ·obtain⟨u,rfl,t,rfl⟩:=vals1 r;exact call_int_int ⟨.int i,H,I,⟨_,rfl⟩,q⟩
 ·obtain⟨u,rfl,a⟩:=vals1 r;cases a;exact call_int_bool ⟨.int (if k then 1 else 0),H,I.tok _,⟨_,rfl⟩,q⟩
theorem f9:d7 X (.type "str") (λxs H Q=>∃i,xs=[.int i]/\i.natAbs.log2<1920/\Q (.str (toString i)) H):=by intro pins s σ H xs us Q I r h;obtain⟨i,rfl,a,q⟩:=h;obtain⟨u,rfl,t,rfl⟩:=vals1 r;exact PySem.P.str_of_int a ⟨.str _,H,I.tok _,⟨_,rfl⟩,q⟩
end
section
variable {prog:Program} {x dx f:Addr} {mA:Str->Option Value} {name:Str} {v:Value}
end
section
variable {H':Hp} {dx:Addr} {fs fs':List (Str×V)}
end
structure Cls (K:PySem.W.Frag) (C:Addr):Prop where
 pg:PySem.W.plainGet K C Str.empty=true
 hd:PySem.W.hasDictIn K C=true
 po:PySem.W.plainOver K C=true
 sa:PySem.W.findIn K (.ref C) "__setattr__"=some (some (.builtin "object.__setattr__"))
section
variable {dx:Addr} {fs:List (Str×V)} {f:Str} {v:V}
end
section
variable {o value:Expr} {f:Str} {tpos:Pos} {ta tv:TE}
end
section
variable {Q:Value->Shared->Prop} {c:Value} {b:Bool}
inductive i3 (K:PySem.W.Frag) (H:Hp):V->Value->Prop where
 |non:i3 K H .non (.type "NoneType")
 |bl (x:Bool):i3 K H (.bl x) (.type "bool")
 |int (i:Int):i3 K H (.int i) (.type "int")
 |str (x:Str):i3 K H (.str x) (.type "str")
 |flt (x:UInt64):i3 K H (.flt x) (.type "float")
 |lst {a:Addr} {xs:List V} (e:H a=some (.lst xs)):i3 K H (.ref a) (.type "list")
 |frz {a:Addr} {o:Obj} {xs:List V} (e:H a=some (.frz o (.lst xs))):i3 K H (.ref a) (.type "list")
 |tup {a:Addr} {xs:List V} (e:H a=some (.tup xs)):i3 K H (.ref a) (.type "tuple")
 |dK {a:Addr} {kvs:List (Key×V)} (e:H a=some (.dK kvs)):i3 K H (.ref a) (.type "dict")
 |dT {a:Addr} {kvs:List (List Key×V)} (e:H a=some (.dT kvs)):i3 K H (.ref a) (.type "dict")
 |ins {a C dx:Addr} {fs:List (Str×V)} (e:H a=some (.ins C dx fs)) (cl:Cls K C) (ha:PySem.W.findIn K (.ref C) "__class__"=some (some (.builtin "object.__class__")))
  (hn:PySem.W.specialIn K (.builtin "object.__class__") "__get__"=some (some (.builtin "getset_descriptor.__get__"))) (htk:PySem.W.takesIn K (.builtin "object.__class__")=some true)
  (hm:PySem.W.mroIn K C (.type "object")=some true):i3 K H (.ref a) (.ref C)
end
structure cu (k:Nat) (A:Around):Prop where
 hd:30<=k->A.handled=none
 dp:A.depth+3*k+5<recursionLimit
 un:A.units+16*k+200<cLine
theorem cu.mono (r:cu k A) (h:j<=k):cu j A:=⟨λz=>r.hd (by omega),by have:=r.dp;omega,by have:=r.un;omega⟩
theorem cu.deeper (r:cu (k+1) A) (env:Env):cu k (A.deeper env) :=
 ⟨λz=>r.hd (by omega),by have:=r.dp;show A.depth+1+3*k+5<_;omega,by have:=r.un;show A.units+3+16*k+200<_;omega⟩
theorem cu.depth (r:cu k A):A.depth<recursionLimit:=by have:=r.dp;omega
theorem cu.units (r:cu k A):A.units+64<cLine:=by have:=r.un;omega
def Az:TA:=λ_ H Q=>Q [] H
def yI (ta:TE) (a:TA):TA:=λσ H Q=>ta σ H λx H1=>a σ H1 λxs H2=>Q (x::xs) H2
section
variable {te:TE} {t:TA}
theorem dy:PA X [] Az:=λ_ _ _ _ H Q I h=>Calls.spliced_nil ⟨[],H,I,.nil,h⟩
theorem bO (ha:PE X e te) (c:PA X es t) (f:starEach (e::es) X.env=(false,eval e X.env)::starEach es X.env:=by rfl):PA X (e::es) (yI te t):=by intro pos pins s σ H Q I h;rw[f];show wpAny _ _ (spliced ((false,eval e X.env)::backTo pos (starEach es X.env))) _ _ s;refine Calls.spliced_cons (thn (ha pins s σ H _ I h) λu g a=>?_);obtain⟨x,H1,i,j,k⟩:=a;exact thn (c pos pins g σ H1 _ i k) λus s2 b=>(by obtain⟨xs,H2,l,m,n⟩:=b;exact⟨x::xs,H2,l,.cons j m,n⟩)
def Aq (t:TA):TE:=λσ H Q=>t σ H λxs H1=>xs.length<=sizeLine/\∀p,H1 p=none->Q (.ref p) (upd H1 p (.tup xs))
def AD (t:TA):TE:=λσ H Q=>t σ H λxs H1=>xs.length<=sizeLine/\∀p,H1 p=none->Q (.ref p) (upd H1 p (.lst xs))
theorem xX {x1} (h:PA X es t):PE X (.Tuple es x1 pos) (Aq t):=by intro pins s σ H Q I g;refine wpAny_Tuple_spliced (thn (h pos pins s σ H _ I g) λus a c=>?_);obtain⟨xs,H1,f,r,z,q⟩:=c;refine⟨by rw[<-r.length];exact z,?_⟩;have i:H1 a.heap.objs.size=none:=f.hok.fresh (B0 _);refine⟨.ref a.heap.objs.size,upd H1 a.heap.objs.size (.tup xs),f.laid (t':=a.toks) (λb u e=>A7 _ e) (B0 _) ?_,rfl,q _ i⟩;exact⟨z,us,r,⟨_,Ba _ rfl,rfl,rfl,_,rfl⟩⟩
theorem nu (h:PA X es t):PE X (.List es pos) (AD t):=by intro pins s σ H Q I g;refine wpAny_List_spliced (thn (h pos pins s σ H _ I g) λus a c=>?_);obtain⟨xs,H1,f,r,z,q⟩:=c;refine⟨by rw[<-r.length];exact z,?_⟩;have i:H1 a.heap.objs.size=none:=f.hok.fresh (B0 _);refine⟨.ref a.heap.objs.size,upd H1 a.heap.objs.size (.lst xs),f.laid (t':=a.toks) (λb u e=>A7 _ e) (B0 _) ?_,rfl,q _ i⟩;exact⟨z,us,0,r,Ba _ rfl⟩
end
abbrev Sp:=List V->Hp->VK->XK->Prop
abbrev CXT:=Option Value->List Env->Hp->Shared->XK->Value->Shared->Prop
def HdS (A:Around) (outer:List Env) (s:Shared) (H:Hp):Prop:=A.handled=none\/∃e oe vs,A.handled=some (.ref e)/\s.heap.get? e=some oe/\oe.data=.fields vs/\vs[2]?=some .none/\H e=none/\e∉frs outer
structure uZ (P:Program) (w:World) (K:PySem.W.Frag) (mg:Str->Option Value) (base:Heap) (A:Around) (outer:List Env) (s:Shared) (H:Hp):Prop where
 frames:A.frames=some outer
 mod:Mod K mg base
 bs:∀b o,base.get? b=some o->s.heap.get? b=some o/\H b=none
 bsz:base.objs.size<=s.heap.objs.size
 funs:s.heap.FunFrames base outer
 frf:∀b∈frs outer,H b=none
 hok:HOk P w H s.heap
 bare:AllBare s.gens
 tab:∀P q,TabOf K P q->H P=some (.tbl q)
 hd:HdS A outer s H
def CE (outer:List Env) (P:Program) (w:World) (H:Hp) (s:Shared) (Q:VK) (u:Value) (s':Shared):Prop :=
 ∃v H',s'.os=s.os/\AllBare s'.gens/\Un (frs outer) [] H H' s.heap s'.heap/\HOk P w H' s'.heap/\RelV v u/\Q v H'
def CR (CX:CXT) (a:Option Value) (outer:List Env) (P:Program) (w:World) (H:Hp) (s:Shared) (Q:VK) (E:XK) (r:Result) (s':Shared):Prop :=
 match r with
 |.ok (.ret u)=>CE outer P w H s Q u s'
 |.ok _=>False
 |.error e=>CX a outer H s E e s'
structure ff (P:Program) (w:World) (K:PySem.W.Frag) (mg:Str->Option Value) (base:Heap) (CX:CXT) (k:Nat) (f:Addr) (fd:FuncData) (ps:List Str) (sp:Sp):Prop where
 len:∀vs H Q E,sp vs H Q E->vs.length=ps.length
 run:∀(A:Around) (outer:List Env) (s:Shared) (H:Hp) (args:Args) (us:List Value) (vs:List V) (Q:VK) (E:XK),cu k A->uZ P w K mg base A outer s H->BindsTo s fd args (ps.zip us)->Vals vs us->sp vs H Q E ->
  codeAny (model P w) A (.call (.ref f) args) (CR CX A.handled outer P w H s Q E) s
section
theorem Inv.env0 (I:Inv X pins σ H s) (hc:X.calm=true):uZ X.prog X.w X.K X.mg X.base X.A X.stack s H:=by
 refine⟨I.ok.frames,I.ok.mod,I.bs,Bj I.ok.bsz I.sz,I.stack,I.stkFree,I.hok,I.bare,I.tab,?_⟩;rcases I.ok.hd hc with x|⟨e,oe,vs,x1,x2,x3,x4⟩
 ·exact .inl x
 ·obtain⟨p1,p2,b,a,_⟩:=I.pin (e,oe) (Bb _ x2);refine .inr ⟨e,oe,vs,x1,p1,x3,x4,p2,λz=>?_⟩;rcases I.ok.stk with q|⟨q,c⟩
  ·rw[q]at z;exact a z
  ·rw[q]at z;unfold frs at z;rw[BM,c]at z;rcases List.mem_cons.mp z with z|z
   ·exact b z
   ·exact a z
theorem Inv.after {Q:VK} (I:Inv X pins σ H s) (h:CE X.stack X.prog X.w H s Q u s'):EP X pins σ Q u s':=by obtain⟨v,H',os,bare,un,hok,r,q⟩:=h;obtain⟨c,g,d,t,a⟩:=s';obtain rfl:a=s.os:=os;exact⟨v,H',I.call (h':=c) (g':=g) (d':=d) (t':=t) (ch:=[]) un hok bare (λb z=>absurd z (by simp)),r,q⟩
end
def yW (sp:Sp) (dvs:List V) (E:XK) (t:TA):TE:=λσ H Q=>t σ H λvs H1=>sp (vs++dvs) H1 Q E
def Binds (K:PySem.W.Frag) (fd:FuncData) (ps:List Str) (ds:List Value):Prop :=
 ∀(s:Shared) (us:List Value),K.In s.heap->(us++ds).length=ps.length->BindsTo s fd ⟨us,[]⟩ (ps.zip (us++ds))
theorem Binds.all (h:∀us:List Value,us.length=ps.length->bindArgs fd ⟨us,[]⟩=pure (ps.zip us)):Binds K fd ps []:=λs us _ hl=>by rw[BC]at hl ⊢;exact .of_eq (h us hl)
def Passes (CX:CXT) (X:Cx) (E:XK):Prop:=X.calm=true/\∀(pins:List (Addr×Obj)) (σ:St) (H:Hp) (s:Shared) (e:Value) (s':Shared),Inv X pins σ H s->CX X.A.handled X.stack H s E e s'->X.xe e s'
section
variable {CX:CXT} {f:Addr} {sp:Sp} {dvs:List V} {ds:List Value} {E:XK} {m:Str} {o:Expr} {ta:TE} {t:TA}
theorem yk {Q:VK} {vs:List V} (F:ff X.prog X.w X.K X.mg X.base CX k f fd ps sp) (g:cu k X.A) (i:Binds X.K fd ps ds) (hd:Vals dvs ds) (b:Passes CX X E)
  (I:Inv X pins σ H s) (r:Vals vs us) (h:sp (vs++dvs) H Q E):wpAny (model X.prog X.w) X.A (call (.ref f) us) (EP X pins σ Q) X.xe s:=by
 have c:Vals (vs++dvs) (us++ds):=r.append hd;have hl:(us++ds).length=ps.length:=by rw[<-c.length];exact F.len _ _ _ _ h
 refine wpAny_call (codeAny_mono (F.run X.A X.stack s H ⟨us,[]⟩ (us++ds) (vs++dvs) Q E g (I.env0 b.1) (i s us I.kIn hl) c h) λr s' a=>?_);cases r with
 |error e=>exact b.2 pins σ H s e s' I a
 |ok fl =>
  cases fl with
  |ret u=>exact I.after a
  |next=>exact False.elim a
  |brk=>exact False.elim a
  |cont=>exact False.elim a
theorem oK (F:ff X.prog X.w X.K X.mg X.base CX k f fd ps sp) (i:cu k X.A) (j:Gl X x) (hm:X.mg x=some (.ref f)) (l:PySem.W.keepIn X.K (.ref f)=true) (m:Binds X.K fd ps ds) (hd:Vals dvs ds) (n:Passes CX X E)
  (ha:PA X (e::es) t) (a:(x==("__debug__":Str))=false:=by decide) (o:starEach (e::es) X.env=(false,eval e X.env)::starEach es X.env:=by rfl) (b:(backTo pos (starEach es X.env)).any (·.1)=false:=by rfl) :
  PE X (.Call (.Name x p) (e::es) [] pos) (yW sp dvs E t):=by
 intro pins s σ H Q I h;refine wpAny_Call_Name_kw (d5 I j hm ?_ a);refine PySem.W.callWith_K (h₀:=X.base) I.ok.mod.kin l (thn (ha pos pins s σ H _ I h) λus s1 c=>?_) o b;obtain⟨vs,H1,g,r,q⟩:=c;refine⟨g.kIn,?_⟩;exact yk F i m hd n g r q
end
section
variable {CX:CXT} {f:Addr} {ks:List Str} {sp:Sp} {E:XK} {m:Str} {kpos:Pos} {o:Expr} {kws:List Keyword} {te ta:TE} {t tk:TA} {nm:Option Str}
variable {g:List Value->List Value->List Value} {gV:List V->List V->List V}
end
structure c6 (N P:List Str) (sc:Scope):Prop where
 kind:sc.kind=.function
 co:sc.isCoroutine=false
 gen:sc.isGenerator=false
 nd:N.Nodup
 pre:N.take P.length=P
 par:∀x∈P,sc.names.lookup x=some .local\/sc.names.lookup x=some .cell
 nofree:∀y∈sc.names,y.2≠.free
theorem jP {kindOf:Str->Option NameKind} {x:Str}:∀{binds:List (Str×Value)} {m:Str->Option Value},(∀v,(x,v)∉binds)->bindL kindOf binds m x=m x
 |[],_,_=>rfl
 |(n,v)::r,m,h=>by
  unfold bindL;rw[jP λw hw=>h w (A6 _ hw)];split
  ·have:x≠n:=by rintro rfl;exact h v List.mem_cons_self
   simp[this]
  ·rfl
theorem j4 {kindOf:Str->Option NameKind} {x:Str}:∀{binds:List (Str×Value)} {m:Str->Option Value},(∀v,(x,v)∉binds)->bindC kindOf binds m x=m x
 |[],_,_=>rfl
 |(n,v)::r,m,h=>by
  unfold bindC;rw[j4 λw hw=>h w (A6 _ hw)];split
  ·rfl
  ·have:x≠n:=by rintro rfl;exact h v List.mem_cons_self
   simp[this]
theorem ki {kindOf:Str->Option NameKind} {x:Str} {v:Value}:∀{P:List Str} {vs:List Value} {i:Nat} {m:Str->Option Value},P.Nodup->P[i]?=some x->vs[i]?=some v->kindOf x=some .local ->
  bindL kindOf (P.zip vs) m x=some v
 |[],_,_,_,_,h,_,_=>by simp at h
 |_::_,[],_,_,_,_,h,_=>by simp at h
 |p::P,w::vs,0,m,nd,h1,h2,hk=>by simp at h1 h2;subst h1;subst h2;show bindL kindOf ((p,w)::P.zip vs) m p=_;unfold bindL;rw[jP λv a=>(BS.mp nd).1 (List.of_mem_zip a).1,if_pos hk];simp
 |p::P,w::vs,i+1,m,nd,h1,h2,hk=>by show bindL kindOf ((p,w)::P.zip vs) m x=_;unfold bindL;exact ki (i:=i) (BS.mp nd).2 (by simpa using h1) (by simpa using h2) hk
theorem jR {kindOf:Str->Option NameKind} {x:Str} {v:Value}:∀{P:List Str} {vs:List Value} {i:Nat} {m:Str->Option Value},P.Nodup->P[i]?=some x->vs[i]?=some v->kindOf x≠some .local ->
  bindC kindOf (P.zip vs) m x=some v
 |[],_,_,_,_,h,_,_=>by simp at h
 |_::_,[],_,_,_,_,h,_=>by simp at h
 |p::P,w::vs,0,m,nd,h1,h2,hk=>by simp at h1 h2;subst h1;subst h2;show bindC kindOf ((p,w)::P.zip vs) m p=_;unfold bindC;rw[j4 λv a=>(BS.mp nd).1 (List.of_mem_zip a).1,if_neg hk];simp
 |p::P,w::vs,i+1,m,nd,h1,h2,hk=>by show bindC kindOf ((p,w)::P.zip vs) m x=_;unfold bindC;exact jR (i:=i) (BS.mp nd).2 (by simpa using h1) (by simpa using h2) hk
def start (N:List Str) (vs:List V):St:=vs.map some++List.replicate (N.length-vs.length) none
def rg (A:Around) (s:Shared):List (Addr×Obj):=match A.handled with
 |some (.ref e)=>(match s.heap.get? e with|some o=>[(e,o)]|none=>[])
 |_=>[]
def bT (CX:CXT) (P:Program) (w:World) (K:PySem.W.Frag) (mg:Str->Option Value) (base:Heap) (N:List Str) (qual:Str) (scope:Scope) (f:Addr) (cd:Value) (A:Around) (outer:List Env) (s:Shared) (H:Hp) (E:XK):Cx where
 prog:=P
 w:=w
 K:=K
 mg:=mg
 base:=base
 A:=A.deeper (envOfC qual scope s.heap.objs.size f cd)
 N:=N
 s₀:=s
 H₀:=H
 env:=envOfC qual scope s.heap.objs.size f cd
 outer:=outer
 stack:=envOfC qual scope s.heap.objs.size f cd::outer
 ex:=[]
 calm:=true
 fn:=λ_=>true
 pn:=rg A s
 xe:=λe s'=>wpAny (model P w) (A.deeper (envOfC qual scope s.heap.objs.size f cd)) (leaving (envOfC qual scope s.heap.objs.size f cd) e) (λ_ a=>CX A.handled outer H s E e a) (λb a=>CX A.handled outer H s E b a) s'
theorem mi {sc:Scope} (h:sc.names.lookup x=some .cell):∃c,(cellsFrom n sc.names []).lookup x=some c:=by have q:=PySem.W.cellsFrom_some sc.names n [] (.inl h);exact Option.isSome_iff_exists.mp q
theorem pV {CX:CXT} {f:Addr} {C:Shared} {E:XK} {vs:List V}
  (S:c6 N ps scope) (g:uZ P w K mg base A outer s H) (hl:vs.length=ps.length) (r:Vals vs us)
  (x:InCallC s s.heap.objs.size (bindL (envOfC qual scope s.heap.objs.size f cd).kindOf (ps.zip us) λ_=>none) (cellsFrom (s.heap.objs.size+1) scope.names []) (bindC (envOfC qual scope s.heap.objs.size f cd).kindOf (ps.zip us) λ_=>none) C) :
  Inv (bT CX P w K mg base N qual scope f cd A outer s H E) [] (start N vs) H C:=by
 have hpl:ps.length<=N.length:=by have:=congrArg List.length S.pre;rw[BA]at this;omega
 obtain⟨h1,tk,rfl,B⟩:=x.done;have l:∀b:Addr,b∉(bT CX P w K mg base N qual scope f cd A outer s H E).ex:=λb z=>absurd (show b∈([]:List Addr) from z) (by simp)
 refine⟨⟨g.mod,S.kind,rfl,rfl,B0 _,λy z c h1 h2=>?_,λy m=>?_,λy c _ h=>?_,λ_=>?_,Around.frames_deeper g.frames,.inr ⟨rfl,rfl⟩,λb z=>absurd z (l b),g.bs,g.bsz,λb _ _=>l b,λb z=>absurd z (l b),g.funs,g.frf⟩,
  rfl,g.bare,Un.kept B,⟨_,x.toInCall.ns,λi y v h1 h2 h3=>?_⟩,λy c h=>⟨_,x.cell y c h⟩,g.hok.fresh (B0 _),λy c h=>?_,λp j=>?_,g.hok.kept B,?_,g.tab⟩
 ·exact name_of_addr x.apart (PySem.mem_of_lookup h1) (PySem.mem_of_lookup h2)
 ·have m:scope.names.lookup y=some .cell\/scope.names.lookup y=some .free:=m;rcases m with m|m
  ·exact mi m
  ·exact absurd rfl (S.nofree _ (PySem.mem_of_lookup m))
 ·exact Nat.le_of_lt (x.above y c (PySem.mem_of_lookup h))
 ·rcases g.hd with z|⟨e,oe,o,z1,z2,z3,z4,_⟩
  ·exact .inl z
  ·refine .inr ⟨e,oe,o,z1,?_,z3,z4⟩;show (e,oe)∈rg A s;unfold rg;rw[z1];dsimp only;rw[z2];exact List.mem_cons_self
 ·have hi:i<vs.length:=by
   unfold start at h2;by_cases hi:i<vs.length
   ·exact hi
   ·rw[Bf (by simpa using hi)]at h2;rw[BY]at h2;split at h2 <;> cases h2
  have ha:vs[i]?=some v:=by
   unfold start at h2;rw[Bh (by simpa using hi),BF]at h2;cases e:vs[i]? with
   |none=>rw[e]at h2;cases h2
   |some a=>rw[e]at h2;cases h2;rfl
  obtain⟨u,D,F⟩:=r.get ha;have j:ps[i]?=some y:=by rw[<-S.pre,List.getElem?_take_of_lt (by omega)];exact h1
  have t:ps.Nodup:=by rw[<-S.pre];exact S.nd.sublist (List.take_sublist _ _)
  refine⟨u,F,?_⟩;rcases S.par y (C1 j) with k|k
  ·exact .inl ⟨k,ki t j D k⟩
  ·obtain⟨c,e⟩:=mi (n:=s.heap.objs.size+1) k;refine .inr ⟨.inl k,c,e,?_⟩;have q:=x.cell y c e;rw[jR t j D (by show scope.names.lookup y≠_;rw[k];decide)]at q;exact q
 ·exact g.hok.fresh (Nat.le_of_lt (x.above y c (PySem.mem_of_lookup h)))
 ·have j:p∈rg A s:=(B8.mp j).resolve_right A8;unfold rg at j;rcases g.hd with z|⟨e,oe,o,z1,z2,z3,z4,z5,z6⟩
  ·rw[z]at j;cases j
  ·rw[z1]at j;dsimp only at j;rw[z2]at j;cases List.mem_singleton.mp j;exact⟨B e oe z2,z5,Nat.ne_of_lt (Heap.lt_size z2),z6,λv q=>by rw[z3]at q;cases q⟩
 ·unfold start;show _=N.length;rw[B1,B7,List.length_replicate];omega
theorem vV {CX:CXT} {f:Addr} {name:Str} {params:Arguments} {z kV doc cdv:Value}
  {sp:Sp} (F:K.lookup f=some ⟨oc,od,.func (PySem.W.fnOf name qual params body scope z kV doc pm an cdv ct),osl⟩) (l:PySem.W.codeIn K cdv qual=true) (S:c6 N ps scope)
  (len:∀vs H Q E,sp vs H Q E->vs.length=ps.length)
  (c:∀(A:Around) (outer:List Env) (s:Shared) (H:Hp) (vs:List V) (Q:VK) (E:XK),cu k (A.deeper (envOfC qual scope s.heap.objs.size f cdv))->sp vs H Q E ->
   ∃t,PSs (bT CX P w K mg base N qual scope f cdv A outer s H E) body t/\t { nx:=λ_ H'=>Q .non H',rt:=Q } (start N vs) H) :
  ff P w K mg base CX (k+1) f (PySem.W.fnOf name qual params body scope z kV doc pm an cdv ct) ps sp:=by
 refine⟨len,λA outer s H args us vs Q E B i G r j=>?_⟩;have hl:=len _ _ _ _ j;have C:K.In s.heap:=i.mod.kin.keeps λb o e=>(i.bs b o e).1
 have lim:s.heap.NoLimit:=i.mod.nolimit.keeps λb o e=>(i.bs b o e).1
 have g:∀y∈ps.zip us,scope.names.lookup y.1=some .local\/(scope.names.lookup y.1=some .cell/\((cellsFrom (s.heap.objs.size+1) scope.names []).lookup y.1).isSome=true):=λm L=>by
  obtain⟨n,v⟩:=m;rcases S.par n (List.of_mem_zip L).1 with q|q
  ·exact .inl q
  ·exact .inr ⟨q,PySem.W.cellsFrom_some _ _ _ (.inl q)⟩
 refine codeAny_call_function B.depth (C _ _ F) rfl S.co S.gen rfl (PySem.W.codeRec_of C l) (G _ _ _ _ ?_);refine wpAny_newFunctionEnv_cells S.kind g λenv M D x=>?_
 subst M;refine⟨lim.keeps x.toInCall.keep,codeAny_func ?_⟩;obtain⟨t,O,R⟩:=c A outer s H vs Q E (B.deeper _) j;have I:Inv (bT CX P w K mg base N qual scope f cdv A outer s H E) [] (start N vs) H D:=pV S i hl r x;refine wpAny_mono (O [] D (start N vs) H _ I R) (λT s' h=>?_) λe s' h=>h
 have fin:∀{a:St} {H':Hp} {v:V} {u:Value},Inv (bT CX P w K mg base N qual scope f cdv A outer s H E) [] a H' s'->RelV v u->Q v H'->CE outer P w H s Q u s' :=
  λ{a H' v u} J p q=>⟨v,H',J.os,J.bare,J.base,J.hok,p,q⟩
 cases T with
 |ret u =>obtain⟨v,a,H',J,p,q⟩:=h;exact fin J p q
 |next =>obtain⟨a,H',J,q⟩:=h;exact fin (v:=V.non) (u:=Value.none) J rfl q
 |brk =>obtain⟨_,_,_,q⟩:=h;exact False.elim q
 |cont =>obtain⟨_,_,_,q⟩:=h;exact False.elim q
section
variable {t:TA} {id T:String} {r:List V->Hp->VK->Prop}
def tCB (r:List V->Hp->VK->Prop) (t:TA):TE:=λσ H Q=>t σ H λvs H1=>r vs H1 Q
theorem cR (hc:d7 X (.builtin id) r) (f:Gl X x) (hm:X.mg x=none) (g:bootBuiltins x=some (.builtin id)) (ha:PA X (e::es) t) (hn:x≠"__name__":=by decide) (a:(x==("__debug__":Str))=false:=by decide)
  (i:starEach (e::es) X.env=(false,eval e X.env)::starEach es X.env:=by rfl) (b:(backTo pos (starEach es X.env)).any (·.1)=false:=by rfl):PE X (.Call (.Name x p) (e::es) [] pos) (tCB r t):=by
 intro pins s σ H Q I h;refine wpAny_Call_Name_kw (kW I f hm g ?_ hn a);exact PyProof.Rows.callWith_builtin1 (thn (ha pos pins s σ H _ I h) λus j c=>(by obtain⟨vs,H1,k,l,m⟩:=c;exact hc pins j σ H1 vs us Q k l m)) i b
theorem eL (hc:d7 X (.type T) r) (f:Gl X x) (hm:X.mg x=none) (g:bootBuiltins x=some (.type T)) (ha:PA X (e::es) t) (hn:x≠"__name__":=by decide) (a:(x==("__debug__":Str))=false:=by decide)
  (i:starEach (e::es) X.env=(false,eval e X.env)::starEach es X.env:=by rfl) (b:(backTo pos (starEach es X.env)).any (·.1)=false:=by rfl):PE X (.Call (.Name x p) (e::es) [] pos) (tCB r t):=by
 intro pins s σ H Q I h;refine wpAny_Call_Name_kw (kW I f hm g ?_ hn a);exact PyProof.Rows.callWith_type1 (thn (ha pos pins s σ H _ I h) λus j c=>(by obtain⟨vs,H1,k,l,m⟩:=c;exact hc pins j σ H1 vs us Q k l m)) i b
end
end L2
variable {o:L2.HO} {vs xs:List L2.V} {H H' H1 G H0:L2.Hp} {v:L2.V} {X:L2.Cx} {σ:L2.St} {te:L2.TE} {sp:L2.Sp} {r:L2.V->Option Int->Option Int->L2.Hp->L2.VK->Prop}
namespace HT
open PySem PyProof.Rows
section
open PySem.SeqAt
open PySem.AutoSeq1 (wpAny_loadPart')
open PySem.MeetsSeq PySem.MeetsSeq2 PySem.MeetsSeq3
end
section
variable {prog:Program} {w:World} {A:Around}
theorem uh {t:Addr} {vs ws:List Value} {Q:Value->Shared->Prop} (j:IsTup s.heap t vs.toArray) (k:IsTup s.heap b ws.toArray) (i:vs≠[])
  (h1:ws=[]->Q (.ref t) s) (h2:ws≠[]->Q (.ref s.heap.objs.size) { s with heap:=s.heap.push { cls:=.type "tuple",data:=.seq (vs++ws).toArray } })
  (hsz:vs.length+ws.length<=sizeLine):wpAny (model prog w) A (binaryOp .Add (.ref t) (.ref b)) Q E s:=by
 obtain⟨⟨cls,dd,data,sl⟩,h,hc,n,hd⟩:=id j;obtain⟨⟨cls2,c,data2,f⟩,a,g,n2,hd2⟩:=id k;simp only at hc hd g hd2;subst hc hd g hd2;have e:vs.toArray++ws.toArray=(vs++ws).toArray:=by simp
 by_cases hw:ws=[]
 ·exact concat_meets ⟨_,h,rfl⟩ ⟨_,a,rfl⟩ noFill_tuple_add seq_tuple_add PySem.F.slot_tuple_add PySem.F.entry_tuple_add (PySem.F.args_tuple_add_2 _ _)
   (tuple_addW1 t b vs.toArray ws.toArray n n2 dd c sl f (by simpa using i) (by simp[hw])) ⟨h,a,h1 hw⟩
 ·refine concat_meets ⟨_,h,rfl⟩ ⟨_,a,rfl⟩ noFill_tuple_add seq_tuple_add PySem.F.slot_tuple_add PySem.F.entry_tuple_add (PySem.F.args_tuple_add_2 _ _)
   (tuple_addW2 t b vs.toArray ws.toArray n n2 dd c sl f (by simpa using i) (by simpa using hw) (by rw[B4,B4];exact hsz)) ⟨h,a,?_⟩
  rw[e];exact h2 hw
def sIx (n d:Nat):Option Int->Nat
 |none=>d
 |some v=>if v<0 then (v+(n:Int)).toNat else min v.toNat n
theorem oq (n d k:Nat):sIx n d (some (k:Int))=min k n:=by show (if (k:Int)<0 then ((k:Int)+(n:Int)).toNat else min (k:Int).toNat n)=min k n;rw[if_neg (by omega),BE]
theorem xC (n d:Nat) (hd:d<=n) (o:Option Int):sIx n d o<=n:=by
 cases o with
 |none=>exact hd
 |some v =>
  show (if v<0 then (v+(n:Int)).toNat else min v.toNat n)<=n;by_cases hv:v<0
  ·rw[if_pos hv];omega
  ·rw[if_neg hv];exact Nat.min_le_right _ _
theorem ou (v:Int) (n d:Nat):(if v<0 then max (v+(n:Int)) 0 else min v (n:Int))=((sIx n d (some v):Nat):Int):=by
 show (if v<0 then max (v+(n:Int)) 0 else min v (n:Int))=(((if v<0 then (v+(n:Int)).toNat else min v.toNat n):Nat):Int)
 by_cases hv:v<0
 ·simp only[if_pos hv];omega
 ·simp only[if_neg hv];omega
theorem n5 (lo hi:Option Int) (n:Nat):Builtin.Slice.sliceAdjust lo hi 1 (n:Int)=(((sIx n 0 lo:Nat):Int),((sIx n n hi:Nat):Int)):=by
 have h1:¬ ((1:Int)<0):=by omega
 unfold Builtin.Slice.sliceAdjust;simp only[h1,if_false];refine Prod.ext ?_ ?_
 ·cases lo with
  |none=>rfl
  |some v=>exact ou v n 0
 ·cases hi with
  |none=>rfl
  |some v=>exact ou v n n
theorem nL (i j:Nat):Builtin.Slice.slicePlaces (i:Int) (j:Int) 1=j-i:=by
 unfold Builtin.Slice.slicePlaces;have h1:(1:Int)>0:=by omega
 simp only[h1,if_true,Int.ediv_one];split <;> omega
theorem iJ {v:Value} {o:Option Int} {Q:Option Int->Shared->Prop} (p:IsPart v o) (h:Q o s):wpAny (model prog w) A (Builtin.Slice.slicePartIndex v) Q E s:=by
 cases p with
 |none=>exact slicePart_none h
 |int i t=>exact slicePart_int h
theorem eK {sl:Addr} {c e:Value} {Q:Int×Int×Nat->Shared->Prop} (f:s.heap.IsSliceOf sl c e .none) (pl:IsPart c lo) (g:IsPart e hi)
  (h:Q (((sIx n 0 lo:Nat):Int),1,sIx n n hi-sIx n 0 lo) s):wpAny (model prog w) A (Builtin.Slice.sliceApplied (.ref sl) (pure (n:Int))) Q E s:=by
 obtain⟨os,a,hcs,b⟩:=id f;unfold Builtin.Slice.sliceApplied Builtin.Slice.sliceFields;refine wpAny_bind (wpAny_bind (wpAny_field a b (x:=c) rfl (wpAny_bind (wpAny_field a b (x:=e) rfl (wpAny_bind (wpAny_field a b (x:=.none) rfl (wpAny_pure ?_)))))));refine wpAny_bind (slicePart_none ?_);show wpAny _ _ (if ((1:Int)==0)=true then _ else _) _ _ s;rw[if_neg (by decide)];refine wpAny_bind (iJ pl (wpAny_bind (iJ g (wpAny_bind (wpAny_pure ?_)))));show wpAny _ _ (match Builtin.Slice.sliceAdjust lo hi 1 (n:Int) with|(lo,hi)=>pure (lo,(1:Int),Builtin.Slice.slicePlaces lo hi 1)) _ _ s;rw[n5 lo hi n];show wpAny _ _ (pure (((sIx n 0 lo:Nat):Int),(1:Int),Builtin.Slice.slicePlaces ((sIx n 0 lo:Nat):Int) ((sIx n n hi:Nat):Int) 1)) _ _ s;rw[nL];exact wpAny_pure h
theorem tF (xs:Array Value) (i k:Nat):((List.range k).filterMap λ(m:Nat)=>xs[((i:Int)+(m:Int)*1).toNat]?).toArray=((xs.toList.drop i).take k).toArray:=by
 have e:(λ(m:Nat)=>xs[((i:Int)+(m:Int)*1).toNat]?)=λm=>xs[i+m]?:=by
  funext m;have:((i:Int)+(m:Int)*1).toNat=i+m:=by omega
  rw[this]
 rw[e];have:=pick_run xs i k;rw[List.filterMap_map]at this;have e2:((λx=>xs[x]?)∘λx=>i+x)=λm=>xs[i+m]?:=rfl
 rw[e2]at this;rw[this]
theorem gd {t sl:Addr} {i j:Value} {Q:Value->Shared->Prop} (b:IsTup s.heap t items) (k:s.heap.IsSliceOf sl i j .none) (pl:IsPart i lo) (l:IsPart j hi)
  (hw:¬ (sIx items.size 0 lo=0/\sIx items.size items.size hi=items.size))
  (h:Q (.ref s.heap.objs.size) { s with heap:=s.heap.push { cls:=.type "tuple",data:=.seq ((items.toList.drop (sIx items.size 0 lo)).take (sIx items.size items.size hi-sIx items.size 0 lo)).toArray } })
  (hsz:items.size<=sizeLine):wpAny (model prog w) A (getItem (.ref t) (.ref sl)) Q E s:=by
 have a:sizeOk (.seq ((items.toList.drop (sIx items.size 0 lo)).take (sIx items.size items.size hi-sIx items.size 0 lo)).toArray):=by show ((items.toList.drop (sIx items.size 0 lo)).take (sIx items.size items.size hi-sIx items.size 0 lo)).toArray.size<=sizeLine;rw[B4,BA,BK,C5];omega
 have hj:sIx items.size items.size hi<=items.size:=xC _ _ (B0 _) hi;obtain⟨os,c,e,hds⟩:=id k;have f:s.TypeIs (.ref sl) "slice":=⟨os,c,e⟩
 unfold getItem
 try with_reducible refine wpAny_holding ?_
 first|refine wpAny_bind (wpAny_pure ?_)|skip
 refine wpAny_bind (wpAny_sequenceKey b.typeIs (by decide) ?_);refine wpAny_bind (wpAny_callSpecial?_slot (name:=Str.ofString "__getitem__") b.typeIs PyProof.Rows.slot_tuple_getitem
  (wpAny_call_entry PyProof.Rows.slot_tuple_getitem b.typeIs entry_tuple_getitem ?_ (args_tuple_getitem _ _)))
 show wpAny _ _ (Builtin.Tuple.tupleItemsOf (.ref t) >>= _) _ _ s;refine wpAny_bind (tupleItemsOf_ b ?_);refine wpAny_bind (wpAny_typeOf f ?_);rw[if_pos (by decide)];refine wpAny_bind (eK k pl l ?_);have g:¬ ((((sIx items.size 0 lo:Nat):Int)==0&&(1:Int)==1&&(sIx items.size items.size hi-sIx items.size 0 lo)==items.size)=true):=by intro q;rw[B3,B3]at q;have q1:((sIx items.size 0 lo:Nat):Int)=0:=eq_of_beq q.1.1;have q2:sIx items.size items.size hi-sIx items.size 0 lo=items.size:=eq_of_beq q.2;exact hw ⟨by omega,by omega⟩
 show wpAny _ _ (if (((sIx items.size 0 lo:Nat):Int)==0&&(1:Int)==1&&(sIx items.size items.size hi-sIx items.size 0 lo)==items.size)=true then _ else _) _ _ s;rw[if_neg g,tF]
 first
  |exact wpAny_bind (m:=Builtin.Tuple.tupleExact _) (wpAny_newObj_type (wpAny_pure ⟨_,rfl,wpAny_pure h⟩) a)
  |exact wpAny_bind (m:=Builtin.Tuple.tupleExact _) (wpAny_newObj_type (wpAny_bind (wpAny_pure (wpAny_pure ⟨_,rfl,wpAny_pure h⟩))) a)
  |exact wpAny_bind (wpAny_bind (m:=Builtin.Tuple.tupleExact _) (wpAny_newObj_type (wpAny_pure (wpAny_pure ⟨_,rfl,wpAny_pure h⟩)) a))
  |exact wpAny_bind (wpAny_bind (m:=Builtin.Tuple.tupleExact _) (wpAny_newObj_type (wpAny_pure ⟨_,rfl,wpAny_pure h⟩) a))
end
end HT
namespace L2
open PySem PySem.Spec PyProof.Rows
variable {a:List Value}
abbrev TO:=St->Hp->(Option Int->Hp->Prop)->Prop
def PO (X:Cx) (e:Option Expr) (t:TO):Prop :=
 ∀(pins:List (Addr×Obj)) (s:Shared) (σ:St) (H:Hp) (Q:Option Int->Hp->Prop),Inv X pins σ H s->t σ H Q ->
  wpAny (model X.prog X.w) X.A (evalPart e X.env) (λu s'=>∃o H',Inv X pins σ H' s'/\IsPart u o/\Q o H') X.xe s
def u6:TO:=λ_ H Q=>Q none H
def yB (t:TE):TO:=λσ H Q=>t σ H λx H1=>∃i,x=.int i/\Q (some i) H1
section
variable {lo hi:Option Expr} {tl th:TO}
theorem tY:PO X none u6:=by intro pins s σ H Q I h;rw[evalPart_none];exact wpAny_pure ⟨none,H,I,.none,h⟩
theorem uc (h:PE X e te):PO X (some e) (yB te):=by
 intro pins s σ H Q I hw;rw[evalPart_some];refine thn (h pins s σ H _ I hw) λu s1 a=>?_
 obtain⟨x,H1,b,c,f⟩:=a;obtain⟨i,rfl,q⟩:=f;obtain⟨t,rfl⟩:=c;exact⟨some i,H1,b,.int i t,q⟩
def SlR (X:Cx) (r:V->Option Int->Option Int->Hp->VK->Prop):Prop :=
 ∀(pins:List (Addr×Obj)) (s:Shared) (σ:St) (H:Hp) (x:V) (v a b:Value) (lo hi:Option Int) (sl:Addr) (Q:VK),Inv X pins σ H s->RelV x v->s.heap.IsSliceOf sl a b .none->IsPart a lo->IsPart b hi->r x lo hi H Q ->
  ∃T id,typeLookup (.type T) "__getitem__"=pure (some (.builtin id))/\s.TypeIs v T/\wpAny (model X.prog X.w) X.A (getItem v (.ref sl)) (EP X pins σ Q) X.xe s
theorem SlR.or {a:V->Option Int->Option Int->Hp->VK->Prop} (h:SlR X r) (h':SlR X a):SlR X (λx lo hi H Q=>r x lo hi H Q\/a x lo hi H Q):=by
 intro pins s σ H x v b c lo hi sl Q I e f pl g q;rcases q with q|q
 ·exact h pins s σ H x v b c lo hi sl Q I e f pl g q
 ·exact h' pins s σ H x v b c lo hi sl Q I e f pl g q
def tSl (r:V->Option Int->Option Int->Hp->VK->Prop) (te:TE) (tl th:TO):TE:=λσ H Q=>te σ H λx H1=>tl σ H1 λl H2=>th σ H2 λu a=>r x l u a Q
theorem lL (j:SlR X r) (k:PE X e te) (hl:PO X lo tl) (m:PO X hi th):PE X (.Subscript e (.Slice lo hi none p2) pos) (tSl r te tl th):=by
 intro pins s σ H Q I h;refine Subscript_ (thn (k pins s σ H _ I h) λv n a=>?_);obtain⟨x,H1,o,p,t⟩:=a;refine wpAny_Slice (thn (hl pins n σ H1 _ o t) λf s2 a=>?_);obtain⟨l,H2,y,pl,z⟩:=a;refine thn (m pins s2 σ H2 _ y z) λg c a=>?_
 obtain⟨u,i,B,C,D⟩:=a;rw[evalPart_none];refine wpAny_pure ?_;have E:Inv X pins σ i { c with heap:=c.heap.push { cls:=.type "slice",data:=.fields #[f,g,.none] } }:=B.kept (t':=c.toks) λb ob q=>A7 _ q
 obtain⟨T,id,F,G,J⟩:=j pins { c with heap:=c.heap.push { cls:=.type "slice",data:=.fields #[f,g,.none] } } σ i x v f g l u c.heap.objs.size Q E p (Heap.IsSliceOf.new ..) pl C D;show wpAny (model X.prog X.w) X.A (subscriptTail e (.Slice lo hi none p2) v (.ref c.heap.objs.size)) (EP X pins σ Q) X.xe { c with heap:=c.heap.push { cls:=.type "slice",data:=.fields #[f,g,.none] } };exact tail_any (ops:=[.ref c.heap.objs.size,v]) G F J (by with_unfolding_all rfl)
def lZ (xs:List V) (lo hi:Option Int):List V:=(xs.drop (HT.sIx xs.length 0 lo)).take (HT.sIx xs.length xs.length hi-HT.sIx xs.length 0 lo)
theorem g9 (xs:List V) (lo hi:Option Int):(lZ xs lo hi).length<=xs.length:=by unfold lZ;rw[BA,BK];omega
def An (K:PySem.W.Frag):V->Option Int->Option Int->Hp->VK->Prop:=λx lo hi H Q=>∃a xs,x=.ref a/\SqT K H a xs /\
 ¬ (HT.sIx xs.length 0 lo=0/\HT.sIx xs.length xs.length hi=xs.length)/\∀p,H p=none->Q (.ref p) (upd H p (.tup (lZ xs lo hi)))
theorem xm:SlR X (An X.K):=by
 intro pins s σ H x v vl vu lo hi sl Q I g i pl j h;obtain⟨a,xs,rfl,k,hw,q⟩:=h;cases g;obtain⟨c,r,e,f⟩:=I.tuple k;have hlen:c.toArray.size=xs.length:=by rw[B4];exact r.length.symm
 refine⟨"tuple",_,PyProof.Rows.slot_tuple_getitem.lookup,e.typeIs,?_⟩;refine HT.gd e i pl j (by rw[hlen];exact hw) ?_ (by rw[hlen];exact f);rw[hlen];refine⟨.ref s.heap.objs.size,_,I.laid (t':=s.toks) (o:=.tup (lZ xs lo hi)) (λb ob q=>A7 _ q) (B0 _) ?_,rfl,q _ (I.hok.fresh (B0 _))⟩;exact⟨Bj (g9 xs lo hi) f,_,(r.drop (HT.sIx xs.length 0 lo)).take (HT.sIx xs.length xs.length hi-HT.sIx xs.length 0 lo),kl.new _ _⟩
def yK (K:PySem.W.Frag):R2:=λx y H Q=>∃a b xs ys,x=.ref a/\y=.ref b/\SqT K H a xs/\SqT K H b ys/\xs≠[]/\xs.length+ys.length<=sizeLine /\
 (ys=[]->Q (.ref a) H)/\(ys≠[]->∀p,H p=none->Q (.ref p) (upd H p (.tup (xs++ys))))
theorem Vals.nil_iff (r:Vals xs us):us=[]↔xs=[]:=by
 cases r with
 |nil=>simp
 |cons _ _=>simp
theorem vj:OpR X (binaryOp .Add) (yK X.K):=by intro pins s σ H x y v u Q I g i h;obtain⟨a,b,xs,ys,rfl,rfl,ha,j,k,f,l,m⟩:=h;cases g;cases i;obtain⟨its,e,p1,_⟩:=I.tuple ha;obtain⟨its2,c,p2,_⟩:=I.tuple j;refine HT.uh p1 p2 (λz=>k (e.nil_iff.mp z)) (λz=>⟨.ref a,H,I,rfl,l (c.nil_iff.mp z)⟩) (λz=>?_) (by rw[<-e.length,<-c.length];exact f);refine⟨.ref s.heap.objs.size,_,I.laid (t':=s.toks) (o:=.tup (xs++ys)) (λb ob q=>A7 _ q) (B0 _) ?_,rfl,m (λw=>z (c.nil_iff.mpr w)) _ (I.hok.fresh (B0 _))⟩;exact⟨by rw[B1];exact f,_,e.append c,kl.new _ _⟩
end
def ixN (n:Nat) (i:Int):Option Nat:=if 0<=i then (if i<n then some i.toNat else none) else if -(n:Int)<=i then some (i+n).toNat else none
def atI {α:Type} (xs:List α) (i:Int):Option α:=(ixN xs.length i).bind λj=>xs[j]?
theorem oB {i:Int} (h:ixN n i=some j):seqIndex? i n=some j/\j<n/\-(n:Int)<=i/\i<n:=by
 unfold ixN at h;by_cases h0:0<=i
 ·rw[if_pos h0]at h;by_cases h1:i<n
  ·rw[if_pos h1]at h;have e:i.toNat=j:=Option.some.inj h;exact⟨by rw[seqIndex_of h0 h1,e],by omega,by omega,h1⟩
  ·rw[if_neg h1]at h;cases h
 ·rw[if_neg h0]at h;by_cases h1:-(n:Int)<=i
  ·rw[if_pos h1]at h;have e:(i+n).toNat=j:=Option.some.inj h;exact⟨by rw[seqIndex_neg (by omega) h1,e],by omega,h1,by omega⟩
  ·rw[if_neg h1]at h;cases h
theorem kN {xs:List α} {i:Int} {v:α} (h:atI xs i=some v):∃j,seqIndex? i xs.length=some j/\xs[j]?=some v/\j<xs.length/\-(xs.length:Int)<=i/\i<xs.length:=by
 unfold atI at h;cases e:ixN xs.length i with
 |none=>rw[e]at h;cases h
 |some j =>rw[e]at h;obtain⟨h1,h2,a,b⟩:=oB e;exact⟨j,h1,h,h2,a,b⟩
theorem kK {xs:List α} {v:α} (h:xs[j]?=some v):atI xs (j:Int)=some v:=by
 have hj:j<xs.length:=(Bw.mp h).1;have e:ixN xs.length (j:Int)=some j:=by unfold ixN;rw[if_pos (by omega),if_pos (by omega)];simp
 unfold atI;rw[e];exact h
def kq (b:Expr):Prop:=∀o i,subscripted b false o i=operate [o,i] (getItem o i)
def IxR (X:Cx) (r:R2):Prop :=
 ∀(value slice:Expr) (pins:List (Addr×Obj)) (s:Shared) (σ:St) (H:Hp) (x y:V) (v u:Value) (Q:VK),Inv X pins σ H s->RelV x v->RelV y u->r x y H Q ->
  subscripted slice false v u=operate [v,u] (getItem v u)->wpAny (model X.prog X.w) X.A (subscriptTail value slice v u) (EP X pins σ Q) X.xe s
def MtR (X:Cx) (id:String) (r:V->List V->Hp->VK->Prop):Prop :=
 ∀(pins:List (Addr×Obj)) (s:Shared) (σ:St) (H:Hp) (x:V) (xs:List V) (v:Value) (us:List Value) (Q:VK),Inv X pins σ H s->RelV x v->Vals xs us->r x xs H Q ->
  wpAny (model X.prog X.w) X.A (call (.builtin id) (v::us)) (EP X pins σ Q) X.xe s
section
variable {a b:Expr} {ta tb:TE}
theorem IxR.or {r a:R2} (h:IxR X r) (h':IxR X a):IxR X (λx y H Q=>r x y H Q\/a x y H Q):=by
 intro value slice pins s σ H x y v u Q I b c q e;rcases q with q|q
 ·exact h value slice pins s σ H x y v u Q I b c q e
 ·exact h' value slice pins s σ H x y v u Q I b c q e
theorem oA {r:R2} (c:IxR X r) (ha:PE X a ta) (e:PE X b tb) (f:kq b):PE X (.Subscript a b pos) (tOp r ta tb):=by intro pins s σ H Q I h;exact Subscript_ (wL ha e I h λv u s2 x y H2 g i j q=>c a b pins s2 σ H2 x y v u Q g i j q (f _ _))
def xq (K:PySem.W.Frag):R2:=λx y H Q=>∃p xs i v,x=.ref p/\y=.int i/\SqL K H p xs/\atI xs i=some v/\Q v H
def xU (K:PySem.W.Frag):R2:=λx y H Q=>∃p xs i v,x=.ref p/\y=.int i/\SqT K H p xs/\atI xs i=some v/\Q v H
def zN:R2:=λx y H Q=>∃z i c,x=.str z/\y=.int i/\z.length<=sizeLine/\atI z.cps.toList i=some c/\Q (.str ⟨#[c]⟩) H
theorem ix:IxR X (xq X.K):=by
 intro value slice pins s σ H x y v u Q I g k h e;obtain⟨p,xs,i,z,rfl,rfl,l,m,q⟩:=h;cases g;obtain⟨t,rfl⟩:=k;obtain⟨a,r,pl,hz⟩:=I.list l;obtain⟨j,h1,h2,h3,n,o⟩:=kN m;obtain⟨w,f,b⟩:=r.get h2;have hl:=r.length;have hn:=gB;have fin:EP X pins σ Q w s:=⟨z,H,I,b,q⟩
 by_cases h0:0<=i
 ·have c:i.toNat=j:=by rw[seqIndex_of h0 o]at h1;exact Option.some.inj h1
  exact item_listR pl.isList h0 (by omega) (by rw[c];simpa using f) fin e
 ·have c:(i+(a.toArray.size:Int)).toNat=j:=by rw[seqIndex_neg (by omega) n]at h1;rw[B4,<-hl];exact Option.some.inj h1
  exact subscriptTail_builtinR (x:=w) pl.isList.typeIs slot_list_getitem.lookup
   (wpAny_getItem_list_neg (Q:=λr s'=>r=w/\EP X pins σ Q r s') pl.isList (by omega) (by rw[B4] <;> omega) (by omega) (by rw[c];simpa using f) ⟨rfl,fin⟩) e
theorem qw:IxR X (xU X.K):=by
 intro value slice pins s σ H x y v u Q I b c h e;obtain⟨p,xs,i,z,rfl,rfl,f,g,q⟩:=h;cases b;obtain⟨t,rfl⟩:=c;obtain⟨its,r,pl,hz⟩:=I.tuple f;obtain⟨j,h1,h2,h3,h4,h5⟩:=kN g;obtain⟨w,k,a⟩:=r.get h2;have hl:=r.length;have hn:=gB;have fin:EP X pins σ Q w s:=⟨z,H,I,a,q⟩
 exact subscriptTail_builtinR (x:=w) pl.typeIs slot_tuple_getitem.lookup
  (getItem_tuple (j:=j) (Q:=λr s'=>r=w/\EP X pins σ Q r s') pl (by omega) (by omega) (by rw[B4,<-hl];exact h1) (by simpa using k) ⟨rfl,fin⟩) e
theorem wK:IxR X zN:=by
 intro value slice pins s σ H x y v u Q I a b h e;obtain⟨z,i,c,rfl,rfl,hz,f,q⟩:=h;obtain⟨t,rfl⟩:=a;obtain⟨t',rfl⟩:=b;obtain⟨j,h1,h2,h3,g,k⟩:=kN f;have hl:z.cps.toList.length=z.length:=by simp[Str.length]
 rw[hl]at h1 g k;have hn:=gB;exact tail_any (typeIs_str s z t) slot_str_getitem.lookup (getItem_str (c:=c) (by have e1:decide (i < -(2 ^ 63:Int))=false:=decide_eq_false (by omega);have e2:decide (i≥2 ^ 63)=false:=decide_eq_false (by omega);rw[e1,e2,Bool.or_false]) (by rw[h1];simpa using h2) ⟨.str ⟨#[c]⟩,H,I.tok _,⟨_,rfl⟩,q⟩) e
theorem mU (a:List Value) (n j:Nat) (u:Value):Obj.mapSeq (·.setIfInBounds j u) { cls:=.type "list",data:=.seq a.toArray n }={ cls:=.type "list",data:=.seq (a.set j u).toArray n }:=by simp[Obj.mapSeq]
theorem Inv.lst {p:Addr} (I:Inv X pins σ H s) (h:H p=some (.lst xs)) :
  ∃(a:List Value) (n:Nat),Vals xs a/\s.heap.get? p=some { cls:=.type "list",data:=.seq a.toArray n }/\xs.length<=sizeLine:=by
 obtain⟨z,a,n,r,e⟩:=I.hok p _ h;exact⟨a,n,r,e,z⟩
theorem Inv.lstUpd {p:Addr} {ys:List V} {a:List Value} {n':Nat} {f:Obj->Obj} (I:Inv X pins σ H s) (h:H p=some (.lst xs))
  (g:s.heap.get? p=some { cls:=.type "list",data:=.seq a.toArray n }) (c:f { cls:=.type "list",data:=.seq a.toArray n }={ cls:=.type "list",data:=.seq its'.toArray n' }) (r:Vals ys its') (i:ys.length<=sizeLine) (t:Nat) :
  Inv X pins σ (upd H p (.lst ys)) { s with heap:=s.heap.update p f,toks:=t }:=by
 have e:(s.heap.update p f).get? p=some { cls:=.type "list",data:=.seq its'.toArray n' }:=by rw[Bl f g (by rw[c] <;> rfl),c]
 refine I.write (x:=p) (e:=p) (by rw[h];trivial) (.inl rfl) (λb u j q=>(B9 _ _ (Ne.symm j)).trans q) ⟨_,e⟩ ?_;exact⟨i,its',n',r,e⟩
def yP:V->V->V->Hp->(Hp->Prop)->Prop:=λo i v H Q=>∃p xs k j,o=.ref p/\i=.int k/\H p=some (.lst xs)/\ixN xs.length k=some j/\Q (upd H p (.lst (xs.set j v)))
theorem set_list:zE X yP:=by
 intro pins s σ H o i v ov iv u Q I m w x h;obtain⟨p,xs,k,j,rfl,rfl,e,y,q⟩:=h;cases m;obtain⟨t,rfl⟩:=w;obtain⟨a,n,r,b,z⟩:=I.lst e;obtain⟨h1,h2,f,g⟩:=oB y;have hl:=r.length;have hn:=gB;have l:Inv X pins σ (upd H p (.lst (xs.set j v))) { s with heap:=s.heap.update p (Obj.mapSeq (·.setIfInBounds j u)) } :=
  I.lstUpd e b (mU a n j u) (r.set x j) (by rw[C3];exact z) s.toks
 by_cases h0:0<=k
 ·have c:k.toNat=j:=by rw[seqIndex_of h0 g]at h1;exact Option.some.inj h1
  exact PySem.W.ki_setAt b h0 (by omega) (by rw[B4,<-hl];exact g) (by rw[c];exact⟨_,l,q⟩)
 ·have c:(k+(a.toArray.size:Int)).toNat=j:=by rw[seqIndex_neg (by omega) f]at h1;rw[B4,<-hl];exact Option.some.inj h1
  exact PySem.W.ki_setBack b (by omega) (by rw[B4,<-hl];exact f) (by omega) (by rw[c];exact⟨_,l,q⟩)
theorem kD (lo hi:Option Int) (n:Nat):(sliceBounds lo hi none n).1=((HT.sIx n 0 lo:Nat):Int)/\(sliceBounds lo hi none n).2.1=((HT.sIx n n hi:Nat):Int)/\(sliceBounds lo hi none n).2.2=1:=by
 refine⟨?_,?_,rfl⟩
 ·cases lo with
  |none=>simp[sliceBounds,HT.sIx]
  |some i =>
   simp only[sliceBounds,HT.sIx,Option.getD_none,show (1:Int)>0 by decide,if_true];by_cases h:i<0
   ·simp only[h,if_true] <;> omega
   ·simp only[h,if_false] <;> omega
 ·cases hi with
  |none=>simp[sliceBounds,HT.sIx]
  |some i =>
   simp only[sliceBounds,HT.sIx,Option.getD_none,show (1:Int)>0 by decide,if_true];by_cases h:i<0
   ·simp only[h,if_true] <;> omega
   ·simp only[h,if_false] <;> omega
theorem jK (a:List Value) (lo hi:Option Int):slicePick a.toArray lo hi none=((a.drop (HT.sIx a.length 0 lo)).take (HT.sIx a.length a.length hi-HT.sIx a.length 0 lo)).toArray:=by obtain⟨h1,h2,b⟩:=kD lo hi a.toArray.size;unfold slicePick;rw[h1,h2,b];simp only[sliceRange_one,pick_run,B4] <;> rfl
def Ad (K:PySem.W.Frag):V->Option Int->Option Int->Hp->VK->Prop:=λx lo hi H Q=>∃a xs,x=.ref a/\SqL K H a xs/\∀p,H p=none->Q (.ref p) (upd H p (.lst (lZ xs lo hi)))
theorem uq:SlR X (Ad X.K):=by intro pins s σ H x v vl vu lo hi sl Q I e f pl g h;obtain⟨a,xs,rfl,i,q⟩:=h;cases e;obtain⟨its,r,c,j⟩:=I.list i;have hlen:=r.length;refine⟨"list",_,slot_list_getitem.lookup,c.isList.typeIs,?_⟩;refine wpAny_getItem_list_slice c.isList f pl g .none (by simp) ?_ (by rw[B4] <;> omega);rw[jK,<-hlen];refine⟨.ref s.heap.objs.size,_,I.laid (t':=s.toks) (o:=.lst (lZ xs lo hi)) (λb ob q=>A7 _ q) (B0 _) ?_,rfl,q _ (I.hok.fresh (B0 _))⟩;exact⟨Bj (g9 xs lo hi) j,_,0,(r.drop (HT.sIx xs.length 0 lo)).take (HT.sIx xs.length xs.length hi-HT.sIx xs.length 0 lo),Ba _ rfl⟩
def e6:V->Bool
 |.non=>true
 |.bl _=>true
 |.int _=>true
 |.str _=>true
 |_=>false
def eqV:V->V->Bool
 |.non,.non=>true
 |.bl a,.bl b=>a==b
 |.bl a,.int b=>(if a then 1 else 0)==b
 |.int a,.bl b=>a==(if b then 1 else 0)
 |.int a,.int b=>a==b
 |.str a,.str b=>a==b
 |_,_=>false
theorem wZ {A:Around} {y x:V} {v:Value} (e:RelV y u) (c:RelV x v) (g:e6 y=true) (f:e6 x=true):SeqAt.EqAt A s u v (eqV y x):=by
 cases y with
 |non =>
  cases e;cases x with
  |non=>cases c;exact SeqAt.EqAt.same _
  |bl b=>cases c;exact SeqAt.EqAt.none_bool b
  |int b=>obtain⟨t,rfl⟩:=c;exact SeqAt.EqAt.none_int b t
  |str b=>obtain⟨t,rfl⟩:=c;exact SeqAt.EqAt.none_str b t
  |_=>exact absurd (show false=true from f) Bq
 |bl a =>
  cases e;cases x with
  |non=>cases c;exact SeqAt.EqAt.bool_none a
  |bl b=>cases c;exact SeqAt.EqAt.bool_bool a b
  |int b=>obtain⟨t,rfl⟩:=c;exact SeqAt.EqAt.bool_int a b t
  |str b=>obtain⟨t,rfl⟩:=c;exact SeqAt.EqAt.bool_str a b t
  |_=>exact absurd (show false=true from f) Bq
 |int a =>
  obtain⟨t',rfl⟩:=e;cases x with
  |non=>cases c;exact SeqAt.EqAt.int_none a t'
  |bl b=>cases c;exact SeqAt.EqAt.int_bool a t' b
  |int b=>obtain⟨t,rfl⟩:=c;exact SeqAt.EqAt.int_int a t' b t
  |str b=>obtain⟨t,rfl⟩:=c;exact SeqAt.EqAt.int_str a t' b t
  |_=>exact absurd (show false=true from f) Bq
 |str a =>
  obtain⟨t',rfl⟩:=e;cases x with
  |non=>cases c;exact SeqAt.EqAt.str_none a t'
  |bl b=>cases c;exact SeqAt.EqAt.str_bool a t' b
  |int b=>obtain⟨t,rfl⟩:=c;exact SeqAt.EqAt.str_int a t' b t
  |str b=>obtain⟨t,rfl⟩:=c;exact SeqAt.EqAt.str_str a t' b t
  |_=>exact absurd (show false=true from f) Bq
 |_=>exact absurd (show false=true from g) Bq
def eqU (x:V) (u:Value):Bool:=match u with
 |.none=>eqV .non x
 |.bool b=>eqV (.bl b) x
 |.int i _=>eqV (.int i) x
 |.str z _=>eqV (.str z) x
 |_=>false
theorem nv {x y:V} (r:RelV y u) (f:e6 y=true):eqU x u=eqV y x:=by
 cases y with
 |non=>cases r;rfl
 |bl b=>cases r;rfl
 |int i=>obtain⟨t,rfl⟩:=r;rfl
 |str z=>obtain⟨t,rfl⟩:=r;rfl
 |_=>exact absurd (show false=true from f) Bq
theorem kS {x:V}:∀{xs:List V} {us:List Value},Vals xs us->xs.all e6=true->us.any (eqU x)=xs.any λy=>eqV y x
 |_,_,.nil,_=>rfl
 |y::xs,u::us,.cons r t,f=>by rw[C7,B3]at f;rw[List.any_cons,List.any_cons,nv r f.1,kS t f.2]
theorem fW {A:Around} {s:Shared} {x:V} {v:Value} (b:RelV x v) (c:e6 x=true):∀{xs:List V} {us:List Value},Vals xs us->xs.all e6=true->∀u∈us,SeqAt.EqAt A s u v (eqU x u)
 |_,_,.nil,_=>λu a=>by cases a
 |y::xs,u::us,.cons r t,f=>λe a=>by
  rw[C7,B3]at f;rcases List.mem_cons.mp a with rfl|a
  ·rw[nv r f.1];exact wZ r b f.1 c
  ·exact fW b c t f.2 e a
def inV (x:V) (xs:List V):Bool:=xs.any λy=>eqV y x
def rIn (K:PySem.W.Frag) (neg:Bool):R2:=λx y H Q=>∃p xs,y=.ref p/\(SqL K H p xs\/SqT K H p xs)/\e6 x=true/\xs.all e6=true/\Q (.bl (if neg then !inV x xs else inV x xs)) H
theorem ku:OpR X (compareOp .NotIn) (rIn X.K true):=by
 intro pins s σ H x y v u Q I c f h;obtain⟨p,xs,rfl,b,e,fs,q⟩:=h;cases f;rcases b with b|b
 ·obtain⟨a,r,pl,g⟩:=I.list b;refine SeqAt.notIn_listAt (eqU x) pl.isList (λw hw=>fW c e r fs w (by simpa using hw)) ⟨.bl _,H,I,rfl,?_⟩;rw[show a.toArray.any (eqU x)=a.any (eqU x) by simp,kS r fs];exact q
 ·obtain⟨a,r,pl,g⟩:=I.tuple b;refine SeqAt.notIn_tupleAt (eqU x) pl (λw hw=>fW c e r fs w (by simpa using hw)) ⟨.bl _,H,I,rfl,?_⟩;rw[show a.toArray.any (eqU x)=a.any (eqU x) by simp,kS r fs];exact q
theorem eW:d7 X (.builtin "len") (λxs H Q=>∃p ys,xs=[.ref p]/\(SqL X.K H p ys\/SqT X.K H p ys)/\Q (.int ys.length) H):=by
 intro pins s σ H xs us Q I r h;obtain⟨p,ys,rfl,a,q⟩:=h;obtain⟨u,rfl,e⟩:=vals1 r;cases e;have hn:=gB;rcases a with a|a
 ·obtain⟨b,c,pl,f⟩:=I.list a;have hlen:=c.length;exact Calls.call_len_list pl.isList (by simp only[B4] <;> omega) ⟨.int ys.length,H,I.tok _,⟨s.toks+1,by rw[B4,hlen]⟩,q⟩
 ·obtain⟨b,c,pl,f⟩:=I.tuple a;have hlen:=c.length;exact len_tuple pl (by simp only[B4] <;> omega) ⟨.int ys.length,H,I.tok _,⟨s.toks+1,by rw[B4,hlen]⟩,q⟩
theorem kM:d7 X (.builtin "len") (λxs H Q=>∃z,xs=[.str z]/\z.length<=sizeLine/\Q (.int z.length) H):=by intro pins s σ H xs us Q I r h;obtain⟨z,rfl,hz,q⟩:=h;obtain⟨u,rfl,t,rfl⟩:=vals1 r;have hn:=gB;exact len_str (by omega) ⟨.int z.length,H,I.tok _,⟨_,rfl⟩,q⟩
theorem jJ:d7 X (.type "tuple") (λxs H Q=>∃p ys,xs=[.ref p]/\((SqL X.K H p ys/\∀l,H l=none->Q (.ref l) (upd H l (.tup ys)))\/(SqT X.K H p ys/\Q (.ref p) H))):=by
 intro pins s σ H xs us Q I r h;obtain⟨p,ys,rfl,h⟩:=h;obtain⟨u,rfl,j⟩:=vals1 r;cases j;rcases h with⟨c,q⟩|⟨c,q⟩
 ·obtain⟨a,f,pl,g⟩:=I.list c;have hlen:=f.length;refine call_tuple_list pl.isList (λh' kp=>?_) (by simp only[B4] <;> omega);have i:Inv X pins σ H { s with heap:=h' }:=I.kept (t':=s.toks) kp;have k:Inv X pins σ (upd H h'.objs.size (.tup ys)) { s with heap:=h'.push { cls:=.type "tuple",data:=.seq a.toArray } } :=
   i.laid (t':=s.toks) (λb o e=>A7 _ e) (B0 _) (show dk X.prog X.w _ _ _ (.tup ys) from⟨g,a,f,kl.new _ _⟩)
  exact⟨.ref h'.objs.size,_,k,rfl,q _ (i.hok.fresh (B0 _))⟩
 ·obtain⟨a,f,pl,g⟩:=I.tuple c;exact call_tuple_same pl ⟨.ref p,H,I,rfl,q⟩
def tyV (K:PySem.W.Frag) (T:String) (x:V) (H:Hp):Prop:=match x with
 |.str _=>T="str"
 |.int _=>T="int"
 |.ref p=>(T="list"/\∃xs,SqL K H p xs)\/(T="tuple"/\∃o,K.lookup p=some o/\o.cls=.type "tuple"/\o.dict=none) \/
  (T="dict"/\((∃kvs,H p=some (.dK kvs))\/∃kvs,H p=some (.dT kvs)))\/(T="set"/\∃S n,H p=some (.set S n))
 |_=>False
theorem wq {T:String} {x:V} {v:Value} (I:Inv X pins σ H s) (r:RelV x v) (f:tyV X.K T x H) :
  s.TypeIs v T/\∀a,v=.ref a->∃ob,s.heap.get? a=some ob/\ob.dict=none:=by
 cases x with
 |str z =>obtain⟨t,rfl⟩:=r;cases (show T="str" from f);exact⟨typeIs_str s z t,λ_ e=>nomatch e⟩
 |int i =>obtain⟨t,rfl⟩:=r;cases (show T="int" from f);exact⟨typeIs_int s i t,λ_ e=>nomatch e⟩
 |ref p =>
  cases r;rcases f with⟨rfl,xs,g⟩|⟨rfl,o,b,hc,hd⟩|⟨rfl,b⟩|⟨rfl,S,n,b⟩
  ·obtain⟨its,_,pl,_⟩:=I.list g;refine⟨pl.isList.typeIs,λa e=>?_⟩;cases e;obtain⟨o,n,e,c,hd,_⟩:=pl;exact⟨o,e,hd⟩
  ·refine⟨⟨o,I.kIn p o b,hc⟩,λa e=>?_⟩;cases e;exact⟨o,I.kIn _ o b,hd⟩
  ·have z:∃o,s.heap.get? p=some o/\o.ExactDict:=by
    rcases b with⟨kvs,b⟩|⟨kvs,b⟩
    ·obtain⟨_,_,_,_,o,_,_,e,ex,_⟩:=I.hok p _ b;exact⟨o,e,ex⟩
    ·obtain⟨_,_,_,_,o,_,_,e,ex,_⟩:=I.hok p _ b;exact⟨o,e,ex⟩
   obtain⟨o,e,ex⟩:=z;refine⟨⟨o,e,ex.1⟩,λa e2=>?_⟩;cases e2;exact⟨o,e,ex.2.1⟩
  ·obtain⟨o,_,_,_,e,ex,_⟩:=I.hok p _ b;refine⟨⟨o,e,ex.1⟩,λa e2=>?_⟩;cases e2;exact⟨o,e,ex.2.1⟩
 |_=>exact False.elim f
def tBM (K:PySem.W.Frag) (T:String) (r:V->List V->Hp->VK->Prop) (to:TE) (t:TA):TE:=λσ H Q=>to σ H λx H1=>tyV K T x H1/\t σ H1 λxs H2=>r x xs H2 Q
variable {o:Expr} {to:TE} {t:TA} {name:Str} {T id:String} {r:V->List V->Hp->VK->Prop}
theorem v7 (n:PlainAttrs T) (slot:Slot T name id) (g:typeOf (.builtin id)=pure (.type "method_descriptor")) (hm:MtR X id r) (p:PE X o to) (ha:PA X (e::es) t)
  (b:attributeBase o name X.env (eval o X.env)=eval o X.env:=by rfl)
  (f:((backTo cpos (starEach (e::es) X.env)).all (λx=>!x.1)&&(backToKw cpos (keywordEach [] X.env)).all (λx=>x.1.isSome)
  &&decide ((e::es).length+([]:List Keyword).length+(if ([]:List Keyword).isEmpty then 0 else 1)<30))=true:=by rfl)
  (c:(apos.endLine==cpos.line)=true:=by rfl) (q:starEach (e::es) X.env=(false,eval e X.env)::starEach es X.env:=by rfl) (a:(backTo cpos (starEach es X.env)).any (·.1)=false:=by rfl) :
  PE X (.Call (.Attribute o name apos) (e::es) [] cpos) (tBM X.K T r to t):=by
 intro pins s σ H Q I h;refine wpAny_Call_method_late b f c rfl (thn (p pins s σ H _ I h) λv u i=>?_);obtain⟨x,H1,k,l,w,y⟩:=i;obtain⟨h1,h2⟩:=wq k l w;refine⟨T,id,n,slot,g,h1,h2,?_⟩;have m:=ha cpos pins u σ H1 _ k y;rw[q]at m ⊢;refine Calls.callWith_builtin (by show (false||(backTo cpos (starEach es X.env)).any (·.1))=false;rw[a] <;> rfl) (Calls.evalArgs_plain ?_);exact thn m λus s2 j=>(by obtain⟨vs,H2,z,A,B⟩:=j;exact hm pins s2 σ H2 x vs v us Q z l A B)
end
def MtM (X:Cx) (id:String) (r:V->List V->Hp->VK->Prop):Prop :=
 ∀(pins:List (Addr×Obj)) (s:Shared) (σ:St) (H:Hp) (x:V) (xs:List V) (v:Value) (us:List Value) (Q:VK),Inv X pins σ H s->RelV x v->Vals xs us->r x xs H Q ->
  wpAny (model X.prog X.w) X.A (call (.builtin id) (v::us)) (EP X pins σ Q) X.xe s
theorem Vals.one {x:V} (h:Vals [x] us):∃u,us=[u]/\RelV x u:=by
 cases h with
 |cons r t=>cases t;exact⟨_,rfl,r⟩
theorem Vals.rep {xs:List V} {us:List Value} (h:Vals xs us):∀k:Nat,Vals (List.replicate k xs).flatten (List.replicate k us).flatten
 |0=>.nil
 |k+1=>by rw[By,By,Br,Br];exact Vals.append h (Vals.rep h k)
theorem foldl_rep (a:List Value):∀(k:Nat) (acc:List Value),
  List.foldl (λx1 x2=>x1++x2) acc.toArray (List.replicate k a.toArray)=(acc++(List.replicate k a).flatten).toArray
 |0,acc=>by simp
 |k+1,acc=>by
  have e:acc.toArray++a.toArray=(acc++a).toArray:=by simp
  have e2:(acc++a)++(List.replicate k a).flatten=acc++(List.replicate (k+1) a).flatten:=by rw[By,Br,List.append_assoc]
  rw[<-e2,<-foldl_rep a k (acc++a),<-e,By,List.foldl_cons]
section
variable {l:Addr} {ys zs:List V}
theorem Inv.lset {f:Array Value->Array Value} {t':Nat} (I:Inv X pins σ H s) (b:H l=some (.lst xs))
  (e:s.heap.get? l=some { cls:=.type "list",data:=.seq a.toArray n }) (c:f a.toArray=its'.toArray) (g:Vals ys its') (h:ys.length<=sizeLine) :
  Inv X pins σ (upd H l (.lst ys)) { s with heap:=s.heap.update l (Obj.mapSeq f),toks:=t' }:=by
 have q:=PySem.IsL.update e f;rw[c]at q;refine I.write (x:=l) (e:=l) (by rw[b];exact trivial) (.inl rfl) (λb' u i j=>(B9 s.heap (Obj.mapSeq f) (Ne.symm i)).trans j) ⟨_,q⟩ ?_;exact⟨h,its',_,g,q⟩
theorem Inv.lnew {t':Nat} (I:Inv X pins σ H s) (b:Vals ys a) (c:ys.length<=sizeLine) :
  Inv X pins σ (upd H s.heap.objs.size (.lst ys)) { s with heap:=s.heap.push { cls:=.type "list",data:=.seq a.toArray },toks:=t' } :=
 I.laid (λ_ _ q=>A7 _ q) (B0 _) ⟨c,a,0,b,Ba _ rfl⟩
theorem Inv.fresh (I:Inv X pins σ H s):H s.heap.objs.size=none:=I.hok.fresh (B0 _)
theorem Inv.lstM (I:Inv X pins σ H s) (b:H l=some (.lst xs)):xs.length<=sizeLine/\∃(a:List Value) (n:Nat),Vals xs a/\xs.length=a.length/\s.heap.get? l=some { cls:=.type "list",data:=.seq a.toArray n }:=by obtain⟨z,a,n,r,e⟩:=I.hok l _ b;exact⟨z,a,n,r,r.length,e⟩
theorem tm (h:n<=sizeLine):Builtin.List.listTooLong n=false:=by unfold Builtin.List.listTooLong;exact decide_eq_false (by omega)
end
section
def ux:V->List V->Hp->VK->Prop:=λx vs H Q=>∃l xs y,x=.ref l/\vs=[y]/\H l=some (.lst xs)/\xs.length<sizeLine/\Q .non (upd H l (.lst (xs++[y])))
theorem gW:MtM X "list.append" ux:=by intro pins s σ H x vs v us Q I c f h;obtain⟨l,xs,y,rfl,rfl,b,hz,q⟩:=h;cases c;obtain⟨u,rfl,g⟩:=f.one;obtain⟨z,a,n,r,hl,e⟩:=I.lstM b;refine call_meets F.slot_list_append ⟨_,e,rfl⟩ F.entry_list_append (F.args_list_append_2 _ _) (PySem.list_append l a.toArray n u (by rw[B4];omega)) ⟨e,?_⟩;refine⟨.non,_,I.lset (its':=a++[u]) b e (by simp) (r.append (.cons g .nil)) ?_,rfl,q⟩;rw[B1,Bi];omega
def wc:R2:=λx y H Q=>∃l b xs zs,x=.ref l/\y=.ref b/\H l=some (.lst xs)/\H b=some (.lst zs)/\xs.length+zs.length<=sizeLine/\∀p,H p=none->Q (.ref p) (upd H p (.lst (xs++zs)))
theorem sk:OpR X (binaryOp .Add) wc:=by
 intro pins s σ H x y v u Q I f g h;obtain⟨l,b,xs,zs,rfl,rfl,i,hB,hz,q⟩:=h;cases f;cases g;obtain⟨z,c,n,r,hl,e⟩:=I.lstM i;obtain⟨z2,a,n2,j,hl2,e2⟩:=I.lstM hB;refine PySem.P.add_list e e2 ?_ (by rw[B4,B4];omega);have ea:c.toArray++a.toArray=(c++a).toArray:=by simp
 rw[ea];exact⟨.ref _,_,I.lnew (t':=s.toks) (r.append j) (by rw[B1];omega),rfl,q _ I.fresh⟩
def yZ:R2:=λx y H Q=>∃l k xs,x=.ref l/\y=.int k/\H l=some (.lst xs)/\-(2 ^ 63)<=k/\k<2 ^ 63/\xs.length*k.toNat<=sizeLine /\
 ∀p,H p=none->Q (.ref p) (upd H p (.lst (List.replicate k.toNat xs).flatten))
theorem len_rep (xs:List α) (k:Nat):(List.replicate k xs).flatten.length=k*xs.length:=by
 induction k with
 |zero=>simp
 |succ k ih=>rw[By,Br,B1,ih,Nat.succ_mul,Nat.add_comm]
theorem xl:OpR X (binaryOp .Mult) yZ:=by
 intro pins s σ H x y v u Q I o p h;obtain⟨l,k,xs,rfl,rfl,w,h1,h2,j,q⟩:=h;cases o;obtain⟨t,rfl⟩:=p;obtain⟨z,b,n,r,hl,e⟩:=I.lstM w;have hlen:b.toArray.size*k.toNat<=sizeLine:=by rw[B4,<-hl];exact j
 have f:¬ b.toArray.size*k.toNat>(2 ^ 63-1) / 8:=by
  have:(sizeLine:Nat)<=(2 ^ 63-1) / 8:=by decide
  omega
 have g:¬ (!Builtin.List.listFitsIndex k)=true:=by rw[fitsIndex_both h1 h2];exact Bq
 have c:¬ Builtin.List.listTooLong (b.toArray.size*k.toNat)=true:=by rw[tm hlen];exact Bq
 have i:List.foldl (λx1 x2=>x1++x2) #[] (List.replicate (if b.toArray.isEmpty=true then 0 else k.toNat) b.toArray)=(List.replicate k.toNat b).flatten.toArray:=by
  have A:∀m:Nat,List.foldl (λx1 x2=>x1++x2) #[] (List.replicate m b.toArray)=(List.replicate m b).flatten.toArray:=λm=>by have:=foldl_rep b m [];rw[BU]at this;exact this
  rw[A];cases b with
  |nil=>simp
  |cons a r'=>rw[if_neg (by simp)]
 refine wpAny_binaryOp_repeat_ref (T:="list") (U:="int") (by decide) ⟨_,e,rfl⟩ (λs'=>typeIs_int s' k t) noFill_list_mul F.fills_int_mul F.slot_int_rmul repeat_list F.slot_int_index.lookup
  (call_meets F.slot_int_rmul (typeIs_int s k t) F.entry_int_rmul (F.args_int_rmul_2 _ _) (int___rmul___int_list k t l b.toArray n)
   ⟨e,rfl,⟨_,e,rfl⟩,call_meets F.slot_list_mul ⟨_,e,rfl⟩ F.entry_list_mul (F.args_list_mul_2 _ _) (AutoListH.list___mul___list_int_3 l b.toArray n k t g f c) ⟨e,?_⟩⟩)
 rw[i];exact⟨.ref _,_,I.lnew (t':=s.toks) (r.rep k.toNat) (by rw[len_rep,Nat.mul_comm];exact j),rfl,q _ I.fresh⟩
end
section
variable {prog:Program} {w:World} {A:Around}
end
section
end
end L2
namespace Att
open PySem PySem.W PySem.Calls PyProof.Rows
theorem ik {P:Params}:∀(ns:List Int) (vs:List Value),WellAll P h vs (ns.map WData.int)->IntsAre vs ns:=by
 intro ns
 induction ns with
 |nil =>intro vs w;rw[List.map_nil]at w;cases w;exact .nil
 |cons n ns ih =>
  intro vs w;rw[Bk]at w;cases w with
  |cons a b =>cases a;exact .cons _ _ (ih _ b)
theorem pE {l:OpenLaw} (hn:l.most=some n) {P:Params} {args:List WData} {vals:List Value}
  (b:l.row.toRowW.claim.pre args=true) (f:WellAll P h vals args) :
  ∃a vs ns,vals=[Value.ref a]/\args=[WData.list (ns.map WData.int)]/\h.get? a=some { cls:=.type "list",data:=.seq vs.toArray }/\IntsAre vs ns/\ns.length<=n:=by
 have g:WShape.hasAll [] args [.list .int]=true:=(pre_splitW b).1;have hc:l.pre.holds [] { args:=args }=true:=(pre_splitW b).2;obtain⟨d,r,rfl,h1,h2⟩:=hasAllW_cons g;obtain rfl:=hasAllW_nil h2;obtain⟨xs,rfl,i⟩:=hasW_list h1;obtain⟨ns,rfl⟩:=items_int i;have hlen:ns.length<=n:=by
  unfold OpenLaw.pre at hc;have c:(WTm.not (.lt (.lit (.int (n:Int))) (.len (.arg 0)))).holds [] { args:=[.list (ns.map .int)] }=true:=by have c:=(holds_andW hc).1;rw[hn]at c;exact c
  have e:=condW_of c (w_not (w_lt w_lit (w_len_list (w_arg rfl))));rw[B7]at e;refine Nat.le_of_not_lt λq=>?_
  have j:(n:Int)<((ns.length:Nat):Int):=by omega
  first
   |(rw[decide_eq_true j]at e;exact absurd e (by decide))
   |(simp at e;omega)
 cases f with
 |cons w1 w2 =>
  cases w2;cases w1 with
  |list ho hall=>exact⟨_,_,ns,rfl,rfl,ho,ik ns _ hall,hlen⟩
theorem qd (l:OpenLaw) (args:List WData):l.row.toRowW.claim.post args (.bool true) args=true :=
 postW_of (r:=l.row.toRowW) (X:=(true==true))
  (show WShape.has [] (.bool true) .bool=true by first|rfl|decide|simp[WShape.has,WShape.arms,WShape.armsAll])
  (show (WTm.eq .res (.lit (.bool true))).value [] { args:=args,res:=some (.bool true),after:=args }=some (.bool (true==true)) from w_eq_bool (w_res rfl) w_lit) rfl
theorem lH {l:OpenLaw} {XP:(Str->Option Value)->Heap->Prop} {d:DefRec}
  (hn:l.most=some n) (h:d.params.defaults=[])
  (call:∀(w:World) (s₀ b:Shared) (mg i:Str->Option Value) (c:Addr) (o:Obj) (pm cd doc:Value) (a:Addr) (vs:List Value) (ns:List Int),
   Ground q loose [] XP w s₀ mg i b.heap->YP w b.heap ->
   b.heap.get? c=some o->o.data=.func (docDef d.name d.params d.body d.scope pm cd doc)->b.heap.CodeRec cd d.name->mg d.name=some (.ref c) ->
   b.heap.get? a=some { cls:=.type "list",data:=.seq vs.toArray }->IntsAre vs ns->ns.length<=n->b.gens=#[] ->
   codeAny (model l.prog w) callerA (.call (.ref c) ⟨[.ref a],[]⟩) (λr s'=>r=.ok (.ret (.bool true))/\OldK b.heap s'.heap/\s'.os=b.os/\AllBare s'.gens) b) :
  WalkO q loose XP YP l.row.toRowW d [] (λf vs=>PySem.call f vs):=by
 intro w s₀ b mg i G Y c o pm cd doc s kV t hd j p k u args vals as e hlay hrd m hlo;obtain rfl:s=.none:=Dflts.none p h;obtain rfl:kV=.none:=Dflts.noKw p;obtain⟨a,vs,ns,rfl,rfl,g,hints,hlen⟩:=pE hn e m;refine enter_call (codeAny_mono (call w s₀ b mg i c o pm cd doc a vs ns G Y t (fd_plain hd) j k g hints hlen u) λr s' v=>?_);obtain⟨rfl,h2,x,y⟩:=v;exact⟨.inl ⟨.bool true,.bool true,[],rfl,λ_=>rfl,.bool true,qd l _,λ_=>⟨List.Pairwise.nil,λ_ hm=>(nomatch hm)⟩⟩,h2,x,y⟩
section
variable {prog:Program} {w:World} {A:Around} {K:Frag}
end
end Att
namespace L2
open PySem PySem.Spec PyProof.Rows
variable {E:XK} {Q:Bool->Hp->Prop} {t:List V->Hp->Prop} {g:TG}
theorem jX:∀{vs:List Value} {ns:List Int},IntsAre vs ns->Vals (ns.map V.int) vs
 |_,_,.nil=>.nil
 |_,_,.cons n t h=>.cons ⟨t,rfl⟩ (jX h)
def ye (H:Hp):Prop:=∀b,H b=none\/(∃o xs,H b=some (.frz o (.lst xs)))\/∃q,H b=some (.tbl q)
def jb (K:PySem.W.Frag) (h:Heap):Prop:=(∀P q,TabOf K P q->h.get? P=some { cls:=.none,data:=.fields #[] }/\K.lookup P=none/\isCodeTable h P)/\∀P q a,TabOf K P q->TabOf K P a->q=a
section
open Classical
def fD (K:PySem.W.Frag):Hp:=λb=>if h:∃q,TabOf K b q then some (.tbl h.choose) else none
theorem bJ (K:PySem.W.Frag) (b:Addr):fD K b=none\/∃q,TabOf K b q/\fD K b=some (.tbl q):=by
 unfold fD;split
 ·rename_i h;exact .inr ⟨_,h.choose_spec,rfl⟩
 ·exact .inl rfl
theorem jZ (a:jb K h) {P:Addr} {q:Str} (t:TabOf K P q):fD K P=some (.tbl q):=by
 rcases bJ K P with e|⟨b,t',e⟩
 ·unfold fD at e;rw[dif_pos ⟨q,t⟩]at e;cases e
 ·rw[e,a.2 P q b t t']
end
def jV (mg:Str->Option Value) (base:Heap):Prop:=∃bm o,mg "__builtins__"=some (.ref bm)/\bm≠builtinsNs/\bm≠mainGlobals/\base.get? bm=some o/\o.cls=.type "module"/\o.dict=some builtinsNs/\o.data=.plain
theorem law_call {w:World} {O:Str->Option Value} {CX:CXT} {Q:Addr} {c:Shared} {vs:List Value}
  (KX:K.In c.heap) (E:c.heap.Ns mainGlobals mg) (i:c.heap.Ns builtinsNs O) (R:∀x:Str,x≠"__name__"->O x=bootBuiltins x) (G:c.heap.NoLimit) (hg:c.gens=#[])
  (ha:c.heap.get? a=some { cls:=.type "list",data:=.seq vs.toArray }) (hi:IntsAre vs ns) (hl:ns.length<=sizeLine) (hr:cu k callerA)
  (S:jV mg c.heap) (F:∀base:Heap,K.In base->base.Ns mainGlobals mg->jV mg base->ff P w K mg base CX k Q fd [x] sp) (A:∀(s:Shared) (u:Value),BindsTo s fd ⟨[u],[]⟩ [(x,u)])
  (T:∀H:Hp,ye H->SqL K H a (ns.map V.int)->sp [.ref a] H (λv _=>v=.bl true) λ_ _ _=>False)
  (U:∀H e s',CX none [] H c (λ_ _ _=>False) e s'->False) (j:jb K c.heap) :
  codeAny (model P w) callerA (.call (.ref Q) ⟨[.ref a],[]⟩) (λr s'=>r=.ok (.ret (.bool true))/\OldK c.heap s'.heap/\s'.os=c.os/\AllBare s'.gens) c:=by
 have rv:=jX hi;have I:=hi.length
 -- from an abstract heap in which nothing but the script may be tracked
 have core:∀H:Hp,ye H->SqL K H a (ns.map V.int)->HOk P w H c.heap->(∀b,H b≠none->b=a\/∃q,TabOf K b q)->(H a≠none->K.lookup a=none)->(∀P q,TabOf K P q->H P=some (.tbl q)) ->
   codeAny (model P w) callerA (.call (.ref Q) ⟨[.ref a],[]⟩) (λr s'=>r=.ok (.ret (.bool true))/\OldK c.heap s'.heap/\s'.os=c.os/\AllBare s'.gens) c:=by
  intro H hO hS hok N hK X;have f:∀{b:Addr} {o:Obj},c.heap.get? b=some o->H b=none->(jE c.heap H).get? b=some o:=λe n=>rX e n
  have Y:∀{b:Addr} {o:Obj} {es:Array DictEntry} {J:Nat},c.heap.get? b=some o->o.data=.dict es J->H b=none:=λ{b o es J} e d=>by
   cases q:H b with
   |none=>rfl
   |some u =>
    rcases N b (by rw[q];simp) with g|⟨B,g⟩
    case inr=>rw[(j.1 b B g).1]at e;cases e;cases d
    subst g;rw[ha]at e;cases e;have d':Data.seq vs.toArray _=Data.dict es J:=d;cases d'
  have l:∀{b:Addr} {m:Str->Option Value},c.heap.Ns b m->(jE c.heap H).Ns b m:=λ{b m} qz2=>(by obtain⟨o,es,J,e,d,r⟩:=qz2;exact⟨o,es,J,f e (Y e d),d,r⟩)
  have L:K.In (jE c.heap H):=λb o e=>f (KX b o e) (by
   cases q:H b with
   |none=>rfl
   |some u =>
    rcases N b (by rw[q];simp) with g|⟨B,g⟩
    case inr=>rw[(j.1 b B g).2.1]at e;cases e
    subst g;rw[hK (by rw[q];simp)]at e;cases e)
  have hM:Mod K mg (jE c.heap H):=⟨L,l E,⟨O,l i,R⟩,let ⟨mc,h1,h2⟩:=G;⟨mc,l h1,h2⟩⟩
  have e0:uZ P w K mg (jE c.heap H) callerA [] c H:=⟨rfl,hM,λb o e=>vH e,Nat.le_of_eq (pB _ _),trivial,λb i=>absurd (show b∈([]:List Addr) from i) (by simp),hok,.of_eq hg,X,.inl rfl⟩
  have Z:jV mg (jE c.heap H):=by
   obtain⟨bm,ob,b1,b2,b3,M,b5,b6,b7⟩:=S;refine⟨bm,ob,b1,b2,b3,f M ?_,b5,b6,b7⟩;cases q:H bm with
   |none=>rfl
   |some u =>
    rcases N bm (by rw[q];simp) with g|⟨B,g⟩
    case inr=>rw[(j.1 bm B g).1]at M;cases M;cases b5
    subst g;rw[ha]at M;cases M;simp at b5
  refine codeAny_mono ((F _ L (l E) Z).run callerA [] c H ⟨[.ref a],[]⟩ [.ref a] [.ref a] _ _ hr e0 (A c (.ref a)) (.cons rfl .nil) (T H hO hS)) λr s' h=>?_
  cases r with
  |error e=>exact (U H e s' h).elim
  |ok fl =>
   cases fl with
   |next=>exact False.elim h
   |brk=>exact False.elim h
   |cont=>exact False.elim h
   |ret u =>
    obtain⟨v,H',os,bare,un,p,r',q⟩:=h;have q':v=.bl true:=q;subst q';obtain rfl:u=Value.bool true:=r';have old:∀b o,c.heap.get? b=some o->s'.heap.get? b=some o\/(isCodeTable c.heap b/\o.cls=.none/\∃vs more,o.data=.fields vs/\s'.heap.get? b=some { o with data:=.fields (vs++more) }):=λb o e=>?old
    case old =>
     cases q:H b with
     |none=>exact .inl <|un.keep b o e q (by intro z;exact absurd (show b∈([]:List Addr) from z) (by simp)) (by simp)
     |some u =>
      rcases hO b with z|⟨ob,xs,z⟩|⟨B,z⟩
      ·rw[q]at z;cases z
      ·have z2:=un.frzs b ob _ z;obtain⟨e1,_⟩:=hok b _ z;obtain⟨e2,_⟩:=p b _ z2;rw[e]at e1;cases e1;exact .inl e2
      ·have z2:=un.tbls b B z;obtain⟨ps,e2,_⟩:=p b _ z2;rcases N b (by rw[z];simp) with g|⟨q2,g⟩
       ·obtain⟨ps0,D,_⟩:=hok b _ z;rw[g]at D;rw[ha]at D;cases D
       ·obtain⟨D,_,e4⟩:=j.1 b q2 g;rw[e]at D;cases D;exact .inr ⟨e4,rfl,#[],ps,rfl,by simpa using e2⟩
    exact⟨rfl,⟨λb o e=>(old b o e).imp id λz=>.inl z,λb o e=>by rcases old b o e with z|⟨_,_,_,_,_,z⟩ <;> exact⟨_,z⟩⟩,os,bare⟩
 have tok:∀b q,TabOf K b q->dk P w (λ_=>none) c.heap b (.tbl q):=λb q t=>⟨#[],(j.1 b q t).1,trivial,λpos cv z=>nomatch z⟩
 have y:∀(H:Hp) b q,TabOf K b q->dk P w H c.heap b (.tbl q):=λH b q t=>⟨#[],(j.1 b q t).1,trivial,λpos cv z=>nomatch z⟩
 have na:∀q,¬ TabOf K a q:=λq t=>by have:=(j.1 a q t).1;rw[ha]at this;cases this
 cases hk:K.lookup a with
 |some o =>
  have e:=KX a o hk;rw[ha]at e;cases e;refine core (fD K) (λb=>(bJ K b).imp id λC=>(by obtain⟨q,_,e⟩:=C;exact .inr ⟨q,e⟩)) (.inr ⟨_,vs.toArray,_,hk,rfl,rfl,rfl,by rw[B4,I];exact hl,by simpa using rv⟩) (λb u z=>?_) (λb z=>?_) (λz=>?_) λP q t=>jZ j t
  ·rcases bJ K b with e|⟨q,t,e⟩
   ·rw[z]at e;cases e
   ·rw[z]at e;cases e;exact y _ b q t
  ·rcases bJ K b with e|⟨q,t,e⟩
   ·exact absurd e z
   ·exact .inr ⟨q,t⟩
  ·rcases bJ K a with e|⟨q,t,e⟩
   ·exact absurd e z
   ·exact absurd t (na q)
 |none =>
  have eT:∀b,b≠a->(λb=>if b=a then some (HO.frz { cls:=.type "list",data:=.seq vs.toArray } (.lst (ns.map V.int))) else fD K b) b=fD K b:=λb h=>if_neg h
  have eA:(λb=>if b=a then some (HO.frz { cls:=.type "list",data:=.seq vs.toArray } (.lst (ns.map V.int))) else fD K b) a=some (HO.frz { cls:=.type "list",data:=.seq vs.toArray } (.lst (ns.map V.int))):=if_pos rfl;refine core (λb=>if b=a then some (.frz { cls:=.type "list",data:=.seq vs.toArray } (.lst (ns.map V.int))) else fD K b) (λb=>?_) (.inl (.inr ⟨{ cls:=.type "list",data:=.seq vs.toArray },if_pos rfl⟩)) (λb u z=>?_) (λb z=>?_) (λ_=>hk) λP q t=>?_
  ·by_cases i:b=a
   ·exact .inr (.inl ⟨_,_,if_pos i⟩)
   ·rw[eT b i];exact (bJ K b).imp id λC=>(by obtain⟨q,_,e⟩:=C;exact .inr ⟨q,e⟩)
  ·by_cases i:b=a
   ·subst i;rw[eA]at z;cases z;exact⟨ha,by rw[B7];exact hl,vs,_,rv,ha⟩
   ·rw[eT b i]at z;rcases bJ K b with e|⟨q,t,e⟩
    · rw[z]at e;cases e
    · rw[z]at e;cases e;exact y _ b q t
  ·by_cases i:b=a
   ·exact .inl i
   ·rcases bJ K b with e|⟨q,t,e⟩
    · exact absurd ((if_neg i).trans e) z
    · exact .inr ⟨q,t⟩
  ·exact (if_neg (λz=>na q (by rw[<-z];exact t))).trans (jZ j t)
abbrev KOf {K:PySem.W.Frag} {h:Heap} (_:K.In h):PySem.W.Frag:=K
theorem oE {l:PySem.W.OpenLaw} {XP:(Str->Option Value)->Heap->Prop} {d:DefRec} {K:Params->PySem.W.Frag} {CX:World->CXT} {sp:World->Sp}
  (hn:l.most=some n) (r:n<=sizeLine) (t:d.params.defaults=[]) (I:cu k callerA)
  (J:∀(w:World) (h:Heap),YP w h->(K w.params).In h)
  (F:∀(w:World) (mg:Str->Option Value) (p:Addr) (h:Heap),(K w.params).In h->h.Ns mainGlobals mg->mg d.name=some (.ref p) ->
   ∃fd:FuncData,(∀(s:Shared) (u:Value),BindsTo s fd ⟨[u],[]⟩ [(x,u)]) /\
    ∀base:Heap,(K w.params).In base->base.Ns mainGlobals mg->jV mg base->ff l.prog w (K w.params) mg base (CX w) k p fd [x] (sp w))
  (y:∀(w:World) (H:Hp) (a:Addr) (ns:List Int),ns.length<=n->ye H->SqL (K w.params) H a (ns.map V.int)->sp w [.ref a] H (λv _=>v=.bl true) λ_ _ _=>False)
  (A:∀(w:World) (H:Hp) (s:Shared) (e:Value) (s':Shared),CX w none [] H s (λ_ _ _=>False) e s'->False) (B:∀(w:World) (h:Heap) (c:List Str) (i:ExcName->Option Value) (mg E:Str->Option Value),PyProof.Rows.Top q c i mg E h->(K w.params).In h->jb (K w.params) h) :
  PySem.W.WalkO q loose XP YP l.row.toRowW d [] (λf vs=>PySem.call f vs):=by
 refine Att.lH hn t λw s₀ j mg E p o pm cd doc a vs ns G Y ho hd hcd C m hints hlen L=>?_
 have D:=J w _ Y;obtain⟨fd,N,O⟩:=F w mg p _ D G.T.g C;exact law_call D G.T.g G.T.b G.T.builtins G.T.nolimit L m hints (Bj hlen r) I (by obtain⟨bm,ob,M⟩:=PySem.W.bmod_of_top G.T;exact⟨bm,ob,M.name,M.ne,(λz=>by obtain⟨o,es,ep,e1,e2,_⟩:=M.ns;rw[<-z,M.obj]at e1;cases e1;rw[M.data]at e2;cases e2),M.obj,M.cls,M.dict,M.data⟩) O N (λH P Q=>y w H a ns hlen P Q) (λH e s'=>A w H j e s') (B w _ _ _ _ _ G.T D)
def eR (s:Stmt):Arguments:=match s with
 |.FunctionDef _ a _ _ _ _ _ _ _ _=>a
 |_=>{ posonlyargs:=[],args:=[],vararg:=none,kwonlyargs:=[],kw_defaults:=[],kwarg:=none,defaults:=[] }
def cA (s:Stmt):List Stmt:=match s with
 |.FunctionDef _ _ b _ _ _ _ _ _ _=>b
 |_=>[]
def aJ (s:Stmt):Scope:=match s with
 |.FunctionDef _ _ _ _ _ _ sc _ _ _=>sc
 |_=>{ kind:=.function,names:=[],isGenerator:=false,isCoroutine:=false }
abbrev CX0:CXT:=λ_ _ _ _ _ _ _=>False
abbrev E0:XK:=λ_ _ _=>False
theorem zy (hc:X.calm=true):Passes CX0 X E0:=⟨hc,λ_ _ _ _ _ _ _ h=>h.elim⟩
structure Fun (K:PySem.W.Frag) (x qual:Str) (st:Stmt) (f:Addr) (fd:FuncData):Prop where
 ex:∃(oc:Value) (od:Option Addr) (kV doc pm:Value) (an:Option Addr) (cdv ct:Value) (osl:Array (Option Value)),
  fd=PySem.W.fnOf x qual (eR st) (cA st) (aJ st) .none kV doc pm an cdv ct/\K.lookup f=some ⟨oc,od,.func fd,osl⟩/\PySem.W.codeIn K cdv qual=true
 kp:PySem.W.keepIn K (.ref f)=true
section
variable {w:World}
theorem Fun.ok {f:Addr} (F:Fun K x qual st f fd) (S:c6 N ps (aJ st)) (len:∀vs H Q E,sp vs H Q E->vs.length=ps.length)
  (a:∀(cdv:Value) (A:Around) (outer:List Env) (s:Shared) (H:Hp) (vs:List V) (Q:VK) (E:XK),cu k (A.deeper (envOfC qual (aJ st) s.heap.objs.size f cdv))->sp vs H Q E ->
   ∃t,PSs (bT CX0 P w K mg base N qual (aJ st) f cdv A outer s H E).nox (cA st) t/\t { nx:=λ_ H'=>Q .non H',rt:=Q } (start N vs) H):ff P w K mg base CX0 (k+1) f fd ps sp:=by
 obtain⟨oc,od,kV,doc,pm,an,cdv,ct,osl,rfl,e,b⟩:=F.ex;refine vV e b S len λA outer s H vs Q E g c=>?_
 obtain⟨t,h,q⟩:=a cdv A outer s H vs Q E g c;exact⟨t,h.nox,q⟩
theorem Fun.binds {f:Addr} (F:Fun K x qual st f fd)
  (h:∀(kV doc pm:Value) (an:Option Addr) (cdv ct:Value) (us:List Value),us.length=ps.length->bindArgs (PySem.W.fnOf x qual (eR st) (cA st) (aJ st) .none kV doc pm an cdv ct) ⟨us,[]⟩=pure (ps.zip us)):Binds K fd ps []:=by
 obtain⟨oc,od,kV,doc,pm,an,cdv,ct,osl,rfl,lk,hcd⟩:=F.ex;exact .all (h kV doc pm an cdv ct)
theorem yj {f:Addr} {kV doc cdv:Value} (l:K.lookup f=some ⟨oc,od,.func (PySem.W.fnOf x qual (eR st) (cA st) (aJ st) .none kV doc pm an cdv ct),osl⟩)
 (c:PySem.W.codeIn K cdv qual=true) (k:PySem.W.keepIn K (.ref f)=true):Fun K x qual st f (PySem.W.fnOf x qual (eR st) (cA st) (aJ st) .none kV doc pm an cdv ct):=⟨⟨oc,od,kV,doc,pm,an,cdv,ct,osl,rfl,l,c⟩,k⟩
end
section
theorem pv (i:Nat) (b:X.N[i]?=some x:=by rfl) (c:Vis X.env.scope x:=by first|exact Or.inl rfl|exact Or.inr (Or.inl rfl)|exact Or.inr (Or.inr rfl)) (hd:(x==("__debug__":Str))=false:=by decide)
 (a:(x==("__classdict__":Str))=false:=by decide):PE X (.Name x pos) (zK i):=i9 b c hd a
end
theorem zL {c A B:Prop} [Decidable c] (h1:c->A) (h2:¬ c->B):if c then A else B:=by
 by_cases h:c
 ·rw[if_pos h];exact h1 h
 ·rw[if_neg h];exact h2 h
def aj (H H':Hp):Prop:=∀b o,H b=some o->H' b=some o
theorem aj.refl (H:Hp):aj H H:=λ_ _ h=>h
theorem aj.trans {H2:Hp} (a:aj H H1) (b:aj H1 H2):aj H H2:=λc o h=>b c o (a c o h)
theorem aj.free (e:aj H H') {l:Addr} (h:H' l=Option.none):H l=Option.none:=by
 cases q:H l with
 |none=>rfl
 |some o =>rw[e l o q]at h;cases h
theorem aj.seq (e:aj H H') (h:SqL K H a xs):SqL K H' a xs:=by
 rcases h with (h|⟨o,h⟩)|h
 ·exact .inl (.inl (e _ _ h))
 ·exact .inl (.inr ⟨o,e _ _ h⟩)
 ·exact .inr h
def f7:List (Str×NameKind)->List (Str×Addr)->List (Str×Addr)->List (Str×Addr)
 |[],_,acc=>acc
 |(n,k)::r,cells,acc=>f7 r cells (if k==.free then (match cells.lookup n with|some c=>(n,c)::acc|none=>acc) else acc)
theorem eY (env:Env):∀(names:List (Str×NameKind)) (acc:List (Str×Addr)),(∀y∈names,y.2=.free->∃c,env.cells.lookup y.1=some c) ->
  (forIn names acc (λ(x:Str×NameKind) (cs:List (Str×Addr))=>match x with
   | (name,kind)=>if (kind==NameKind.free)=true then do let c <-cellOf env name;pure (ForInStep.yield ((name,c)::cs)) else pure (ForInStep.yield cs)):Sem (List (Str×Addr)))=pure (f7 names env.cells acc)
 |[],acc,_=>rfl
 |(n,k)::r,acc,h=>by
  rw[List.forIn_cons];have b:∀y∈r,y.2=.free->∃c,env.cells.lookup y.1=some c:=λy g=>h y (A6 _ g)
  dsimp only[f7];by_cases hk:k=.free
  ·subst hk;obtain⟨c,hc⟩:=h (n,.free) List.mem_cons_self rfl;have a:env.cells.lookup n=some c:=hc;have e:cellOf env n=pure c:=by unfold cellOf;rw[a]
   rw[if_pos (show (NameKind.free==NameKind.free)=true by decide),if_pos (show (NameKind.free==NameKind.free)=true by decide),e,a];exact eY env r ((n,c)::acc) b
  ·have f:¬ (k==NameKind.free)=true:=by simpa using hk
   rw[if_neg f,if_neg f];exact eY env r acc b
theorem e9 (h:∀y∈scope.names,y.2=.free->∃c,env.cells.lookup y.1=some c):closureFor scope env=pure (f7 scope.names env.cells []):=by have e:=eY env scope.names [] h;unfold closureFor;rw[<-bind_pure (forIn scope.names [] _)]at e;exact e
theorem lz:∀(names:List (Str×NameKind)) (cells acc:List (Str×Addr)) (x:Str) (c:Addr),(∀x c,acc.lookup x=some c->cells.lookup x=some c)->(f7 names cells acc).lookup x=some c->cells.lookup x=some c
 |[],_,_,x,c,h,e=>h x c e
 |(n,k)::r,cells,acc,x,c,h,e=>by
  refine lz r cells _ x c (λy d a=>?_) e;split at a
  ·split at a
   ·rename_i c' b;rw[BL]at a;by_cases hyn:(y==n)=true
    ·rw[hyn]at a;have f:y=n:=eq_of_beq hyn;subst f;cases a;exact b
    ·have:(y==n)=false:=by simpa using hyn
     rw[this]at a;exact h y d a
   ·exact h y d a
  ·exact h y d a
theorem kf:∀(names:List (Str×NameKind)) (cells acc:List (Str×Addr)) (x:Str),(∃c,acc.lookup x=some c)->∃c,(f7 names cells acc).lookup x=some c
 |[],_,_,_,h=>h
 |(n,k)::r,cells,acc,x,h=>by
  refine kf r cells _ x ?_;split
  ·split
   ·rw[BL];cases (x==n)
    ·exact h
    ·exact⟨_,rfl⟩
   ·exact h
  ·exact h
theorem iH:∀(names:List (Str×NameKind)) (cells acc:List (Str×Addr)) (x:Str) (c:Addr),(x,NameKind.free)∈names->cells.lookup x=some c->∃c,(f7 names cells acc).lookup x=some c
 |[],_,_,_,_,h,_=>by simp at h
 |(n,k)::r,cells,acc,x,c,h,e=>by
  rcases List.mem_cons.mp h with h|h
  ·injection h with h1 h2
   subst h1;subst h2;refine kf r cells _ x ?_;rw[if_pos (by decide),e];exact⟨c,by simp[BL]⟩
  ·exact iH r cells _ x c h e
def blk (X:Cx) (M:List Str) (scope:Scope) (own:List Str) (C:Addr) (s2:Shared) (H2:Hp) (fp:List Addr):Cx where
 prog:=X.prog
 w:=X.w
 K:=X.K
 mg:=X.mg
 base:=X.base
 A:=X.A
 N:=M++own
 s₀:=s2
 H₀:=H2
 env:=compEnvC scope (f7 scope.names X.env.cells []) C X.env
 outer:=X.stack
 stack:=X.stack
 ex:=fp
 fn:=λ_=>false
 calm:=X.calm
 pn:=X.pn
 xe:=λ_ _=>False
structure dF (X:Cx) (M:List Str) (scope:Scope) (own:List Str):Prop where
 kind:scope.kind=.function
 nocell:∀y∈scope.names,y.2≠.cell
 names:∀y∈scope.names,y.2=.local->scope.names.lookup y.1=some .local
 free:∀y∈scope.names,y.2=.free->Vis X.env.scope y.1/\X.env.scope.names.lookup y.1≠some .local
 own:∀x∈own,scope.names.lookup x=some .local
 outer:∀p∈X.N.zip M,(p.1=p.2/\scope.names.lookup p.2≠some .local)\/scope.names.lookup p.2=none
 len:M.length=X.N.length
def g0 (N M:List Str) (a scope:Scope) (own:List Str):Bool :=
 (scope.kind==.function)&&scope.names.all (λy=>y.2 != .cell)&&scope.names.all (λy=>y.2 != .local||scope.names.lookup y.1==some .local) &&
 scope.names.all (λy=>y.2 != .free||(a.names.lookup y.1==some .cell||a.names.lookup y.1==some .free)) &&
 own.all (λx=>scope.names.lookup x==some .local)&&(N.zip M).all (λp=>(p.1==p.2&&scope.names.lookup p.2 != some .local)||scope.names.lookup p.2==none)&&(M.length==N.length)
theorem dF.of (h:g0 X.N M X.env.scope scope own=true):dF X M scope own:=by
 unfold g0 at h;simp only[B3,Bg,Bool.or_eq_true,bne_iff_ne,beq_iff_eq,ne_eq]at h;obtain⟨⟨⟨⟨⟨⟨h1,h2⟩,b⟩,c⟩,f⟩,g⟩,i⟩:=h;refine⟨h1,h2,λy a e=>(b y a).resolve_left λz=>z e,λy a e=>?_,f,g,i⟩;rcases (c y a).resolve_left λz=>z e with q|q
 ·exact⟨.inr (.inl q),by rw[q];intro z;cases z⟩
 ·exact⟨.inr (.inr q),by rw[q];intro z;cases z⟩
theorem cg {env:Env}:∀{names:List (Str×NameKind)} {x:Str} {k:NameKind},
  (names.map λ(n,k)=>if (k==NameKind.free&&env.scope.kind==.function&&env.kindOf n==some .cell) then (n,NameKind.cell) else (n,k)).lookup x=some k->(k=.cell\/k=.free)->(∀y∈names,y.2≠.cell)->(x,NameKind.free)∈names
 |[],_,_,h,_,_=>by simp at h
 |(n,k')::r,x,k,h,a,hn=>by
  have b:∀y∈r,y.2≠NameKind.cell:=λy c=>hn y (A6 _ c)
  rw[Bk,BL]at h;by_cases hc:(k'==NameKind.free&&env.scope.kind==.function&&env.kindOf n==some .cell)=true
  ·have f:k'=.free:=by have:=hc;simp only[B3]at this;exact eq_of_beq this.1.1
   simp only[if_pos hc]at h;cases hx:x==n with
   |true =>have:x=n:=eq_of_beq hx;subst this;subst f;exact List.mem_cons_self
   |false =>rw[hx]at h;exact A6 _ (cg h a b)
  ·simp only[if_neg hc]at h;cases hx:x==n with
   |true =>
    rw[hx]at h;have e:k'=k:=Option.some.inj h;have:x=n:=eq_of_beq hx;subst this;subst e;rcases a with a|a
    ·exact absurd a (hn _ List.mem_cons_self)
    ·subst a;exact List.mem_cons_self
   |false =>rw[hx]at h;exact A6 _ (cg h a b)
theorem cj {env:Env}:∀{names:List (Str×NameKind)} {x:Str} {k:NameKind},
  (names.map λ(n,k)=>if (k==NameKind.free&&env.scope.kind==.function&&env.kindOf n==some .cell) then (n,NameKind.cell) else (n,k)).lookup x=some k->(∃k0,names.lookup x=some k0/\(k=k0\/(k=.cell/\k0=.free)))
 |[],_,_,h=>by simp at h
 |(n,k')::r,x,k,h=>by
  rw[Bk,BL]at h;rw[BL];by_cases hc:(k'==NameKind.free&&env.scope.kind==.function&&env.kindOf n==some .cell)=true
  ·have a:k'=.free:=by have:=hc;simp only[B3]at this;exact eq_of_beq this.1.1
   simp only[if_pos hc]at h;cases hx:x==n with
   |true =>rw[hx]at h;exact⟨k',rfl,.inr ⟨(Option.some.inj h).symm,a⟩⟩
   |false =>rw[hx]at h;exact cj h
  ·simp only[if_neg hc]at h;cases hx:x==n with
   |true =>rw[hx]at h;exact⟨k',rfl,.inl (Option.some.inj h).symm⟩
   |false =>rw[hx]at h;exact cj h
section
variable {H2:Hp} {s2:Shared}
theorem Inv.blk {h1:Heap} {t':Nat} (I:Inv X pins σ H2 s2) (B:dF X M scope own) (H:∀b∈fp,i4 X pins H2 b) (J:∀b∈fp,b<s2.heap.objs.size)
  (w:D=s2.heap.objs.size) (E:C=s2.heap.objs.size+1) (hl:h1.get? D=some { cls:=.type "list",data:=.seq ([]:List Value).toArray 0 })
  (hn:h1.Ns C (λ_=>none)) (g:∀b o,s2.heap.get? b=some o->h1.get? b=some o) :
  Inv (L2.blk X M scope own C s2 H2 fp) [] (σ++List.replicate own.length none) (upd H2 D (.lst [])) { s2 with heap:=h1,toks:=t' }:=by
 have a:∀x c,(f7 scope.names X.env.cells []).lookup x=some c->X.env.cells.lookup x=some c:=λx c e=>lz _ _ _ _ _ (λ_ _ z=>by simp at z) e
 have K:∀x c,(f7 scope.names X.env.cells []).lookup x=some c->c<s2.heap.objs.size:=λx c e=>by obtain⟨v,q⟩:=I.cell x c (a x c e);exact q.lt
 have n:H2 D=none:=I.hok.fresh (by rw[w];exact B0 _);have freeC:H2 C=none:=I.hok.fresh (by rw[E];exact BZ _);have L:C≠D:=by rw[E,w];exact Nat.succ_ne_self _
 have Z:Un (frs X.stack) fp H2 (upd H2 D (.lst [])) s2.heap h1:=Un.laid g (by rw[w];exact B0 _) n;refine⟨⟨I.ok.mod,?_,I.ok.glob,I.ok.blt,?_,?_,?_,?_,I.ok.hd,I.ok.frames,.inl rfl,?_,I.bs,Bj I.ok.bsz I.sz,?_,?_,I.stack,I.stkFree⟩,rfl,I.bare,Z,?_,?_,?_,?_,?_,?_,?_,λP q t=>Z.tbls P q (I.tab P q t)⟩
 ·exact B.kind
 ·show s2.heap.objs.size<=C;rw[E];exact BZ _
 ·intro x y c e1 e2;exact I.ok.inj x y c (a x c e1) (a y c e2)
 ·intro x h;have hm:(x,NameKind.free)∈scope.names:=by
   rcases h with h|h
   ·exact cg h (.inl rfl) B.nocell
   ·exact cg h (.inr rfl) B.nocell
  obtain⟨O,s⟩:=B.free _ hm rfl;have hh:X.env.kindOf x=some .cell\/X.env.kindOf x=some .free:=by
   rcases O with z|z|z
   ·exact absurd z s
   ·exact .inl z
   ·exact .inr z
  obtain⟨c,e⟩:=I.ok.has x hh;exact iH _ _ _ x c hm e
 ·intro x c Q _;exact absurd (show false=true from Q) (by decide)
 ·intro b A;refine⟨?_,λx c e z=>?_⟩
  ·show b≠C;rw[E];exact Nat.ne_of_lt (Bv (J b A))
  ·exact (H b A).2.2.2.2.1 x c (a x c e) z
 ·intro b o e A;obtain⟨_,_,_,f3,_⟩:=H b A;rcases f3 with z|z
  ·exact I.ok.noex b o e z
  ·exact absurd (B5 (Heap.lt_size (I.ok.bs b o e).1) z) (Bs _)
 ·intro b A hs;obtain⟨_,f1,f2,_⟩:=H b A;rcases List.mem_cons.mp (I.stkSub b hs) with z|z
  ·exact f1 z
  ·exact f2 z
 ·refine⟨_,hn,λi x v e1 e2 e3=>?_⟩;have hi:i<σ.length:=by
   by_cases hi:i<σ.length
   ·exact hi
   ·rw[Bf (by omega),BY]at e2;split at e2 <;> cases e2
  rw[Bh hi]at e2;have F:i<X.N.length:=by rw[<-I.len];exact hi
  have R:i<M.length:=by rw[B.len];exact F
  have S:M[i]?=some x:=by
   have:(M++own)[i]?=some x:=e1
   rwa[Bh R]at this
  obtain⟨y,ey⟩:∃y,X.N[i]?=some y:=⟨_,B6 F⟩
  have hz:(y,x)∈X.N.zip M:=C1 (i:=i) (by rw[List.getElem?_zip_eq_some];exact⟨ey,S⟩);have T:∃k,scope.names.lookup x=some k:=by
   rcases e3 with z|z|z
   ·obtain⟨k0,f,_⟩:=cj (show _=some NameKind.local from z);exact⟨k0,f⟩
   ·obtain⟨k0,f,_⟩:=cj (show _=some NameKind.cell from z);exact⟨k0,f⟩
   ·obtain⟨k0,f,_⟩:=cj (show _=some NameKind.free from z);exact⟨k0,f⟩
  have j:y=x/\scope.names.lookup x≠some .local:=by
   rcases B.outer _ hz with q|q
   ·exact q
   ·obtain⟨k,g⟩:=T;rw[q]at g;cases g
  have U:X.N[i]?=some x:=by rw[<-j.1];exact ey
  have h:(relabel scope X.env).names.lookup x=some .cell\/(relabel scope X.env).names.lookup x=some .free:=by
   rcases e3 with z|z
   ·obtain⟨k0,f,g⟩:=cj (show _=some NameKind.local from z);rcases g with g|⟨g,_⟩
    ·subst g;exact absurd f j.2
    ·cases g
   ·exact z
  have hm:(x,NameKind.free)∈scope.names:=by
   rcases h with h|h
   ·exact cg h (.inl rfl) B.nocell
   ·exact cg h (.inr rfl) B.nocell
  obtain⟨O,s⟩:=B.free _ hm rfl;obtain⟨m,_,W⟩:=I.loc;obtain⟨u,r,l⟩:=W i x v U e2 O;refine⟨u,r,.inr ⟨h,?_⟩⟩;rcases l with⟨z,_⟩|⟨_,c,hc,z⟩
  ·exact absurd z s
  ·obtain⟨c',G⟩:=iH scope.names X.env.cells [] x c hm hc;have:=a x c' G;rw[hc]at this;cases this;exact⟨c,G,z.keeps g⟩
 ·intro x c e;obtain⟨v,q⟩:=I.cell x c (a x c e);exact⟨v,q.keeps g⟩
 ·show upd H2 D (.lst []) C=none;rw[aV L];exact freeC
 ·intro x c e;have h1:=K x c e;rw[aV (by rw[w];exact Nat.ne_of_lt h1)];exact I.freeC x c (a x c e)
 ·intro p Y;have Y:p∈X.pn:=(B8.mp Y).resolve_right A8;obtain⟨p1,p2,p3,p4,p5⟩:=I.pin p (Bb _ Y);have lt:=Heap.lt_size p1;refine⟨g _ _ p1,?_,?_,λz=>?_,p5⟩
  ·rw[aV (by rw[w];exact Nat.ne_of_lt lt)];exact p2
  ·show p.1≠C;rw[E];exact Nat.ne_of_lt (Bv lt)
  ·rcases List.mem_cons.mp (I.stkSub _ z) with z|z
   ·exact p3 z
   ·exact p4 z
 ·exact I.hok.laid g (by rw[w];exact B0 _) ⟨C0 _,[],0,.nil,hl⟩
 ·show (σ++List.replicate own.length none).length=(M++own).length;rw[B1,B1,List.length_replicate,I.len,B.len]
theorem Inv.unblk {a:St} (I:Inv X pins σ H2 s2) (i:∀b∈fp,i4 X pins H2 b) (f:s2.heap.objs.size<=C)
  (J:Inv (L2.blk X M scope own C s2 H2 fp) [] a H' s') (j:Heap.SameBut C s'.heap h'):Inv X pins σ H' { s' with heap:=h' }:=by
 have h:H' C=none:=J.free;have k:∀b o,b≠C->s'.heap.get? b=some o->h'.get? b=some o:=λb o g e=>(j.2 b g).trans e
 have old:∀b o,s2.heap.get? b=some o->b≠C:=λb o e=>Nat.ne_of_lt (B5 (Heap.lt_size e) f)
 have u:Un (frs X.stack) fp H2 H' s2.heap s'.heap:=J.base;refine I.call' (s':={ s' with heap:=h' }) (ch:=fp) J.os ?_ ?_ J.bare λb g=>?_
 ·refine⟨λb o e n h1 h2=>k b o (old b o e) (u.keep b o e n h1 h2),λb o e n h1 h2=>?_,u.free,λb o e h1=>?_,u.tups,u.frzs,u.tbls⟩
  ·obtain⟨sl,q⟩:=u.slot b o e n h1 h2;exact⟨sl,k b _ (old b o e) q⟩
  ·obtain⟨o',q⟩:=u.there b o e h1;exact⟨o',k b o' (old b o e) q⟩
 ·intro b o e;refine (J.hok b o e).stay (λc v hc q=>k c v ?_ q) (λ_ q=>q) λ_ _ q=>q
  rintro rfl
  rcases hc with z|z
  ·subst z;rw[h]at e;cases e
  ·rw[h]at z;cases z
 ·obtain⟨f0,f1,f2,l,m,p⟩:=i b g;exact⟨l,f1,m,p⟩
end
section
variable {prog:Program} {w:World} {A:Around} {R:Result->Shared->Prop}
theorem k7 {target:Expr} {it acc:Value} (I:Nat->Shared->Prop)
  (turn:∀n s,I n s->wpAny (model prog w) A (pyNext it) (λr a=>match r with
   |none=>R (.ok .next) a
   |some v=>wpAny (model prog w) A (letOwnedTupleGo target it v) (λ_ j=>wpAny (model prog w) A (assign target env v) (λ_ e =>
    wpAny (model prog w) A (forIn ifs true λc r=>if r=true then do let ok <-isTrue c env (eval c env);pure (ForInStep.yield ok) else pure (ForInStep.yield r)) (λok b =>
     if ok=true then wpAny (model prog w) A (eval elt env) (λx f =>
      wpAny (model prog w) A (call (.builtin "list.append") [acc,x]) (λ_ g=>∃m,m<n/\I m g) (λ_ _=>False) f) (λ_ _=>False) b
     else ∃m,m<n/\I m b) (λ_ _=>False) e) (λ_ _=>False) j) (λ_ _=>False) a) (λ_ _=>False) s)
  (n:Nat) (h:I n s) :
  codeAny (model prog w) A (.compLoop (.ListComp elt [⟨target,iter,ifs,0⟩] scope pos) 0 it acc env) R s:=by
 refine codeAny_loop rfl I (λn s q=>?_) n h;show wpAny _ A ((compTurn (.ListComp elt [⟨target,iter,ifs,0⟩] scope pos) 0 it acc env).onRaise (λx=>do noteFrame x env;theTreesLotGoes x)) _ _ s;refine wpAny_noted ?_;rw[compTurn_list];refine wpAny_bind (wpAny_standAt (wpAny_bind (wpAny_mono (turn n s q) (λr a h₁=>?_) λ_ _ h'=>h'.elim)));cases r with
 |none=>exact wpAny_pure h₁
 |some v =>
  refine wpAny_bind (wpAny_mono h₁ (λ_ j p=>?_) λ_ _ h'=>h'.elim);refine wpAny_bind (wpAny_mono p (λ_ e k=>wpAny_bind (wpAny_mono k (λok b i=>?_) λ_ _ h'=>h'.elim)) λ_ _ h'=>h'.elim);cases ok with
  |false=>exact wpAny_pure ⟨rfl,i⟩
  |true =>exact wpAny_bind (wpAny_bind (wpAny_mono i (λx f l=>wpAny_bind (wpAny_mono l (λ_ g o=>wpAny_pure (wpAny_pure ⟨rfl,o⟩)) λ_ _ h'=>h'.elim)) λ_ _ h'=>h'.elim))
end
def vZ:TT:=λ_ H Q=>Q true H
inductive PTs (X:Cx):List Expr->TT->Prop
 |nil:PTs X [] vZ
 |one {c:Expr} {t:TT} (h:PT X c t):PTs X [c] t
theorem PTs.run {t:TT} (h:PTs X ifs t) (I:Inv X pins σ H s) (q:t σ H Q) :
  wpAny (model X.prog X.w) X.A (forIn ifs true λc r=>if r=true then do let ok <-isTrue c X.env (eval c X.env);pure (ForInStep.yield ok) else pure (ForInStep.yield r)) (TP X pins σ Q) X.xe s:=by
 cases h with
 |nil=>exact wpAny_tests_nil ⟨H,I,q⟩
 |one h=>exact wpAny_tests_one (h pins s σ H Q I q)
def LCR (J:It) (n:Nat) (g:TG) (tt:TT) (te:TE) (σ:St) (H1:Hp) (Q:VK):Prop:=∀D,H1 D=none->∃W:Nat->Nat->List V->Hp->Prop,(∃m,W 0 m [] (upd H1 D (.lst []))) /\
 ∀i m ys H,W i m ys H->H D=some (.lst ys)/\((J.stop i H/\Q (.ref D) H)\/(J.go i H/\∀x H' e,e.length=n->J.yld i H x H'->g x (σ++e) H' λc H2=>tt c H2 λb h =>
  if b=true then te c h λv j=>j D=some (.lst ys)/\ys.length<sizeLine/\(∃a,c=σ++a/\a.length=n)/\∃f,f < m/\W (i+1) f (ys++[v]) (upd j D (.lst (ys++[v])))
  else (∃a,c=σ++a/\a.length=n)/\∃f,f < m/\W (i+1) f ys h))
def tLC (n:Nat) (a:TI) (g:TG) (tt:TT) (te:TE):TE:=λσ H Q=>a σ H λJ H1=>LCR J n g tt te σ H1 Q
theorem iG {wi:TI} {tt:TT} {use:Option (Value->Sem Unit)} (hc:X.calm=true) (hi:PI X tg iter wi)
  (hg:∀C s2 H2 fp,PG (blk X M scope own C s2 H2 fp) tg g) (ht:∀C s2 H2 fp,PTs (blk X M scope own C s2 H2 fp) ifs tt) (he:∀C s2 H2 fp,PE (blk X M scope own C s2 H2 fp) elt te)
  (hB:g0 X.N M X.env.scope scope own=true) (hs:∀x,foldedSetIterable iter X.env x=pure x) {Q:VK} (I:Inv X pins σ H s) (h:tLC own.length wi g tt te σ H Q)
  (fin:∀(C D:Addr) (L:Shared) (K:Hp),(∀h',Heap.SameBut C L.heap h'->Inv X pins σ K { L with heap:=h' })->(∃m,L.heap.Ns C m)->K C=none->C≠X.env.locals->(∀x c,X.env.cells.lookup x=some c->c≠C)->(∀p∈X.pn++pins,p.1≠C)->X.s₀.heap.objs.size<=C->Q (.ref D) K ->
   compPost (model X.prog X.w) X.A X.xe use Qf (.ref D) C (.ok .next) L) :
  wpAny (model X.prog X.w) X.A (comprehension (.ListComp elt [⟨tg,iter,ifs,0⟩] scope pos) scope X.env cpos (newList []) false (eval iter X.env) use) Qf X.xe s:=by
 have B:dF X M scope own:=dF.of hB;have O:closureFor scope X.env=pure (f7 scope.names X.env.cells []):=e9 λy hy hf=>by
  obtain⟨hv,hnl⟩:=B.free y hy hf;have hh:X.env.kindOf y.1=some .cell\/X.env.kindOf y.1=some .free:=by
   rcases hv with z|z|z
   ·exact absurd z hnl
   ·exact .inl z
   ·exact .inr z
  exact I.ok.has y.1 hh
 refine wpAny_comprehension_free (use:=use) rfl hs O B.kind B.names (thn (hi pins s σ H _ I h) λv s1 h1=>thn h1 λitv s2 h2=>?_);obtain⟨it,fp,tn,J,H2,e,P,T,R,f2,hD⟩:=h2;subst e;have S:∀b∈fp,b<s2.heap.objs.size:=λb k=>by obtain⟨o,q,_⟩:=T.obj _ _ R b k;exact Heap.lt_size q
 obtain⟨W,⟨m0,w0⟩,turn⟩:=hD s2.heap.objs.size (P.hok.fresh (B0 _));refine wpAny_newObj_type (wpAny_newFunctionEnv B.nocell (by intro y hy;simp at hy) (λh₁ j f=>?_) B.kind);dsimp only at j f ⊢;generalize hG:s2.heap.push { cls:=.type "list",dict:=none,data:=.seq ([]:List Value).toArray }=G at j f ⊢;have Z:G.objs.size=s2.heap.objs.size+1:=by rw[<-hG,Heap.size_push]
 have hk:∀b o,s2.heap.get? b=some o->h₁.get? b=some o:=λb o e=>f.extBut b o (by rw[Z];exact Nat.ne_of_lt (Bv (Heap.lt_size e))) (A7 _ (hG▸A7 _ e))
 have hDC:s2.heap.objs.size≠G.objs.size:=by rw[Z];exact Nat.ne_of_lt (BQ _)
 have hl:h₁.get? s2.heap.objs.size=some { cls:=.type "list",data:=.seq ([]:List Value).toArray 0 }:=f.extBut _ _ hDC (A7 _ (hG▸Ba _ rfl));have hns:h₁.Ns G.objs.size (λ_=>none):=by
  have e:(λx=>([]:List (Str×Value)).reverse.lookup x)=λ_=>none:=by funext x;rfl
  rw[<-e];exact j
 have I3:=λt'=>P.blk (t':=t') (C:=G.objs.size) (D:=s2.heap.objs.size) B f2 S rfl Z hl hns hk
 have l:∀{H':Hp},(∀b∈fp,H' b=none)->∀b∈fp,i4 (blk X M scope own G.objs.size s2 H2 fp) [] H' b:=λhn b k=>by
  refine⟨hn b k,?_,?_,.inl k,λx c e z=>?_,λp hp=>(f2 b k).2.2.2.2.2 p (Bb _ ((B8.mp hp).resolve_right A8))⟩
  ·show b≠G.objs.size;rw[Z];exact Nat.ne_of_lt (Bv (S b k))
  ·exact (I3 0).ok.exfs b k
  ·exact ((I3 0).ok.exf b k).2 x c e z
 have loop:∀s3:Shared,(∃t',s3={ s2 with heap:=h₁,toks:=t' })->codeAny (model X.prog X.w) X.A (.compLoop (.ListComp elt [⟨tg,iter,ifs,0⟩] scope pos) 0 (.ref it) (.ref s2.heap.objs.size) (compEnvC scope (f7 scope.names X.env.cells []) G.objs.size X.env))
   (compPost (model X.prog X.w) X.A X.xe use Qf (.ref s2.heap.objs.size) G.objs.size) s3:=by
  rintro s3 ⟨t',rfl⟩
  refine k7 (λn s'=>∃i ys F H',F.length=own.length/\Inv (blk X M scope own G.objs.size s2 H2 fp) [] (σ++F) H' s'/\tn i s'.heap/\(∀b∈fp,H' b=none)/\W i n ys H') ?_ m0
   ⟨0,[],_,_,by simp,I3 t',T.keep _ _ _ R λb k o e=>hk b o e,λb k=>by rw[aV (Nat.ne_of_lt (S b k))];exact (f2 b k).1,w0⟩
  rintro n s4 ⟨i,ys,F,K,hl',I4,st4,fr4,w4⟩
  obtain⟨hDl,alt⟩:=turn i n ys K w4;rcases alt with⟨stop,qn⟩|⟨go,step⟩
  ·refine thn (T.done (blk X M scope own G.objs.size s2 H2 fp) rfl rfl rfl hc i [] s4 _ K _ I4 (l fr4) st4 stop) λr L a=>?_
   obtain⟨hr,I5⟩:=a;subst hr;obtain⟨m,hn,_⟩:=I5.loc;have cS:s2.heap.objs.size<=G.objs.size:=by rw[Z];exact BZ _
   refine fin G.objs.size s2.heap.objs.size L K (λh' hs'=>P.unblk (C:=G.objs.size) f2 cS I5 hs') ⟨m,hn⟩ I5.free ?_ (λx c e=>?_) (λp hp=>?_) (Bj P.sz cS) qn
   ·obtain⟨_,hl0,_⟩:=P.loc;exact BX (B5 hl0.lt cS)
   ·obtain⟨_,q⟩:=P.cell x c e;exact Nat.ne_of_lt (B5 q.lt cS)
   ·exact Nat.ne_of_lt (B5 (Heap.lt_size (P.pin p hp).1) cS)
  ·refine thn (T.item (blk X M scope own G.objs.size s2 H2 fp) rfl rfl rfl hc i [] s4 _ K _ I4 (l fr4) st4 go) λr L a=>?_
   obtain⟨u,hr,h5⟩:=a;subst hr;refine thn h5 λ_ s6 a=>?_
   obtain⟨x,H6,I6,r6,y6,U,fr6⟩:=a;have I6':=I6.pinned (l fr6) (T.obj _ _ U);have kp:∀{t:St} {H7:Hp} {s7:Shared},Inv (blk X M scope own G.objs.size s2 H2 fp) ([]++gX fp s6.heap) t H7 s7->tn (i+1) s7.heap/\∀b∈fp,H7 b=none:=λ{t H7 s7} I7=>by refine⟨T.keep _ _ _ U λb k o e=>(I7.pin (b,o) (A9 _ (A9 _ (cX k e)))).1,λb k=>?_⟩;obtain⟨o,e,d⟩:=T.obj _ _ U b k;exact (I7.pin (b,o) (A9 _ (A9 _ (cX k e)))).2.1
   refine thn (hg _ _ _ _ _ s6 _ H6 x u _ I6' r6 (step x H6 F hl' y6)) λ_ s7 a=>?_
   obtain⟨t,H7,I7,q7⟩:=a;refine thn ((ht _ _ _ _).run I7 q7) λok s8 a=>?_
   obtain⟨H8,I8,q8⟩:=a;cases ok with
   |false =>
    obtain⟨⟨E,e,Y⟩,m',hm,w8⟩:=(show if false=true then _ else _ from q8)
    subst e;obtain⟨k1,k2⟩:=kp I8;exact⟨m',hm,i+1,ys,E,H8,Y,I8.unpinned,k1,k2,w8⟩
   |true =>
    have q8:te t H8 _:=q8;refine thn (he _ _ _ _ _ s8 t H8 _ I8 q8) λy s9 a=>?_
    obtain⟨v,H9,I9,r9,d9,z9,⟨E,e,Y⟩,m',hm,w9⟩:=a;subst e;refine thn (gW (X:=blk X M scope own G.objs.size s2 H2 fp) _ s9 _ H9 (.ref s2.heap.objs.size) [v] (.ref s2.heap.objs.size) [y] (λ_ H'=>H'=upd H9 s2.heap.objs.size (.lst (ys++[v]))) I9 rfl (.cons r9 .nil) ⟨_,ys,v,rfl,rfl,d9,z9,rfl⟩) λ_ s10 a=>?_
    obtain⟨_,H10,I10,_,e10⟩:=a;subst e10;obtain⟨k1,k2⟩:=kp I10;exact⟨m',hm,i+1,ys++[v],E,_,Y,I10.unpinned,k1,k2,w9⟩
 exact codeAny_compStart_list (loop _ ⟨_,rfl⟩) (T.self _ 0 _ _ _ (T.keep _ _ _ R λb k o e=>hk b o e) (loop _ ⟨_,rfl⟩))
theorem tG {c:TI} {tt:TT} (hc:X.calm=true) (hi:PI X tg iter c)
  (e:∀C s2 H2 fp,PG (blk X M scope own C s2 H2 fp) tg g) (f:∀C s2 H2 fp,PTs (blk X M scope own C s2 H2 fp) ifs tt) (i:∀C s2 H2 fp,PE (blk X M scope own C s2 H2 fp) elt te)
  (hB:g0 X.N M X.env.scope scope own=true:=by rfl) (j:∀x,foldedSetIterable iter X.env x=pure x:=by intro _;rfl):PE X (.ListComp elt [⟨tg,iter,ifs,0⟩] scope pos) (tLC own.length c g tt te):=by
 intro pins s σ H Q I h;rw[eval_ListComp];refine iG hc hi e f i hB j I h λC D s5 l k a _ _ _ _ _ q=>?_
 obtain⟨m,hn⟩:=a;exact⟨m,hn,λh' b=>⟨.ref D,l,k h' b,rfl,q⟩⟩
theorem rj {f:Pos} {B:TI} {tt:TT} (hc:X.calm=true) (O:X.N.Nodup) (l:X.N[i]?=some x) (P:Loc X.env.scope x)
  (p:swapsWith (.ListComp elt [⟨tg,iter,ifs,0⟩] scope pos) (some (.Name x pos')) f.line X.env=pure true) (hi:PI X tg iter B)
  (Q:∀C s2 H2 fp,PG (blk X M scope own C s2 H2 fp) tg g) (R:∀C s2 H2 fp,PTs (blk X M scope own C s2 H2 fp) ifs tt) (S:∀C s2 H2 fp,PE (blk X M scope own C s2 H2 fp) elt te)
  (hB:g0 X.N M X.env.scope scope own=true:=by rfl) (T:∀x,foldedSetIterable iter X.env x=pure x:=by intro _;rfl) (U:X.fn x=true\/X.env.scope.names.lookup x=some .local:=by first|exact .inl rfl|exact .inr rfl|assumption) :
  PS X (.Assign [.Name x pos'] (.ListComp elt [⟨tg,iter,ifs,0⟩] scope pos) f) (uV (tLC own.length B g tt te) (hW i)):=by
 intro pins s σ H D I h;show wpAny _ _ (exec _ X.env) _ _ s;rw[exec_Assign_Name_used _ _ _ _ p];refine wpAny_bind (wpAny_standAt (wpAny_bind ?_));rw[arm_evalThenUse_ListComp];refine wpAny_bind (thn (iG (use:=some (assign (.Name x pos') X.env)) (Qf:=λ_ s'=>SP X pins D .next s') hc hi Q R S hB T I h λC E F W k r G J K Y ns q=>?_) λ_ s' Z=>wpAny_pure (wpAny_pure Z));obtain⟨m,hn⟩:=r;have I5:=k F.heap (Heap.SameBut.refl _ _);show wpAny _ _ (assign (.Name x pos') X.env (.ref E)) _ _ F;refine wpAny_assign_Name (kh (v:=.ref E) I5 O l P rfl (λL t u=>?_) U);obtain⟨a,sb,ha⟩:=u;have w:C≠a:=by
  rcases ha with rfl|ha
  ·exact J
  ·exact λz=>K x a ha z.symm
 refine⟨m,hn.sameBut sb w,λh' y=>⟨_,W,?_,q⟩⟩;have j:∀b o,b≠C->L.heap.get? b=some o->h'.get? b=some o:=λb o A e=>(y.2 b A).trans e
 refine t.call' (s':={ L with heap:=h' }) (ch:=[C]) rfl ?_ ?_ t.bare λb A=>?_
 ·refine⟨λb o e _ _ z=>j b o (λq=>z (by rw[q];exact List.mem_singleton.mpr rfl)) e,λb o e _ _ z=>⟨o.slots,j b o (λq=>z (by rw[q];exact List.mem_singleton.mpr rfl)) e⟩,λ_ _ _ n _=>n,λb o e z=>⟨o,j b o (λq=>z (by rw[q];exact List.mem_singleton.mpr rfl)) e⟩,λ_ _ q=>q,λ_ _ _ q=>q,λ_ _ q=>q⟩
 ·intro b o e;refine (t.hok b o e).stay (λc v hc q=>j c v ?_ q) (λ_ q=>q) λ_ _ q=>q
  rintro rfl
  rcases hc with z|z
  ·subst z;rw[G]at e;cases e
  ·rw[G]at z;cases z
 ·rw[List.mem_singleton.mp A];exact⟨.inr ns,λz=>J z,K,Y⟩
mutual
def IsD (K:PySem.W.Frag) (H:Hp):PyData->V->Prop
 |.none,v=>v=.non
 |.bool b,v=>v=.bl b
 |.int i,v=>v=.int i
 |.str x,v=>v=.str x
 |.list ds,v=>∃a xs,v=.ref a/\SqL K H a xs/\cJ K H ds xs
 |.tuple ds,v=>∃a xs,v=.ref a/\SqT K H a xs/\cJ K H ds xs
 |.dict _,_=>False
def cJ (K:PySem.W.Frag) (H:Hp):List PyData->List V->Prop
 |[],vs=>vs=[]
 |d::ds,vs=>∃v r,vs=v::r/\IsD K H d v/\cJ K H ds r
end
theorem aj.tupS (e:aj H H') (h:SqT K H a xs):SqT K H' a xs:=by
 rcases h with (h|⟨o,h⟩)|h
 ·exact .inl (.inl (e _ _ h))
 ·exact .inl (.inr ⟨o,e _ _ h⟩)
 ·exact .inr h
mutual
theorem IsD.same {K:PySem.W.Frag} {H H':Hp} (e:aj H H'):∀{d:PyData} {v:V},IsD K H d v->IsD K H' d v
 |.none,_,h=>by unfold IsD at h ⊢;exact h
 |.bool _,_,h=>by unfold IsD at h ⊢;exact h
 |.int _,_,h=>by unfold IsD at h ⊢;exact h
 |.str _,_,h=>by unfold IsD at h ⊢;exact h
 |.list ds,_,h=>by unfold IsD at h ⊢;obtain⟨a,xs,e1,h1,h2⟩:=h;exact⟨a,xs,e1,e.seq h1,cJ.same e h2⟩
 |.tuple ds,_,h=>by unfold IsD at h ⊢;obtain⟨a,xs,e1,h1,h2⟩:=h;exact⟨a,xs,e1,e.tupS h1,cJ.same e h2⟩
 |.dict _,_,h=>by unfold IsD at h;exact h.elim
theorem cJ.same {K:PySem.W.Frag} {H H':Hp} (e:aj H H'):∀{ds:List PyData} {vs:List V},cJ K H ds vs->cJ K H' ds vs
 |[],_,h=>by unfold cJ at h ⊢;exact h
 |d::ds,_,h=>by unfold cJ at h ⊢;obtain⟨v,r,e1,h1,h2⟩:=h;exact⟨v,r,e1,IsD.same e h1,cJ.same e h2⟩
end
section
theorem k6 {i:Int}:IsD K H (.int i) (.int i):=by unfold IsD;rfl
theorem si {b:Bool}:IsD K H (.bool b) (.bl b):=by unfold IsD;rfl
theorem q9:IsD K H .none .non:=by unfold IsD;rfl
theorem uQ:IsD K H (.str x) (.str x):=by unfold IsD;rfl
theorem uv (h:SqT K H a xs) (h2:cJ K H ds xs):IsD K H (.tuple ds) (.ref a):=by unfold IsD;exact⟨a,xs,rfl,h,h2⟩
theorem kQ (h:SqL K H a xs) (h2:cJ K H ds xs):IsD K H (.list ds) (.ref a):=by unfold IsD;exact⟨a,xs,rfl,h,h2⟩
theorem jd:cJ K H [] []:=by unfold cJ;rfl
theorem ka {d:PyData} (h:IsD K H d v) (h2:cJ K H ds vs):cJ K H (d::ds) (v::vs):=by unfold cJ;exact⟨v,vs,rfl,h,h2⟩
theorem IsD.ofInt {i:Int} (h:IsD K H (.int i) v):v=.int i:=by unfold IsD at h;exact h
theorem IsD.ofBool {i:Bool} (h:IsD K H (.bool i) v):v=.bl i:=by unfold IsD at h;exact h
theorem IsD.ofNone (h:IsD K H .none v):v=.non:=by unfold IsD at h;exact h
theorem IsD.ofStr (h:IsD K H (.str x) v):v=.str x:=by unfold IsD at h;exact h
theorem IsD.ofTup (h:IsD K H (.tuple ds) v):∃a xs,v=.ref a/\SqT K H a xs/\cJ K H ds xs:=by unfold IsD at h;exact h
theorem IsD.ofLst (h:IsD K H (.list ds) v):∃a xs,v=.ref a/\SqL K H a xs/\cJ K H ds xs:=by unfold IsD at h;exact h
theorem cJ.nil_of (h:cJ K H [] vs):vs=[]:=by unfold cJ at h;exact h
theorem cJ.cons_of {d:PyData} (h:cJ K H (d::ds) vs):∃v r,vs=v::r/\IsD K H d v/\cJ K H ds r:=by unfold cJ at h;exact h
theorem kj:∀(ns:List Int),cJ K H (ns.map PyData.int) (ns.map V.int)
 |[]=>jd
 |_::r=>ka k6 (kj r)
end
section
mutual
theorem Inv.reads (I:Inv X pins σ H s):∀{d:PyData} {v:V} {u:Value},IsD X.K H d v->RelV v u->∃b,Reads s.heap u d b
 |.none,_,_,h,r=>by rw[h.ofNone]at r;cases r;exact⟨_,.none⟩
 |.bool _,_,_,h,r=>by rw[h.ofBool]at r;cases r;exact⟨_,.bool _⟩
 |.int _,_,_,h,r=>by rw[h.ofInt]at r;obtain⟨t,rfl⟩:=r;exact⟨_,.int _ _⟩
 |.str _,_,_,h,r=>by rw[h.ofStr]at r;obtain⟨t,rfl⟩:=r;exact⟨_,.str _ _⟩
 |.list ds,_,_,h,r=>by obtain⟨a,xs,e,h1,h2⟩:=h.ofLst;subst e;cases r;obtain⟨f,i,⟨o,n,g,c,_,d⟩,_⟩:=I.list h1;obtain⟨b,j⟩:=Inv.readsAll I h2 i;exact⟨_,.list g c d (by simpa using j)⟩
 |.tuple ds,_,_,h,r=>by obtain⟨a,xs,e,h1,h2⟩:=h.ofTup;subst e;cases r;obtain⟨f,i,⟨o,g,c,n,d⟩,_⟩:=I.tuple h1;obtain⟨b,j⟩:=Inv.readsAll I h2 i;exact⟨_,.tuple g c d (by simpa using j)⟩
 |.dict _,_,_,h,_=>by unfold IsD at h;exact h.elim
theorem Inv.readsAll (I:Inv X pins σ H s):∀{ds:List PyData} {vs:List V} {us:List Value},cJ X.K H ds vs->Vals vs us->∃a,ReadsAll s.heap us ds a
 |[],_,_,h,r=>by rw[h.nil_of]at r;cases r;exact⟨_,.nil⟩
 |d::ds,_,_,h,r=>by
  obtain⟨v,t,e,h1,h2⟩:=h.cons_of;subst e;cases r with
  |cons r1 r2 =>obtain⟨a,b⟩:=Inv.reads I h1 r1;obtain⟨bs,c⟩:=Inv.readsAll I h2 r2;exact⟨_,.cons b c⟩
end
open PySem.SeqAt in
theorem mO (a:X.A.units+64<cLine):OpR X (compareOp .Eq) (λx y H Q=>∃d e,IsD X.K H d x/\IsD X.K H e y/\shaped d=true/\shaped e=true/\Q (.bl (PyData.eqv d e)) H):=by intro pins s σ H x y v u Q I b c h;obtain⟨d,e,hd,f,g,i,q⟩:=h;obtain⟨as,j⟩:=I.reads hd b;obtain⟨bs,k⟩:=I.reads f c;exact eq_dataH j k g i a ⟨.bl _,H,I,rfl,q⟩
open PySem.SeqAt in
theorem xN (a:X.A.units+64<cLine):OpR X (compareOp .NotEq) (λx y H Q=>∃d e,IsD X.K H d x/\IsD X.K H e y/\shaped d=true/\shaped e=true/\Q (.bl (!PyData.eqv d e)) H):=by intro pins s σ H x y v u Q I b c h;obtain⟨d,e,hd,f,g,i,q⟩:=h;obtain⟨as,j⟩:=I.reads hd b;obtain⟨bs,k⟩:=I.reads f c;exact ne_dataH j k g i a ⟨.bl _,H,I,rfl,q⟩
def tyD:PyData->String
 |.none=>"NoneType"
 |.bool _=>"bool"
 |.int _=>"int"
 |.str _=>"str"
 |.list _=>"list"
 |.tuple _=>"tuple"
 |.dict _=>"dict"
def fB (d:PyData) (T:String):Bool:=tyD d==T||(T=="int"&&tyD d=="bool")
theorem vG (K:PySem.W.Frag) {a T:String} (ha:a∈["NoneType", "bool", "int", "str", "list", "tuple"]) (b:T∈["bool", "int", "list", "tuple"]) :
  PySem.W.kitOne K (.type a) (.type T)=some (a==T||(T=="int"&&a=="bool")):=by
 simp only[List.mem_cons,A8,or_false]at ha b;rcases ha with rfl|rfl|rfl|rfl|rfl|rfl <;> rcases b with rfl|rfl|rfl|rfl <;> rfl
theorem oO {d:PyData} (h:IsD K H d v):tyD d∈["NoneType", "bool", "int", "str", "list", "tuple"]:=by
 cases d with
 |dict _=>unfold IsD at h;exact h.elim
 |_=>simp[tyD]
theorem lJ:d7 X (.builtin "isinstance") (λxs H Q=>∃d v T,xs=[v,.ty T]/\IsD X.K H d v/\T∈["bool", "int", "list", "tuple"]/\Q (.bl (fB d T)) H):=by
 intro pins s σ H xs us Q I r h;obtain⟨d,v,T,rfl,hd,k,q⟩:=h;obtain⟨u,c,rfl,f,l⟩:=vals2 r;cases l;have e:PySem.W.kitOne X.K (.type (tyD d)) (.type T)=some (fB d T):=vG X.K (oO hd) k;have fin:∀tk,EP X pins σ Q (.bool (fB d T)) { s with toks:=tk }:=λtk=>⟨.bl _,H,I.tok tk,rfl,q⟩
 cases d with
 |none=>rw[hd.ofNone]at f;cases f;exact PySem.W.kia_one PySem.W.kitx_none I.kIn True.intro e (λz=>nomatch z) fin
 |bool b=>rw[hd.ofBool]at f;cases f;exact PySem.W.kia_one PySem.W.kitx_bool I.kIn True.intro e (λz=>nomatch z) fin
 |int i=>rw[hd.ofInt]at f;obtain⟨t,rfl⟩:=f;exact PySem.W.kia_one PySem.W.kitx_int I.kIn True.intro e (λz=>nomatch z) fin
 |str x=>rw[hd.ofStr]at f;obtain⟨t,rfl⟩:=f;exact PySem.W.kia_one PySem.W.kitx_str I.kIn True.intro e (λz=>nomatch z) fin
 |list ds =>obtain⟨a,xs,e1,h1,h2⟩:=hd.ofLst;subst e1;cases f;obtain⟨j,m,⟨o,n,g,c,_,_⟩,_⟩:=I.list h1;exact PySem.W.kia_one PySem.W.kitx_list I.kIn ⟨o,g,c⟩ e (λz=>nomatch z) fin
 |tuple ds =>obtain⟨a,xs,e1,h1,h2⟩:=hd.ofTup;subst e1;cases f;obtain⟨j,m,⟨o,g,c,n,_⟩,_⟩:=I.tuple h1;exact PySem.W.kia_one PySem.W.kitx_tuple I.kIn ⟨o,g,c⟩ e (λz=>nomatch z) fin
 |dict _=>unfold IsD at hd;exact hd.elim
theorem jc:∀{bs:List Bool} {us:List Value},Vals (bs.map V.bl) us->LSm.BoolsAre us bs
 |[],_,.nil=>.nil
 |b::r,_,.cons h t=>by cases (show _=Value.bool b from h);exact .cons b (jc t)
theorem rS (hc:X.calm=true):d7 X (.builtin "all") (λxs H Q=>∃(a:Addr) (bs:List Bool),xs=[.ref a]/\SqL X.K H a (bs.map V.bl)/\Q (.bl (bs.all id)) H):=by
 intro pins s σ H xs us Q I r h;obtain⟨a,bs,rfl,k,q⟩:=h;obtain⟨u,rfl,l⟩:=vals1 r;cases l;obtain⟨c,m,p,_⟩:=I.list k;have hl:=p.isList;have g:=jc m;have f:a<s.heap.objs.size:=by obtain⟨_,e,_⟩:=hl;exact Heap.lt_size e
 refine call_all_walk (wpAny_pyIter_list hl ?_);refine⟨s.heap.objs.size,[s.heap.objs.size,a]++hdA X.A,[s.heap.objs.size],c.toArray.size,_,_,λi=>(bs[i]?).getD true,rfl,nN (A:=X.A.in1) _ a (Nat.ne_of_lt f) (λe n=>(I.hdH hc).ne (B0 _) e n) c.toArray,
  ⟨⟨⟨_,Ba _ rfl,rfl,rfl⟩,hl.push _⟩,(I.hdH hc).push _⟩,λi v s' Q' E' o j=>?_,λh' tk t=>?_⟩
 ·obtain⟨b,e,rfl⟩:=g.get i v (by simpa using o);simp only[e,Option.getD_some]at j;exact wpAny_truthy_bool j
 ·have e:((List.range c.toArray.size).all λi=>(bs[i]?).getD true)=bs.all id:=by rw[B4,g.length];exact LSm.range_all bs
  rw[e];exact⟨.bl _,H,I.kept (LSm.kept_iter t),rfl,q⟩
end
structure pC (P:Program) (w:World) (outer:List Env) (H:Hp) (s:Shared) (H':Hp) (B:Heap) (ea:Addr) (cls a0:Value) (s':Shared):Prop where
 os:s'.os=s.os
 bare:AllBare s'.gens
 hok:HOk P w H' B
 keep:∀b o,s.heap.get? b=some o->H b=none->b∉frs outer->B.get? b=some o
 there:∀b o,s.heap.get? b=some o->b∉frs outer->∃o',B.get? b=some o'
 slot:∀b o,s.heap.get? b=some o->b∈frs outer->∃sl,s'.heap.get? b=some { o with slots:=sl }
 free:∀b o,s.heap.get? b=some o->H b=none->H' b=none
 tups:∀b xs,H b=some (.tup xs)->H' b=some (.tup xs)
 frzs:∀b o u,H b=some (.frz o u)->H' b=some (.frz o u)
 tbls:∀b q,H b=some (.tbl q)->H' b=some (.tbl q)
 fly:Heap.FlyingW B outer ea cls a0 s'.heap
def Clr (K:PySem.W.Frag) (cls:Value):Prop:=∀C,PySem.W.nsIn K mainGlobals "NoText"=some (some (.ref C))->cls≠.ref C
def CXW (P:Program) (w:World) (K:PySem.W.Frag):CXT:=λa outer H s E e s'=>∃ea cls a0 H' B,e=.ref ea/\E cls none H'/\pC P w outer H s H' B ea cls a0 s'/\(a=none->Clr K cls->eQ s'.heap ea)
theorem dk.get {w:World} (x:dk P w H h a o):∃ob,h.get? a=some ob:=by
 cases o with
 |lst xs=>obtain⟨_,_,_,_,e⟩:=x;exact⟨_,e⟩
 |tup xs=>obtain⟨_,_,_,ob,e,_⟩:=x;exact⟨_,e⟩
 |dK kvs=>obtain⟨_,_,_,_,o,_,_,e,_⟩:=x;exact⟨_,e⟩
 |dT kvs=>obtain⟨_,_,_,_,o,_,_,e,_⟩:=x;exact⟨_,e⟩
 |set S n=>obtain⟨o,_,_,_,e,_⟩:=x;exact⟨_,e⟩
 |ins C dx fs=>obtain⟨_,_,_,e,_⟩:=x;exact⟨_,e⟩
 |own y=>exact x
 |xd fs=>obtain⟨_,⟨_,_,_,e,_⟩,_⟩:=x;exact⟨_,e⟩
 |rng lo hi=>obtain⟨_,_,_,e⟩:=x;exact⟨_,e⟩
 |frz ob u=>obtain⟨e,_⟩:=x;exact⟨_,e⟩
 |tbl q=>obtain⟨_,e,_⟩:=x;exact⟨_,e⟩
 |met f y=>exact⟨_,show h.get? a=some _ from x⟩
 |ext φ=>obtain⟨_,e,_⟩:=x;exact e
section
variable {w:World} {f:Addr} {A:Around}
theorem dG (a:env.frame=some L):frs (env::outer)=L::frs outer:=by unfold frs;rw[BM,a]
theorem my {CX:CXT} {g:Shared} {vs:List Value}
  (I:Inv (bT (CXW P w K) P w K mg base N qual scope f cd A outer s H E) pins σ H1 g) (m:i8 (bT (CXW P w K) P w K mg base N qual scope f cd A outer s H E).A g.heap h' ea cls vs) (p:E cls none H1) :
  (bT (CXW P w K) P w K mg base N qual scope f cd A outer s H E).xe (.ref ea) { g with heap:=h' }:=by
 have i:=I.stack;have j:frs (bT (CXW P w K) P w K mg base N qual scope f cd A outer s H E).stack=s.heap.objs.size::frs outer:=dG rfl;have k:∀env∈(bT (CXW P w K) P w K mg base N qual scope f cd A outer s H E).stack,∀b,env.frame=some b->b∈frs (bT (CXW P w K) P w K mg base N qual scope f cd A outer s H E).stack:=λenv r b c=>BO.mpr ⟨env,r,c⟩
 have out:∀b o,s.heap.get? b=some o->b∉frs outer->b∉frs (bT (CXW P w K) P w K mg base N qual scope f cd A outer s H E).stack:=λb o e n z=>by
  rw[j]at z;rcases List.mem_cons.mp z with z|z
  ·rw[z]at e;exact absurd (Heap.lt_size e) (Bs _)
  ·exact n z
 refine nH (base:=PySem.W.hideAll g.heap (frs (bT (CXW P w K) P w K mg base N qual scope f cd A outer s H E).stack)) I.ok.frames rfl (λb o q=>PySem.W.of_hideAll _ q) (PySem.W.funFrames_hide i k) m λh2 t x1 x4 y=>?_
 refine⟨ea,cls,.ref t,H1,_,rfl,p,⟨I.os,I.bare,?_,?_,?_,?_,?_,I.base.tups,I.base.frzs,I.base.tbls,x1⟩,λz _=>y z⟩
 ·intro a o e;refine (I.hok a o e).stay (λb u c q=>PySem.W.hideAll_get _ q λz=>?_) (λ_ q=>q) λ_ _ q=>q
  have:=I.stkFree b z;rcases c with c|c
  ·rw[c,e]at this;cases this
  ·rw[c]at this;cases this
 ·intro b o e n c;exact PySem.W.hideAll_get _ (I.base.keep b o e n c (A8)) (out b o e c)
 ·intro b o e c;obtain⟨o',q⟩:=I.base.there b o e (A8);exact⟨o',PySem.W.hideAll_get _ q (out b o e c)⟩
 ·intro b o e c;obtain⟨sl,q⟩:=I.base.slot b o e (I.ok.frf b c) c (A8);obtain⟨_,v,h,d2⟩:=I.ok.funs.mem c;have h:s.heap.get? b=some v:=h;rw[e]at h;cases h;obtain⟨l,x⟩:=x4 b _ (m.keeps b _ q) d2;exact⟨l,x⟩
 ·intro b o e n;exact I.base.free b o e n (A8)
theorem uY:Passes (CXW P w K) (bT (CXW P w K) P w K mg base N qual scope f cd A outer s H E) E:=by
 refine⟨rfl,?_⟩;intro pins σ H1 s1 e s2 I hc;obtain⟨ea,cls,a0,H2,B,rfl,j,F,k⟩:=hc;have g:frs (bT (CXW P w K) P w K mg base N qual scope f cd A outer s H E).stack=s.heap.objs.size::frs outer:=dG rfl;have out:∀b o,s.heap.get? b=some o->b∉frs outer->b∉frs (bT (CXW P w K) P w K mg base N qual scope f cd A outer s H E).stack:=λb o e n z=>by
  rw[g]at z;rcases List.mem_cons.mp z with z|z
  ·rw[z]at e;exact absurd (Heap.lt_size e) (Bs _)
  ·exact n z
 refine mM (P:=A.handled=none/\Clr K cls) I.ok.frames rfl F.fly (λz=>k z.1 z.2) λh2 x1 x2 y=>⟨ea,cls,a0,H2,B,rfl,j,⟨F.os.trans I.os,F.bare,F.hok,?_,?_,?_,?_,?_,?_,?_,x1⟩,λa b=>y ⟨a,b⟩⟩
 ·intro b o e n c;exact F.keep b o (I.base.keep b o e n c (A8)) (I.base.free b o e n (A8)) (out b o e c)
 ·intro b o e c;obtain⟨o',q⟩:=I.base.there b o e (A8);exact F.there b o' q (out b o e c)
 ·intro b o e c;obtain⟨sl,q⟩:=I.base.slot b o e (I.ok.frf b c) c (A8);obtain⟨_,l,h,d2⟩:=I.ok.funs.mem c;have h:s.heap.get? b=some l:=h;rw[e]at h;cases h;obtain⟨sl1,m⟩:=F.slot b _ q (by rw[g];exact A6 _ c);obtain⟨i,p⟩:=x2 b _ m d2;exact⟨i,p⟩
 ·intro b o e n;obtain⟨o',q⟩:=I.base.there b o e (A8);exact F.free b o' q (I.base.free b o e n (A8))
 ·intro b xs e;exact F.tups b xs (I.base.tups b xs e)
 ·intro b o u e;exact F.frzs b o u (I.base.frzs b o u e)
 ·intro b ps e;exact F.tbls b ps (I.base.tbls b ps e)
end
theorem fZ (X:K.In h) (q:PySem.W.excIn K C bmB newId=true) :
  ∃bm N nm o bs hdct sn sub ab col dd k0 k1 k2 k3 k5 mN,h.get? C=some (excClassObj nm o C N bs bm hdct sn sub ab col dd k0 k1 k2 k3 k5 newId)/\h.Ns N mN/\mN "__init__"=none/\OwnTail h bmB bm:=by
 unfold PySem.W.excIn at q;split at q
 ·rename_i d1 p l1 g1;split at q
  ·rename_i C2 a f g i j n2 k hm r;simp only[B3,beq_iff_eq,Bool.not_eq_true']at q;obtain⟨⟨⟨⟨⟨s,t⟩,m⟩,u⟩,b⟩,n⟩:=q;subst s;subst t;obtain⟨z1,z2,z3,z4,z5,z6,z7,z8,v,c,z11⟩:=p;dsimp only at hm m b n;subst hm;subst m;have hl:l1=#[f,g,i,j,some (.builtin n2),k]:=by obtain⟨l⟩:=l1;have e:l=_:=r;rw[e]
   subst hl;exact⟨a,z4,z1,z5,z2,z6,z7,z8,v,c,d1,f,g,i,j,k,_,X _ _ g1,.of_isNs (PySem.W.isNs_of_in X b),PySem.W.nsMap_none_of_in X b n,PySem.W.tail_of_in X u⟩
  ·cases q
 ·cases q
def og (X:Cx) (E:XK):Prop:=∀(pins:List (Addr×Obj)) (σ:St) (H:Hp) (s:Shared) (h':Heap) (ea:Addr) (cls:Value) (vs:List Value),Inv X pins σ H s->i8 X.A s.heap h' ea cls vs->E cls none H->X.xe (.ref ea) { s with heap:=h' }
def xB (C:Addr) (E:XK) (t:TA):TS:=λ_ σ H=>t σ H λvs H1=>vs.length<=sizeLine/\E (.ref C) none H1
theorem tx {B initId:String} {bm:List Value} {k:Pos} {t:TA} (hc:X.calm=true) (M:og X E) (FB:ExcBaseFacts B newId initId bm) (l:Gl X x) (hm:X.mg x=some (.ref C)) (m:PySem.W.excIn X.K C bm newId=true)
  (ha:PA X (e::es) t) (b:(x==("__debug__":Str))=false:=by decide) (i:starEach (e::es) X.env=(false,eval e X.env)::starEach es X.env:=by rfl) (c:(backTo cpos (starEach es X.env)).any (·.1)=false:=by rfl) :
  PS X (.Raise (some (.Call (.Name x k) (e::es) [] cpos)) none pos) (xB C E t):=by
 intro pins s σ H D I h;obtain⟨tl,N,nm,q,bs,hdct,sn,sub,ab,col,dd,k0,k1,k2,k3,k5,mN,f,n,g,T⟩:=fZ I.mod.kin m;refine jB (C:=C) (nm:=nm) (q:=q) (N:=N) (bs:=bs) (bm:=tl) (hdct:=hdct) (sn:=sn) (sub:=sub) (ab:=ab) (col:=col) (dd:=dd) (k0:=k0) (k1:=k1) (k2:=k2) (k3:=k3) (k5:=k5)
  FB (mN:=mN) (T.hasType FB.hasBase) (by rw[i];show (false||(backTo cpos (starEach es X.env)).any (·.1))=false;rw[c];rfl) g (d5 I l hm ⟨rfl,?_⟩ b)
 have j:=ha cpos pins s σ H _ I h;rw[i]at j ⊢;refine Calls.evalArgs_plain (wpAny_mono j (λus s2 h2=>?_) λ_ _ y=>y);obtain⟨vs,H2,a,o,z,p⟩:=h2;exact⟨rfl,by rw[<-o.length];exact z,a.bk _ _ f,n.keeps a.bk,T.keeps a.bk,a.hdH hc,λh' ea r=>M pins σ H2 s2 h' ea _ _ a r p⟩
def XP (X:Cx) (pins:List (Addr×Obj)) (σ:St) (a:XK) (b:Value) (s':Shared):Prop:=∃H s,Inv X pins σ H s/\CXW X.prog X.w X.K X.A.handled X.stack H s a b s'
abbrev TX:=St->Hp->VK->XK->Prop
def PEX (X:Cx) (e:Expr) (t:TX):Prop :=
 ∀(pins:List (Addr×Obj)) (s:Shared) (σ:St) (H:Hp) (Q:VK) (a:XK),Inv X pins σ H s->t σ H Q a->wpAny (model X.prog X.w) X.A (eval e X.env) (EP X pins σ Q) (XP X pins σ a) s
def zA (sp:Sp) (dvs:List V) (t:TA):TX:=λσ H Q a=>t σ H λvs H1=>sp (vs++dvs) H1 Q a
theorem iI {f:Addr} {dvs:List V} {ds:List Value} {t:TA}
  (F:ff X.prog X.w X.K X.mg X.base (CXW X.prog X.w X.K) k f fd ps sp) (hc:X.calm=true) (l:cu k X.A) (m:Gl X x) (hm:X.mg x=some (.ref f)) (n:PySem.W.keepIn X.K (.ref f)=true) (o:Binds X.K fd ps ds) (hd:Vals dvs ds)
  (ha:PA X.nox (e::es) t) (c:(x==("__debug__":Str))=false:=by decide) (v:starEach (e::es) X.env=(false,eval e X.env)::starEach es X.env:=by rfl) (g:(backTo pos (starEach es X.env)).any (·.1)=false:=by rfl) :
  PEX X (.Call (.Name x p) (e::es) [] pos) (zA sp dvs t):=by
 intro pins s σ H Q y I h;refine wpAny_Call_Name_kw (d5 I m hm ?_ c);have B:=ha pos pins s σ H _ (I.wish _) h;refine PySem.W.callWith_K (h₀:=X.base) I.ok.mod.kin n (wpAny_mono B (λus i h1=>?_) λ_ _ z=>z.elim) v g;obtain⟨vs,H1,a,r,q⟩:=h1;have a:=a.unwish;refine⟨a.kIn,?_⟩;have j:Vals (vs++dvs) (us++ds):=r.append hd;have hl:(us++ds).length=ps.length:=by rw[<-j.length];exact F.len _ _ _ _ q
 refine wpAny_call (codeAny_mono (F.run X.A X.stack i H1 ⟨us,[]⟩ (us++ds) (vs++dvs) Q y l (a.env0 hc) (o i us a.kIn hl) j q) λr s' b=>?_);cases r with
 |error ev=>exact⟨H1,i,a,b⟩
 |ok fl =>
  cases fl with
  |ret u=>exact a.after b
  |next=>exact False.elim b
  |brk=>exact False.elim b
  |cont=>exact False.elim b
def sui (X:Cx) (ea:Addr) (oe:Obj):Cx:={ X with A:=X.A.mark (some (.ref ea)),calm:=false,pn:=X.pn++[(ea,oe)],xe:=λ_ _=>False }
theorem Inv.sui (I:Inv X pins σ H s)
  (h:s.heap.get? ea=some oe/\H ea=none/\ea≠X.env.locals/\ea∉X.fs/\∀v,oe.data≠.cell v):Inv (L2.sui X ea oe) pins σ H s :=
 ⟨⟨I.ok.mod,I.ok.kind,I.ok.glob,I.ok.blt,I.ok.above,I.ok.inj,I.ok.has,I.ok.cab,(λz=>nomatch z),I.ok.frames,I.ok.stk,I.ok.exf,I.ok.bs,I.ok.bsz,I.ok.noex,I.ok.exfs,I.ok.funs,I.ok.frf⟩,
  I.os,I.bare,I.base,I.loc,I.cell,I.free,I.freeC,λp a=>by
   rcases B8.mp a with a|a
   ·rcases B8.mp (show p∈X.pn++[(ea,oe)] from a) with a|a
    ·exact I.pin p (Bb _ a)
    ·cases List.mem_singleton.mp a;exact h
   ·exact I.pin p (A9 _ a),I.hok,I.len,I.tab⟩
theorem Inv.unsui (ok:X.Ok) (I:Inv (L2.sui X ea oe) pins σ H s):Inv X pins σ H s :=
 ⟨ok,I.os,I.bare,I.base,I.loc,I.cell,I.free,I.freeC,λp a=>by
  rcases B8.mp a with a|a
  ·exact I.pin p (Bb _ (Bb _ a))
  ·exact I.pin p (A9 _ a),I.hok,I.len,I.tab⟩
theorem pC.inv {g:Heap} (I:Inv X pins σ H s) (F:pC X.prog X.w X.stack H s H' B ea cls a0 s') (hB:B.StaysIn g) (i:s'.heap.UpToSlots g) :
  Inv X pins σ H' { s' with heap:=g }:=by
 refine I.call' (s':={ s' with heap:=g }) (ch:=[]) F.os ⟨λb o e n h1 _=>hB b o (F.keep b o e n h1),λb o e n h1 _=>?_,λb o e n _=>F.free b o e n,λb o e _=>?_,F.tups,F.frzs,F.tbls⟩ (F.hok.kept hB) F.bare (λb a=>absurd a (A8))
 ·obtain⟨sl,q⟩:=F.slot b o e h1;obtain⟨_,j,c,d2⟩:=I.stack.mem h1;rw[e]at c;cases c;obtain⟨f,h⟩:=i b _ q d2;exact⟨f,h⟩
 ·by_cases a:b∈frs X.stack
  ·obtain⟨sl,q⟩:=F.slot b o e a;obtain⟨_,j,c,d2⟩:=I.stack.mem a;rw[e]at c;cases c;obtain⟨f,h⟩:=i b _ q d2;exact⟨_,h⟩
  ·obtain⟨o',q⟩:=F.there b o e a;exact⟨o',hB _ _ q⟩
theorem pC.apart {f:Heap} (I:Inv X pins σ H s) (F:pC X.prog X.w X.stack H s H' B ea cls a0 s') (g:Heap.FlyingW B X.stack ea cls a0 f) (hs:s'.heap.UpToSlots f) :
  ∃oe,oe.cls=cls/\f.get? ea=some oe/\H' ea=none/\ea≠X.env.locals/\ea∉X.fs/\∀v,oe.data≠.cell v:=by
 obtain⟨f1,f2,k,oe,vs,T,oT,ts,j,hc,hd,_⟩:=g;have a:∀b,b∈frs X.stack->ea≠b:=λb l z=>by subst z;obtain⟨_,o,c,h⟩:=k.mem l;rw[j]at c;cases c;exact h _ hd
 refine⟨oe,hc.1,j,?_,?_,λz=>?_,λv z=>by rw[hd]at z;cases z⟩
 ·cases q:H' ea with
  |none=>rfl
  |some o =>obtain⟨ob,e⟩:=(F.hok ea o q).get;rw[f2]at e;cases e
 ·rcases I.ok.stk with e|⟨e,i⟩
  ·intro z;obtain⟨m,⟨o,es,ep,c,hd2,_⟩,_⟩:=I.loc;have n:ea∉frs X.stack:=λq=>a ea q rfl
   obtain⟨o',q⟩:=F.there ea o (by rw[z];exact c) n;rw[f2]at q;cases q
  ·exact a _ (by rw[e,dG i];exact List.mem_cons_self)
 ·have:ea∈frs X.stack:=by
   rcases I.ok.stk with e|⟨e,i⟩
   ·rw[e];exact z
   ·rw[e,dG i];exact A6 _ z
  exact a ea this rfl
theorem gp (h:H D=none):aj H (upd H D o):=λb u e=>by rw[aV (a6 e h)];exact e
theorem aj.put (s:aj H H') (h:H D=none):aj H (upd H' D o):=λb u e=>by rw[aV (a6 e h)];exact s b u e
mutual
def cT:PyData->Bool
 |.list _=>false
 |.tuple ds=>fO ds
 |.dict _=>false
 |_=>true
def fO:List PyData->Bool
 |[]=>true
 |d::ds=>cT d&&fO ds
end
theorem set_own (σ:St) (x:Option V) (v:V) (a:St) (h:a.length=1):(σ++a).set σ.length (some v)=σ++[some v]:=by obtain⟨y,rfl⟩:=List.length_eq_one_iff.mp h;simp
structure Rows (H H':Hp) (D:Addr) (qs:List Addr) (rs:List (List Int)):Prop where
 d:H' D=some (.lst (qs.map V.ref))
 len:qs.length=rs.length
 at':∀(i:Nat) q r,qs[i]?=some q->rs[i]?=some r->H' q=some (.lst (r.map V.int))
 new:∀q∈qs,H q=none
 nd:qs.Nodup
 nD:D∉qs
section
variable {prog:Program} {w:World} {A:Around} {E:Value->Shared->Prop}
end
section
variable {prog:Program} {w:World} {A:Around} {E:Value->Shared->Prop} {z TI TO i1 i2:Addr} {f1 f2:List Addr} {n1 n2:Nat} {P1 P2:Nat->Value->Prop} {S1 S2:Nat->Heap->Prop} {a b:Value}
end
section
variable {σ:L2.St}
end
inductive Rs (α:Type) where
 |ok (a:α)
 |rz (C:Addr)
 |no
namespace Rs
def bind {α β:Type}:Rs α->(α->Rs β)->Rs β
 |ok a,f=>f a
 |rz C,_=>rz C
 |no,_=>no
def aW {α:Type}:Option α->Rs α
 |some a=>ok a
 |none=>no
def calm {α:Type}:Rs α->Rs α
 |ok a=>ok a
 |_=>no
@[simp]theorem ag (a:α) (f:α->Rs β):(ok a).bind f=f a:=rfl
@[simp]theorem d8 (C:Addr) (f:α->Rs β):(rz C).bind f=rz C:=rfl
@[simp]theorem bo (f:α->Rs β):(no:Rs α).bind f=no:=rfl
@[simp]theorem aN (a:α):aW (some a)=ok a:=rfl
@[simp]theorem wI:aW (none:Option α)=no:=rfl
@[simp]theorem ft (a:α):(ok a).calm=ok a:=rfl
end Rs
variable {gf:List PyData->Rs PyData}
def del (H:Hp) (A:List Addr):Hp:=λb=>if b∈A then none else H b
theorem oM:del H []=H:=by funext b;simp[del]
theorem fJ (h:b∈A):del H A b=none:=by simp[del,h]
theorem bc (h:b∉A):del H A b=H b:=by simp[del,h]
theorem dh (h:del H A b=some o):b∉A/\H b=some o:=by
 by_cases z:b∈A
 ·rw[fJ z]at h;cases h
 ·rw[bc z]at h;exact⟨z,h⟩
theorem aq:aj (del H A) H:=λ_ _ e=>(dh e).2
theorem aj.del (s:aj H H'):aj (del H A) (L2.del H' A):=λb o e=>by obtain⟨z,e⟩:=dh e;rw[bc z];exact s b o e
def AJ:HO->Bool
 |.lst _=>true
 |.dK _=>true
 |.dT _=>true
 |_=>false
def Ls (H:Hp) (A:List Addr):Prop:=∀a∈A,∃o,H a=some o/\AJ o=true
theorem Ls.same (h:Ls H A) (s:aj H H'):Ls H' A:=λa ha=>by obtain⟨o,e,q⟩:=h a ha;exact⟨o,s _ _ e,q⟩
theorem Ls.nil:Ls H []:=λ_ h=>by cases h
theorem Ls.new {p:Addr} (h:Ls H A) (a:H p=none):p∉A:=λz=>by obtain⟨xs,e,_⟩:=h p z;rw[a]at e;cases e
def ai (ns:List Int):PyData:=.dict [(.none,.list (ns.map .int))]
abbrev dtK (l:List ((Int×Int)×Int)):List (PyData×PyData):=(.bool true,.none)::l.map λp=>(.tuple [.int p.1.1,.int p.1.2],.int p.2)
abbrev dtO (l:List ((Int×Int)×Int)):HO:=.dT (l.map λp=>([.inl p.1.1,.inl p.1.2],V.int p.2))
abbrev dfK (l:List (Int×Int)):List (PyData×PyData):=(.bool false,.none)::l.map λp=>(.int p.1,.int p.2)
def zB (kvs:List (PyData×PyData)) (o:HO):Prop:=(∃l:List (Int×Int),kvs=l.map (λp=>(PyData.int p.1,PyData.int p.2))/\o=.dK (l.map λp=>(.inl p.1,V.int p.2)))\/(∃l,kvs=dtK l/\o=dtO l)\/∃l ob,kvs=dfK l/\o=.frz ob (.dK (l.map λp=>(.inl p.1,V.int p.2)))
mutual
def Is (K:PySem.W.Frag) (H:Hp):PyData->V->Prop
 |.none,v=>v=.non
 |.bool b,v=>v=.bl b
 |.int i,v=>v=.int i
 |.str x,v=>v=.str x
 |.list ds,v=>∃a xs,v=.ref a/\H a=some (.lst xs)/\Iss K H ds xs
 |.tuple ds,v=>∃a xs,v=.ref a/\H a=some (.tup xs)/\Iss K H ds xs
 |.dict kvs,v=>((∃a ns,v=.ref a/\kvs=[(PyData.none,PyData.list (List.map PyData.int ns))]/\SqL K H a (List.map V.int ns)) \/
  ∃(a:Addr) (o:HO),v=.ref a/\zB kvs o/\H a=some o) \/
  ∃(a C dx:Addr) (fs:List (Str×V)),v=.ref a/\H a=some (.ins C dx fs)/\fs.lookup ("@":Str)=none/\(Isk K H kvs (("",.int (C:Int))::fs)\/Isk K H kvs (("",.int (C:Int))::("@",.int (a:Int))::fs))
def Iss (K:PySem.W.Frag) (H:Hp):List PyData->List V->Prop
 |[],vs=>vs=[]
 |d::ds,vs=>∃v r,vs=v::r/\Is K H d v/\Iss K H ds r
def Isk (K:PySem.W.Frag) (H:Hp):List (PyData×PyData)->List (Str×V)->Prop
 |[],fs=>fs=[]
 |(k,d)::r,fs=>∃f v fs',fs=(f,v)::fs'/\k=.str f/\Is K H d v/\Isk K H r fs'
end
section
theorem bG {i:Int}:Is K H (.int i) (.int i):=by unfold Is;rfl
theorem is_bool {b:Bool}:Is K H (.bool b) (.bl b):=by unfold Is;rfl
theorem is_none:Is K H .none .non:=by unfold Is;rfl
theorem eo:Is K H (.str x) (.str x):=by unfold Is;rfl
theorem gA (h:H a=some (.tup xs)) (h2:Iss K H ds xs):Is K H (.tuple ds) (.ref a):=by unfold Is;exact⟨a,xs,rfl,h,h2⟩
theorem ky (h:H a=some (.lst xs)) (h2:Iss K H ds xs):Is K H (.list ds) (.ref a):=by unfold Is;exact⟨a,xs,rfl,h,h2⟩
theorem pX (h:SqL K H a (ns.map V.int)):Is K H (ai ns) (.ref a):=by unfold ai Is;exact .inl (.inl ⟨a,ns,rfl,rfl,h⟩)
theorem cN:Iss K H [] []:=by unfold Iss;rfl
theorem c9 {d:PyData} (h:Is K H d v) (h2:Iss K H ds vs):Iss K H (d::ds) (v::vs):=by unfold Iss;exact⟨v,vs,rfl,h,h2⟩
theorem kZ {d:PyData} (h:Is K H d v):Iss K H [d] [v]:=c9 h cN
theorem Is.ofInt {i:Int} (h:Is K H (.int i) v):v=.int i:=by unfold Is at h;exact h
theorem Is.ofBool {i:Bool} (h:Is K H (.bool i) v):v=.bl i:=by unfold Is at h;exact h
theorem Is.ofNone (h:Is K H .none v):v=.non:=by unfold Is at h;exact h
theorem Is.ofStr (h:Is K H (.str x) v):v=.str x:=by unfold Is at h;exact h
theorem Is.ofTup (h:Is K H (.tuple ds) v):∃a xs,v=.ref a/\H a=some (.tup xs)/\Iss K H ds xs:=by unfold Is at h;exact h
theorem Is.ofLst (h:Is K H (.list ds) v):∃a xs,v=.ref a/\H a=some (.lst xs)/\Iss K H ds xs:=by unfold Is at h;exact h
theorem Is.ofScript (h:Is K H (ai ns) v):∃a,v=.ref a/\SqL K H a (ns.map V.int):=by
 unfold ai Is at h;rcases h with (h|⟨a,l,_,e,_⟩)|⟨a,C,dx,fs,_,_,_,h|h⟩
 case inl.inr=>rcases e with⟨m,e,_⟩|⟨m,e,_⟩|⟨m,_,e,_⟩ <;> first|(cases e;done)|(cases m <;> cases e)
 case inr.inl=>unfold Isk at h;obtain⟨f,_,_,_,h,_⟩:=h;cases h
 case inr.inr=>unfold Isk at h;obtain⟨f,_,_,_,h,_⟩:=h;cases h
 obtain⟨a,g,e,e2,h⟩:=h;have i:ns.map PyData.int=g.map PyData.int:=by injection e2 with e2 _;injection e2 with _ e2;injection e2
 have j:ns=g:=by
  have inj:∀(a b:List Int),a.map PyData.int=b.map PyData.int->a=b:=by
   intro a
   induction a with
   |nil=>intro b c;cases b with|nil=>rfl|cons _ _=>simp at c
   |cons x r ih =>
    intro b c;cases b with
    |nil=>simp at c
    |cons y s =>simp only[Bk,List.cons.injEq,PyData.int.injEq]at c;rw[c.1,ih s c.2]
  exact inj _ _ i
 subst j;exact⟨a,e,h⟩
theorem Iss.nil_of (h:Iss K H [] vs):vs=[]:=by unfold Iss at h;exact h
theorem Iss.cons_of {d:PyData} (h:Iss K H (d::ds) vs):∃v r,vs=v::r/\Is K H d v/\Iss K H ds r:=by unfold Iss at h;exact h
theorem Iss.length:∀{ds:List PyData} {vs:List V},Iss K H ds vs->vs.length=ds.length
 |[],_,h=>by rw[h.nil_of];rfl
 |_::_,_,h=>by obtain⟨v,r,e,_,h2⟩:=h.cons_of;rw[e,Bn,Bn,Iss.length h2]
mutual
theorem Is.same (e:aj H H'):∀{d:PyData} {v:V},Is K H d v->Is K H' d v
 |.none,_,h=>by unfold Is at h ⊢;exact h
 |.bool _,_,h=>by unfold Is at h ⊢;exact h
 |.int _,_,h=>by unfold Is at h ⊢;exact h
 |.str _,_,h=>by unfold Is at h ⊢;exact h
 |.list ds,_,h=>by unfold Is at h ⊢;obtain⟨a,xs,e1,h1,h2⟩:=h;exact⟨a,xs,e1,e _ _ h1,Iss.same e h2⟩
 |.tuple ds,_,h=>by unfold Is at h ⊢;obtain⟨a,xs,e1,h1,h2⟩:=h;exact⟨a,xs,e1,e _ _ h1,Iss.same e h2⟩
 |.dict _,_,h=>by
  unfold Is at h ⊢;rcases h with (⟨a,ns,e1,e2,h2⟩|⟨a,l,e1,e2,h2⟩)|⟨a,C,dx,fs,e1,h1,hn,h2|h2⟩
  ·exact .inl (.inl ⟨a,ns,e1,e2,e.seq h2⟩)
  ·exact .inl (.inr ⟨a,l,e1,e2,e _ _ h2⟩)
  ·exact .inr ⟨a,C,dx,fs,e1,e _ _ h1,hn,.inl (Isk.same e h2)⟩
  ·exact .inr ⟨a,C,dx,fs,e1,e _ _ h1,hn,.inr (Isk.same e h2)⟩
theorem Iss.same (e:aj H H'):∀{ds:List PyData} {vs:List V},Iss K H ds vs->Iss K H' ds vs
 |[],_,h=>by unfold Iss at h ⊢;exact h
 |d::ds,_,h=>by unfold Iss at h ⊢;obtain⟨v,r,e1,h1,h2⟩:=h;exact⟨v,r,e1,Is.same e h1,Iss.same e h2⟩
theorem Isk.same (e:aj H H'):∀{ds:List (PyData×PyData)} {fs:List (Str×V)},Isk K H ds fs->Isk K H' ds fs
 |[],_,h=>by unfold Isk at h ⊢;exact h
 |(k,d)::ds,_,h=>by unfold Isk at h ⊢;obtain⟨f,v,r,e1,e2,h1,h2⟩:=h;exact⟨f,v,r,e1,e2,Is.same e h1,Isk.same e h2⟩
end
theorem wx (b:Ls H A) (h:H a=some (.tup xs)):del H A a=some (.tup xs):=by rw[bc (λq=>by obtain⟨ys,e2,c⟩:=b a q;rw[h]at e2;cases e2;cases c)];exact h
mutual
theorem Is.dl {A:List Addr} (b:Ls H A):∀{d:PyData} {v:V},cT d=true->Is K H d v->Is K (del H A) d v
 |.none,_,_,h=>by unfold Is at h ⊢;exact h
 |.bool _,_,_,h=>by unfold Is at h ⊢;exact h
 |.int _,_,_,h=>by unfold Is at h ⊢;exact h
 |.str _,_,_,h=>by unfold Is at h ⊢;exact h
 |.list _,_,n,_=>by unfold cT at n;cases n
 |.dict _,_,n,_=>by unfold cT at n;cases n
 |.tuple ds,_,n,h=>by unfold cT at n;obtain⟨a,xs,e,h1,h2⟩:=h.ofTup;subst e;exact gA (wx b h1) (Iss.dl b n h2)
theorem Iss.dl {A:List Addr} (a:Ls H A):∀{ds:List PyData} {vs:List V},fO ds=true->Iss K H ds vs->Iss K (del H A) ds vs
 |[],_,_,h=>by rw[h.nil_of];exact cN
 |d::ds,_,n,h=>by unfold fO at n;obtain⟨n1,n2⟩:=BG.mp n;obtain⟨v,r,e,h1,h2⟩:=h.cons_of;subst e;exact c9 (Is.dl a n1 h1) (Iss.dl a n2 h2)
end
mutual
def aC:PyData->Bool
 |.list ds=>dH ds
 |.tuple ds=>dH ds
 |.dict _=>false
 |_=>true
def dH:List PyData->Bool
 |[]=>true
 |d::ds=>aC d&&dH ds
end
mutual
theorem Is.isd:∀{d:PyData} {v:V},aC d=true->Is K H d v->IsD K H d v
 |.none,_,_,h=>by rw[h.ofNone];exact q9
 |.bool _,_,_,h=>by rw[h.ofBool];exact si
 |.int _,_,_,h=>by rw[h.ofInt];exact k6
 |.str _,_,_,h=>by rw[h.ofStr];exact uQ
 |.list ds,_,n,h=>by unfold aC at n;obtain⟨a,xs,e,h1,h2⟩:=h.ofLst;subst e;exact kQ (SqL.of h1) (Iss.isd n h2)
 |.tuple ds,_,n,h=>by unfold aC at n;obtain⟨a,xs,e,h1,h2⟩:=h.ofTup;subst e;exact uv (SqT.of h1) (Iss.isd n h2)
 |.dict _,_,n,_=>by unfold aC at n;cases n
theorem Iss.isd:∀{ds:List PyData} {vs:List V},dH ds=true->Iss K H ds vs->cJ K H ds vs
 |[],_,_,h=>by rw[h.nil_of];exact jd
 |d::ds,_,n,h=>by unfold dH at n;obtain⟨n1,n2⟩:=BG.mp n;obtain⟨v,r,e,h1,h2⟩:=h.cons_of;subst e;exact ka (Is.isd n1 h1) (Iss.isd n2 h2)
end
def dJ:PyData->Bool
 |.none=>true
 |.bool _=>true
 |.int _=>true
 |.str _=>true
 |_=>false
theorem IsD.is {d:PyData} (n:dJ d=true) (h:IsD K H d v):Is K H d v:=by
 cases d with
 |none=>rw[h.ofNone];exact is_none
 |bool _=>rw[h.ofBool];exact is_bool
 |int _=>rw[h.ofInt];exact bG
 |str _=>rw[h.ofStr];exact eo
 |_=>cases n
theorem nR {d:PyData} (n:dJ d=true):cT d=true:=by
 cases d with
 |list _=>cases n
 |tuple _=>cases n
 |dict _=>cases n
 |_=>unfold cT;rfl
theorem Iss.get:∀{ds:List PyData} {vs:List V} {i:Nat} {v:V},Iss K H ds vs->vs[i]?=some v->∃d,ds[i]?=some d/\Is K H d v
 |[],_,i,v,h,e=>by rw[h.nil_of]at e;simp at e
 |d::ds,_,i,v,h,e=>by
  obtain⟨w,r,e1,h1,h2⟩:=h.cons_of;subst e1;cases i with
  |zero=>simp at e;subst e;exact⟨d,rfl,h1⟩
  |succ i=>simpa using Iss.get (i:=i) h2 (by simpa using e)
theorem Iss.getD:∀{ds:List PyData} {vs:List V} {i:Nat} {d:PyData},Iss K H ds vs->ds[i]?=some d->∃v,vs[i]?=some v/\Is K H d v
 |[],_,i,v,h,e=>by simp at e
 |d::ds,_,i,v,h,e=>by
  obtain⟨w,r,e1,h1,h2⟩:=h.cons_of;subst e1;cases i with
  |zero=>simp at e;subst e;exact⟨w,rfl,h1⟩
  |succ i=>simpa using Iss.getD (i:=i) h2 (by simpa using e)
theorem Iss.append:∀{ds es:List PyData} {vs us:List V},Iss K H ds vs->Iss K H es us->Iss K H (ds++es) (vs++us)
 |[],_,_,_,h,h'=>by rw[h.nil_of];exact h'
 |d::ds,es,_,us,h,h'=>by obtain⟨v,r,e,h1,h2⟩:=h.cons_of;subst e;exact c9 h1 (Iss.append h2 h')
theorem Iss.take:∀{ds:List PyData} {vs:List V} (n:Nat),Iss K H ds vs->Iss K H (ds.take n) (vs.take n)
 |[],_,n,h=>by rw[h.nil_of];simpa using cN
 |d::ds,_,0,h=>by simpa using cN
 |d::ds,_,n+1,h=>by obtain⟨v,r,e,h1,h2⟩:=h.cons_of;subst e;exact c9 h1 (Iss.take n h2)
theorem Iss.drop:∀{ds:List PyData} {vs:List V} (n:Nat),Iss K H ds vs->Iss K H (ds.drop n) (vs.drop n)
 |[],_,n,h=>by rw[h.nil_of];simpa using cN
 |d::ds,_,0,h=>h
 |d::ds,_,n+1,h=>by obtain⟨v,r,e,h1,h2⟩:=h.cons_of;subst e;exact Iss.drop n h2
theorem Iss.set {d:PyData} {v:V} (a:Is K H d v):∀{ds:List PyData} {vs:List V} (i:Nat),Iss K H ds vs->Iss K H (ds.set i d) (vs.set i v)
 |[],_,n,h=>by rw[h.nil_of];simpa using cN
 |e::ds,_,0,h=>by obtain⟨u,r,z,h1,h2⟩:=h.cons_of;subst z;exact c9 a h2
 |e::ds,_,n+1,h=>by obtain⟨u,r,z,h1,h2⟩:=h.cons_of;subst z;exact c9 h1 (Iss.set a n h2)
theorem Iss.rep {ds:List PyData} {vs:List V} (h:Iss K H ds vs):∀k:Nat,Iss K H (List.replicate k ds).flatten (List.replicate k vs).flatten
 |0=>cN
 |k+1=>by rw[By,By,Br,Br];exact h.append (Iss.rep h k)
theorem Iss.ofBools:∀{ns:List Bool} {vs:List V},Iss K H (ns.map PyData.bool) vs->vs=ns.map V.bl
 |[],_,h=>h.nil_of
 |n::r,_,h=>by obtain⟨v,t,e,h1,h2⟩:=h.cons_of;rw[e,h1.ofBool,Iss.ofBools h2];rfl
theorem Is.isNone {d:PyData} (h:Is K H d v):(v=.non)↔d=.none:=by
 cases d with
 |none=>simp[h.ofNone]
 |bool b=>simp[h.ofBool]
 |int i=>simp[h.ofInt]
 |str x=>simp[h.ofStr]
 |list ds=>obtain⟨a,xs,e,_⟩:=h.ofLst;simp[e]
 |tuple ds=>obtain⟨a,xs,e,_⟩:=h.ofTup;simp[e]
 |dict _=>unfold Is at h;rcases h with (⟨a,ns,e,_⟩|⟨a,l,e,_⟩)|⟨a,C,dx,fs,e,_⟩ <;> simp[e]
theorem bg {p:Addr} (h:H p=none):aj H (upd H p o):=gp h
theorem kJ {p:Addr} (h:p∈A):del (upd H p o) A=del H A:=by
 funext b;by_cases z:b∈A
 ·rw[fJ z,fJ z]
 ·rw[bc z,bc z,aV (by rintro rfl;exact z h)]
theorem gm {p:Addr} (b:Ls H A) (a:H p=none) (h:Iss K (del H A) ds xs):Is K (del (upd H p (.tup xs)) A) (.tuple ds) (.ref p) :=
 gA (by rw[bc (b.new a)];exact bS) (h.same (aj.del (bg a)))
theorem gv {p:Addr} (b:Ls H A) (a:H p=none) (h:Iss K (del H A) ds xs):Is K (del (upd H p (.lst xs)) A) (.list ds) (.ref p) :=
 ky (by rw[bc (b.new a)];exact bS) (h.same (aj.del (bg a)))
end
abbrev Ds:=List (Option PyData)
variable {tgt:PyData->Option Ds} {δ:Ds} {gs:Ds->Rs (List PyData)} {cond:Ds->Rs Bool}
structure cG (K:PySem.W.Frag) (H:Hp) (A:List Addr) (δ:Ds) (σ:St):Prop where
 ls:Ls H A
 len:δ.length=σ.length
 get:∀(i:Nat) (d:PyData),δ[i]?=some (some d)->∃v,σ[i]?=some (some v)/\Is K (del H A) d v
theorem cG.same (R:cG K H A δ σ) (s:aj H H'):cG K H' A δ σ :=
 ⟨R.ls.same s,R.len,λi d e=>by obtain⟨v,e1,h⟩:=R.get i d e;exact⟨v,e1,h.same s.del⟩⟩
def dB (K:PySem.W.Frag) (E:XK) (A:List Addr) (H:Hp) (r:Rs PyData) (Q:VK):Prop:=match r with
 |.ok d=>∀v H',aj H H'->Is K (del H' A) d v->Q v H'
 |.rz C=>∀H',aj H H'->E (.ref C) none H'
 |.no=>False
def Ab (K:PySem.W.Frag) (E:XK) (A:List Addr) (H:Hp) (r:Rs (List PyData)) (Q:List V->Hp->Prop):Prop:=match r with
 |.ok d=>∀v H',aj H H'->Iss K (del H' A) d v->Q v H'
 |.rz C=>∀H',aj H H'->E (.ref C) none H'
 |.no=>False
def ma (E:XK) (H:Hp) (r:Rs Bool) (Q:Bool->Hp->Prop):Prop:=match r with
 |.ok d=>∀H',aj H H'->Q d H'
 |.rz C=>∀H',aj H H'->E (.ref C) none H'
 |.no=>False
def eD (K:PySem.W.Frag) (E:XK) (g:Ds->Rs PyData):TE:=λσ H Q=>∃A δ,cG K H A δ σ/\dB K E A H (g δ) Q
def aD (K:PySem.W.Frag) (E:XK) (g:Ds->Rs (List PyData)):TA:=λσ H Q=>∃A δ,cG K H A δ σ/\Ab K E A H (g δ) Q
def cD (K:PySem.W.Frag) (E:XK) (g:Ds->Rs Bool):TT:=λσ H Q=>∃A δ,cG K H A δ σ/\ma E H (g δ) Q
def PD (X:Cx) (E:XK) (e:Expr) (g:Ds->Rs PyData):Prop:=PE X e (eD X.K E g)
def PAD (X:Cx) (E:XK) (es:List Expr) (g:Ds->Rs (List PyData)):Prop:=PA X es (aD X.K E g)/\∀δ ds,g δ=.ok ds->ds.length=es.length
def PCD (X:Cx) (E:XK) (e:Expr) (g:Ds->Rs Bool):Prop:=PT X e (cD X.K E g)
def PWD (X:Cx) (E:XK) (e:Expr) (g:Ds->Rs Bool):Prop:=PW X e (cD X.K E g)
theorem PE.imp {t t':TE} (h:PE X e t) (k:∀σ H Q,t' σ H Q->t σ H Q):PE X e t':=λpins s σ H Q I q=>h pins s σ H Q I (k σ H Q q)
theorem PT.imp {t t':TT} (h:PT X e t) (k:∀σ H Q,t' σ H Q->t σ H Q):PT X e t':=λpins s σ H Q I q=>h pins s σ H Q I (k σ H Q q)
theorem PW.imp {t t':TT} (h:PW X e t) (k:∀σ H Q,t' σ H Q->t σ H Q):PW X e t':=λw pins s σ H Q I q=>h w pins s σ H Q I (k σ H Q q)
theorem PA.imp {e:List Expr} {t t':TA} (h:PA X e t) (k:∀σ H Q,t' σ H Q->t σ H Q):PA X e t':=λp pins s σ H Q I q=>h p pins s σ H Q I (k σ H Q q)
theorem PS.imp {e:Stmt} {t t':TS} (h:PS X e t) (k:∀D σ H,t' D σ H->t D σ H):PS X e t':=λpins s σ H D I q=>h pins s σ H D I (k D σ H q)
theorem PSs.imp {e:List Stmt} {t t':TS} (h:PSs X e t) (k:∀D σ H,t' D σ H->t D σ H):PSs X e t':=λpins s σ H D I q=>h pins s σ H D I (k D σ H q)
theorem dB.mono {r:Rs PyData} {Q:VK} (h:dB K E A H r Q) (s:aj H H1):dB K E A H1 r Q:=by
 cases r with
 |ok d=>exact λv H' s' q=>h v H' (s.trans s') q
 |rz C=>exact λH' s'=>h H' (s.trans s')
 |no=>exact h
theorem ma.mono {r:Rs Bool} (h:ma E H r Q) (s:aj H H1):ma E H1 r Q:=by
 cases r with
 |ok d=>exact λH' s'=>h H' (s.trans s')
 |rz C=>exact λH' s'=>h H' (s.trans s')
 |no=>exact h
theorem eD.run {g:Ds->Rs PyData} {Q:VK} (R:cG K H A δ σ)
  (ok:∀d,g δ=.ok d->∀v H',aj H H'->cG K H' A δ σ->Is K (del H' A) d v->Q v H') (rz:∀C,g δ=.rz C->∀H',aj H H'->E (.ref C) none H') (no:g δ=.no->False):eD K E g σ H Q:=by
 refine⟨A,δ,R,?_⟩;cases e:g δ with
 |ok d=>exact λv H' s q=>ok d e v H' s (R.same s) q
 |rz C=>exact λH' s=>rz C e H' s
 |no=>exact no e
theorem aD.run {g:Ds->Rs (List PyData)} {Q:List V->Hp->Prop} (R:cG K H A δ σ)
  (ok:∀d,g δ=.ok d->∀v H',aj H H'->cG K H' A δ σ->Iss K (del H' A) d v->Q v H') (rz:∀C,g δ=.rz C->∀H',aj H H'->E (.ref C) none H') (no:g δ=.no->False):aD K E g σ H Q:=by
 refine⟨A,δ,R,?_⟩;cases e:g δ with
 |ok d=>exact λv H' s q=>ok d e v H' s (R.same s) q
 |rz C=>exact λH' s=>rz C e H' s
 |no=>exact no e
theorem cD.run {g:Ds->Rs Bool} (R:cG K H A δ σ)
  (ok:∀d,g δ=.ok d->∀H',aj H H'->cG K H' A δ σ->Q d H') (rz:∀C,g δ=.rz C->∀H',aj H H'->E (.ref C) none H') (no:g δ=.no->False):cD K E g σ H Q:=by
 refine⟨A,δ,R,?_⟩;cases e:g δ with
 |ok d=>exact λH' s=>ok d e H' s (R.same s)
 |rz C=>exact λH' s=>rz C e H' s
 |no=>exact no e
def ae (i:Nat):Ds->Rs PyData:=λδ=>match δ[i]? with
 |some (some d)=>.ok d
 |_=>.no
def gC (d:PyData):Ds->Rs PyData:=λ_=>.ok d
def g1 (f:PyData->Option PyData) (a:Ds->Rs PyData):Ds->Rs PyData:=λδ=>(a δ).bind λx=>Rs.aW (f x)
def g2 (f:PyData->PyData->Option PyData) (a b:Ds->Rs PyData):Ds->Rs PyData:=λδ=>(a δ).bind λx=>(b δ).bind λy=>Rs.aW (f x y)
def gF (f:List PyData->Option PyData) (a:Ds->Rs (List PyData)):Ds->Rs PyData:=λδ=>(a δ).bind λds=>Rs.aW (f ds)
def af:Ds->Rs (List PyData):=λ_=>.ok []
def aa (a:Ds->Rs PyData) (r:Ds->Rs (List PyData)):Ds->Rs (List PyData):=λδ=>(a δ).bind λx=>(r δ).bind λxs=>.ok (x::xs)
def eU (a:Ds->Rs (List PyData)):Ds->Rs PyData:=λδ=>(a δ).bind λds=>.ok (.tuple ds)
def dq (a:Ds->Rs (List PyData)):Ds->Rs PyData:=λδ=>(a δ).bind λds=>.ok (.list ds)
def ak (gf:List PyData->Rs PyData) (a:Ds->Rs (List PyData)):Ds->Rs PyData:=λδ=>(a δ).bind gf
def truth:PyData->Rs Bool
 |.bool b=>.ok b
 |_=>.no
def gT (a:Ds->Rs PyData):Ds->Rs Bool:=λδ=>(a δ).bind truth
def di (a:Ds->Rs Bool):Ds->Rs Bool:=λδ=>(a δ).bind λb=>.ok (!b)
def Aa (a b:Ds->Rs Bool):Ds->Rs Bool:=λδ=>(a δ).bind λx=>if x=true then b δ else .ok false
def cOr (a b:Ds->Rs Bool):Ds->Rs Bool:=λδ=>(a δ).bind λx=>if x=true then .ok true else b δ
def uO (a b:Ds->Rs PyData):Ds->Rs PyData:=λδ=>(a δ).bind λx=>(truth x).bind λt=>if t=true then b δ else .ok (.bool false)
def gOr (a b:Ds->Rs PyData):Ds->Rs PyData:=λδ=>(a δ).bind λx=>(truth x).bind λt=>if t=true then .ok (.bool true) else b δ
def AG (a:Ds->Rs PyData):Ds->Rs PyData:=λδ=>(a δ).bind λx=>(truth x).bind λt=>.ok (.bool (!t))
def gIf (c:Ds->Rs Bool) (a b:Ds->Rs PyData):Ds->Rs PyData:=λδ=>(c δ).bind λx=>if x=true then a δ else b δ
section
variable {a b c:Expr} {ga gb gc:Ds->Rs PyData}
theorem wg (i:Nat) (c:X.N[i]?=some x) (f:Vis X.env.scope x) (hd:(x==("__debug__":Str))=false)
  (a:(x==("__classdict__":Str))=false):PD X E (.Name x pos) (ae i) :=
 (i9 c f hd a).imp λσ H Q b=>by
  obtain⟨A,δ,R,o⟩:=b;unfold ae at o;split at o
  ·rename_i d e;obtain⟨v,e1,h⟩:=R.get i d e;exact⟨v,e1,o v H (aj.refl H) h⟩
  ·exact o.elim
theorem tH {d:PyData} (h:PE X e (tC v)) (hi:∀K H,Is K H d v):PD X E e (gC d):=h.imp λσ H Q a=>(by obtain⟨A,δ,R,o⟩:=a;exact o v H (aj.refl H) (hi _ _))
theorem wX {i j pos}:PD X E (.Constant (.int i) j pos) (gC (.int i)):=tH eV λ_ _=>bG
theorem yy {i j pos}:PD X E (.Constant (.bool i) j pos) (gC (.bool i)):=tH zH λ_ _=>is_bool
theorem qS {j pos}:PD X E (.Constant .none j pos) (gC .none):=tH xI λ_ _=>is_none
theorem wN {i j pos}:PD X E (.Constant (.str i) j pos) (gC (.str i)):=tH qz λ_ _=>eo
theorem t4 {i:Int} (hm:∃t,X.mg x=some (.int i t)) (a:Gl X x) (hd:(x==("__debug__":Str))=false):PD X E (.Name x pos) (gC (.int i)):=by obtain⟨t,hm⟩:=hm;exact tH (kC (v:=.int i) a hm ⟨_,rfl⟩ hd) λ_ _=>bG
def OpD (K:PySem.W.Frag) (f:PyData->PyData->Option PyData) (r:R2):Prop :=
 ∀(d1 d2 d:PyData) (x y:V) (H:Hp) (A:List Addr) (Q:VK),f d1 d2=some d->Ls H A->Is K (del H A) d1 x->Is K (del H A) d2 y->(∀v H',aj H H'->Is K (del H' A) d v->Q v H')->r x y H Q
theorem g2.read {r:R2} {Q:VK} (b:OpD K f r) (R:cG K H A δ σ) (o:dB K E A H (g2 f ga gb δ) Q) :
  tOp r (eD K E ga) (eD K E gb) σ H Q:=by
 unfold g2 at o;refine eD.run R (λd1 e1 v H1 a c h1=>?_) (λC e1 H' s'=>?_) (λe1=>?_)
 ·rw[e1]at o;refine eD.run c (λd2 e2 u H2 s2 R2 h2=>?_) (λC e2 H' s'=>?_) (λe2=>?_)
  ·simp only[Rs.ag,e2]at o;cases e3:f d1 d2 with
   |none=>rw[e3]at o;exact o.elim
   |some d =>rw[e3]at o;exact b d1 d2 d v u H2 A Q e3 R2.ls (h1.same s2.del) h2 λw H' s q=>o w H' (a.trans (s2.trans s)) q
  ·simp only[Rs.ag,e2,Rs.d8]at o;exact o H' (a.trans s')
  ·simp only[Rs.ag,e2,Rs.bo]at o;exact o
 ·rw[e1]at o;exact o H' s'
 ·rw[e1]at o;exact o
theorem dO {r:R2} (g:OpD X.K f r) (ha:PD X E a ga) (h:PD X E b gb) (mk:∀{ta tb:TE},PE X a ta->PE X b tb->PE X e (tOp r ta tb)):PD X E e (g2 f ga gb) :=
 (mk ha h).imp λσ H Q c=>(by obtain⟨A,δ,R,o⟩:=c;exact g2.read g R o)
theorem fq {r:R2} (g:OpD X.K f r) (ha:PD X E a ga) (i:PD X E b gb) (mk:∀{ta tb:TE},PE X a ta->PE X b tb->PT X e (vP (tOp r ta tb))):PCD X E e (gT (g2 f ga gb)) :=
 (mk ha i).imp λσ H Q c=>by
  obtain⟨A,δ,R,o⟩:=c;refine g2.read (Q:=λx H'=>∃k,x=.bl k/\Q k H') g R ?_;unfold gT at o;cases q:g2 f ga gb δ with
  |no=>rw[q]at o;exact o
  |rz C=>rw[q]at o;exact o
  |ok d =>
   rw[q]at o;cases d with
   |bool k=>exact λv H' s h=>⟨k,h.ofBool,o H' s⟩
   |_=>exact o.elim
def dI (f:Int->Int->Option PyData):PyData->PyData->Option PyData
 |.int i,.int j=>f i j
 |_,_=>none
theorem oQ {f:Int->Int->Option PyData} {d1 d2 d:PyData} (h:dI f d1 d2=some d):∃i j,d1=.int i/\d2=.int j/\f i j=some d:=by
 unfold dI at h;split at h
 ·exact⟨_,_,rfl,rfl,h⟩
 ·cases h
def ji:=dI λi j=>some (.int (i-j))
def dZ:=dI λi j=>if 0<j then some (.int (i % j)) else none
def ib:=dI λi j=>if 0<j/\j<1073741824 then some (.int (i / j)) else none
def tV:=dI λi j=>if 0<=j/\j<=1000000/\i.natAbs<2 ^ 64 then some (.int (i ^ j.toNat)) else none
def dLt:=dI λi j=>some (.bool (decide (i<j)))
def dLe:=dI λi j=>some (.bool (decide (i<=j)))
def dGt:=dI λi j=>some (.bool (decide (j<i)))
def dGe:=dI λi j=>some (.bool (decide (j<=i)))
theorem jt {f:Int->Int->PyData} {v:Int->Int->V} (a:∀i j K H,Is K H (f i j) (v i j)):OpD K (dI λi j=>some (f i j)) (rI0 v):=λd1 d2 d x y H A Q e hA h1 h2 k=>by obtain⟨i,j,rfl,rfl,e⟩:=oQ e;cases e;exact⟨i,j,h1.ofInt,h2.ofInt,k _ H (aj.refl H) (a _ _ _ _)⟩
theorem sv {C a:Int->Int->Prop} [∀i j,Decidable (a i j)] {f:Int->Int->PyData} {v:Int->Int->V} (hc:∀i j,a i j->C i j) (b:∀i j K H,Is K H (f i j) (v i j)):OpD K (dI λi j=>if a i j then some (f i j) else none) (rI C v):=λd1 d2 d x y H A Q e hA h1 h2 k=>by
 obtain⟨i,j,rfl,rfl,e2⟩:=oQ e;by_cases z:a i j
 ·simp only[if_pos z]at e2;cases e2;exact⟨i,j,h1.ofInt,h2.ofInt,hc i j z,k _ H (aj.refl H) (b _ _ _ _)⟩
 ·simp only[if_neg z]at e2;cases e2
theorem xj (ha:PD X E a ga) (c:PD X E b gb):PD X E (.BinOp a .Sub b pos) (g2 ji ga gb):=dO (jt λ_ _ _ _=>bG) ha c (cq wW)
theorem wy (ha:PD X E a ga) (c:PD X E b gb):PD X E (.BinOp a .Mod b pos) (g2 dZ ga gb):=dO (sv (λ_ _ h=>h) λ_ _ _ _=>bG) ha c (cq iM)
theorem yi (ha:PD X E a ga) (c:PD X E b gb):PD X E (.BinOp a .FloorDiv b pos) (g2 ib ga gb):=dO (sv (C:=yL) (λ_ _ h=>h) λ_ _ _ _=>bG) ha c (cq va)
theorem yh (ha:PD X E a ga) (c:PD X E b gb):PD X E (.BinOp a .Pow b pos) (g2 tV ga gb):=dO (sv (C:=yU) (λ_ _ h=>h) λ_ _ _ _=>bG) ha c (cq wY)
theorem wJ (ha:PD X E a ga) (c:PD X E b gb):PCD X E (.Compare a [.Lt] [b] pos) (gT (g2 dLt ga gb)):=fq (jt λ_ _ _ _=>is_bool) ha c λh1 h2=>eP yN h1 h2 (gO _)
theorem xH (ha:PD X E a ga) (c:PD X E b gb):PCD X E (.Compare a [.Gt] [b] pos) (gT (g2 dGt ga gb)):=fq (jt λ_ _ _ _=>is_bool) ha c λh1 h2=>eP yz h1 h2 (gO _)
open PySem.SeqAt in
def dEq (x y:PyData):Option PyData:=if aC x&&aC y&&shaped x&&shaped y then some (.bool (PyData.eqv x y)) else none
open PySem.SeqAt in
def dNe (x y:PyData):Option PyData:=if aC x&&aC y&&shaped x&&shaped y then some (.bool (!PyData.eqv x y)) else none
open PySem.SeqAt in
theorem rH:OpD K dEq (λx y H Q=>∃d e,IsD K H d x/\IsD K H e y/\shaped d=true/\shaped e=true/\Q (.bl (PyData.eqv d e)) H):=λd1 d2 d x y H A Q e hA h1 h2 k=>by
 unfold dEq at e;split at e
 ·rename_i z;simp only[B3]at z;cases e;exact⟨d1,d2,(h1.same aq).isd z.1.1.1,(h2.same aq).isd z.1.1.2,z.1.2,z.2,k _ H (aj.refl H) is_bool⟩
 ·cases e
open PySem.SeqAt in
theorem yo:OpD K dNe (λx y H Q=>∃d e,IsD K H d x/\IsD K H e y/\shaped d=true/\shaped e=true/\Q (.bl (!PyData.eqv d e)) H):=λd1 d2 d x y H A Q e hA h1 h2 k=>by
 unfold dNe at e;split at e
 ·rename_i z;simp only[B3]at z;cases e;exact⟨d1,d2,(h1.same aq).isd z.1.1.1,(h2.same aq).isd z.1.1.2,z.1.2,z.2,k _ H (aj.refl H) is_bool⟩
 ·cases e
theorem zr (c:X.A.units+64<cLine) (ha:PD X E a ga) (e:PD X E b gb):PD X E (.Compare a [.Eq] [b] pos) (g2 dEq ga gb):=dO rH ha e λh1 h2=>vp (mO c) h1 h2 (gO _)
theorem xV (c:X.A.units+64<cLine) (ha:PD X E a ga) (e:PD X E b gb):PCD X E (.Compare a [.Eq] [b] pos) (gT (g2 dEq ga gb)):=fq rH ha e λh1 h2=>eP (mO c) h1 h2 (gO _)
theorem yl (c:X.A.units+64<cLine) (ha:PD X E a ga) (e:PD X E b gb):PCD X E (.Compare a [.NotEq] [b] pos) (gT (g2 dNe ga gb)):=fq yo ha e λh1 h2=>eP (xN c) h1 h2 (gO _)
def dD:PyData->Bool
 |.none=>true
 |_=>false
def gJ (x:PyData):Option PyData:=some (.bool (dD x))
def zC (x:PyData):Option PyData:=some (.bool (!dD x))
theorem g1.read {tt:(VK)->VK} {f:PyData->Option PyData} {Q:VK} (R:cG K H A δ σ) (o:dB K E A H (g1 f ga δ) Q)
  (b:∀d1 d x H',f d1=some d->Ls H' A->aj H H'->Is K (del H' A) d1 x->(∀v H2,aj H' H2->Is K (del H2 A) d v->Q v H2)->tt Q x H'):eD K E ga σ H (tt Q):=by
 unfold g1 at o;refine eD.run R (λd1 e1 v H1 a c h1=>?_) (λC e1 H' s'=>?_) (λe1=>?_)
 ·simp only[e1,Rs.ag]at o;cases e3:f d1 with
  |none=>rw[e3]at o;exact o.elim
  |some d=>rw[e3]at o;exact b d1 d v H1 e3 c.ls a h1 λw H' s q=>o w H' (a.trans s) q
 ·rw[e1]at o;exact o H' s'
 ·rw[e1]at o;exact o
theorem qY {d:PyData} (h:Is K H d v):decide (v=.non)=dD d:=by
 by_cases z:v=.non
 ·rw[decide_eq_true z,h.isNone.mp z];rfl
 ·rw[decide_eq_false z];have:d≠.none:=λq=>z (h.isNone.mpr q)
  cases d <;> first|(exact absurd rfl this)|rfl
theorem xM {j pos'} (ha:PD X E a ga):PD X E (.Compare a [.Is] [.Constant .none j pos'] pos) (g1 gJ ga) :=
 (wF (sY ha)).imp λσ H Q ⟨A,δ,R,o⟩=>g1.read (tt:=λQ x H1=>Q (.bl (decide (x=.non))) H1) R o λd1 d x H' e _ _ h k=>by cases e;rw[qY h];exact k _ H' (aj.refl _) is_bool
theorem sR {t:TE} (h:PT X e (tB t)) (k:∀σ H Q,eD X.K E ga σ H Q->t σ H Q):PCD X E e (gT ga):=h.imp λσ H Q ⟨A,δ,R,o⟩=>k σ H _ ⟨A,δ,R,by
 unfold gT at o;cases q:ga δ with
 |no=>rw[q]at o;exact o
 |rz C=>rw[q]at o;exact o
 |ok d =>
  rw[q]at o;cases d with
  |bool c=>exact λv H' s h=>⟨c,h.ofBool,o H' s⟩
  |_=>exact o.elim⟩
theorem vA (h:PD X E e ga) (a:∀whole,isTrue e X.env whole=(do let v <-whole;standAt e.pos;holding [v] (truthy v))):PCD X E e (gT ga):=sR (rl h a) λ_ _ _ h=>h
theorem vn {j pos'} (ha:PD X E a ga):PCD X E (.Compare a [.Is] [.Constant .none j pos'] pos) (gT (g1 gJ ga)) :=
 sR (rN (sY ha)) λσ H Q ⟨A,δ,R,o⟩=>g1.read (tt:=λQ x H1=>Q (.bl (decide (x=.non))) H1) R o λd1 d x H' e _ _ h k=>by cases e;rw[qY h];exact k _ H' (aj.refl _) is_bool
theorem vW {ca:Ds->Rs Bool} {f:Bool->Rs Bool} {t:Bool->Hp->Prop} (R:cG K H A δ σ) (o:ma E H ((ca δ).bind f) Q)
  (k:∀b H1,aj H H1->cG K H1 A δ σ->ma E H1 (f b) Q->t b H1):cD K E ca σ H t:=by
 refine cD.run R (λb e H1 a c=>?_) (λC e H' s'=>?_) (λe=>?_)
 ·rw[e]at o;exact k b H1 a c (ma.mono (show ma E H (f b) Q from o) a)
 ·rw[e]at o;exact o H' s'
 ·rw[e]at o;exact o
variable {ca cb:Ds->Rs Bool} {rest:List Expr}
theorem ub (ha:PCD X E a ca):PCD X E (.UnaryOp .Not a pos) (di ca):=(rO ha).imp λσ H Q c=>(by obtain⟨A,δ,R,o⟩:=c;exact vW R o λb H1 s1 R1 o=>o H1 (aj.refl _))
theorem tL (ha:PCD X E a ca):PWD X E (.BoolOp .Or [a] pos) ca:=sT ha
theorem rR (ha:PCD X E a ca) (c:PWD X E (.BoolOp .Or (b::rest) pos) cb):PWD X E (.BoolOp .Or (a::b::rest) pos) (cOr ca cb):=PW.imp (vU ha c) λσ H Q ⟨A,δ,R,o⟩=>vW R o λb H1 s1 e o=>by
 cases b with
 |false=>exact⟨A,δ,e,o⟩
 |true=>exact o H1 (aj.refl _)
theorem vL (h:PWD X E e ca):PCD X E e ca:=PW.pt h
theorem vT {f:PyData->Rs PyData} {Q:VK} {t:VK} (R:cG K H A δ σ) (o:dB K E A H ((ga δ).bind f) Q)
  (k:∀d v H1,aj H H1->cG K H1 A δ σ->Is K (del H1 A) d v->dB K E A H1 (f d) Q->t v H1):eD K E ga σ H t:=by
 refine eD.run R (λd e v H1 a b h1=>?_) (λC e H' s'=>?_) (λe=>?_)
 ·rw[e]at o;exact k d v H1 a b h1 (dB.mono (show dB K E A H (f d) Q from o) a)
 ·rw[e]at o;exact o H' s'
 ·rw[e]at o;exact o
theorem iN {d:PyData} {f:Bool->Rs PyData} {Q:VK} (o:dB K E A H ((truth d).bind f) Q):∃t,d=.bool t/\dB K E A H (f t) Q:=by
 cases d with
 |bool t=>exact⟨t,rfl,o⟩
 |_=>exact o.elim
theorem xS {op} (ha:PD X E a ga):PD X E (.BoolOp op [a] pos) ga:=wA ha
theorem xW (ha:PD X E a ga) (c:PD X E (.BoolOp .And (b::rest) pos) gb):PD X E (.BoolOp .And (a::b::rest) pos) (uO ga gb):=(xF ha c).imp λσ H Q ⟨A,δ,R,o⟩=>vT R o λd v H1 s1 e h1 o=>by
 obtain⟨t,rfl,o⟩:=iN o;refine⟨t,h1.ofBool,?_⟩;cases t with
 |true=>exact⟨A,δ,e,o⟩
 |false=>exact o _ H1 (aj.refl _) is_bool
theorem zb (ha:PD X E a ga) (c:PD X E (.BoolOp .Or (b::rest) pos) gb):PD X E (.BoolOp .Or (a::b::rest) pos) (gOr ga gb):=(yX ha c).imp λσ H Q ⟨A,δ,R,o⟩=>vT R o λd v H1 s1 e h1 o=>by
 obtain⟨t,rfl,o⟩:=iN o;refine⟨t,h1.ofBool,?_⟩;cases t with
 |false=>exact⟨A,δ,e,o⟩
 |true=>exact o _ H1 (aj.refl _) is_bool
theorem yH (hc:PCD X E c ca) (ha:PD X E a ga) (h:PD X E b gb):PD X E (.IfExp c a b pos) (gIf ca ga gb):=(rn hc ha h).imp λσ H Q f=>by
 obtain⟨A,δ,R,o⟩:=f;unfold gIf at o;refine cD.run R (λt e H1 i g=>?_) (λC e H' s'=>?_) (λe=>?_)
 ·rw[e]at o;have o:=dB.mono (show dB X.K E A H (if t=true then ga δ else gb δ) Q from o) i;cases t with
  |true=>exact⟨A,δ,g,o⟩
  |false=>exact⟨A,δ,g,o⟩
 ·rw[e]at o;exact o H' s'
 ·rw[e]at o;exact o
def eE:PyData->Option PyData
 |.int i=>some (.int (-i))
 |_=>none
theorem wD (ha:PD X E a ga):PD X E (.UnaryOp .USub a pos) (g1 eE ga):=(zd wR ha).imp λσ H Q ⟨A,δ,R,o⟩=>g1.read (tt:=λQ x H1=>∃i,x=.int i/\Q (.int (-i)) H1) R o λd1 d x H' e _ _ h k=>by
 cases d1 with
 |int i=>cases e;exact⟨i,h.ofInt,k _ H' (aj.refl _) bG⟩
 |_=>cases e
theorem ur:PAD X E [] af:=⟨dy.imp λσ H Q a=>(by obtain⟨A,δ,R,o⟩:=a;exact o [] H (aj.refl _) cN),λδ ds e=>by cases e;rfl⟩
theorem rM (ha:PD X E a ga) (b:PAD X E es gs) (f:starEach (a::es) X.env=(false,eval a X.env)::starEach es X.env):PAD X E (a::es) (aa ga gs):=by
 refine⟨(bO ha b.1 f).imp λσ H Q ⟨A,δ,R,o⟩=>?_,λδ ds e=>?_⟩
 ·unfold aa at o;refine eD.run R (λd e v H1 c g h1=>?_) (λC e H' s'=>?_) (λe=>?_)
  ·simp only[e,Rs.ag]at o;refine aD.run g (λds e2 vs H2 s2 R2 h2=>?_) (λC e2 H' s'=>?_) (λe2=>?_)
   ·simp only[e2,Rs.ag]at o;exact o _ H2 (c.trans s2) (c9 (h1.same s2.del) h2)
   ·simp only[e2,Rs.d8]at o;exact o H' (c.trans s')
   ·simp only[e2,Rs.bo]at o;exact o
  ·simp only[e,Rs.d8]at o;exact o H' s'
  ·simp only[e,Rs.bo]at o;exact o
 ·unfold aa at e;cases q:ga δ with
  |ok d =>
   cases q2:gs δ with
   |ok l =>simp only[q,q2,Rs.ag]at e;cases e;simp[b.2 δ l q2]
   |rz C=>simp only[q,q2,Rs.ag,Rs.d8]at e;cases e
   |no=>simp only[q,q2,Rs.ag,Rs.bo]at e;cases e
  |rz C=>simp only[q,Rs.d8]at e;cases e
  |no=>simp only[q,Rs.bo]at e;cases e
theorem oN {f:List PyData->Rs PyData} {Q:VK} (R:cG K H A δ σ) (o:dB K E A H ((gs δ).bind f) Q)
  (k:∀ds vs H1,gs δ=.ok ds->aj H H1->cG K H1 A δ σ->Iss K (del H1 A) ds vs->dB K E A H1 (f ds) Q->t vs H1):aD K E gs σ H t:=by
 refine aD.run R (λd e v H1 a b h1=>?_) (λC e H' s'=>?_) (λe=>?_)
 ·rw[e]at o;exact k d v H1 e a b h1 (dB.mono (show dB K E A H (f d) Q from o) a)
 ·rw[e]at o;exact o H' s'
 ·rw[e]at o;exact o
theorem xA {x1} (h:PAD X E es gs) (hl:es.length<=1000):PD X E (.Tuple es x1 pos) (eU gs):=(xX h.1).imp λσ H Q ⟨A,δ,R,o⟩=>oN R o λds vs H1 e s1 b h1 o=>by have n:=h.2 δ ds e;have m:=h1.length;exact⟨by rw[sizeLine_eq];omega,λp a=>o _ _ (bg a) (gm b.ls a h1)⟩
theorem xb (h:PAD X E es gs) (hl:es.length<=1000):PD X E (.List es pos) (dq gs):=(nu h.1).imp λσ H Q ⟨A,δ,R,o⟩=>oN R o λds vs H1 e s1 b h1 o=>by have n:=h.2 δ ds e;have m:=h1.length;exact⟨by rw[sizeLine_eq];omega,λp a=>o _ _ (bg a) (gv b.ls a h1)⟩
def spD (K:PySem.W.Frag) (n:Nat) (gf:List PyData->Rs PyData):Sp:=λvs H Q E=>∃A ds,Ls H A/\Iss K (del H A) ds vs/\ds.length=n/\dB K E A H (gf ds) Q
structure fb (P:Program) (w:World) (K:PySem.W.Frag) (mg:Str->Option Value) (base:Heap) (k:Nat) (x:Str) (n:Nat) (gf:List PyData->Rs PyData):Prop where
 ex:∃f fd ps,ff P w K mg base (CXW P w K) k f fd ps (spD K n gf)/\mg x=some (.ref f)/\PySem.W.keepIn K (.ref f)=true/\Binds K fd ps []
theorem qG (hc:X.calm=true):Passes (CXW X.prog X.w X.K) X E0:=⟨hc,λ_ _ _ _ _ _ _ a=>(by obtain⟨_,_,_,_,_,_,h,_⟩:=a;exact h.elim)⟩
theorem uH (D:fb X.prog X.w X.K X.mg X.base k x (e::es).length gf) (h:cu j X.A) (i:Passes (CXW X.prog X.w X.K) X E) (ha:PAD X E (e::es) gs) (l:k<=j) (m:Gl X x)
  (a:(x==("__debug__":Str))=false) (n:starEach (e::es) X.env=(false,eval e X.env)::starEach es X.env) (b:(backTo pos (starEach es X.env)).any (·.1)=false) :
  PD X E (.Call (.Name x p) (e::es) [] pos) (ak gf gs):=by
 obtain⟨f,fd,ps,F,hm,c,q⟩:=D.ex;refine (oK F (h.mono l) m hm c q .nil i ha.1 a n b).imp λσ H Q g=>?_
 obtain⟨A,δ,R,o⟩:=g;refine oN R o λds vs H1 e s1 r h1 o=>?_
 refine⟨A,ds,r.ls,by simpa using h1,ha.2 δ ds e,o⟩
def FnD (K:PySem.W.Frag) (f:List PyData->Option PyData) (r:List V->Hp->VK->Prop):Prop :=
 ∀(ds:List PyData) (d:PyData) (vs:List V) (H:Hp) (A:List Addr) (Q:VK),f ds=some d->Ls H A->Iss K (del H A) ds vs->(∀v H',aj H H'->Is K (del H' A) d v->Q v H')->r vs H Q
theorem cM {r:List V->Hp->VK->Prop} {f:List PyData->Option PyData} (a:FnD X.K f r) (ha:PAD X E es gs) (mk:∀{t:TA},PA X es t->PE X e (tCB r t)):PD X E e (gF f gs) :=
 (mk ha.1).imp λσ H Q ⟨A,δ,R,o⟩=>oN R o λds vs H1 e s1 b h1 o=>by
  cases q:f ds with
  |none=>rw[q]at o;exact o.elim
  |some d=>rw[q]at o;exact a ds d vs H1 A Q q b.ls h1 o
end
section
variable {a b c:Expr} {ga gb gc:Ds->Rs PyData}
def qX (K:PySem.W.Frag):R2:=λx y H Q=>∃a b xs ys,x=.ref a/\y=.ref b/\SqT K H a xs/\SqT K H b ys/\xs.length+ys.length<=sizeLine /\
 (xs=[]->Q (.ref b) H)/\(xs≠[]->ys=[]->Q (.ref a) H)/\(xs≠[]->ys≠[]->∀p,H p=none->Q (.ref p) (upd H p (.tup (xs++ys))))
theorem oF:OpR X (binaryOp .Add) (qX X.K):=by
 intro pins s σ H x y v u Q I i j h;obtain⟨a,b,xs,ys,rfl,rfl,ha,k,m,o,p,q⟩:=h;by_cases hx:xs=[]
 ·cases i;cases j;obtain⟨vs,r,p1,_⟩:=I.tuple ha;obtain⟨ws,r2,p2,_⟩:=I.tuple k;obtain⟨⟨cls,dd,data,sl⟩,l,hc,n,hd⟩:=id p1;obtain⟨⟨cls2,f,data2,g⟩,c,e,n2,hd2⟩:=id p2;simp only at hc hd e hd2;subst hc hd e hd2;have t:vs=[]:=r.nil_iff.mpr hx;exact concat_meets ⟨_,l,rfl⟩ ⟨_,c,rfl⟩ noFill_tuple_add seq_tuple_add PySem.F.slot_tuple_add PySem.F.entry_tuple_add (PySem.F.args_tuple_add_2 _ _)
   (tuple_addW0 a b vs.toArray ws.toArray n n2 dd f sl g (by simp[t])) ⟨l,c,⟨.ref b,H,I,rfl,o hx⟩⟩
 ·exact vj pins s σ H _ _ v u Q I i j ⟨a,b,xs,ys,rfl,rfl,ha,k,hx,m,p hx,q hx⟩
def bI:PyData->PyData->Option PyData
 |.int i,.int j=>some (.int (i+j))
 |.list x,.list y=>if x.length+y.length<=1000000 then some (.list (x++y)) else none
 |.tuple x,.tuple y=>if x.length+y.length<=1000000 then some (.tuple (x++y)) else none
 |_,_=>none
theorem oH:OpD K bI (λx y H Q=>rI0 (λi j=>.int (i+j)) x y H Q\/wc x y H Q\/qX K x y H Q):=λd1 d2 d x y H A Q e h h1 h2 k=>by
 unfold bI at e;split at e
 ·cases e;exact .inl ⟨_,_,h1.ofInt,h2.ofInt,k _ H (aj.refl _) bG⟩
 ·rename_i l1 l2;split at e
  ·rename_i l;cases e;obtain⟨p,xs,rfl,f,a⟩:=h1.ofLst;obtain⟨q,ys,rfl,g,b⟩:=h2.ofLst;refine .inr (.inl ⟨p,q,xs,ys,rfl,rfl,aq _ _ f,aq _ _ g,by rw[a.length,b.length,sizeLine_eq];omega,λr c=>k _ _ (bg c) (gv h c (a.append b))⟩)
  ·cases e
 ·rename_i l1 l2;split at e
  ·rename_i l;cases e;obtain⟨p,xs,rfl,f,a⟩:=h1.ofTup;obtain⟨q,ys,rfl,g,b⟩:=h2.ofTup;refine .inr (.inr ⟨p,q,xs,ys,rfl,rfl,SqT.of (aq _ _ f),SqT.of (aq _ _ g),by rw[a.length,b.length,sizeLine_eq];omega,λz=>?_,λ_ z=>?_,λ_ _ r c=>k _ _ (bg c) (gm h c (a.append b))⟩)
   ·subst z;have:l1=[]:=Bp.mp (by rw[<-a.length];rfl);subst this;exact k _ H (aj.refl _) (gA g b)
   ·subst z;have:l2=[]:=Bp.mp (by rw[<-b.length];rfl);subst this;rw[BC]at k;exact k _ H (aj.refl _) (gA f a)
  ·cases e
 ·cases e
theorem xG (ha:PD X E a ga) (c:PD X E b gb):PD X E (.BinOp a .Add b pos) (g2 bI ga gb):=dO oH ha c (cq (fH.or (sk.or oF)))
def dIx:PyData->PyData->Option PyData
 |.list x,.int i=>atI x i
 |.tuple x,.int i=>atI x i
 |_,_=>none
theorem oV {i:Int} {d:PyData} (h:Iss K H ds vs) (e:atI ds i=some d):∃v,atI vs i=some v/\Is K H d v:=by
 unfold atI at e ⊢;rw[h.length];cases q:ixN ds.length i with
 |none=>rw[q]at e;cases e
 |some j=>rw[q]at e;exact h.getD e
theorem qU:OpD K dIx (λx y H Q=>xq K x y H Q\/xU K x y H Q):=λd1 d2 d x y H A Q e hA h1 h2 k=>by
 unfold dIx at e;split at e
 ·obtain⟨p,xs,rfl,a,b⟩:=h1.ofLst;obtain⟨v,c,f⟩:=oV b e;exact .inl ⟨p,xs,_,v,rfl,h2.ofInt,SqL.of (aq _ _ a),c,k _ H (aj.refl _) f⟩
 ·obtain⟨p,xs,rfl,a,b⟩:=h1.ofTup;obtain⟨v,c,f⟩:=oV b e;exact .inr ⟨p,xs,_,v,rfl,h2.ofInt,SqT.of (aq _ _ a),c,k _ H (aj.refl _) f⟩
 ·cases e
theorem zG (ha:PD X E a ga) (c:PD X E b gb) (e:kq b):PD X E (.Subscript a b pos) (g2 dIx ga gb):=dO qU ha c λh1 h2=>oA (ix.or qw) h1 h2 e
def eC:List PyData->Option PyData
 |[.list x]=>some (.int x.length)
 |[.tuple x]=>some (.int x.length)
 |_=>none
theorem gI {d:PyData} (h:Iss K H [d] vs):∃v,vs=[v]/\Is K H d v:=by obtain⟨v,r,rfl,h1,h2⟩:=h.cons_of;rw[h2.nil_of];exact⟨v,rfl,h1⟩
theorem Ax {d e:PyData} (h:Iss K H [d,e] vs):∃v u,vs=[v,u]/\Is K H d v/\Is K H e u:=by obtain⟨v,r,rfl,h1,h2⟩:=h.cons_of;obtain⟨u,rfl,a⟩:=gI h2;exact⟨v,u,rfl,h1,a⟩
theorem uu:FnD K eC (λxs H Q=>∃p ys,xs=[.ref p]/\(SqL K H p ys\/SqT K H p ys)/\Q (.int ys.length) H):=λds d vs H A Q e hA h k=>by
 unfold eC at e;split at e
 ·cases e;obtain⟨v,rfl,a⟩:=gI h;obtain⟨p,xs,rfl,b,c⟩:=a.ofLst;exact⟨p,xs,rfl,.inl (SqL.of (aq _ _ b)),k _ H (aj.refl _) (by rw[c.length];exact bG)⟩
 ·cases e;obtain⟨v,rfl,a⟩:=gI h;obtain⟨p,xs,rfl,b,c⟩:=a.ofTup;exact⟨p,xs,rfl,.inr (SqT.of (aq _ _ b)),k _ H (aj.refl _) (by rw[c.length];exact bG)⟩
 ·cases e
theorem wH (hm:X.mg "len"=none) (ha:PAD X E (a::es) gs) (c:Gl X "len") (e:starEach (a::es) X.env=(false,eval a X.env)::starEach es X.env) (b:(backTo pos (starEach es X.env)).any (·.1)=false) :
 PD X E (.Call (.Name "len" p) (a::es) [] pos) (gF eC gs):=cM uu ha λh=>cR eW c hm PySem.boot_len h (by decide) (by decide) e b
theorem nj:bootBuiltins "int"=some (.type "int"):=by decide +kernel
theorem l7:bootBuiltins "tuple"=some (.type "tuple"):=by decide +kernel
theorem gU:bootBuiltins "isinstance"=some (.builtin "isinstance"):=by decide +kernel
theorem w6:bootBuiltins "all"=some (.builtin "all"):=by decide +kernel
theorem xk:bootBuiltins "min"=some (.builtin "min"):=by decide +kernel
def iL:List PyData->Option (List Int)
 |[]=>some []
 |.int i::r=>(iL r).map (i::·)
 |_::_=>none
theorem fI:∀{ds:List PyData} {ns:List Int},iL ds=some ns->ds=ns.map PyData.int
 |[],_,h=>by cases h;rfl
 |.int i::r,ns,h=>by
  unfold iL at h;cases q:iL r with
  |none=>rw[q]at h;cases h
  |some l=>rw[q]at h;cases h;rw[fI q];rfl
 |.none::_,_,h=>by cases h
 |.bool _::_,_,h=>by cases h
 |.str _::_,_,h=>by cases h
 |.list _::_,_,h=>by cases h
 |.tuple _::_,_,h=>by cases h
 |.dict _::_,_,h=>by cases h
theorem jS:∀(ns:List Int),iL (ns.map PyData.int)=some ns
 |[]=>rfl
 |n::r=>by rw[Bk];unfold iL;rw[jS r];rfl
def ei:List PyData->Option (List Bool)
 |[]=>some []
 |.bool i::r=>(ei r).map (i::·)
 |_::_=>none
theorem hR:∀{ds:List PyData} {ns:List Bool},ei ds=some ns->ds=ns.map PyData.bool
 |[],_,h=>by cases h;rfl
 |.bool i::r,ns,h=>by
  unfold ei at h;cases q:ei r with
  |none=>rw[q]at h;cases h
  |some l=>rw[q]at h;cases h;rw[hR q];rfl
 |.none::_,_,h=>by cases h
 |.int _::_,_,h=>by cases h
 |.str _::_,_,h=>by cases h
 |.list _::_,_,h=>by cases h
 |.tuple _::_,_,h=>by cases h
 |.dict _::_,_,h=>by cases h
theorem ja:∀(ns:List Bool),ei (ns.map PyData.bool)=some ns
 |[]=>rfl
 |n::r=>by rw[Bk];unfold ei;rw[ja r];rfl
def qc:List PyData->Option PyData
 |[.list x]=>(ei x).map λns=>.bool (ns.all id)
 |_=>none
theorem vz:FnD K qc (λxs H Q=>∃(a:Addr) (ns:List Bool),xs=[.ref a]/\SqL K H a (ns.map V.bl)/\Q (.bl (ns.all id)) H):=λds d vs H A Q e hA h k=>by
 unfold qc at e;split at e
 ·rename_i x;cases q:ei x with
  |none=>rw[q]at e;cases e
  |some ns =>rw[q]at e;cases e;obtain⟨v,rfl,f⟩:=gI h;obtain⟨p,xs,rfl,b,c⟩:=f.ofLst;rw[hR q]at c;rw[c.ofBools]at b;exact⟨p,ns,rfl,SqL.of (aq _ _ b),k _ H (aj.refl _) is_bool⟩
 ·cases e
theorem yc (hc:X.calm=true) (hm:X.mg "all"=none) (ha:PAD X E (a::es) gs) (c:Gl X "all") (e:starEach (a::es) X.env=(false,eval a X.env)::starEach es X.env) (b:(backTo pos (starEach es X.env)).any (·.1)=false) :
 PD X E (.Call (.Name "all" p) (a::es) [] pos) (gF qc gs):=cM vz ha λh=>cR (rS hc) c hm w6 h (by decide) (by decide) e b
def jh:List PyData->Option PyData
 |[.int i,.int j]=>some (.int (if j<i then j else i))
 |_=>none
def yJ:List PyData->Option PyData
 |[.int i,.int j]=>some (.int (if j>i then j else i))
 |_=>none
theorem sy:FnD K jh (λxs H Q=>∃i j,xs=[.int i,.int j]/\Q (.int (if j<i then j else i)) H):=λds d vs H A Q e hA h k=>by
 unfold jh at e;split at e
 ·cases e;obtain⟨v,u,rfl,h1,h2⟩:=Ax h;rw[h1.ofInt,h2.ofInt];exact⟨_,_,rfl,k _ H (aj.refl _) bG⟩
 ·cases e
theorem uF (hc:X.calm=true) (hm:X.mg "min"=none) (ha:PAD X E (a::es) gs) (c:Gl X "min") (e:starEach (a::es) X.env=(false,eval a X.env)::starEach es X.env) (b:(backTo pos (starEach es X.env)).any (·.1)=false) :
 PD X E (.Call (.Name "min" p) (a::es) [] pos) (gF jh gs):=cM sy ha λh=>cR (pA hc) c hm xk h (by decide) (by decide) e b
def ju:List PyData->Option PyData
 |[.int i]=>some (.int i)
 |[.bool k]=>some (.int (if k then 1 else 0))
 |_=>none
theorem vF:FnD K ju (λxs H Q=>(∃i,xs=[.int i]/\Q (.int i) H)\/∃k,xs=[.bl k]/\Q (.int (if k then 1 else 0)) H):=λds d vs H A Q e hA h k=>by
 unfold ju at e;split at e
 ·cases e;obtain⟨v,rfl,h1⟩:=gI h;rw[h1.ofInt];exact .inl ⟨_,rfl,k _ H (aj.refl _) bG⟩
 ·cases e;obtain⟨v,rfl,h1⟩:=gI h;rw[h1.ofBool];exact .inr ⟨_,rfl,k _ H (aj.refl _) bG⟩
 ·cases e
theorem sf (hm:X.mg "int"=none) (ha:PAD X E (a::es) gs) (c:Gl X "int") (e:starEach (a::es) X.env=(false,eval a X.env)::starEach es X.env) (b:(backTo pos (starEach es X.env)).any (·.1)=false) :
 PD X E (.Call (.Name "int" p) (a::es) [] pos) (gF ju gs):=cM vF ha λh=>eL pW c hm nj h (by decide) (by decide) e b
def br:List PyData->Option PyData
 |[.list x]=>some (.tuple x)
 |[.tuple x]=>some (.tuple x)
 |_=>none
theorem px:FnD K br (λxs H Q=>∃p ys,xs=[.ref p]/\((SqL K H p ys/\∀l,H l=none->Q (.ref l) (upd H l (.tup ys)))\/(SqT K H p ys/\Q (.ref p) H))):=λds d vs H A Q e f h k=>by
 unfold br at e;split at e
 ·cases e;obtain⟨v,rfl,b⟩:=gI h;obtain⟨p,xs,rfl,a,c⟩:=b.ofLst;exact⟨p,xs,rfl,.inl ⟨SqL.of (aq _ _ a),λl hl=>k _ _ (bg hl) (gm f hl c)⟩⟩
 ·cases e;obtain⟨v,rfl,b⟩:=gI h;obtain⟨p,xs,rfl,a,c⟩:=b.ofTup;exact⟨p,xs,rfl,.inr ⟨SqT.of (aq _ _ a),k _ H (aj.refl _) (gA a c)⟩⟩
 ·cases e
theorem nI (hm:X.mg "tuple"=none) (ha:PAD X E (a::es) gs) (c:Gl X "tuple") (e:starEach (a::es) X.env=(false,eval a X.env)::starEach es X.env) (b:(backTo pos (starEach es X.env)).any (·.1)=false) :
 PD X E (.Call (.Name "tuple" p) (a::es) [] pos) (gF br gs):=cM px ha λh=>eL jJ c hm l7 h (by decide) (by decide) e b
def cw (T:String) (d:PyData):Option PyData:=if aC d then some (.bool (fB d T)) else none
theorem ql {T:Str} {b:String} {c:Pos} (hm:X.mg "isinstance"=none) (f:X.mg T=none) (q:bootBuiltins T=some (.type b)) (r:b∈["bool", "int", "list", "tuple"]) (ha:PD X E a ga)
  (s:Gl X "isinstance") (g:Gl X T) (hn:T≠"__name__") (i:(T==("__debug__":Str))=false) (n:starEach [a,.Name T c] X.env=(false,eval a X.env)::starEach [.Name T c] X.env)
  (j:starEach [.Name T c] X.env=(false,eval (.Name T c) X.env)::starEach [] X.env) (l:(backTo pos (starEach [.Name T c] X.env)).any (·.1)=false) :
  PD X E (.Call (.Name "isinstance" p) [a,.Name T c] [] pos) (g1 (cw b) ga):=by
 refine (cR lJ s hm gU (bO ha (bO (kT (v:=.ty b) g f q rfl hn i) dy j) n) (by decide) (by decide) n l).imp λσ H Q m=>?_
 obtain⟨A,δ,R,o⟩:=m;refine g1.read (tt:=λQ x H1=>∃d v T,[x,V.ty b]=[v,.ty T]/\IsD X.K H1 d v/\T∈["bool", "int", "list", "tuple"]/\Q (.bl (fB d T)) H1) R o λd1 d x H' e _ _ h k=>?_
 unfold cw at e;split at e
 ·rename_i z;cases e;exact⟨d1,x,b,rfl,(h.same aq).isd z,r,k _ H' (aj.refl _) is_bool⟩
 ·cases e
end
def uw (K:PySem.W.Frag) (J:It) (ds:List PyData) (G:Hp):Prop:=∀(H1:Hp) (B:List Addr),aj G H1->Ls H1 B->(∀b∈B,G b=none) ->
 (∀i,i<ds.length->J.go i H1)/\J.stop ds.length H1/\∀i x H2,i<ds.length->J.yld i H1 x H2->aj H1 H2/\∃d,ds[i]?=some d/\Is K (del H2 B) d x
def outI (K:PySem.W.Frag) (E:XK) (A:List Addr) (H:Hp) (r:Rs (List PyData)) (R:It->Hp->Prop):Prop:=match r with
 |.ok ds=>∀J H',aj H H'->uw K J ds (del H' A)->R J H'
 |.rz C=>∀H',aj H H'->E (.ref C) none H'
 |.no=>False
def iD (K:PySem.W.Frag) (E:XK) (g:Ds->Rs (List PyData)):TI:=λσ H R=>∃A δ,cG K H A δ σ/\outI K E A H (g δ) R
def PID (X:Cx) (E:XK) (tg iter:Expr) (g:Ds->Rs (List PyData)):Prop:=PI X tg iter (iD X.K E g)
theorem PI.imp {it:Expr} {t t':TI} (h:PI X tg it t) (k:∀σ H R,t' σ H R->t σ H R):PI X tg it t':=λpins s σ H R I q=>h pins s σ H R I (k σ H R q)
theorem PI.or {it:Expr} {t t':TI} (h:PI X tg it t) (h':PI X tg it t'):PI X tg it (λσ H R=>t σ H R\/t' σ H R):=λpins s σ H R I q=>q.elim (h pins s σ H R I) (h' pins s σ H R I)
section
variable {a:Expr} {ga:Ds->Rs PyData}
def lF:PyData->Rs (List PyData)
 |.list ds=>.ok ds
 |.tuple ds=>.ok ds
 |_=>.no
theorem iu {B:List Addr} (s:aj G H1) (hB:∀b∈B,G b=none):aj G (del H1 B):=λb o e=>by rw[bc (λz=>by rw[hB b z]at e;cases e)];exact s b o e
theorem pd {p:Addr} (b:G p=some (.lst xs)) (h:Iss K G ds xs):uw K (Itl K p) ds G:=λH1 B s _ hB=>by have hl:=h.length;have a:SqL K H1 p xs:=SqL.of (s _ _ b);refine⟨λi hi=>⟨xs,xs[i]'(by omega),a,B6 _⟩,⟨xs,a,by omega⟩,λi x H2 hi y=>?_⟩;obtain⟨rfl,y⟩:=y;obtain⟨d,e,hd⟩:=h.get (y xs a);exact⟨aj.refl _,d,e,hd.same (iu s hB)⟩
theorem sL {p:Addr} (b:G p=some (.tup xs)) (h:Iss K G ds xs):uw K (Itt K p) ds G:=λH1 B s _ hB=>by have hl:=h.length;have a:SqT K H1 p xs:=SqT.of (s _ _ b);refine⟨λi hi=>⟨xs,xs[i]'(by omega),a,B6 _⟩,⟨xs,a,by omega⟩,λi x H2 hi y=>?_⟩;obtain⟨rfl,y⟩:=y;obtain⟨d,e,hd⟩:=h.get (y xs a);exact⟨aj.refl _,d,e,hd.same (iu s hB)⟩
def ck (g:Ds->Rs PyData):Ds->Rs (List PyData):=λδ=>(g δ).bind lF
theorem uk (h:PD X E a ga):PID X E tg a (ck ga):=(PI.or (uC h) (wu h)).imp λσ H R c=>by
 obtain⟨A,δ,f,o⟩:=c;unfold ck at o;cases q:ga δ with
 |no=>rw[q]at o;exact o.elim
 |rz C=>rw[q]at o;exact .inl (eD.run f (λd e=>by rw[q]at e;cases e) (λj e H' s=>by rw[q]at e;cases e;exact o H' s) (λe=>by rw[q]at e;cases e))
 |ok d =>
  rw[q]at o;cases d with
  |list ds =>refine .inl (eD.run f (λd e v H1 g k h1=>?_) (λj e=>by rw[q]at e;cases e) (λe=>by rw[q]at e;cases e));rw[q]at e;cases e;obtain⟨p,xs,rfl,b,i⟩:=h1.ofLst;exact⟨p,rfl,⟨xs,SqL.of (aq _ _ b)⟩,o _ H1 g (pd b i)⟩
  |tuple ds =>refine .inr (eD.run f (λd e v H1 g k h1=>?_) (λj e=>by rw[q]at e;cases e) (λe=>by rw[q]at e;cases e));rw[q]at e;cases e;obtain⟨p,xs,rfl,b,i⟩:=h1.ofTup;exact⟨p,rfl,⟨xs,SqT.of (aq _ _ b)⟩,o _ H1 g (sL b i)⟩
  |_=>exact o.elim
def bW (lo:Int) (n:Nat):List PyData:=(List.range n).map λ(i:Nat)=>PyData.int (lo+(i:Int))
theorem cE (lo:Int) (n:Nat):(bW lo n).length=n:=by simp[bW]
theorem nU {lo:Int}:uw K (Itr lo n) (bW lo n) G:=λH1 B s _ hB=>by refine⟨λi hi=>by rw[cE]at hi;exact hi,by rw[cE];exact B0 _,λi x H2 hi y=>?_⟩;obtain⟨rfl,rfl⟩:=y;rw[cE]at hi;exact⟨aj.refl _,_,by simp[bW,hi],bG⟩
def t7:List PyData->Rs (List PyData)
 |[.int j]=>if -(2 ^ 62)<=j/\j<2 ^ 62 then .ok (bW 0 j.toNat) else .no
 |_=>.no
def zD:List PyData->Rs (List PyData)
 |[.int i,.int j]=>if -(2 ^ 62)<=i/\i<2 ^ 62/\-(2 ^ 62)<=j/\j<2 ^ 62 then .ok (bW i (j-i).toNat) else .no
 |_=>.no
def fh (g:Ds->Rs (List PyData)):Ds->Rs (List PyData):=λδ=>(g δ).bind t7
def yR (g:Ds->Rs (List PyData)):Ds->Rs (List PyData):=λδ=>(g δ).bind zD
theorem xp {f:List PyData->Rs (List PyData)} {R:It->Hp->Prop} (b:cG K H A δ σ) (o:outI K E A H ((gs δ).bind f) R)
  (k:∀ds vs H1,gs δ=.ok ds->aj H H1->cG K H1 A δ σ->Iss K (del H1 A) ds vs->outI K E A H1 (f ds) R->t vs H1):aD K E gs σ H t:=by
 refine aD.run b (λd e v H1 a c h1=>?_) (λC e H' s'=>?_) (λe=>?_)
 ·rw[e]at o;refine k d v H1 e a c h1 ?_;have o:outI K E A H (f d) R:=o;cases q:f d with
  |ok ds=>rw[q]at o;exact λJ H' s j=>o J H' (a.trans s) j
  |rz C=>rw[q]at o;exact λH' s=>o H' (a.trans s)
  |no=>rw[q]at o;exact o
 ·rw[e]at o;exact o H' s'
 ·rw[e]at o;exact o
theorem ng (hm:X.mg "range"=none) (ha:PAD X E [a] gs) (b:Gl X "range") (c:starEach [a] X.env=[(false,eval a X.env)]) :
  PID X E tg (.Call (.Name "range" p) [a] [] pos) (fh gs):=(pw b hm ha.1 c).imp λσ H R ⟨A,δ,Rp,o⟩=>xp Rp o λds vs H1 e s1 R1 h1 o=>by
 unfold t7 at o;split at o
 ·split at o
  ·rename_i z;obtain⟨v,rfl,h⟩:=gI h1;rw[h.ofInt];exact⟨_,rfl,z.1,z.2,o _ H1 (aj.refl _) nU⟩
  ·exact o.elim
 ·exact o.elim
def TgD (K:PySem.W.Frag) (n0 n:Nat) (tgt:PyData->Option Ds) (g:TG):Prop:=∀(d:PyData) (v:V) (σ a:St) (H:Hp) (A:List Addr) (Q:St->Hp->Prop) (own:Ds),σ.length=n0->a.length=n->Ls H A->Is K (del H A) d v->tgt d=some own ->
 own.length=n/\((∀vs:St,vs.length=n->(∀(i:Nat) e,own[i]?=some (some e)->∃u,vs[i]?=some (some u)/\Is K (del H A) e u)->Q (σ++vs) H)->g v (σ++a) H Q)
def aF:PyData->Option Ds:=λd=>some [some d]
theorem rq:TgD K n0 1 aF (hW n0):=λd v σ a H A Q own h1 h2 hA hd e=>by
 cases e;refine⟨rfl,λk=>?_⟩;unfold hW;subst h1;rw[set_own σ none v a h2];refine k _ rfl λi e z=>?_
 match i,z with
 |0,z=>cases z;exact⟨v,rfl,hd⟩
def eI (cond:Ds->Rs Bool) (elt:Ds->Rs PyData) (tgt:PyData->Option Ds) (δ:Ds):List PyData->Rs (List PyData)
 |[]=>.ok []
 |d::r=>match tgt d with
  |none=>.no
  |some own=>(cond (δ++own)).calm.bind λb=>if b=true then (elt (δ++own)).calm.bind λx=>(eI cond elt tgt δ r).bind λxs=>.ok (x::xs) else eI cond elt tgt δ r
def a5 (n0:Nat) (src:Ds->Rs (List PyData)) (cond:Ds->Rs Bool) (elt:Ds->Rs PyData) (tgt:PyData->Option Ds):Ds->Rs (List PyData):=λδ=>if δ.length=n0 then (src δ).bind λds=>if ds.length<=1000000 then eI cond elt tgt δ ds else .no else .no
def aT:Ds->Rs Bool:=λ_=>.ok true
def uB (K:PySem.W.Frag) (E:XK) (A:List Addr) (H:Hp) (r:Rs (List PyData)) (Q:VK):Prop:=match r with
 |.ok ds=>∀a xs H',H a=none->aj H H'->H' a=some (.lst xs)->Iss K (del H' (a::A)) ds xs->Q (.ref a) H'
 |.rz C=>∀H',aj H H'->E (.ref C) none H'
 |.no=>False
def lD (K:PySem.W.Frag) (E:XK) (g:Ds->Rs (List PyData)):TE:=λσ H Q=>∃A δ,cG K H A δ σ/\uB K E A H (g δ) Q
def PLD (X:Cx) (E:XK) (e:Expr) (g:Ds->Rs (List PyData)):Prop:=PE X e (lD X.K E g)
def gL (g:Ds->Rs (List PyData)):Ds->Rs PyData:=λδ=>(g δ).bind λds=>.ok (.list ds)
theorem jO {a:Addr}:aj (del H (a::A)) (del H A):=λb o e=>by obtain⟨z,e⟩:=dh e;rw[bc (λq=>z (A6 _ q))];exact e
theorem xY {g:Ds->Rs (List PyData)} (h:PLD X E e g):PD X E e (gL g):=PE.imp h λσ H Q ⟨A,δ,R,o⟩=>⟨A,δ,R,by
 unfold gL at o;cases q:g δ with
 |no=>rw[q]at o;exact o
 |rz C=>rw[q]at o;exact o
 |ok ds =>rw[q]at o;intro a xs H' hn s hl hi;exact o _ H' s (ky (by rw[bc (R.ls.new hn)];exact hl) (hi.same jO))⟩
theorem uD (h:PAD X E es gs) (hl:es.length<=1000):PLD X E (.List es pos) gs:=(nu h.1).imp λσ H Q a=>by
 obtain⟨A,δ,R,o⟩:=a;refine aD.run R (λds e vs H1 f R1 h1=>?_) (λC e H' s'=>by rw[e]at o;exact o H' s') (λe=>by rw[e]at o;exact o);rw[e]at o;have n:=h.2 δ ds e;have m:=h1.length;refine⟨by rw[sizeLine_eq];omega,λp c=>o p vs _ (f.free c) (f.trans (bg c)) bS (h1.same ?_)⟩;refine λb o e=>?_
 obtain⟨z,e⟩:=dh e;have:b≠p:=a6 e c;rw[bc (by simp[this,z]),aV this];exact e
theorem so {X:Ds->Rs (List PyData)} {tt:TT} {f:Ds->Rs PyData} (hT:TgD K n0 own.length tgt g) (Y:∀σ H Q,cD K E0 cond σ H Q->tt σ H Q) :
  ∀σ H Q,lD K E (a5 n0 X cond f tgt) σ H Q->tLC own.length (iD K E X) g tt (eD K E0 f) σ H Q:=by
 intro σ H Q ⟨A,δ,R,o⟩;unfold a5 at o;by_cases hn0:δ.length=n0
 case neg=>rw[if_neg hn0]at o;exact o.elim
 rw[if_pos hn0]at o;have Z:σ.length=n0:=by rw[<-R.len];exact hn0
 refine⟨A,δ,R,?_⟩;cases q:X δ with
 |no=>rw[q]at o;exact o
 |rz C=>rw[q]at o;exact o
 |ok ds =>
  rw[q]at o;have o:uB K E A H (if ds.length<=1000000 then eI cond f tgt δ ds else .no) Q:=o;by_cases hz:ds.length<=1000000
  case neg=>rw[if_neg hz]at o;exact o.elim
  rw[if_pos hz]at o;intro J H1 s1 hJ D t;have T:=R.same s1;have nD:D∉A:=T.ls.new t;cases qo:eI cond f tgt δ ds with
  |rz C =>
   exfalso;have:∀l,eI cond f tgt δ l≠.rz C:=by
    intro l
    induction l with
    |nil=>intro z;cases z
    |cons d r ih =>
     intro z;unfold eI at z;split at z
     ·cases z
     ·rename_i j _;cases a:cond (δ++j) with
      |ok b =>
       simp only[a,Rs.ft,Rs.ag]at z;split at z
       ·cases n:f (δ++j) with
        |ok x =>
         simp only[n,Rs.ft,Rs.ag]at z;cases p:eI cond f tgt δ r with
         |ok l=>simp only[p,Rs.ag]at z;cases z
         |rz C'=>simp only[p,Rs.d8]at z;cases z;exact ih p
         |no=>simp only[p,Rs.bo]at z;cases z
        |rz C'=>simp only[n,Rs.calm,Rs.bo]at z;cases z
        |no=>simp only[n,Rs.calm,Rs.bo]at z;cases z
       ·exact ih z
      |rz C'=>simp only[a,Rs.calm,Rs.bo]at z;cases z
      |no=>simp only[a,Rs.calm,Rs.bo]at z;cases z
   exact this ds qo
  |no=>rw[qo]at o;exact o.elim
  |ok out =>
   rw[qo]at o;have base:aj (del H1 A) (del (upd H1 D (.lst [])) (D::A)):=λb o e=>by obtain⟨z,e⟩:=dh e;have nb:b≠D:=a6 e t;rw[bc (by simp[nb,z]),aV nb];exact e
   refine⟨λi m ys H'=>m=ds.length-i/\i<=ds.length/\aj H1 H'/\H' D=some (.lst ys)/\ys.length<=i/\∃F rest,eI cond f tgt δ (ds.drop i)=.ok rest/\out=F++rest/\Iss K (del H' (D::A)) F ys,
    ⟨ds.length,by simp,C0 _,bg t,bS,B0 _,[],out,qo,rfl,cN⟩,?_⟩
   rintro i m ys H' ⟨rfl,hi,w,hl,hy,F,rest,a,n,p⟩
   refine⟨hl,?_⟩;have sG:aj (del H1 A) H':=aq.trans w;have G:∀b∈D::A,(del H1 A) b=none:=λb I=>by
    rcases List.mem_cons.mp I with z|z
    ·rw[z,bc nD];exact t
    ·exact fJ z
   obtain⟨jg,js,jy⟩:=hJ H' (D::A) sG (λb I=>by
    rcases List.mem_cons.mp I with z|z
    ·exact⟨_,by rw[z];exact hl,rfl⟩
    ·exact (T.ls.same w) b z) G
   by_cases hlt:i<ds.length
   ·refine .inr ⟨jg i hlt,λx H2 σ' L y=>?_⟩;obtain⟨s2,d,ed,hd⟩:=jy i x H2 hlt y;have edr:ds.drop i=d::ds.drop (i+1):=by
     rw[BH hlt];have:ds[i]=d:=by have:=B6 hlt;rw[this]at ed;exact Option.some.inj ed
     rw[this]
    rw[edr]at a;unfold eI at a;cases et:tgt d with
    |none=>rw[et]at a;cases a
    |some ow =>
     rw[et]at a;have l2:H2 D=some (.lst ys):=s2 _ _ hl;have M:Ls H2 (D::A):=λb I=>by
      rcases List.mem_cons.mp I with z|z
      ·exact⟨_,by rw[z];exact l2,rfl⟩
      ·exact (T.ls.same (w.trans s2)) b z
     obtain⟨hol,hgo⟩:=hT d x σ σ' H2 (D::A) (λh H2=>tt h H2 λb H3 =>
      if b=true then eD K E0 f h H3 λv N=>N D=some (.lst ys)/\ys.length<sizeLine/\(∃c,h=σ++c/\c.length=own.length)/\∃m',m' < ds.length-i/\_
      else (∃c,h=σ++c/\c.length=own.length)/\∃m',m' < ds.length-i/\_) ow Z L M hd et
     refine hgo λvs s O=>?_
     have P:aj (del H1 A) (del H2 (D::A)):=iu (sG.trans s2) G;have RE:cG K H2 (D::A) (δ++ow) (σ++vs):=by
      refine⟨M,by rw[B1,B1,R.len,s,hol],λk e U=>?_⟩;by_cases hk:k<δ.length
      ·rw[Bh hk]at U;obtain⟨u,e1,hu⟩:=T.get k e U;exact⟨u,by rw[Bh (by rw[<-R.len];exact hk)];exact e1,hu.same P⟩
      ·rw[Bf (by omega)]at U;obtain⟨u,e1,hu⟩:=O _ e U;exact⟨u,by rw[Bf (by rw[<-R.len];omega),<-R.len];exact e1,hu⟩
     have bad:∀r:Rs Bool,r=.rz 0->r.calm=.no:=λr e=>by rw[e];rfl
     refine Y _ _ _ (cD.run RE (λb S H3 B R3=>?_) (λC S=>?_) (λS=>?_))
     ·simp only[S,Rs.ft,Rs.ag]at a;cases b with
      |true =>
       simp only[if_true]at a;refine eD.run R3 (λxd ex v N s4 R4 hv=>?_) (λC ex=>?_) (λex=>?_)
       ·simp only[ex,Rs.ft,Rs.ag]at a;cases cr:eI cond f tgt δ (ds.drop (i+1)) with
        |ok rs =>
         simp only[cr,Rs.ag]at a;cases a;have l4:N D=some (.lst ys):=s4 _ _ (B _ _ l2);have dU:del (upd N D (.lst (ys++[v]))) (D::A)=del N (D::A):=kJ (List.mem_cons_self);refine⟨l4,by rw[sizeLine_eq];omega,⟨vs,rfl,s⟩,ds.length-(i+1),by omega,rfl,hlt,?_,bS,by simp;omega,F++[xd],rs,cr,by rw[n];simp,?_⟩
         ·exact aj.put (((w.trans s2).trans B).trans s4) t
         ·rw[dU];exact (p.same (aj.del (s2.trans (B.trans s4)))).append (kZ hv)
        |rz C=>simp only[cr,Rs.d8]at a;cases a
        |no=>simp only[cr,Rs.bo]at a;cases a
       ·simp only[ex,Rs.calm,Rs.bo]at a;cases a
       ·simp only[ex,Rs.calm,Rs.bo]at a;cases a
      |false =>simp only[BW,if_false]at a;exact⟨⟨vs,rfl,s⟩,ds.length-(i+1),by omega,rfl,hlt,(w.trans s2).trans B,B _ _ l2,by omega,F,rest,a,n,p.same (aj.del (s2.trans B))⟩
     ·simp only[S,Rs.calm,Rs.bo]at a;cases a
     ·simp only[S,Rs.calm,Rs.bo]at a;cases a
   ·have e:i=ds.length:=by omega
    subst e;rw[C8]at a;cases a;rw[BC]at n;subst n;exact .inl ⟨js,o D ys H' (s1.free t) (s1.trans w) hl p⟩
def cB:Expr->List Str
 |.Name x _=>[x]
 |.Tuple [.Name x _,.Name y _] _ _=>[x,y]
 |_=>[]
def tw (own N:List Str):List Str:=N.map λx=>bif own.elem x then x++"__" else x
abbrev bk (X:Cx) (tg:Expr) (scope:Scope):=blk X (tw (cB tg) X.N) scope (cB tg)
abbrev wB (X:Cx) (tg:Expr) (scope:Scope):Bool:=g0 X.N (tw (cB tg) X.N) X.env.scope scope (cB tg)
inductive PIf (X:Cx):List Expr->(Ds->Rs Bool)->Prop
 |nil:PIf X [] aT
 |one {c:Expr} {g:Ds->Rs Bool} (h:PCD X E0 c g):PIf X [c] g
def zI (K:PySem.W.Frag) (ifs:List Expr) (g:Ds->Rs Bool):TT:=match ifs with
 |[]=>vZ
 |_=>cD K E0 g
theorem PIf.pts {g:Ds->Rs Bool} (h:PIf X ifs g):PTs X ifs (zI X.K ifs g):=by
 cases h with
 |nil=>exact .nil
 |one h=>exact .one h
theorem PIf.tt {g:Ds->Rs Bool} (h:PIf X ifs g):∀σ H Q,cD K E0 g σ H Q->zI K ifs g σ H Q:=by
 cases h with
 |nil=>exact λσ H Q a=>(by obtain⟨A,δ,R,o⟩:=a;exact o H (aj.refl _))
 |one h=>exact λ_ _ _ h=>h
theorem rP {b:Ds->Rs (List PyData)} {a:Ds->Rs PyData} (hc:X.calm=true) (hi:PID X E tg iter b)
  (e:TgD X.K n0 (cB tg).length tgt g) (f:∀C s2 H2 fp,PG (bk X tg scope C s2 H2 fp) tg g) (c:∀C s2 H2 fp,PIf (bk X tg scope C s2 H2 fp) ifs cond) (h:∀C s2 H2 fp,PD (bk X tg scope C s2 H2 fp) E0 elt a)
  (hB:wB X tg scope=true) (i:∀x,foldedSetIterable iter X.env x=pure x):PLD X E (.ListComp elt [⟨tg,iter,ifs,0⟩] scope pos) (a5 n0 b cond a tgt) :=
 (tG (own:=cB tg) (te:=eD X.K E0 a) hc hi f (λC s2 H2 fp=>(c C s2 H2 fp).pts) (λC s2 H2 fp=>h C s2 H2 fp) hB i).imp (so e (PIf.tt (c 0 X.s₀ X.H₀ [])))
def PLS (X:Cx) (E:XK) (i:Nat) (st:Stmt) (a:Ds->Rs (List PyData)):Prop:=PS X st (uV (lD X.K E a) (hW i))
theorem tI {f:Ds->Rs (List PyData)} {b:Ds->Rs PyData} {a:Pos} (c:swapsWith (.ListComp elt [⟨tg,iter,ifs,0⟩] scope pos) (some (.Name x pos')) a.line X.env=pure true) (hc:X.calm=true) (k:X.N.Nodup) (hi:PID X E tg iter f)
  (l:TgD X.K n0 (cB tg).length tgt g) (m:∀C s2 H2 fp,PG (bk X tg scope C s2 H2 fp) tg g) (j:∀C s2 H2 fp,PIf (bk X tg scope C s2 H2 fp) ifs cond) (n:∀C s2 H2 fp,PD (bk X tg scope C s2 H2 fp) E0 elt b)
  (e:X.N[i]?=some x) (o:Loc X.env.scope x) (hB:wB X tg scope=true) (p:∀x,foldedSetIterable iter X.env x=pure x) (q:X.fn x=true\/X.env.scope.names.lookup x=some .local) :
  PLS X E i (.Assign [.Name x pos'] (.ListComp elt [⟨tg,iter,ifs,0⟩] scope pos) a) (a5 n0 f cond b tgt) :=
 PS.imp (rj (own:=cB tg) (te:=eD X.K E0 b) hc k e o c hi m (λC s2 H2 fp=>(j C s2 H2 fp).pts) (λC s2 H2 fp=>n C s2 H2 fp) hB p q) λD σ H h=>so l (PIf.tt (j 0 X.s₀ X.H₀ [])) σ H _ h
end
inductive Sr where
 |nx (δ:Ds)
 |rt (d:PyData)
 |rz (C:Addr)
 |bk (δ:Ds)
 |ct (δ:Ds)
 |no
def fo (K:PySem.W.Frag) (G:Hp):PyData->HO->Prop
 |.list ds,.lst xs=>Iss K G ds xs
 |.dict kvs,o=>zB kvs o
 |_,_=>False
theorem fo.same {G':Hp} {d:PyData} (h:fo K G d o) (s:aj G G'):fo K G' d o:=by
 unfold fo at h ⊢;split at h
 ·exact Iss.same s h
 ·exact h
 ·exact h.elim
theorem fo.is {d:PyData} (h:fo K G d o) (ha:G a=some o):Is K G d (.ref a):=by
 unfold fo at h;split at h
 ·exact ky ha h
 ·unfold Is;exact .inl (.inr ⟨a,_,rfl,h,ha⟩)
 ·exact h.elim
theorem fo.lst (h:fo K G (.list ds) o):∃xs,o=.lst xs/\Iss K G ds xs:=by
 unfold fo at h;split at h
 ·rename_i e;cases e;exact⟨_,rfl,h⟩
 ·rename_i e;cases e
 ·exact h.elim
structure bu (K:PySem.W.Frag) (H0:Hp) (A0:List Addr) (H:Hp) (A:List Addr) (O:List Nat) (δ:Ds) (σ:St):Prop where
 same:aj H0 H
 ls0:Ls H0 A0
 new:∀a∈A,H0 a=none
 ls:Ls H A
 len:δ.length=σ.length
 pl:∀(i:Nat) d,i∉O->δ[i]?=some (some d)->∃v,σ[i]?=some (some v)/\Is K (del H (A++A0)) d v
 own:∀(i:Nat) d,i∈O->δ[i]?=some (some d)->∃a o d',σ[i]?=some (some (.ref a))/\a∈A/\H a=some o/\d=d'/\fo K (del H (A++A0)) d' o
 inj:∀(i j:Nat) d e a,i∈O->j∈O->δ[i]?=some (some d)->δ[j]?=some (some e)->σ[i]?=some (some (.ref a))->σ[j]?=some (some (.ref a))->i=j
def mask (O:List Nat) (δ:Ds):Ds:=if O=[] then δ else δ.mapIdx λi d=>if i∈O then none else d
theorem dR (δ:Ds):mask [] δ=δ:=by simp[mask]
theorem qF {d:PyData} (h:(mask O δ)[i]?=some (some d)):i∉O/\δ[i]?=some (some d):=by
 unfold mask at h;split at h
 ·rename_i z;subst z;exact⟨by simp,h⟩
 ·rw[List.getElem?_mapIdx]at h;cases q:δ[i]? with
  |none=>rw[q]at h;cases h
  |some x =>
   rw[q]at h;simp only[C4,Option.some.injEq]at h;by_cases z:i∈O
   ·rw[if_pos z]at h;cases h
   ·rw[if_neg z]at h;exact⟨z,by rw[h]⟩
theorem rC:(mask O δ).length=δ.length:=by unfold mask;split <;> simp
theorem mv {B:List Addr}:aj (del H (A++B)) (del H B):=λb o e=>by obtain⟨z,e⟩:=dh e;rw[bc (λq=>z (A9 _ q))];exact e
section
theorem bu.lsA (R:bu K H0 A0 H A O δ σ):Ls H (A++A0):=λa h=>(B8.mp h).elim (R.ls a) λz=>(R.ls0.same R.same) a z
theorem bu.step (R:bu K H0 A0 H A O δ σ) (s:aj H H1):bu K H0 A0 H1 A O δ σ where
 same:=R.same.trans s
 ls0:=R.ls0
 new:=R.new
 ls:=R.ls.same s
 len:=R.len
 pl:=λi d h e=>by obtain⟨v,e1,h1⟩:=R.pl i d h e;exact⟨v,e1,h1.same s.del⟩
 own:=λi d h e=>by obtain⟨a,xs,ds,e1,h1,h2,b,c⟩:=R.own i d h e;exact⟨a,xs,ds,e1,h1,s _ _ h2,b,c.same s.del⟩
 inj:=R.inj
theorem bu.apart (R:bu K H0 A0 H A O δ σ) (h:a∈A):a∉A0:=λz=>by obtain⟨xs,e,_⟩:=R.ls0 a z;rw[R.new a h]at e;cases e
theorem bu.ownL (R:bu K H0 A0 H A O δ σ) (h:i∈O) (e:δ[i]?=some (some (.list ds))):∃a xs b,σ[i]?=some (some (.ref a))/\a∈A/\H a=some (.lst xs)/\PyData.list ds=.list b/\Iss K (del H (A++A0)) b xs:=by obtain⟨a,o,d',e1,h1,h2,c,f⟩:=R.own i _ h e;subst c;obtain⟨xs,rfl,g⟩:=f.lst;exact⟨a,xs,ds,e1,h1,h2,rfl,g⟩
theorem bu.full (R:bu K H0 A0 H A O δ σ):cG K H A0 δ σ where
 ls:=R.ls0.same R.same
 len:=R.len
 get:=λi d e=>by
  by_cases h:i∈O
  ·obtain⟨a,xs,ds,e1,h1,h2,b,c⟩:=R.own i d h e;subst b;exact⟨_,e1,(c.same mv).is (by rw[bc (R.apart h1)];exact h2)⟩
  ·obtain⟨v,e1,h1⟩:=R.pl i d h e;exact⟨v,e1,h1.same mv⟩
theorem bu.part (R:bu K H0 A0 H A O δ σ):cG K H (A++A0) (mask O δ) σ where
 ls:=R.lsA
 len:=by rw[rC];exact R.len
 get:=λi d e=>by obtain⟨h,e⟩:=qF e;exact R.pl i d h e
theorem get_set {l:List α} {x y:α} (h:(l.set i x)[j]?=some y):(i=j/\y=x)\/(i≠j/\l[j]?=some y):=by
 by_cases z:i=j
 ·subst z;rw[List.getElem?_set_self']at h;cases q:l[i]? with
  |none=>rw[q]at h;cases h
  |some w=>rw[q]at h;simp at h;exact .inl ⟨rfl,h.symm⟩
 ·rw[Bd z]at h;exact .inr ⟨z,h⟩
theorem iA {l:List α} {x y:α} (hn:i≠j) (h:l[j]?=some y):(l.set i x)[j]?=some y:=by rw[Bd hn];exact h
theorem bu.set {d:PyData} (R:bu K H0 A0 H A O δ σ) (hi:i∉O) (hl:i<δ.length) (h:Is K (del H (A++A0)) d v):bu K H0 A0 H A O (δ.set i (some d)) (σ.set i (some v)) where
 same:=R.same
 ls0:=R.ls0
 new:=R.new
 ls:=R.ls
 len:=by simp[R.len]
 pl:=λj e b q=>by
  rcases get_set q with⟨z,q⟩|⟨z,q⟩
  ·cases q;subst z;exact⟨v,by rw[Bu (by rw[<-R.len];exact hl)],h⟩
  ·obtain⟨u,e1,h1⟩:=R.pl j e b q;exact⟨u,iA z e1,h1⟩
 own:=λj e b q=>by
  rcases get_set q with⟨z,q⟩|⟨z,q⟩
  ·subst z;exact absurd b hi
  ·obtain⟨a,xs,ds,e1,h1⟩:=R.own j e b q;exact⟨a,xs,ds,iA z e1,h1⟩
 inj:=λj k d' e a b c f g p1 p2=>by
  have n1:i≠j:=λz=>hi (z▸b)
  have n2:i≠k:=λz=>hi (z▸c)
  rw[Bd n1]at f p1;rw[Bd n2]at g p2;exact R.inj j k d' e a b c f g p1 p2
theorem bu.setOwn (R:bu K H0 A0 H A O δ σ) (hi:i∈O) (hl:i<δ.length) (hn:H a=none) (s:aj H H1) (ha:H1 a=some (.lst xs)) (h:Iss K (del H1 (a::(A++A0))) ds xs) :
  bu K H0 A0 H1 (a::A) O (δ.set i (some (.list ds))) (σ.set i (some (.ref a))) where
 same:=R.same.trans s
 ls0:=R.ls0
 new:=λb m=>by
  rcases List.mem_cons.mp m with z|z
  ·rw[z];exact R.same.free hn
  ·exact R.new b z
 ls:=λb m=>by
  rcases List.mem_cons.mp m with z|z
  ·exact⟨_,by rw[z];exact ha,rfl⟩
  ·exact (R.ls.same s) b z
 len:=by simp[R.len]
 pl:=λj e c q=>by
  rcases get_set q with⟨z,q⟩|⟨z,q⟩
  ·subst z;exact absurd hi c
  ·obtain⟨u,e1,h1⟩:=R.pl j e c q;refine⟨u,iA z e1,h1.same λb o e=>?_⟩;obtain⟨y,e⟩:=dh e;have n:b≠a:=a6 e hn;rw[bc (by simpa[n] using y)];exact s _ _ e
 own:=λj e c q=>by
  have r:∀b o,del H (A++A0) b=some o->del H1 (a::A++A0) b=some o:=λb o e=>by obtain⟨y,e⟩:=dh e;have n:b≠a:=a6 e hn;rw[bc (by simpa[n] using y)];exact s _ _ e
  rcases get_set q with⟨z,q⟩|⟨z,q⟩
  ·cases q;subst z;exact⟨a,_,_,by rw[Bu (by rw[<-R.len];exact hl)],List.mem_cons_self,ha,rfl,h⟩
  ·obtain⟨b,ys,es,e1,h1,h2,t,v⟩:=R.own j e c q;exact⟨b,ys,es,iA z e1,A6 _ h1,s _ _ h2,t,v.same r⟩
 inj:=λj k d' e b c f g l p1 p2=>by
  have old:∀k,k∈O->i≠k->∀e,δ[k]?=some (some e)->σ[k]?=some (some (.ref a))->False:=λk f _ e q p=>by obtain⟨b,ys,es,e1,h1,h2,_⟩:=R.own k e f q;rw[p]at e1;cases e1;rw[hn]at h2;cases h2
  by_cases z1:i=j
  ·by_cases z2:i=k
   ·rw[<-z1,z2]
   ·subst z1;rw[Bu (by rw[<-R.len];exact hl)]at p1;cases p1;rw[Bd z2]at l p2;exact (old k f z2 e l p2).elim
  ·by_cases z2:i=k
   ·subst z2;rw[Bu (by rw[<-R.len];exact hl)]at p2;cases p2;rw[Bd z1]at g p1;exact (old j c z1 d' g p1).elim
   ·rw[Bd z1]at g p1;rw[Bd z2]at l p2;exact R.inj j k d' e b c f g l p1 p2
theorem bu.put {ys:List V} {l:PyData} (R:bu K H0 A0 H A O δ σ) (hi:i∈O) (hd:δ[i]?=some (some l)) (p:σ[i]?=some (some (.ref a))) (ha:a∈A) (h:Iss K (del H (A++A0)) ds ys) :
  bu K H0 A0 (upd H a (.lst ys)) A O (δ.set i (some (.list ds))) σ:=by
 have m:del (upd H a (.lst ys)) (A++A0)=del H (A++A0):=kJ (Bb _ ha);have hl:i<δ.length:=(Bw.mp hd).1;refine⟨λb o e=>?_,R.ls0,R.new,λb s=>?_,by simp[R.len],λj e c q=>?_,λj e c q=>?_,λj k d' e b c r f g p1 p2=>?_⟩
 ·have n:b≠a:=λz=>by rw[z,R.new a ha]at e;cases e
  rw[aV n];exact R.same b o e
 ·by_cases z:b=a
  ·exact⟨_,by rw[z,bS],rfl⟩
  ·rw[aV z];exact R.ls b s
 ·rcases get_set q with⟨z,q⟩|⟨z,q⟩
  ·subst z;exact absurd hi c
  ·rw[m];exact R.pl j e c q
 ·rcases get_set q with⟨z,q⟩|⟨z,q⟩
  ·cases q;subst z;exact⟨a,_,_,p,ha,bS,rfl,by rw[m];exact h⟩
  ·obtain⟨b,zs,es,e1,h1,h2,t,u⟩:=R.own j e c q;have n:b≠a:=λw=>z (R.inj i j _ _ a hi c hd q p (by rw[<-w];exact e1))
   exact⟨b,zs,es,e1,h1,by rw[aV n];exact h2,t,by rw[m];exact u⟩
 ·rcases get_set f with⟨z1,f⟩|⟨z1,f⟩ <;> rcases get_set g with⟨z2,g⟩|⟨z2,g⟩
  ·rw[<-z1,z2]
  ·subst z1;exact R.inj i k l e b hi r hd g p1 p2
  ·subst z2;exact R.inj j i d' l b c hi f hd p1 p2
  ·exact R.inj j k d' e b c r f g p1 p2
def un (H0 G:Hp):Hp:=λb=>match H0 b with|some o=>some o|none=>G b
theorem qy:aj H0 (un H0 G):=λb o e=>by unfold un;rw[e]
theorem Ai (a:aj H0 H) (c:aj G H):aj G (un H0 G):=λb o e=>by
 unfold un;cases q:H0 b with
 |none=>exact e
 |some o2=>have h2:=a b o2 q;rw[c b o e]at h2;exact h2.symm
theorem y9 (a:aj H0 H) (c:aj G H):aj (un H0 G) H:=λb o e=>by
 unfold un at e;cases q:H0 b with
 |none=>rw[q]at e;exact c b o e
 |some o2=>rw[q]at e;rw[<-Option.some.inj e];exact a b o2 q
theorem bu.more (R:bu K H0 A0 H A O δ σ):bu K (un H0 (del H (A++A0))) A0 H A O δ σ :=
 ⟨y9 R.same aq,R.ls0.same qy,λa h=>by unfold un;rw[R.new a h];exact fJ (Bb _ h),R.ls,R.len,R.pl,R.own,R.inj⟩
theorem bu.less {b:Hp} (R:bu K b A0 H A O δ σ) (s:aj H0 b) (l:Ls H0 A0):bu K H0 A0 H A O δ σ:=⟨s.trans R.same,l,λa h=>s.free (R.new a h),R.ls,R.len,R.pl,R.own,R.inj⟩
end
def p7 (K:PySem.W.Frag) (E:XK) (H0:Hp) (A0:List Addr) (O:List Nat) (r:Sr) (D:Ends):Prop:=match r with
 |.nx δ=>∀A σ H,bu K H0 A0 H A O δ σ->D.nx σ H
 |.rt d=>∀v H,aj H0 H->Is K (del H A0) d v->D.rt v H
 |.rz C=>∀H,aj H0 H->E (.ref C) none H
 |.bk δ=>∀A σ H,bu K H0 A0 H A O δ σ->D.bk σ H
 |.ct δ=>∀A σ H,bu K H0 A0 H A O δ σ->D.ct σ H
 |.no=>False
def sD (K:PySem.W.Frag) (E:XK) (O:List Nat) (G:Ds->Sr):TS:=λD σ H=>∃H0 A0 A δ,bu K H0 A0 H A O δ σ/\p7 K E H0 A0 O (G δ) D
def PSD (X:Cx) (E:XK) (O:List Nat) (s:Stmt) (G:Ds->Sr):Prop:=PS X s (sD X.K E O G)
def PBD (X:Cx) (E:XK) (O:List Nat) (ss:List Stmt) (G:Ds->Sr):Prop:=PSs X ss (sD X.K E O G)
def bq:Ds->Sr:=λδ=>.nx δ
def aG (a b:Ds->Sr):Ds->Sr:=λδ=>match a δ with
 |.nx δ'=>b δ'
 |r=>r
def ofR {α:Type} (r:Rs α) (k:α->Sr):Sr:=match r with
 |.ok a=>k a
 |.rz C=>.rz C
 |.no=>.no
@[simp]theorem a9 (a:α) (k:α->Sr):ofR (.ok a) k=k a:=rfl
@[simp]theorem lq (C:Addr) (k:α->Sr):ofR (.rz C) k=.rz C:=rfl
@[simp]theorem mJ (k:α->Sr):ofR (.no:Rs α) k=.no:=rfl
def sIf (c:Ds->Rs Bool) (a b:Ds->Sr):Ds->Sr:=λδ=>ofR (c δ) λt=>if t=true then a δ else b δ
def bp (g:Ds->Rs PyData):Ds->Sr:=λδ=>ofR (g δ) .rt
def jT (g:Ds->Rs PyData):Ds->Sr:=λδ=>ofR (g δ) λ_=>.nx δ
def aM (O:List Nat) (i:Nat) (g:Ds->Rs PyData):Ds->Sr:=λδ=>if i<δ.length then ofR (g (mask O δ)) λd=>.nx (δ.set i (some d)) else .no
def mF (i:Nat) (g:Ds->Rs PyData):Ds->Sr:=λδ=>if i<δ.length then ofR (g δ) λd=>if cT d then .nx (δ.set i (some d)) else .no else .no
def jG (O:List Nat) (i:Nat) (g:Ds->Rs (List PyData)):Ds->Sr:=λδ=>if i<δ.length then ofR (g (mask O δ)) λds=>.nx (δ.set i (some (.list ds))) else .no
def gR (O:List Nat) (i:Nat) (g:Ds->Rs PyData):Ds->Sr:=λδ=>match δ[i]? with
 |some (some (.list ds))=>ofR (g (mask O δ)) λd=>if ds.length<1000000 then .nx (δ.set i (some (.list (ds++[d])))) else .no
 |_=>.no
section
variable {G G':Ds->Sr} {a b c:Expr} {ga gb:Ds->Rs PyData} {ca:Ds->Rs Bool}
theorem vC:PBD X E O [] bq:=kO.imp λD σ H a=>(by obtain⟨H0,A0,A,δ,R,o⟩:=a;exact o A σ H R)
theorem bh (h1:PSD X E O st G) (h2:PBD X E O ss G'):PBD X E O (st::ss) (aG G G'):=(fR h1 h2).imp λD σ H ⟨H0,A0,A,δ,R,o⟩=>⟨H0,A0,A,δ,R,by
 unfold aG at o;cases q:G δ with
 |nx δ'=>rw[q]at o;exact λA' σ' H' a=>⟨H0,A0,A',δ',a,o⟩
 |rt d=>rw[q]at o;exact o
 |rz C=>rw[q]at o;exact o
 |bk d=>rw[q]at o;exact o
 |ct d=>rw[q]at o;exact o
 |no=>rw[q]at o;exact o⟩
theorem kI (h1:PSD X E O st G):PBD X E O [st] G:=(fu h1).imp λD σ H h=>h
theorem xn {a:List Stmt} (hc:PCD X E c ca) (h1:PBD X E O ss G) (h2:PBD X E O a G'):PSD X E O (.If c ss a pos) (sIf ca G G'):=(qt hc h1 h2).imp λD σ H e=>by
 obtain⟨H0,A0,A,δ,R,o⟩:=e;unfold sIf at o;refine cD.run R.full (λt b H1 f R1=>?_) (λC b H' s'=>?_) (λb=>?_)
 ·rw[b]at o;cases t with
  |true=>exact⟨H0,A0,A,δ,R.step f,o⟩
  |false=>exact⟨H0,A0,A,δ,R.step f,o⟩
 ·rw[b]at o;exact o H' (R.same.trans s')
 ·rw[b]at o;exact o
theorem vk (h:PD X E e ga):PSD X E O (.Return (some e) pos) (bp ga):=(gz h).imp λD σ H a=>by
 obtain⟨H0,A0,A,δ,R,o⟩:=a;unfold bp at o;refine eD.run R.full (λd c v H1 f R1 g=>?_) (λC b H' s'=>?_) (λb=>?_)
 ·rw[c]at o;exact o v H1 (R.same.trans f) g
 ·rw[b]at o;exact o H' (R.same.trans s')
 ·rw[b]at o;exact o
theorem qI (h:PD X E e ga) (c:swapsWith e none pos.line X.env=pure false):PSD X E O (.Expr e pos) (jT ga):=(o5 h c).imp λD σ H a=>by
 obtain⟨H0,A0,A,δ,R,o⟩:=a;unfold jT at o;refine eD.run R.full (λd f v H1 g R1 hv=>?_) (λC b H' s'=>?_) (λb=>?_)
 ·rw[f]at o;exact o A σ H1 (R.step g)
 ·rw[b]at o;exact o H' (R.same.trans s')
 ·rw[b]at o;exact o
theorem vK (h:PD X E e ga) (c:X.N.Nodup) (f:i∉O) (hi:X.N[i]?=some x) (g:Loc X.env.scope x) (j:swapsWith e (some (.Name x pos')) pos.line X.env=pure false)
  (k:X.fn x=true\/X.env.scope.names.lookup x=some .local):PSD X E O (.Assign [.Name x pos'] e pos) (aM O i ga):=(lh c hi g h j k).imp λD σ H a=>by
 obtain⟨H0,A0,A,δ,R,o⟩:=a;unfold aM at o;split at o
 ·rename_i hl;refine eD.run R.part (λd l v H1 m R1 n=>?_) (λC b H' s'=>?_) (λb=>?_)
  ·rw[l]at o;exact o A _ H1 ((R.step m).set f hl n)
  ·rw[b]at o;exact o H' (R.same.trans s')
  ·rw[b]at o;exact o
 ·exact o.elim
theorem tE (h:PD X E e ga) (f:X.N.Nodup) (g:i∉O) (hi:X.N[i]?=some x) (j:Loc X.env.scope x) (k:swapsWith e (some (.Name x pos')) pos.line X.env=pure false)
  (l:X.fn x=true\/X.env.scope.names.lookup x=some .local):PSD X E O (.Assign [.Name x pos'] e pos) (mF i ga):=(lh f hi j h k l).imp λD σ H a=>by
 obtain⟨H0,A0,A,δ,R,o⟩:=a;unfold mF at o;split at o
 ·rename_i hl;refine eD.run R.full (λd m v H1 c R1 n=>?_) (λC b H' s'=>?_) (λb=>?_)
  ·rw[m]at o;have o:p7 X.K E H0 A0 O (if cT d=true then .nx (δ.set i (some d)) else .no) D:=o;split at o
   ·rename_i hd;exact o A _ H1 ((R.step c).set g hl ((n.same aq).dl (R.step c).lsA hd))
   ·exact o.elim
  ·rw[b]at o;exact o H' (R.same.trans s')
  ·rw[b]at o;exact o
 ·exact o.elim
theorem vo {a:Ds->Rs (List PyData)} (h:PLD X E e a) (f:X.N.Nodup) (g:i∈O) (hi:X.N[i]?=some x) (j:Loc X.env.scope x) (k:swapsWith e (some (.Name x pos')) pos.line X.env=pure false)
  (l:X.fn x=true\/X.env.scope.names.lookup x=some .local):PSD X E O (.Assign [.Name x pos'] e pos) (jG O i a):=(lh f hi j h k l).imp λD σ H b=>by
 obtain⟨H0,A0,A,δ,R,o⟩:=b;unfold jG at o;split at o
 ·rename_i hl;refine⟨A++A0,mask O δ,R.part,?_⟩;cases q:a (mask O δ) with
  |ok ds =>rw[q]at o;exact λp xs H' hn s m c=>o (p::A) _ H' (R.setOwn g hl hn s m c)
  |rz C=>rw[q]at o;exact λH' s'=>o H' (R.same.trans s')
  |no=>rw[q]at o;exact o
 ·exact o.elim
theorem sF {a:Ds->Rs (List PyData)} (h:PLS X E i st a) (f:i∉O):PSD X E O st (aM O i (gL a)):=PS.imp h λD σ H b=>by
 obtain⟨H0,A0,A,δ,R,o⟩:=b;unfold aM gL at o;split at o
 ·rename_i hl;have e:=R.part;refine⟨A++A0,mask O δ,e,?_⟩;cases q:a (mask O δ) with
  |ok ds =>rw[q]at o;intro p xs H' hn s g c;exact o A _ H' ((R.step s).set f hl (ky (by rw[bc (e.ls.new hn)];exact g) (c.same jO)))
  |rz C=>rw[q]at o;exact λH' s'=>o H' (R.same.trans s')
  |no=>rw[q]at o;exact o
 ·exact o.elim
theorem tyL {p:Addr} (h:H p=some (.lst xs)):tyV K "list" (.ref p) H:=.inl ⟨rfl,xs,SqL.of h⟩
theorem vJ {pn j c:Pos} (h:PD X E e ga) (s:i∈O) (hi:X.N[i]?=some x) (k:Vis X.env.scope x)
  (hd:(x==("__debug__":Str))=false) (l:(x==("__classdict__":Str))=false) (f:starEach [e] X.env=(false,eval e X.env)::starEach [] X.env)
  (a:attributeBase (.Name x pn) "append" X.env (eval (.Name x pn) X.env)=eval (.Name x pn) X.env)
  (g:((backTo c (starEach [e] X.env)).all (λx=>!x.1)&&(backToKw c (keywordEach [] X.env)).all (λx=>x.1.isSome)&&decide (([e]:List Expr).length+([]:List Keyword).length+(if ([]:List Keyword).isEmpty then 0 else 1)<30))=true)
  (b:(j.endLine==c.line)=true) (u:swapsWith (.Call (.Attribute (.Name x pn) "append" j) [e] [] c) none pos.line X.env=pure false) :
  PSD X E O (.Expr (.Call (.Attribute (.Name x pn) "append" j) [e] [] c) pos) (gR O i ga) :=
 (o5 (v7 PySem.F.plainAttrs_list PySem.F.slot_list_append PySem.F.type_list_append gW (i9 hi k hd l) (bO h dy f) a g b f rfl) u).imp λD σ H m=>by
  obtain⟨H0,A0,A,δ,R,o⟩:=m;unfold gR at o;split at o
  ·rename_i ds q;obtain⟨p,xs,ds',e1,w,hl,e2,t⟩:=R.ownL s q;cases e2;refine⟨_,e1,tyL hl,?_⟩;refine eD.run R.part (λd y v H1 n R1 k=>?_) (λC r H' s'=>?_) (λr=>?_)
   ·rw[y]at o;have o:p7 X.K E H0 A0 O (if ds.length<1000000 then .nx (δ.set i (some (.list (ds++[d])))) else .no) D:=o;split at o
    ·rename_i hz;refine⟨p,xs,v,rfl,rfl,n _ _ hl,by rw[t.length,sizeLine_eq];omega,?_⟩;exact o A _ _ ((R.step n).put s q e1 w ((t.same n.del).append (kZ k)))
    ·exact o.elim
   ·rw[r]at o;exact o H' (R.same.trans s')
   ·rw[r]at o;exact o
  ·exact o.elim
def TgS (K:PySem.W.Frag) (O:List Nat) (tgt:PyData->Ds->Option Ds) (g:TG):Prop:=∀(d:PyData) (v:V) (H0:Hp) (A0:List Addr) (H:Hp) (A:List Addr) (δ δ':Ds) (σ:St) (Q:St->Hp->Prop),bu K H0 A0 H A O δ σ->Is K (del H (A++A0)) d v->tgt d δ=some δ' ->
 (∀a,bu K H0 A0 H A O δ' a->Q a H)->g v σ H Q
def dw (i:Nat):PyData->Ds->Option Ds:=λd δ=>if i<δ.length then some (δ.set i (some d)) else none
theorem sE (hi:i∉O):TgS K O (dw i) (hW i):=λd v H0 A0 H A δ δ' σ Q R h e k=>by
 unfold dw at e;split at e
 ·rename_i hl;cases e;exact k _ (R.set hi hl h)
 ·cases e
def gH:List Nat->List PyData->Ds->Option Ds
 |[],[],δ=>some δ
 |i::is,d::ds,δ=>if i<δ.length then gH is ds (δ.set i (some d)) else none
 |_,_,_=>none
def d6 (is:List Nat):PyData->Ds->Option Ds
 |.tuple ds,δ=>gH is ds δ
 |_,_=>none
def n8:List Nat->TGs
 |[]=>L2.yO
 |i::is=>L2.vN (hW i) (n8 is)
theorem g7 {K:PySem.W.Frag}:∀(is:List Nat) (ds:List PyData) (vs:List V) (H0:Hp) (A0:List Addr) (H:Hp) (A:List Addr) (δ δ':Ds) (σ:St) (Q:St->Hp->Prop),(∀i∈is,i∉O)->bu K H0 A0 H A O δ σ->Iss K (del H (A++A0)) ds vs->gH is ds δ=some δ' ->
  (∀a,bu K H0 A0 H A O δ' a->Q a H)->n8 is vs σ H Q
 |[],[],vs,H0,A0,H,A,δ,δ',σ,Q,_,R,h,e,k=>by cases e;exact⟨h.nil_of,k σ R⟩
 |i::is,d::ds,vs,H0,A0,H,A,δ,δ',σ,Q,hO,R,h,e,k=>by
  obtain⟨v,r,rfl,h1,h2⟩:=h.cons_of;unfold gH at e;split at e
  ·rename_i hl;exact⟨v,r,rfl,g7 is ds r H0 A0 H A _ δ' _ Q (λj b=>hO j (A6 _ b)) (R.set (hO i List.mem_cons_self) hl h1) h2 e k⟩
  ·cases e
 |[],_::_,_,_,_,_,_,_,_,_,_,_,_,_,e,_=>by cases e
 |_::_,[],_,_,_,_,_,_,_,_,_,_,_,_,e,_=>by cases e
theorem iX:∀{is:List Nat} {ds:List PyData} {δ δ':Ds},gH is ds δ=some δ'->ds.length=is.length
 |[],[],_,_,_=>rfl
 |_::is,_::ds,δ,δ',e=>by
  unfold gH at e;split at e
  ·simp[iX e]
  ·cases e
 |[],_::_,_,_,e=>by cases e
 |_::_,[],_,_,e=>by cases e
theorem vi {is:List Nat} (hi:∀i∈is,i∉O):TgS K O (d6 is) (L2.yC K is.length (n8 is)):=λd v H0 A0 H A δ δ' σ Q R h e k=>by
 unfold d6 at e;split at e
 ·obtain⟨p,xs,rfl,b,a⟩:=h.ofTup;exact⟨p,xs,rfl,SqT.of (aq _ _ b),by rw[a.length,iX e],g7 is _ xs H0 A0 H A δ δ' σ Q hi R a e k⟩
 ·cases e
def forL (tgt:PyData->Ds->Option Ds) (body:Ds->Sr):List PyData->Ds->Sr
 |[],δ=>.nx δ
 |d::r,δ=>match tgt d δ with
  |none=>.no
  |some δ1=>match body δ1 with
   |.nx δ2=>forL tgt body r δ2
   |.ct δ2=>forL tgt body r δ2
   |.bk δ2=>.nx δ2
   |.rt v=>.rt v
   |.rz C=>.rz C
   |.no=>.no
def ig (O:List Nat) (src:Ds->Rs (List PyData)) (tgt:PyData->Ds->Option Ds) (body:Ds->Sr):Ds->Sr:=λδ=>ofR (src (mask O δ)) λds=>forL tgt body ds δ
theorem uG {p:Ds->Rs (List PyData)} {tgt:PyData->Ds->Option Ds} (M:PassesOwn (model X.prog X.w) X.A X.env X.xe) (hc:X.calm=true) (hi:PID X E tg iter p) (N:TgS X.K O tgt g) (P:PG X tg g) (r:PBD X E O ss G)
  (Q:∀x,foldedSetIterable iter X.env x=pure x):PSD X E O (.For tg iter ss [] pos) (ig O p tgt G):=(xf M hc hi P r Q).imp λD σ H s=>by
 obtain⟨H0,A0,A,δ,R,o⟩:=s;unfold ig at o;refine⟨A++A0,mask O δ,R.part,?_⟩;cases q:p (mask O δ) with
 |no=>rw[q]at o;exact o
 |rz C=>rw[q]at o;exact λH' s'=>o H' (R.same.trans s')
 |ok ds =>
  rw[q]at o;intro J H1 F S;have T:=(R.step F).more;have o:p7 X.K E H0 A0 O (forL tgt G ds δ) D:=o;refine⟨λi m c H'=>m=ds.length-i/\i<=ds.length/\∃A' δ',bu X.K (un H0 (del H1 (A++A0))) A0 H' A' O δ' c/\p7 X.K E H0 A0 O (forL tgt G (ds.drop i) δ') D,⟨ds.length,by simp,C0 _,A,δ,T,o⟩,?_⟩
  rintro i m c H' ⟨rfl,hi',A',δ',j,o'⟩
  have I:aj (del H1 (A++A0)) (un H0 (del H1 (A++A0))):=Ai (R.same.trans F) aq;have hB:∀b∈A'++A0,(del H1 (A++A0)) b=none:=λb r=>by
   rcases B8.mp r with z|z
   ·exact I.free (j.new b z)
   ·exact fJ (A9 _ z)
  obtain⟨U,W,Y⟩:=S H' (A'++A0) (I.trans j.same) j.lsA hB;by_cases hlt:i<ds.length
  ·refine .inr ⟨U i hlt,?_⟩;have t:ds.drop i=ds[i]::ds.drop (i+1):=BH hlt;rw[t]at o';unfold forL at o';refine⟨λk H2=>∃u a,bu X.K (un H0 (del H1 (A++A0))) A0 H2 u O a k/\p7 X.K E H0 A0 O (forL tgt G (ds.drop (i+1)) a) D,λk H2 ⟨u,a,R2,o2⟩=>⟨ds.length-(i+1),by omega,rfl,hlt,u,a,R2,o2⟩,λx H2 y=>?_⟩;obtain⟨s2,d,L,hd⟩:=Y i x H2 hlt y;have:ds[i]=d:=by have:=B6 hlt;rw[this]at L;exact Option.some.inj L
   rw[this]at o';cases et:tgt d δ' with
   |none=>rw[et]at o';exact o'.elim
   |some δ1 =>
    simp only[et]at o';refine N d x _ _ _ _ _ _ _ _ (j.step s2) hd et λσ3 Z=>⟨_,_,_,_,Z,?_⟩
    cases eb:G δ1 with
    |nx a=>rw[eb]at o';exact λl f h n=>⟨l,a,n,o'⟩
    |ct a=>rw[eb]at o';exact λl f h n=>⟨l,a,n,o'⟩
    |bk a=>rw[eb]at o';exact λl f h n=>o' l f h (n.less qy R.ls0)
    |rt v=>rw[eb]at o';exact λv4 h B h4=>o' v4 h (qy.trans B) h4
    |rz C=>rw[eb]at o';exact λh B=>o' h (qy.trans B)
    |no=>rw[eb]at o';exact o'
  ·have e:i=ds.length:=by omega
   subst e;rw[C8]at o';exact .inl ⟨W,o' A' c H' (j.less qy R.ls0)⟩
end
section
variable {G G':Ds->Sr} {a b c:Expr} {ga gb gk:Ds->Rs PyData} {ca:Ds->Rs Bool}
def pJ (i:Nat) (gk a:Ds->Rs PyData):Ds->Sr:=λδ=>match δ[i]? with
 |some (some (.list ds))=>ofR (a δ) λd=>ofR (gk δ) λk=>match k with
  |.int k=>match ixN ds.length k with
   |some j=>if cT d then .nx (δ.set i (some (.list (ds.set j d)))) else .no
   |none=>.no
  |_=>.no
 |_=>.no
theorem vd {k:Expr} {pn ps:Pos} (h:PD X E e ga) (r:PD X E k gk) (l:i∈O) (hi:X.N[i]?=some x) (c:Vis X.env.scope x)
  (hd:(x==("__debug__":Str))=false) (f:(x==("__classdict__":Str))=false)
  (ha:∀v,assign (.Subscript (.Name x pn) k ps) X.env v=(do
   let ov <-holding [v] (eval (.Name x pn) X.env);let iv <-holding [v,ov] (eval k X.env)
   standAt ps
   holding [v,ov,iv] (setItem ov iv v)
   release [v,ov,iv] []))
  (s:swapsWithSole [.Subscript (.Name x pn) k ps] e pos.line X.env=pure false) (hw:swappedStores [.Subscript (.Name x pn) k ps] e X.env=pure none)
  (h1:(assignEach [.Subscript (.Name x pn) k ps] X.env).map (·.2)=[assign (.Subscript (.Name x pn) k ps) X.env]):PSD X E O (.Assign [.Subscript (.Name x pn) k ps] e pos) (pJ i gk ga) :=
 (xx h (wM (i9 hi c hd f) r set_list ha) s hw h1).imp λD σ H g=>by
  obtain⟨H0,A0,A,δ,R,o⟩:=g;unfold pJ at o;split at o
  ·rename_i ds q;obtain⟨p,xs,ds',e1,t,hl,e2,m⟩:=R.ownL l q;cases e2;refine eD.run R.full (λd w v H1 n y c=>?_) (λC b H' s'=>?_) (λb=>?_)
   ·simp only[w,a9]at o;refine⟨_,e1,?_⟩;refine eD.run y (λkd z u H2 s2 R2 B=>?_) (λC b H' s'=>?_) (λb=>?_)
    ·simp only[z,a9]at o;split at o
     ·rename_i F;split at o
      ·rename_i j G;split at o
       ·rename_i hn;have a:=n.trans s2;refine⟨p,xs,F,j,rfl,B.ofInt,a _ _ hl,by rw[m.length];exact G,?_⟩;exact o A _ _ ((R.step a).put l q e1 t (Iss.set (((c.same s2.del).same aq).dl (R.step a).lsA hn) j (m.same a.del)))
       ·exact o.elim
      ·exact o.elim
     ·exact o.elim
    ·simp only[b,lq]at o;exact o H' (R.same.trans (n.trans s'))
    ·simp only[b,mJ]at o;exact o
   ·simp only[b,lq]at o;exact o H' (R.same.trans s')
   ·simp only[b,mJ]at o;exact o
  ·exact o.elim
structure ij (K:PySem.W.Frag) (mg:Str->Option Value) (x:Str) (C:Addr):Prop where
 m:mg x=some (.ref C)
 e:PySem.W.excIn K C [.type "ValueError",.type "Exception",.type "BaseException",.type "object"] "ValueError.__new__"=true
def fP (C:Addr) (gs:Ds->Rs (List PyData)):Ds->Sr:=λδ=>ofR (gs δ) λ_=>.rz C
theorem pI {i:Pos} (hc:X.calm=true) (M:og X E) (g:ij X.K X.mg x C) (ha:PAD X E (e::es) gs) (hl:(e::es).length<=1000) (j:Gl X x)
  (a:(x==("__debug__":Str))=false) (k:starEach (e::es) X.env=(false,eval e X.env)::starEach es X.env) (b:(backTo cpos (starEach es X.env)).any (·.1)=false) :
  PSD X E O (.Raise (some (.Call (.Name x i) (e::es) [] cpos)) none pos) (fP C gs) :=
 (tx hc M PySem.F.excBase_ValueError j g.m g.e ha.1 a k b).imp λD σ H c=>by
  obtain⟨H0,A0,A,δ,R,o⟩:=c;unfold fP at o;refine aD.run R.full (λds h vs H1 l R1 n=>?_) (λC f H' s'=>?_) (λf=>?_)
  ·simp only[h,a9]at o;exact⟨by rw[n.length,ha.2 δ ds h,sizeLine_eq];omega,o H1 (R.same.trans l)⟩
  ·simp only[f,lq]at o;exact o H' (R.same.trans s')
  ·simp only[f,mJ]at o;exact o
end
section
variable {w:World}
theorem oG {f:Addr} {CX:CXT} (F:Fun K x qual st f fd) (S:c6 N ps (aJ st)) (len:∀vs H Q E,sp vs H Q E->vs.length=ps.length)
  (a:∀(cdv:Value) (A:Around) (outer:List Env) (s:Shared) (H:Hp) (vs:List V) (Q:VK) (E:XK),cu k (A.deeper (envOfC qual (aJ st) s.heap.objs.size f cdv))->sp vs H Q E ->
   ∃t,PSs (bT CX P w K mg base N qual (aJ st) f cdv A outer s H E) (cA st) t/\t { nx:=λ_ H'=>Q .non H',rt:=Q } (start N vs) H):ff P w K mg base CX (k+1) f fd ps sp:=by
 obtain⟨oc,od,kV,doc,pm,an,cdv,ct,osl,rfl,e,b⟩:=F.ex;exact vV e b S len λA outer s H vs Q E g c=>a cdv A outer s H vs Q E g c
def bt:Sr->Rs PyData
 |.rt d=>.ok d
 |.nx _=>.ok .none
 |.rz C=>.rz C
 |_=>.no
theorem yd {f:Addr} {A:Around}:og (bT (CXW P w K) P w K mg base N qual scope f cd A outer s H E) E :=
 λ_ _ _ _ _ _ _ _ I a b=>my (CX:=CX0) I a b
theorem bu.start (f:Ls H A0) (hi:Iss K (del H A0) ds vs) (hl:ds.length=ps.length) (c:∀i∈O,ps.length<=i) :
  bu K H A0 H [] O (ds.map some++List.replicate (N.length-ps.length) none) (L2.start N vs):=by
 have g:=hi.length;have at':∀(i:Nat) d,(ds.map some++List.replicate (N.length-ps.length) none)[i]?=some (some d)->i<ds.length/\ds[i]?=some d:=λi d e=>by
  by_cases h:i<ds.length
  ·rw[Bh (by simpa using h),BF]at e;refine⟨h,?_⟩;cases q:ds[i]? with
   |none=>rw[q]at e;cases e
   |some z=>rw[q]at e;simp at e;rw[e]
  ·rw[Bf (by simpa using h),BY]at e;split at e <;> cases e
 refine⟨aj.refl _,f,(λa h=>by cases h),(λa h=>by cases h),?_,λi d _ e=>?_,λi d h e=>?_,λi j d e a h _ q _ _ _=>?_⟩
 ·unfold L2.start;simp[g,hl]
 ·obtain⟨b,e⟩:=at' i d e;obtain⟨v,k,hd⟩:=hi.getD e;refine⟨v,?_,hd⟩;unfold L2.start;rw[Bh (by simp;omega),BF,k];rfl
 ·obtain⟨b,_⟩:=at' i d e;exact absurd (c i h) (by omega)
 ·obtain⟨b,_⟩:=at' i d q;exact absurd (c i h) (by omega)
theorem fb.of {f:Addr} {G:Ds->Sr} (F:Fun K x qual st f fd) (S:c6 N ps (aJ st)) (b:Binds K fd ps []) (m:mg x=some (.ref f)) (e:∀i∈O,ps.length<=i)
  (body:∀(cdv:Value) (A:Around) (outer:List Env) (s:Shared) (H:Hp) (E:XK),cu k (A.deeper (envOfC qual (aJ st) s.heap.objs.size f cdv))->PBD (bT (CXW P w K) P w K mg base N qual (aJ st) f cdv A outer s H E) E O (cA st) G)
  (g:∀ds,ds.length=ps.length->gf ds≠.no->bt (G (ds.map some++List.replicate (N.length-ps.length) none))=gf ds):fb P w K mg base (k+1) x ps.length gf:=by
 refine⟨f,fd,ps,oG F S (λvs H Q E h=>?_) (λcdv A outer s H vs Q E j h=>?_),m,F.kp,b⟩
 ·obtain⟨A,ds,c,hi,hl,o⟩:=h;rw[hi.length,hl]
 ·obtain⟨A0,ds,c,hi,hl,o⟩:=h;refine⟨_,body cdv A outer s H E j,H,A0,[],_,bu.start c hi hl e,?_⟩;have a:=g ds hl (λz=>by rw[z]at o;exact o);cases q:G (ds.map some++List.replicate (N.length-ps.length) none) with
  |rt d=>rw[q]at a;rw[<-a]at o;exact λv H' s' l=>o v H' s' l
  |nx δ=>rw[q]at a;rw[<-a]at o;exact λA' σ H' n=>o .non H' n.same is_none
  |rz C=>rw[q]at a;rw[<-a]at o;exact λH' s'=>o H' s'
  |bk δ=>rw[q]at a;rw[<-a]at o;exact o.elim
  |ct δ=>rw[q]at a;rw[<-a]at o;exact o.elim
  |no=>rw[q]at a;rw[<-a]at o;exact o.elim
theorem fb.old {f:Addr} (F:ff P w K mg base CX0 k f fd ps sp) (m:mg x=some (.ref f)) (kp:PySem.W.keepIn K (.ref f)=true) (b:Binds K fd ps [])
  (h:∀ds,ds.length=ps.length->gf ds≠.no->∃d,gf ds=.ok d/\dJ d=true/\∀vs H Q,Iss K H ds vs->(∀v H',aj H H'->IsD K H' d v->Q v H')->sp vs H Q E0):fb P w K mg base k x ps.length gf:=by
 refine⟨f,fd,ps,⟨λvs H Q E h'=>?_,λA outer s H args us vs Q E j l n p h'=>?_⟩,m,kp,b⟩
 ·obtain⟨A,ds,g,hi,hl,o⟩:=h';rw[hi.length,hl]
 ·obtain⟨A0,ds,g,hi,hl,o⟩:=h';obtain⟨d,e,i,c⟩:=h ds hl (λz=>by rw[z]at o;exact o);rw[e]at o;refine codeAny_mono (F.run A outer s H args us vs Q E0 j l n p (c vs H Q (hi.same aq) λv H' s' hd=>o v H' s' ((hd.is i).dl (g.same s') (nR i)))) λr s' a=>?_
  cases r with
  |error ev=>exact False.elim a
  |ok fl =>
   cases fl with
   |ret u=>exact a
   |next=>exact False.elim a
   |brk=>exact False.elim a
   |cont=>exact False.elim a
end
open AutoSeq1 (wpAny_loadPart')
theorem gD:fillsNumberSlot (.type "tuple") "mul"=pure false :=
 PySem.fillsNumberSlot_seq (id:="tuple.__mul__") (r:=some (.builtin "tuple.__rmul__")) PySem.F.slot_tuple_mul.lookup (by decide +kernel) PySem.F.slot_tuple_rmul.lookup (by decide +kernel)
theorem kA:seqRepeat? (.type "tuple")=pure (some (.builtin "tuple.__mul__")):=by unfold seqRepeat?;rw[PySem.seqSlot_of (T:="tuple") (name:="__mul__") (id:="tuple.__mul__") PySem.F.slot_tuple_mul.lookup (by decide +kernel),PySem.seqSlot_of (T:="tuple") (name:="__rmul__") (id:="tuple.__rmul__") PySem.F.slot_tuple_rmul.lookup (by decide +kernel)];rfl
theorem kL (a:Int) (t:Tok) (l:Addr) (items:Array Value) (n:Nat) (dd:Option Addr) (sl:Array (Option Value)) :
  Meets (Builtin.«int.__rmul__» ⟨[.int a t,.ref l],[]⟩) (λ_ R s=>s.heap.get? l=some { cls:=.type "tuple",dict:=dd,data:=.seq items n,slots:=sl }/\R (.ok (.ret Value.notImplemented)) s) :=
 .of_wp λprog w A R s h=>by obtain⟨hp,g,d,tk,os⟩:=s;obtain⟨hl,h⟩:=h;wp_walk;exact⟨_,rfl,h⟩
theorem sh (l:Addr) (items:Array Value) (n:Nat) (x:Int) (u:Tok) (dd:Option Addr) (sl:Array (Option Value)) (h1:(decide (x < -(2 ^ 63))||decide (x≥2 ^ 63))=false) (h2:(items.isEmpty||x==1)=false) (h3:(decide (x<=0)||items.isEmpty)=false)
  (a:decide ((items.size:Int)*x>(2 ^ 63-1) / 8)=false) (h5:Builtin.Tuple.tupleTooMany ((items.size:Int)*x)=false) (hsz:(List.foldl (λx1 x2=>x1++x2) #[] (List.replicate x.toNat items)).size<=sizeLine) :
  Meets (Builtin.«tuple.__mul__» ⟨[.ref l,.int x u],[]⟩) (λ_ R s=>s.heap.get? l=some { cls:=.type "tuple",dict:=dd,data:=.seq items n,slots:=sl }/\R (.ok (.ret (Value.ref s.heap.objs.size))) { s with heap:=s.heap.push { cls:=Value.type "tuple",data:=Data.seq (List.foldl (λx1 x2=>x1++x2) #[] (List.replicate x.toNat items)) } }) :=
 .of_wp λprog w A R s h=>by
  obtain⟨hp,g,d,tk,os⟩:=s;obtain⟨hl,h⟩:=h;have f1:=AutoSeq1.idx_int;have f2:=AutoSeq1.sub_tuple_tuple
  wp_walk using wpAny_loadPart' hl
  refine wpAny_ite_false (by rw[h1];rfl) ?_
  wp_walk using wpAny_loadPart' hl
  refine wpAny_ite_false a ?_
  wp_walk using wpAny_loadPart' hl
  exact⟨_,rfl,h⟩
section
variable {a b c:Expr} {ga gb gc:Ds->Rs PyData}
def vO (K:PySem.W.Frag):R2:=λx y H Q=>∃l k xs,x=.ref l/\y=.int k/\SqT K H l xs/\xs≠[]/\2<=k/\k<1000000/\xs.length*k.toNat<=1000000/\∀p,H p=none->Q (.ref p) (upd H p (.tup (List.replicate k.toNat xs).flatten))
theorem um:OpR X (binaryOp .Mult) (vO X.K):=by
 intro pins s σ H x y v u Q I j m h;obtain⟨l,k,xs,rfl,rfl,hl,i,hk1,hk2,p,q⟩:=h;cases j;obtain⟨t,rfl⟩:=m;obtain⟨a,r,p1,_⟩:=I.tuple hl;obtain⟨⟨cls,dd,data,sl⟩,g,hc,n,hd⟩:=id p1;simp only at hc hd;subst hc hd;have hlen:=r.length;have e:a≠[]:=λz=>i (r.nil_iff.mp z)
 have hpos:0<a.length:=List.length_pos_iff.mpr e;have c:List.foldl (λx1 x2=>x1++x2) #[] (List.replicate k.toNat a.toArray)=(List.replicate k.toNat a).flatten.toArray:=by have:=foldl_rep a k.toNat [];rw[BU]at this;exact this
 have f:a.toArray.isEmpty=false:=by simp[e]
 have hmul:(a.length:Int)*k<=1000000:=by
  have e1:((a.length*k.toNat:Nat):Int)=(a.length:Int)*k:=by rw[Int.natCast_mul,Int.toNat_of_nonneg (by omega)]
  rw[<-e1,<-hlen];omega
 have hsz2:(List.replicate k.toNat a).flatten.length<=1000000:=by rw[len_rep,Nat.mul_comm,<-hlen];exact p
 refine wpAny_binaryOp_repeat_ref (T:="tuple") (U:="int") (by decide) ⟨_,g,rfl⟩ (λs'=>typeIs_int s' k t) gD PySem.F.fills_int_mul PySem.F.slot_int_rmul kA PySem.F.slot_int_index.lookup
  (call_meets PySem.F.slot_int_rmul (typeIs_int s k t) PySem.F.entry_int_rmul (PySem.F.args_int_rmul_2 _ _) (kL k t l a.toArray n dd sl)
   ⟨g,rfl,⟨_,g,rfl⟩,call_meets PySem.F.slot_tuple_mul ⟨_,g,rfl⟩ PySem.F.entry_tuple_mul (PySem.F.args_tuple_mul_2 _ _) (sh l a.toArray n k t dd sl ?_ ?_ ?_ ?_ ?_ ?_) ⟨g,?_⟩⟩)
 ·rw[decide_eq_false (by omega),decide_eq_false (by omega)];rfl
 ·rw[f,Bool.false_or];simp;omega
 ·rw[f,Bool.or_false];exact decide_eq_false (by omega)
 ·rw[B4];exact decide_eq_false (by omega)
 ·rw[B4];unfold Builtin.Tuple.tupleTooMany;rw[sizeLine_eq];exact decide_eq_false (by omega)
 ·rw[c,B4,sizeLine_eq];omega
 ·rw[c];refine⟨.ref s.heap.objs.size,_,I.laid (t':=s.toks) (o:=.tup (List.replicate k.toNat xs).flatten) (λb ob q=>A7 _ q) (B0 _) ?_,rfl,q _ (I.hok.fresh (B0 _))⟩;exact⟨by rw[len_rep,Nat.mul_comm,sizeLine_eq];omega,_,r.rep k.toNat,kl.new _ _⟩
def lI:PyData->PyData->Option PyData
 |.int i,.int j=>if (-(2 ^ 64)<i/\i<2 ^ 64)\/(-(2 ^ 64)<j/\j<2 ^ 64) then some (.int (i*j)) else none
 |.list x,.int k=>if 0<=k/\k<1000000/\x.length*k.toNat<=1000000 then some (.list (List.replicate k.toNat x).flatten) else none
 |.tuple x,.int k=>if x≠[]/\2<=k/\k<1000000/\x.length*k.toNat<=1000000 then some (.tuple (List.replicate k.toNat x).flatten) else none
 |_,_=>none
theorem u7:OpD K lI (λx y H Q=>rI t6 (λi j=>.int (i*j)) x y H Q\/yZ x y H Q\/vO K x y H Q):=λd1 d2 d x y H A Q e f h1 h2 k=>by
 unfold lI at e;split at e
 ·split at e
  ·rename_i z;cases e;exact .inl ⟨_,_,h1.ofInt,h2.ofInt,z,k _ H (aj.refl _) bG⟩
  ·cases e
 ·split at e
  ·rename_i z;cases e;obtain⟨p,xs,rfl,c,a⟩:=h1.ofLst;exact .inr (.inl ⟨p,_,xs,rfl,h2.ofInt,aq _ _ c,by omega,by omega,by rw[a.length,sizeLine_eq];omega,λr b=>k _ _ (bg b) (gv f b (a.rep _))⟩)
  ·cases e
 ·split at e
  ·rename_i z;cases e;obtain⟨p,xs,rfl,c,a⟩:=h1.ofTup;refine .inr (.inr ⟨p,_,xs,rfl,h2.ofInt,SqT.of (aq _ _ c),λq=>z.1 ?_,z.2.1,z.2.2.1,by rw[a.length];exact z.2.2.2,λr b=>k _ _ (bg b) (gm f b (a.rep _))⟩);exact Bp.mp (by rw[<-a.length,q];rfl)
  ·cases e
 ·cases e
theorem wQ (ha:PD X E a ga) (c:PD X E b gb):PD X E (.BinOp a .Mult b pos) (g2 lI ga gb):=dO u7 ha c (cq (gY.or (xl.or um)))
end
section
variable {prog:Program} {w:World} {A:Around} {E:Value->Shared->Prop}
theorem fA {t sl:Addr} {g i:Value} {Q:Value->Shared->Prop} (a:IsTup s.heap t items) (j:s.heap.IsSliceOf sl g i .none) (pl:IsPart g lo) (k:IsPart i hi)
  (hw:HT.sIx items.size 0 lo=0/\HT.sIx items.size items.size hi=items.size) (h:Q (.ref t) s):wpAny (model prog w) A (getItem (.ref t) (.ref sl)) Q E s:=by
 obtain⟨os,c,e,hds⟩:=id j;have f:s.TypeIs (.ref sl) "slice":=⟨os,c,e⟩
 unfold getItem
 try with_reducible refine wpAny_holding ?_
 first|refine wpAny_bind (wpAny_pure ?_)|skip
 refine wpAny_bind (wpAny_sequenceKey a.typeIs (by decide) ?_);refine wpAny_bind (wpAny_callSpecial?_slot (name:=Str.ofString "__getitem__") a.typeIs PyProof.Rows.slot_tuple_getitem
  (wpAny_call_entry PyProof.Rows.slot_tuple_getitem a.typeIs entry_tuple_getitem ?_ (args_tuple_getitem _ _)))
 show wpAny _ _ (Builtin.Tuple.tupleItemsOf (.ref t) >>= _) _ _ s;refine wpAny_bind (tupleItemsOf_ a ?_);refine wpAny_bind (wpAny_typeOf f ?_);rw[if_pos (by decide)];refine wpAny_bind (HT.eK j pl k ?_);have b:(((HT.sIx items.size 0 lo:Nat):Int)==0&&(1:Int)==1&&(HT.sIx items.size items.size hi-HT.sIx items.size 0 lo)==items.size)=true:=by rw[hw.1,hw.2];simp
 show wpAny _ _ (if (((HT.sIx items.size 0 lo:Nat):Int)==0&&(1:Int)==1&&(HT.sIx items.size items.size hi-HT.sIx items.size 0 lo)==items.size)=true then _ else _) _ _ s;rw[if_pos b];refine wpAny_bind (m:=Builtin.Tuple.tupleIsExact (.ref t)) (wpAny_bind (wpAny_typeOf a.typeIs (wpAny_pure ?_)));rw[if_pos (by decide)]
 first
  |exact wpAny_bind (wpAny_rule (wpAny_pure ⟨_,rfl,wpAny_pure h⟩))
  |(refine wpAny_bind (wpAny_rule ?_);trace_state;exact wpAny_pure ⟨_,rfl,wpAny_pure h⟩)
end
end L2
variable {g:L2.Ds->L2.Rs PyData} {δ:L2.Ds} {gf:List PyData->L2.Rs PyData} {gs src:L2.Ds->L2.Rs (List PyData)} {tgt:PyData->Option L2.Ds}
namespace L2
open PySem PySem.Spec PyProof.Rows
section
variable {E:XK} {a b c:Expr} {ga gb gc:Ds->Rs PyData}
def yV (K:PySem.W.Frag):V->Option Int->Option Int->Hp->VK->Prop:=λx lo hi H Q=>∃a xs,x=.ref a/\SqT K H a xs/\(HT.sIx xs.length 0 lo=0/\HT.sIx xs.length xs.length hi=xs.length)/\Q (.ref a) H
theorem ua:SlR X (yV X.K):=by
 intro pins s σ H x v vl vu lo hi sl Q I e f pl g h;obtain⟨a,xs,rfl,i,hw,q⟩:=h;cases e;obtain⟨b,r,c,hz⟩:=I.tuple i;have hlen:b.toArray.size=xs.length:=by rw[B4,r.length]
 refine⟨"tuple",_,PyProof.Rows.slot_tuple_getitem.lookup,c.typeIs,?_⟩;exact fA c f pl g (by rw[hlen];exact hw) ⟨.ref a,H,I,rfl,q⟩
def cutD (xs:List PyData) (lo hi:Option Int):List PyData:=(xs.drop (HT.sIx xs.length 0 lo)).take (HT.sIx xs.length xs.length hi-HT.sIx xs.length 0 lo)
def uU:PyData->Option Int->Option Int->Option PyData
 |.list x,lo,hi=>some (.list (cutD x lo hi))
 |.tuple x,lo,hi=>some (.tuple (cutD x lo hi))
 |_,_,_=>none
def rh:PyData->Rs (Option Int)
 |.int i=>.ok (some i)
 |_=>.no
def av:Ds->Rs (Option Int):=λ_=>.ok none
def aR (g:Ds->Rs PyData):Ds->Rs (Option Int):=λδ=>(g δ).bind rh
def Al (E:XK) (H:Hp) (r:Rs (Option Int)) (Q:Option Int->Hp->Prop):Prop:=match r with
 |.ok o=>∀H',aj H H'->Q o H'
 |.rz C=>∀H',aj H H'->E (.ref C) none H'
 |.no=>False
def oD (K:PySem.W.Frag) (E:XK) (g:Ds->Rs (Option Int)):TO:=λσ H Q=>∃A δ,cG K H A δ σ/\Al E H (g δ) Q
def POD (X:Cx) (E:XK) (e:Option Expr) (g:Ds->Rs (Option Int)):Prop:=PO X e (oD X.K E g)
theorem PO.imp {e:Option Expr} {t t':TO} (h:PO X e t) (k:∀σ H Q,t' σ H Q->t σ H Q):PO X e t':=λpins s σ H Q I q=>h pins s σ H Q I (k σ H Q q)
theorem tu:POD X E none av:=tY.imp λσ H Q a=>(by obtain⟨A,δ,R,o⟩:=a;exact o H (aj.refl _))
theorem rA (h:PD X E e ga):POD X E (some e) (aR ga):=(uc h).imp λσ H Q ⟨A,δ,R,o⟩=>⟨A,δ,R,by
 unfold aR at o;cases q:ga δ with
 |no=>rw[q]at o;exact o
 |rz C=>rw[q]at o;exact o
 |ok d =>
  rw[q]at o;cases d with
  |int i=>exact λv H' s h=>⟨i,h.ofInt,o H' s⟩
  |_=>exact o.elim⟩
theorem oD.run {g:Ds->Rs (Option Int)} {Q:Option Int->Hp->Prop} (R:cG K H A δ σ)
  (ok:∀d,g δ=.ok d->∀H',aj H H'->cG K H' A δ σ->Q d H') (rz:∀C,g δ=.rz C->∀H',aj H H'->E (.ref C) none H') (no:g δ=.no->False):oD K E g σ H Q:=by
 refine⟨A,δ,R,?_⟩;cases e:g δ with
 |ok d=>exact λH' s=>ok d e H' s (R.same s)
 |rz C=>exact λH' s=>rz C e H' s
 |no=>exact no e
def cf (g:Ds->Rs PyData) (lo hi:Ds->Rs (Option Int)):Ds->Rs PyData:=λδ=>(g δ).bind λd=>(lo δ).bind λl=>(hi δ).bind λh=>Rs.aW (uU d l h)
theorem Iss.cut (h:Iss K H ds vs) (lo hi:Option Int):Iss K H (cutD ds lo hi) (lZ vs lo hi):=by unfold cutD lZ;rw[h.length];exact (h.drop _).take _
theorem qP {lo hi:Option Expr} {m n:Ds->Rs (Option Int)} (t:PD X E e ga) (hl:POD X E lo m) (u:POD X E hi n):PD X E (.Subscript e (.Slice lo hi none p2) pos) (cf ga m n) :=
 (lL (uq.or (xm.or ua)) t hl u).imp λσ H Q j=>by
  obtain⟨A,δ,R,o⟩:=j;unfold cf at o;refine eD.run R (λd w v H1 k x y=>?_) (λC a H' s'=>by rw[a]at o;exact o H' s') (λa=>by rw[a]at o;exact o);simp only[w,Rs.ag]at o;refine oD.run x (λl z H2 s2 R2=>?_) (λC a H' s'=>by rw[a]at o;exact o H' (k.trans s')) (λa=>by rw[a]at o;exact o);simp only[z,Rs.ag]at o;refine oD.run R2 (λh B H3 r s=>?_) (λC a H' s'=>by rw[a]at o;exact o H' (k.trans (s2.trans s'))) (λa=>by rw[a]at o;exact o);simp only[B,Rs.ag]at o;have f:=y.same (s2.trans r).del;have b:=k.trans (s2.trans r);cases d with
  |list ds =>obtain⟨p,xs,rfl,g,c⟩:=f.ofLst;exact .inl ⟨p,xs,rfl,SqL.of (aq _ _ g),λq i=>o _ _ (b.trans (bg i)) (gv s.ls i (c.cut l h))⟩
  |tuple ds =>
   obtain⟨p,xs,rfl,g,c⟩:=f.ofTup;by_cases hw:HT.sIx xs.length 0 l=0/\HT.sIx xs.length xs.length h=xs.length
   ·refine .inr (.inr ⟨p,xs,rfl,SqT.of (aq _ _ g),hw,o _ _ b ?_⟩);have e:cutD ds l h=ds:=by unfold cutD;rw[<-c.length,hw.1,hw.2];simp[c.length]
    show Is X.K _ (.tuple (cutD ds l h)) _;rw[e];exact gA g c
   ·exact .inr (.inl ⟨p,xs,rfl,SqT.of (aq _ _ g),hw,λq i=>o _ _ (b.trans (bg i)) (gm s.ls i (c.cut l h))⟩)
  |_=>exact o.elim
def toV:PyData->V
 |.none=>.non
 |.bool b=>.bl b
 |.int i=>.int i
 |.str x=>.str x
 |_=>.non
def inD (x:PyData) (xs:List PyData):Bool:=inV (toV x) (xs.map toV)
def mG (neg:Bool):PyData->PyData->Option PyData
 |x,.list xs=>if dJ x&&xs.all dJ then some (.bool (if neg then !inD x xs else inD x xs)) else none
 |x,.tuple xs=>if dJ x&&xs.all dJ then some (.bool (if neg then !inD x xs else inD x xs)) else none
 |_,_=>none
theorem Is.flat {d:PyData} (h:Is K H d v) (f:dJ d=true):v=toV d/\e6 v=true:=by
 cases d with
 |none=>rw[h.ofNone];exact⟨rfl,rfl⟩
 |bool b=>rw[h.ofBool];exact⟨rfl,rfl⟩
 |int i=>rw[h.ofInt];exact⟨rfl,rfl⟩
 |str x=>rw[h.ofStr];exact⟨rfl,rfl⟩
 |_=>cases f
theorem Iss.flat {K:PySem.W.Frag} {H:Hp}:∀{ds:List PyData} {vs:List V},Iss K H ds vs->ds.all dJ=true->vs=ds.map toV/\vs.all e6=true
 |[],_,h,_=>by rw[h.nil_of];exact⟨rfl,rfl⟩
 |d::ds,_,h,f=>by rw[C7,B3]at f;obtain⟨v,r,rfl,h1,h2⟩:=h.cons_of;obtain⟨e1,f1⟩:=h1.flat f.1;obtain⟨e2,f2⟩:=Iss.flat h2 f.2;exact⟨by rw[e1,e2];rfl,by rw[C7,f1,f2];rfl⟩
theorem ym {neg:Bool}:OpD K (mG neg) (rIn K neg):=λd1 d2 d x y H A Q e hA h1 h2 k=>by
 unfold mG at e;split at e
 ·split at e
  ·rename_i z;rw[B3]at z;cases e;obtain⟨p,xs,rfl,a,b⟩:=h2.ofLst;obtain⟨e1,f1⟩:=h1.flat z.1;obtain⟨e2,f2⟩:=b.flat z.2;refine⟨p,xs,rfl,.inl (SqL.of (aq _ _ a)),f1,f2,?_⟩;rw[e1,e2];exact k _ H (aj.refl _) is_bool
  ·cases e
 ·split at e
  ·rename_i z;rw[B3]at z;cases e;obtain⟨p,xs,rfl,a,b⟩:=h2.ofTup;obtain⟨e1,f1⟩:=h1.flat z.1;obtain⟨e2,f2⟩:=b.flat z.2;refine⟨p,xs,rfl,.inr (SqT.of (aq _ _ a)),f1,f2,?_⟩;rw[e1,e2];exact k _ H (aj.refl _) is_bool
  ·cases e
 ·cases e
theorem qp (ha:PD X E a ga) (c:PD X E b gb) (hm:behindInMarks .NotIn b=false):PCD X E (.Compare a [.NotIn] [b] pos) (gT (g2 (mG true) ga gb)):=fq ym ha c λh1 h2=>eP ku h1 h2 hm
def gN (f e:PyData->PyData->Option PyData) (a b c:Ds->Rs PyData):Ds->Rs PyData:=λδ=>(a δ).bind λx=>(b δ).bind λy=>(Rs.aW (f x y)).bind λz=>(truth z).bind λt=>if t=true then (c δ).bind λw=>Rs.aW (e y w) else .ok (.bool false)
theorem rB {k g:CmpOp} {r p:R2} {i:PyData->PyData->Option PyData} (y:OpR X (compareOp k) r) (l:OpR X (compareOp g) p) (B:OpD X.K f r) (m:OpD X.K i p) (ha:PD X E a ga) (D:PD X E b gb) (hc:PD X E c gc)
  (hm:lastMarks [k,g] [b,c]=false:=by with_unfolding_all rfl):PD X E (.Compare a [k,g] [b,c] pos) (gN f i ga gb gc):=(rD y l ha D hc hm).imp λσ H Q n=>by
 obtain⟨A,δ,R,o⟩:=n;unfold gN at o;refine eD.run R (λd1 e1 v H1 j F h1=>?_) (λC e H' s'=>by rw[e]at o;exact o H' s') (λe=>by rw[e]at o;exact o);simp only[e1,Rs.ag]at o;refine eD.run F (λd2 e2 u H2 s2 R2 h2=>?_) (λC e H' s'=>by rw[e]at o;exact o H' (j.trans s')) (λe=>by rw[e]at o;exact o);simp only[e2,Rs.ag]at o;cases e3:f d1 d2 with
 |none=>rw[e3]at o;exact o.elim
 |some z =>
  simp only[e3,Rs.aN,Rs.ag]at o;refine B d1 d2 z v u H2 A _ e3 R2.ls (h1.same s2.del) h2 λw G h I=>?_
  obtain⟨t,rfl,o⟩:=iN o;refine⟨t,I.ofBool,?_⟩;cases t with
  |false=>exact o _ G (j.trans (s2.trans h)) is_bool
  |true =>
   have o:dB X.K E A H ((gc δ).bind λw=>Rs.aW (i d2 w)) Q:=o;refine eD.run (R2.same h) (λq J L M s N O=>?_) (λC e H' s'=>by rw[e]at o;exact o H' (j.trans (s2.trans (h.trans s')))) (λe=>by rw[e]at o;exact o);simp only[J,Rs.ag]at o;cases e5:i d2 q with
   |none=>rw[e5]at o;exact o.elim
   |some d=>rw[e5]at o;exact m d2 q d u L M A Q e5 N.ls (h2.same (h.trans s).del) O λx P S T=>o x P (j.trans (s2.trans (h.trans (s.trans S)))) T
theorem tX (ha:PD X E a ga) (e:PD X E b gb) (hc:PD X E c gc) (hm:lastMarks [.LtE,.LtE] [b,c]=false):PD X E (.Compare a [.LtE,.LtE] [b,c] pos) (gN dLe dLe ga gb gc):=rB vS vS (jt λ_ _ _ _=>is_bool) (jt λ_ _ _ _=>is_bool) ha e hc hm
end
section
variable {E:XK} {a b c:Expr}
def AK (i j c:Int):Nat:=(Builtin.Range.rangeSize i j c).toNat
def wV (i j c:Int):Bool:=decide (-(1000000)<=i/\i<=1000000/\-(1000000)<=j/\j<=1000000/\-(1000000)<=c/\c<=1000000/\c≠0)&&Builtin.Range.small i j c
def xy (lo c:Int) (n:Nat):List PyData:=(List.range n).map λ(i:Nat)=>PyData.int (lo+(i:Int)*c)
def yS:List PyData->Rs (List PyData)
 |[.int i,.int j,.int c]=>if wV i j c then .ok (xy i c (AK i j c)) else .no
 |_=>.no
def zj (g:Ds->Rs (List PyData)):Ds->Rs (List PyData):=λδ=>(g δ).bind yS
def sJ:List PyData->Rs (List PyData)
 |[.int j]=>if 0<=j/\j<=1000000 then .ok (bW 0 j.toNat) else .no
 |_=>.no
def gLR (g:Ds->Rs (List PyData)):Ds->Rs (List PyData):=λδ=>(g δ).bind sJ
end
def oy (ds:List PyData):List PyData:=ds.mapIdx λi d=>.tuple [.int i,d]
section
variable {E:XK} {a b c k:Expr} {ga gb gk:Ds->Rs PyData}
def km:List PyData->Rs (List PyData)
 |[.list ds]=>.ok (oy ds)
 |[.tuple ds]=>.ok (oy ds)
 |_=>.no
def yM (g:Ds->Rs (List PyData)):Ds->Rs (List PyData):=λδ=>(g δ).bind km
end
section
variable {prog:Program} {w:World} {A:Around}
end
section
variable {E:XK} {a b c:Expr} {ga gb gc:Ds->Rs PyData}
end
open AutoSeq1 (wpAny_loadPart')
open SeqAt (EqAt)
section
variable {E:XK} {a o:Expr} {ga go:Ds->Rs PyData}
def fj (xs:List PyData) (y:PyData):Option PyData:=if dJ y&&xs.all dJ then ((xs.map toV).findIdx? λz=>eqV z (toV y)).map λj=>.int j else none
def Ap (go ga:Ds->Rs PyData):Ds->Rs PyData:=λδ=>(go δ).bind λd=>match d with
 |.tuple xs=>(ga δ).bind λy=>Rs.aW (fj xs y)
 |_=>.no
end
end L2
namespace L2
open PySem PySem.Spec PySem.Calls PyProof.Rows PySem.W PySem.Builtin PySem.Builtin.ObjectAttr PySem.Builtin.Getset_descriptor
section
variable {prog:Program} {w:World} {A:Around} {K:Frag} {x:Addr} {ox:Obj}
structure iT (h:Heap) (x:Addr) (D:Addr):Prop where
 ex:∃o,h.get? x=some o/\o.cls=.ref D
theorem iT.type {M:Model} (I:iT h x D):Looks M h (typeOf (.ref x)) (.ref D):=by obtain⟨o,h1,h2⟩:=I.ex;exact h2▸(Looks.ld h1).andThen .now
theorem nJ {R:Result->Shared->Prop} {a:Value} (X:K.In s.heap) (I:iT s.heap x D) (hm:mroIn K D (.type "object")=some true)
  (h:R (.ok (.ret (.ref D))) s):codeAny (model prog w) A (.call (.builtin "getset_descriptor.__get__") ⟨[.builtin "object.__class__",.ref x,a],[]⟩) R s:=by
 obtain⟨hh,g,dr,t,os⟩:=s;have L0:=I.type (M:=model prog w);have L1:=looks_mroIn (M:=model prog w) X hm;refine codeAny_call_builtin KF.slot_gs.plain KF.entry_gs (KF.slot_gs.check _ _ _ _ _ _ _ _ KF.type_class (KF.args_gs _ _ _) ?_);unfold Builtin.«getset_descriptor.__get__» descrGet;rw[dga_obj];refine wpAny_bind (wpAny_pure ?_);unfold descrGetter descrCheckInstance descrNameAndClass isInstance;simp only[KF.owner_class]
 repeat lk
 refine⟨Code.quiet_builtin _ (by decide +kernel),codeAny_builtin KF.entry_class ?_⟩;unfold Builtin.«object.__class__» shownTypeOf
 repeat lk
 exact h
structure jD (K:Frag) (D:Addr):Prop where
 ga:findIn K (.ref D) "__getattribute__"=some (some (.builtin "BaseException.__getattribute__"))
 gt:findIn K (.ref D) "__getattr__"=some none
 cl:hasDictIn K D=true
 ca:findIn K (.ref D) "__class__"=some (some (.builtin "object.__class__"))
 gs:specialIn K (.builtin "object.__class__") "__get__"=some (some (.builtin "getset_descriptor.__get__"))
 tk:takesIn K (.builtin "object.__class__")=some true
 ob:mroIn K D (.type "object")=some true
 be:mroIn K D (.type "BaseException")=some true
theorem tD {M:Model} (X:K.In h) (Z:jD K D):Looks M h (find (.ref x) (.ref D) "__class__") (.bind (.builtin "getset_descriptor.__get__") (.builtin "object.__class__")):=by have a:=looks_findIn (M:=M) X Z.ca;have L2:Looks M h (getOf (some (.builtin "object.__class__"))) _:=looks_specialIn X Z.gs;have b:=looks_takesIn (M:=M) X Z.tk;unfold find;refine a.andThen (L2.andThen ?_);refine (show Looks M h (dataDescriptor? (some (.builtin "object.__class__")) (some (.builtin "getset_descriptor.__get__"))) _ from b.andThen .now).andThen ?_;exact Looks.tag .now
theorem o9 {tk:Tok} {Q:Fin->Shared->Prop} (X:K.In s.heap) (Z:jD K D) (I:iT s.heap x D) (a:Q (.done (.ret (.ref D))) s) :
  wpAny (model prog w) A (Builtin.«object.__getattribute__» ⟨[.ref x,.str "__class__" tk],[]⟩) Q E s:=by
 obtain⟨hh,g,d,t,os⟩:=s;have b:=I.type (M:=model prog w);have c:=tD (x:=x) (M:=model prog w) X Z;refine wpAny_bind (wpAny_pure (wpAny_bind (wpAny_pure (wpAny_bind (b.at (wpAny_bind (c.at ?_)))))));show wpAny _ _ (holding [Value.builtin "object.__class__"] (call (.builtin "getset_descriptor.__get__") [.builtin "object.__class__",.ref x,.ref D]) >>= ret) _ _ _;exact wpAny_bind (wpAny_holding (wpAny_call (nJ X I Z.ob (wpAny_pure a))))
theorem ph {M:Model} {a:Value} (X:K.In s.heap) (Z:jD K D) (I:iT s.heap x D) (hq:Q () s):wpAny M A (checkBuiltinCall "BaseException.__getattribute__" ⟨[.ref x,a],[]⟩) Q E s:=by
 obtain⟨hh,g,d,t,os⟩:=s;have c:builtinKind "BaseException.__getattribute__"=some .slot:=by decide +kernel
 have b:splitId "BaseException.__getattribute__"=some ("BaseException", "__getattribute__"):=by decide +kernel
 have L0:=I.type (M:=M);have L1:=looks_mroIn (M:=M) X Z.be;have ha:=F.args_bexc_ga (.ref x) a;simp only[checkBuiltinCall,c,b];unfold isInstance
 repeat lk
 repeat (any_goals (first|assumption|wp_step))
theorem pP {Q:Option Value->Shared->Prop} (X:K.In s.heap) (Z:jD K D) (I:iT s.heap x D) (h:Q (some (.ref D)) { s with toks:=s.toks+1 }):wpAny (model prog w) A (getAttr? (.ref x) "__class__") Q E s:=by obtain⟨a,g,d,t,os⟩:=s;have b:=I.type (M:=model prog w);have c:=looks_findIn (M:=model prog w) X Z.ga;have L2:=looks_findIn (M:=model prog w) X Z.gt;unfold getAttr? getAttrBy? getAttrBy;refine wpAny_bind (wpAny_mkText (wpAny_bind (wpAny_attempt (wpAny_holding (wpAny_bind (b.at (wpAny_bind (c.at ?_))))))));show wpAny _ _ (getAttrByItsOwn _ _ _ _ _ _) _ _ _;unfold getAttrByItsOwn;refine wpAny_bind (show wpAny _ _ (typeLookup (.ref D) "__getattr__") _ _ _ from L2.at ?_);refine wpAny_bind (wpAny_attempt (wpAny_holding ?_));show wpAny _ _ (boundAndCalled _ _ _) _ _ _;unfold boundAndCalled;rw[F.excAttr_ValueError.ga.bind (.ref x)];refine wpAny_bind (wpAny_pure ?_);refine wpAny_call (codeAny_call_builtin F.excAttr_ValueError.ga.plain F.entry_bexc_ga (ph (s:=⟨a,g,d,t+1,os⟩) X Z I (o9 (s:=⟨a,g,d,t+1,os⟩) X Z I ?_)));exact wpAny_pure (wpAny_pure h)
end
end L2
namespace L2
open PySem PySem.Spec PyProof.Rows
variable {a:Expr} {b:Bool} {n:Str}
theorem sQ {x:Addr} (Z:jD K D):PySem.W.KitX K (.ref x) (.ref D) (λh=>iT h x D) where
 ty:=λ_ _ _ I=>I.type
 it:=λM h X _=>by
  obtain⟨cd,hc,_⟩:=PySem.W.any_some Z.cl;unfold PySem.W.clsIn at hc;split at hc
  ·rename_i a;intro A' Q' E' s' k q;unfold isType loadHead;exact wpAny_bind (wpAny_loadPart (k _ _ (X _ _ a)) (wpAny_pure q))
  ·cases hc
 ne:=λh c dd its n sl X b=>by
  obtain⟨cd,hc,_⟩:=PySem.W.any_some Z.cl;refine Bool.eq_false_iff.mpr λq=>?_
  obtain rfl:D=c:=Value.ref.inj (beq_iff_eq.mp q);unfold PySem.W.clsIn at hc;split at hc
  ·rename_i a;have z:=(X _ _ a).symm.trans b;cases z
  ·cases hc
 ca:=λX I k=>pP X Z I k
def xT:V->Value
 |.ref a=>.ref a
 |.ty T=>.type T
 |_=>.none
def mW:V->Bool
 |.ref _=>true
 |.ty _=>true
 |_=>false
theorem tS {c:V} (h:mW c=true) (r:RelV c u):u=xT c:=by cases c <;> first|exact r|cases h
section
variable {E:XK}
theorem m4 (a:(ea,oe)∈X.pn) (f:oe.cls=.ref C) (Z:jD X.K C):d7 X (.builtin "isinstance") (λxs H Q=>∃c b,xs=[.ref ea,c]/\mW c=true/\PySem.W.kitOne X.K (.ref C) (xT c)=some b/\Q (.bl b) H):=by intro pins s σ H xs us Q I r h;obtain⟨c,b,rfl,hc,e,q⟩:=h;obtain⟨u,u2,rfl,g,i⟩:=vals2 r;cases g;rw[tS hc i];exact PySem.W.kia_one (sQ Z) I.kIn ⟨oe,(I.pin (ea,oe) (Bb _ a)).1,f⟩ e (λz=>nomatch z) λtk=>⟨.bl b,H,I.tok tk,rfl,q⟩
def tXe (i:Nat) (ea:Addr) (v:V):TE:=λσ H Q=>σ[i]?=some (some (.ref ea))/\Q v H
theorem nX {c:V} {p1:Pos} (l:(ea,oe)∈X.pn) (m:oe.cls=.ref C) (Z:jD X.K C) (hm:X.mg "isinstance"=none) (hi:X.N[i]?=some n) (hc:PE X (.Name x p2) (tC c)) (a:mW c=true) (e:PySem.W.kitOne X.K (.ref C) (xT c)=some b)
  (o:Vis X.env.scope n:=by first|exact Or.inl rfl|exact Or.inr (Or.inl rfl)|exact Or.inr (Or.inr rfl)) (hd:(n==("__debug__":Str))=false:=by decide) (f:(n==("__classdict__":Str))=false:=by decide) (r:Gl X "isinstance":=by rfl)
  (k:starEach [.Name n p1,.Name x p2] X.env=(false,eval (.Name n p1) X.env)::starEach [.Name x p2] X.env:=by rfl)
  (g:starEach [.Name x p2] X.env=(false,eval (.Name x p2) X.env)::starEach [] X.env:=by rfl) (h:(backTo pos (starEach [.Name x p2] X.env)).any (·.1)=false:=by rfl) :
  PE X (.Call (.Name "isinstance" p) [.Name n p1,.Name x p2] [] pos) (tXe i ea (.bl b)) :=
 (cR (m4 l m Z) r hm gU (bO (i9 hi o hd f) (bO hc dy g) k) (by decide) (by decide) k h).imp λσ H Q j=>(by obtain⟨e1,q⟩:=j;exact⟨_,e1,c,b,rfl,a,e,q⟩)
def vR:R2:=λx y H Q=>∃s n,x=.str s/\y=.int n/\MulOk s n/\Q (.str (Txt.mul s n)) H
theorem uz:OpR X (binaryOp .Mult) vR:=by intro pins s σ H x y v u Q I a b h;obtain⟨z,n,rfl,rfl,hok,q⟩:=h;obtain⟨t,rfl⟩:=a;obtain⟨t2,rfl⟩:=b;exact SB.mul hok λt' k=>⟨.str _,H,I.tok k,⟨_,rfl⟩,q⟩
theorem m3 {Y:Cx}:(ea,oe)∈(sui Y ea oe).pn:=A9 _ (List.mem_singleton.mpr rfl)
def bD:List PyData->Option PyData
 |[.int i]=>if -1000000000<=i/\i<=1000000000 then some (.str (toString i)) else none
 |_=>none
theorem p9 {i:Int} (h1:-1000000000<=i) (h2:i<=1000000000):i.natAbs.log2<1920:=by
 by_cases z:i.natAbs=0
 ·rw[z];decide
 ·have hz:i.natAbs.log2<31:=(Nat.log2_lt z).mpr (by omega);omega
theorem oz:FnD K bD (λxs H Q=>∃i,xs=[.int i]/\i.natAbs.log2<1920/\Q (.str (toString i)) H):=λds d vs H A Q e hA h k=>by
 unfold bD at e;split at e
 ·split at e
  ·rename_i z;cases e;obtain⟨v,rfl,h1⟩:=gI h;rw[h1.ofInt];exact⟨_,rfl,p9 z.1 z.2,k _ H (aj.refl _) eo⟩
  ·cases e
 ·cases e
theorem kr:bootBuiltins "str"=some (.type "str"):=by decide +kernel
theorem jw:bootBuiltins "ValueError"=some (.type "ValueError"):=by decide +kernel
theorem sC (hm:X.mg "str"=none) (ha:PAD X E (a::es) gs) (c:Gl X "str") (e:starEach (a::es) X.env=(false,eval a X.env)::starEach es X.env) (b:(backTo pos (starEach es X.env)).any (·.1)=false) :
 PD X E (.Call (.Name "str" p) (a::es) [] pos) (gF bD gs):=cM oz ha λh=>eL f9 c hm kr h (by decide) (by decide) e b
end
section
variable {E:XK}
end
section
variable {M:Model} {A:Around} {P:Prop}
theorem jW {e:Addr}
  (k:A.frames=some (env::outer)) (w:env.frame=some L) (l:Heap.FlyingW base (env::outer) e cls a0 s.heap) (C:P->eQ s.heap e)
  (D:∀h',Heap.FlyingW base (env::outer) e cls a0 h'->s.heap.UpToSlots h'->(P->eQ h' e)->Q () { s with heap:=h' }):wpAny M A (noteFrame (.ref e) env) (λ_ s'=>wpAny M A (setFlight (.ref e) none) Q E s') E s:=by
 obtain⟨m,i,hl,oe,vs,T,oT,ts,n,⟨j,F⟩,hd,h1,r,t,u,g,x⟩:=l;subst j;unfold noteFrame;simp only[w];refine wpAny_bind (wpAny_field n hd h1 ?_);rw[if_pos (show (Value.ref T != Value.none)=true from by simp)];refine wpAny_bind (wpAny_field u g x ?_);rw[if_neg (show ¬ ((Value.none==rawInt L)=true) from by simp[rawInt])];refine wpAny_bind (wpAny_setField u g (Be.mp x).1 ?_);have other:∀b,b≠T->(s.heap.update T (Obj.mapFields (·.setIfInBounds 3 Value.none))).get? b=s.heap.get? b:=λb f=>B9 _ _ (Ne.symm f)
 have a:∀b o,s.heap.get? b=some o->(∀vs,o.data≠.fields vs)->b≠T:=λb o f c q=>by rw[q,u]at f;injection f with f;subst f;exact c ts g
 refine gK (P:=P) k (hl.of_keeps λb o f c=>⟨o,(other b (a b o f c)).trans f,rfl⟩) w ((other e (Ne.symm t)).trans n)
  (λb o h=>(other b λq=>by rw[q,r]at h;cases h).trans (m b o h)) i hd (Be.mp h1).1 F (λp=>?_)
  λh' v y=>(by obtain⟨x1,x2,x3,x4⟩:=v;exact D h' ⟨x1,i,x2,x3⟩ (λb o f c=>x4 b o ((other b (a b o f c)).trans f) c) y)
 obtain⟨oe',vs',z,B,G⟩:=C p;rw[n]at z;cases z;rw[hd]at B;cases B;exact G
theorem l9 {l:List Env} {e:Addr} (y:Heap.FlyingW base l e cls a0 s.heap) (z:P->eQ s.heap e)
  (B:∀h',Heap.FlyingW base l e cls a0 h'->s.heap.UpToSlots h'->(P->eQ h' e)->Q () { s with heap:=h' }):wpAny M A (setFlight (.ref e) none) Q E s:=by
 obtain⟨r,t,hl,oe,vs,T,oT,ts,x,m,hd,h1,n,j,u,h,C⟩:=y;have i:3<ts.size:=(Be.mp C).1;have other:∀b,b≠T->(s.heap.update T (Obj.mapFields (·.setIfInBounds 3 ((none:Option Addr).elim Value.none λf=>rawInt f)))).get? b=s.heap.get? b :=
  λb c=>B9 _ _ (Ne.symm c)
 have a:∀b o,s.heap.get? b=some o->(∀vs,o.data≠.fields vs)->b≠T:=λb o c g q=>by rw[q,u]at c;injection c with c;subst c;exact g ts h
 unfold setFlight;refine wpAny_bind (wpAny_field x hd h1 ?_);rw[if_pos (show (Value.ref T != Value.none)=true from by simp)];refine wpAny_setField u h i (B _ ⟨λb o k=>(other b λq=>by rw[q,n]at k;cases k).trans (r b o k),t,
  hl.of_keeps λb o c g=>⟨o,(other b (a b o c g)).trans c,rfl⟩,?_⟩ (λb o c g=>⟨o.slots,(other b (a b o c g)).trans c⟩) λp=>?_)
 ·exact⟨oe,vs,T,_,_,(other e (Ne.symm j)).trans x,m,hd,h1,n,j,Bl _ u (Obj.isFreed_of_fields (Obj.data_mapFields h _)),Obj.data_mapFields h _,by simp[i]⟩
 ·obtain⟨v,w,D,F,G⟩:=z p;exact⟨v,w,(other e (Ne.symm j)).trans D,F,G⟩
end
def fm (X:Cx) (ea:Addr) (oe:Obj):Cx:={ X with A:=X.A.mark (some (.ref ea)),pn:=X.pn++[(ea,oe)],xe:=λ_ _=>False }
theorem Inv.fm (I:Inv X pins σ H s) (e:∃vs,oe.data=.fields vs/\vs[2]?=some .none)
  (h:s.heap.get? ea=some oe/\H ea=none/\ea≠X.env.locals/\ea∉X.fs/\∀v,oe.data≠.cell v):Inv (L2.fm X ea oe) pins σ H s :=
 ⟨⟨I.ok.mod,I.ok.kind,I.ok.glob,I.ok.blt,I.ok.above,I.ok.inj,I.ok.has,I.ok.cab,(λ_=>let ⟨vs,a,b⟩:=e;.inr ⟨ea,oe,vs,rfl,A9 _ (List.mem_singleton.mpr rfl),a,b⟩),I.ok.frames,I.ok.stk,I.ok.exf,I.ok.bs,I.ok.bsz,I.ok.noex,I.ok.exfs,I.ok.funs,I.ok.frf⟩,
  I.os,I.bare,I.base,I.loc,I.cell,I.free,I.freeC,λp c=>by
   rcases B8.mp c with c|c
   ·rcases B8.mp (show p∈X.pn++[(ea,oe)] from c) with c|c
    ·exact I.pin p (Bb _ c)
    ·cases List.mem_singleton.mp c;exact h
   ·exact I.pin p (A9 _ c),I.hok,I.len,I.tab⟩
theorem Inv.unsuiC (ok:X.Ok) (I:Inv (L2.fm X ea oe) pins σ H s):Inv X pins σ H s :=
 ⟨ok,I.os,I.bare,I.base,I.loc,I.cell,I.free,I.freeC,λp a=>by
  rcases B8.mp a with a|a
  ·exact I.pin p (Bb _ (Bb _ a))
  ·exact I.pin p (A9 _ a),I.hok,I.len,I.tab⟩
theorem qf {N g:Pos} {G:Stmt} {a:List Stmt} {D:Ends} {ts:TS}
  (I:Inv X pins σ H s) (F:pC X.prog X.w X.stack H s H' B ea (.ref C) a0 s') (O:eQ s'.heap ea) (Q:X.env.frame=some X.env.locals) (b:∃out,X.stack=X.env::out)
  (R:Gl X x) (hm:X.mg x=some (.ref C)) (S:PySem.W.excIn X.K C bmB newId=true) (f:bmB.contains (.type "BaseException")=true)
  (T:∀oe,PSs (fm X ea oe) (G::a) ts)
  (q:ts { nx:=λ_ _=>False,rt:=D.rt } σ H')
  (o:(x==("__debug__":Str))=false:=by decide) :
  wpAny (model X.prog X.w) X.A (noteFrame (.ref ea) X.env) (λ_ s2=>wpAny (model X.prog X.w) X.A (setFlight (.ref ea) none) (λ_ U =>
   wpAny (model X.prog X.w) X.A (handleBy (.ref ea) X.env [.ExceptHandler (some (.Name x N)) none (G::a) g]) (SP X pins D) X.xe U) X.xe s2) X.xe s':=by
 obtain⟨out,b⟩:=b;have p:X.A.frames=some (X.env::out):=by rw[<-b];exact I.ok.frames
 have h:Heap.FlyingW B (X.env::out) ea (.ref C) a0 s'.heap:=by rw[<-b];exact F.fly
 refine jW (P:=True) p Q h (λ_=>O) λJ i c r=>?_
 have e:Heap.FlyingW B X.stack ea (.ref C) a0 J:=by rw[b];exact i
 have L:Inv X pins σ H' { s' with heap:=J }:=F.inv I i.1 c;obtain⟨oe,hc,M⟩:=F.apart I e c;have Y:=Inv.sui L M;refine wpAny_handleBy_cons (codeAny_handlers_test (d5 (X:=sui X ea oe) Y R hm ?_ o)) (by intro z;cases z);obtain⟨bm,Nn,nm,qn,bs,hdct,sn,sub,ab,col,dd,k0,k1,k2,k3,k5,mN,t,hN0,hni,Z⟩:=fZ L.kIn S;refine wpAny_excMatches_sub_self t M.1 hc (Z.hasType f) (codeAny_handlers_suite ?_);refine l9 (P:=True) e r λh6 j k y=>?_
 have I6:Inv X pins σ H' { s' with heap:=h6 }:=F.inv I j.1 (c.trans k);obtain⟨l,hc6,m⟩:=F.apart I j (c.trans k);have cn:∃vs,l.data=.fields vs/\vs[2]?=some .none:=by obtain⟨oe',vs',q1,q2,q3⟩:=y trivial;have:=m.1;rw[q1]at this;cases this;exact⟨_,q2,q3⟩
 have J6:=Inv.fm I6 cn m;refine wpAny_mono (T l pins _ _ H' { nx:=λ_ _=>False,rt:=D.rt } J6 q) (λfl s8 n=>?_) λ_ _ z=>z.elim
 cases fl with
 |ret u =>obtain⟨v,E,H8,J8,rv,qv⟩:=n;exact⟨v,E,H8,Inv.unsuiC I.ok J8,rv,qv⟩
 |next=>obtain⟨_,_,_,z⟩:=n;exact z.elim
 |brk=>obtain⟨_,_,_,z⟩:=n;exact z.elim
 |cont=>obtain⟨_,_,_,z⟩:=n;exact z.elim
def xD (te:TX) (C:Addr) (ts:TS):TS:=λD σ H=>te σ H (λ_ H1=>D.nx σ H1) λcls _ H1=>cls=.ref C/\ts { nx:=λ_ _=>False,rt:=D.rt } σ H1
theorem pF {te:TX} {m f b:Pos} {l:Stmt} {a:List Stmt} {ts:TS} (n:PEX X e te) (hn:∀pins σ H s,Inv X pins σ H s->X.A.handled=none) (g:Clr X.K (.ref C))
  (o:X.env.frame=some X.env.locals) (i:∃out,X.stack=X.env::out)
  (p:Gl X x) (hm:X.mg x=some (.ref C)) (q:PySem.W.excIn X.K C bmB newId=true) (c:bmB.contains (.type "BaseException")=true) (r:∀ea oe,PSs (fm X ea oe) (l::a) ts) (j:(x==("__debug__":Str))=false:=by decide)
  (k:swapsWith e none b.line X.env=pure false:=by rfl) :
  PS X (.Try [.Expr e b] [.ExceptHandler (some (.Name x m)) none (l::a) f] [] [] pos) (xD te C ts):=by
 intro pins s σ H D I h;have hn:=hn _ _ _ _ I;refine wpAny_Try_except (wpAny_execs_cons (wpAny_Expr_any (wpAny_mono (n pins s σ H _ _ I h) (λv t h1=>?_) λev t h1=>?_) I.quiet k))
 ·obtain⟨y,H1,u,r1,w⟩:=h1;exact wpAny_execs_nil (wpAny_execs_nil ⟨σ,H1,u,w⟩)
 ·obtain⟨H1,s0,z,ea,cls,a0,H2,B,rfl,⟨rfl,qs⟩,F,E⟩:=h1;exact qf (D:=D) (ts:=ts) z F (E hn g) o i p hm q c (λoe=>r ea oe) qs j
theorem cu.sui (r:cu k X.A) (h:29<=k):cu 29 (fm X ea oe).A :=
 ⟨λz=>absurd z (by decide),by have:=r.dp;show X.A.depth+3*29+5<_;omega,by have:=r.un;show X.A.units+16*29+200<_;omega⟩
section
variable {E:XK}
def jm (C:Addr) (gf:List PyData->Rs PyData) (gs:Ds->Rs (List PyData)) (g:Ds->Rs PyData):Ds->Sr:=λδ=>match gs δ with
 |.ok ds=>(match gf ds with
  |.ok _=>.nx δ
  |.rz C'=>if C'=C then (match g δ with
   |.ok d=>.rt d
   |_=>.no) else .no
  |.no=>.no)
 |_=>.no
theorem qj {f:Str} {b:List Expr} {ex:Expr} {U c M h W:Pos} (D:fb X.prog X.w X.K X.mg X.base k f (a::b).length gf) (hc:X.calm=true) (i:cu j X.A) (N:30<=j)
  (ha:PAD X.nox E0 (a::b) gs) (P:ij X.K X.mg x C) (l:Clr X.K (.ref C)) (Y:∀ea oe,cu 29 (fm X ea oe).A->PD (fm X ea oe) E0 ex g) (Z:k<=j:=by decide)
  (hf:X.env.frame=some X.env.locals:=by rfl) (n:∃out,X.stack=X.env::out:=by exact⟨_,rfl⟩) (hg:Gl X x:=by rfl) (r:Gl X f:=by rfl)
  (s:(f==("__debug__":Str))=false:=by decide) (t:(x==("__debug__":Str))=false:=by decide) (he:starEach (a::b) X.env=(false,eval a X.env)::starEach b X.env:=by rfl) (y:(backTo c (starEach b X.env)).any (·.1)=false:=by rfl)
  (B:swapsWith (.Call (.Name f p) (a::b) [] c) none M.line X.env=pure false:=by rfl) :
  PSD X E O (.Try [.Expr (.Call (.Name f p) (a::b) [] c) M] [.ExceptHandler (some (.Name x U)) none [.Return (some ex) h] W] [] [] pos) (jm C gf gs g):=by
 obtain⟨fa,fd,ps,F,hm,G,hb⟩:=D.ex;refine (pF (ts:=zg (eD X.K E0 g)) (iI F hc (i.mono Z) r hm G hb .nil ha.1 s he y) (λ_ _ _ _ _=>i.hd N) l hf n hg P.m P.e (by decide) (λea oe=>fu (gz (show PE (fm X ea oe) ex (eD X.K E0 g) from Y ea oe (i.sui (Nat.le_of_succ_le N))))) t B).imp λDn σ H I=>?_
 obtain⟨H0,A0,A,δ,R,o⟩:=I;unfold jm at o;refine aD.run R.full (λds Q vs H1 S T hv=>?_) (λC' J H' s'=>?_) (λJ=>?_)
 ·simp only[Q]at o;refine⟨A0,ds,T.ls,by simpa using hv,ha.2 δ ds Q,?_⟩;cases q:gf ds with
  |ok v=>rw[q]at o;exact λu H' s' hu=>o A σ H' (R.step (S.trans s'))
  |rz C' =>
   rw[q]at o;intro H' s';simp only at o;split at o
   ·rename_i z;subst z;refine⟨rfl,A0,δ,T.same s',?_⟩;cases qg:g δ with
    |ok d =>rw[qg]at o;exact λv H2 s2 L=>o v H2 (R.same.trans (S.trans (s'.trans s2))) L
    |rz C2=>rw[qg]at o;exact o.elim
    |no=>rw[qg]at o;exact o.elim
   ·exact o.elim
  |no=>rw[q]at o;exact o.elim
 ·simp only[J]at o;exact o.elim
 ·simp only[J]at o;exact o
end
section
variable {prog:Program} {w:World} {A:Around}
variable {nm q:Str} {N:Addr} {bs bm:List Value} {hdct:Bool} {sn:List Str} {sub:List Value} {ab:Bool} {col:Option Bool} {dd:Option Addr} {k0 k1 k2 k3 k5:Option Value} {B initId:String}
theorem k9 {x:Sem Value} {j pos p2:_} {Q:Flow->Shared->Prop} (c:bm.contains (.type "BaseException")=true)
  (h:wpAny (model prog w) A x (λv a=>∃e t,v=.ref e/\HdH A a.heap/\(∀f,A.handled=some (.ref f)->f≠e)/\e≠C/\a.heap.get? C=some (excClassObj nm q C N bs bm hdct sn sub ab col dd k0 k1 k2 k3 k5 newId) /\
   a.heap.get? e=some { cls:=.ref C,data:=.fields #[.ref t,.none,.none,.none,.bool false,.none] } /\
   ∀h' vs,(∀b u,b≠e->a.heap.get? b=some u->h'.get? b=some u)->h'.get? e=some { cls:=.ref C,data:=.fields vs }->vs[0]?=some (.ref t)->vs[1]?=some .none->E (.ref e) { a with heap:=h' }) E s) :
  wpAny (model prog w) A (raiseStmt env (some x) (some (do let v <-eval (.Constant .none j p2) env;standAt pos;pure v))) Q E s:=by
 have m:(Value.ref C::bm).contains (.type "BaseException")=true:=by rw[List.contains_cons,c,Bool.or_true]
 unfold raiseStmt;refine wpAny_bind (wpAny_mono h (λv a h₁=>?_) λ_ _ x=>x);obtain⟨e,t,rfl,z,i,hCe,p,r,B⟩:=h₁;obtain⟨y,g,d,tk,os⟩:=a
 repeat (first|with_reducible refine wpAny_loadPart_at r ?_|with_reducible refine wpAny_loadPart_at p ?_|(with_reducible refine wpAny_isSubtype_exc p ?_;rw[m])|wp_step)
 have e1:=Bl (Obj.mapFields (·.setIfInBounds 3 Value.none)) r (Obj.isFreed_of_fields (Obj.data_mapFields rfl (·.setIfInBounds 3 Value.none)));have e2:=Bl (Obj.mapFields (·.setIfInBounds 4 (Value.bool true))) e1 (Obj.isFreed_of_fields (Obj.data_mapFields rfl (·.setIfInBounds 4 (Value.bool true))));have ot:∀b u,b≠e->y.get? b=some u->((y.update e (Obj.mapFields (·.setIfInBounds 3 Value.none))).update e (Obj.mapFields (·.setIfInBounds 4 (Value.bool true)))).get? b=some u:=λb u l q=>by rw[B9 _ _ (Ne.symm l),B9 _ _ (Ne.symm l)];exact q
 refine fk (vs:=#[.ref t,.none,.none,.none,.bool true,.none]) (z.stay λf o vs z1 z2 _=>ot f o (i f z1) z2) e2 rfl (by show 2<6;decide) i λh' n k x1 x2 x3 x4=>B h' n (λb u l q=>k b u l (ot b u l q)) x1 (x2.trans rfl) (x3.trans rfl)
theorem ie (F:ExcBaseFacts B newId initId bmB) {J:Pos} {j:_} {args:List Expr} {Q:Flow->Shared->Prop} (L:A.handled≠none)
  (p:bm.contains (.type "BaseException")=true) (l:(backTo cpos (starEach args env)).any (·.1)=false) (G:mN "__init__"=none)
  (h:wpAny (model prog w) A (eval (.Name x J) env) (λf n=>f=.ref C/\wpAny (model prog w) A (evalArgs (.ref C) true (backTo cpos (starEach args env)) [])
   (λa c=>a.kw=[]/\a.pos.length<=sizeLine/\c.heap.get? C=some (excClassObj nm q C N bs bm hdct sn sub ab col dd k0 k1 k2 k3 k5 newId)/\c.heap.Ns N mN/\OwnTail c.heap bmB bm/\HdH A c.heap /\
    ∀h' e,i8 A c.heap h' e (.ref C) a.pos->E (.ref e) { c with heap:=h' }) E n) E s) :
  wpAny (model prog w) A (exec (.Raise (some (.Call (.Name x J) args [] cpos)) (some (.Constant .none j p2)) pos) env) Q E s:=by
 rw[arm_exec_Raise];simp only[evalOpt,Option.map];refine wpAny_bind (wpAny_standAt (k9 (C:=C) (nm:=nm) (q:=q) (N:=N) (bs:=bs) (bm:=bm) (hdct:=hdct) (sn:=sn) (sub:=sub) (ab:=ab) (col:=col) (dd:=dd) (k0:=k0) (k1:=k1) (k2:=k2) (k3:=k3) (k5:=k5) (newId:=newId) p (wpAny_bind (wpAny_mono (wpAny_Call_ofName (wpAny_mono h (λf n h₁=>?_) λ_ _ x=>x)) (λv s₃ r=>wpAny_bind (wpAny_standAt (wpAny_pure r))) λ_ _ x=>x))));obtain⟨rfl,h₁⟩:=h₁;unfold callWith;refine wpAny_bind (wpAny_holding (wpAny_mono h₁ (λa c i=>wpAny_bind (wpAny_standAt ?_)) λ_ _ x=>x));obtain⟨apos,H⟩:=a;obtain⟨I,hlen,u,hn,T,y,i⟩:=i;obtain rfl:H=[]:=I;obtain⟨M,g,d,tk,os⟩:=c;simp only[l];refine wpAny_bind (wpAny_keeperOf_exc u ?_);refine wpAny_bind (wpAny_call_exc_subT (hrest:=hlen) F T u hn G λh' e hm=>wpAny_bind (wpAny_holding (wpAny_point (wpAny_pure ?_))));obtain⟨t,K,O,D⟩:=hm.there;have ne:∀b o,M.get? b=some o->b≠e:=λb o q z=>by rw[z,hm.new]at q;cases q
 refine⟨e,t,rfl,y.stay λP o _ _ R _=>hm.keeps _ _ R,λP m=>?_,(ne _ _ u).symm,hm.keeps _ _ u,K,λh2 vs k x1 x2 x3=>i h2 e ⟨λb o q=>k b o (ne b o q) (hm.keeps b o q),hm.new,t,vs,x1,x2,x3,λz=>absurd z L,O,k t _ (λz=>?_) D⟩⟩
 ·rcases y with y|⟨e1,oe,ve,S,U,_⟩
  ·rw[y]at m;cases m
  ·rw[S]at m;cases m;exact ne _ _ U
 ·rw[z]at D;rw[K]at D;cases D
end
section
variable {M:Model} {A A':Around}
theorem mS {e:Addr} {Q:Value->Unit->Shared->Prop}
  (u:A'.frames=some (env::outer)) (r:env.frame=some L) (m:base.StaysIn h) (hl:h.FunFrames base (env::outer)) (n:i8 A' h s.heap e cls args)
  (C:∀h' t,Heap.FlyingW base outer e cls (.ref t) h'->s.heap.UpToSlots h'->Q (.ref e) () { s with heap:=h' }) :
  notedBy M A' env (cameBackBy M A env λe s'=>wpAny M A (leaving env e) (Q e) E s') (.ref e) s:=by
 obtain⟨t,vs,y,D,z,v2,htn,ht⟩:=n.there;have fresh:∀b,h.get? b=none->base.get? b=none:=λb c=>by
  cases hq:base.get? b with
  |none=>rfl
  |some o'=>have:=m b o' hq;rw[c]at this;cases this
 unfold notedBy noteFrame;simp only[r];refine wpAny_bind (wpAny_field y rfl z ?_);rw[if_neg (by decide)];refine wpAny_entryW (a0:=.ref t) u (hl.of_keeps λb o c _=>⟨o,n.keeps b o c,rfl⟩) r y (λb o c=>n.keeps b o (m b o c)) (fresh e n.new) rfl (Be.mp z).1 D λh1 F=>?_
 obtain⟨n1,n2,⟨oe,ws,T,oT,ts,e1,G,v,e2,B,p,k,i,H⟩,I⟩:=F;unfold cameBackBy;refine wpAny_bind (wpAny_field e1 v e2 ?_);rw[if_neg (show ¬ ((Value.ref T==Value.none)=true) from by simp)];unfold setFlight;refine wpAny_bind (wpAny_field e1 v e2 ?_);rw[if_pos (show (Value.ref T != Value.none)=true from by simp),r];have j:3<ts.size:=(Be.mp H).1;refine wpAny_setField k i j ?_;have other:∀b,b≠T->(h1.update T (Obj.mapFields (·.setIfInBounds 3 ((some L:Option Addr).elim Value.none λf=>rawInt f)))).get? b=h1.get? b:=λb c=>B9 _ _ (Ne.symm c)
 have a:∀b o,h1.get? b=some o->(∀vs,o.data≠.fields vs)->b≠T:=λb o c g q=>by rw[q,k]at c;injection c with c;subst c;exact g ts i
 have held:Heap.HeldW base (env::outer) e cls (.ref t) L (h1.update T (Obj.mapFields (·.setIfInBounds 3 ((some L:Option Addr).elim Value.none λf=>rawInt f)))):=by refine⟨λb o l=>(other b λq=>by rw[q,B]at l;cases l).trans (n1 b o l),fresh e n.new,n2.of_keeps λb o c g=>⟨o,(other b (a b o c g)).trans c,rfl⟩,?_⟩;exact⟨oe,ws,T,_,_,(other e (Ne.symm p)).trans e1,G,v,e2,B,p,Bl _ k (Obj.isFreed_of_fields (Obj.data_mapFields i _)),Obj.data_mapFields i _,by simp[j]⟩
 unfold leaving;refine wpAny_bind (wpAny_noteFrame_againW r held.2.2.2 ?_);refine wpAny_landsW held λJ w x=>?_
 obtain⟨k1,k2,⟨_,_,k3⟩,K⟩:=w;refine C J t ⟨k1,k2,k3,K⟩ ((Heap.UpToSlots.trans I λb o c g=>⟨o.slots,(other b (a b o c g)).trans c⟩).trans x)
end
section
variable {w:World} {f:Addr} {A:Around} {E:XK}
def nE (X:Cx) (E:XK):Prop:=∀(ea:Addr) (oe:Obj) (pins:List (Addr×Obj)) (σ:St) (H:Hp) (s:Shared) (h':Heap) (e2 C:Addr) (vs:List Value),Inv (fm X ea oe) pins σ H s->i8 (fm X ea oe).A s.heap h' e2 (.ref C) vs->PySem.W.nsIn X.K mainGlobals "NoText"=some (some (.ref C))->E (.ref C) none H ->
 notedBy (model X.prog X.w) (fm X ea oe).A X.env (cameBackBy (model X.prog X.w) X.A X.env X.xe) (.ref e2) { s with heap:=h' }
theorem fromTo:nE (bT (CXW P w K) P w K mg base N qual scope f cd A outer s H E) E:=by
 intro ea0 oe0 pins σ H1 m h' ea C vs I p r v;have h:=I.stack;have i:frs (bT (CXW P w K) P w K mg base N qual scope f cd A outer s H E).stack=s.heap.objs.size::frs outer:=dG rfl;have j:∀env∈(bT (CXW P w K) P w K mg base N qual scope f cd A outer s H E).stack,∀b,env.frame=some b->b∈frs (bT (CXW P w K) P w K mg base N qual scope f cd A outer s H E).stack:=λenv x b c=>BO.mpr ⟨env,x,c⟩
 have out:∀b o,s.heap.get? b=some o->b∉frs outer->b∉frs (bT (CXW P w K) P w K mg base N qual scope f cd A outer s H E).stack:=λb o e n z=>by
  rw[i]at z;rcases List.mem_cons.mp z with z|z
  ·rw[z]at e;exact absurd (Heap.lt_size e) (Bs _)
  ·exact n z
 refine mS (Q:=λe _ k=>CXW P w K A.handled outer H s E e k) (s:={ m with heap:=h' }) (base:=PySem.W.hideAll m.heap (frs (bT (CXW P w K) P w K mg base N qual scope f cd A outer s H E).stack)) I.ok.frames rfl (λb o q=>PySem.W.of_hideAll _ q) (PySem.W.funFrames_hide h j) p λh2 t x1 x4=>?_
 refine⟨ea,.ref C,.ref t,H1,_,rfl,v,⟨I.os,I.bare,?_,?_,?_,?_,?_,I.base.tups,I.base.frzs,I.base.tbls,x1⟩,λ_ z=>absurd rfl (z C r)⟩
 ·intro a o e;refine (I.hok a o e).stay (λb u c q=>PySem.W.hideAll_get _ q λz=>?_) (λ_ q=>q) λ_ _ q=>q
  have:=I.stkFree b z;rcases c with c|c
  ·rw[c,e]at this;cases this
  ·rw[c]at this;cases this
 ·intro b o e n c;exact PySem.W.hideAll_get _ (I.base.keep b o e n c (A8)) (out b o e c)
 ·intro b o e c;obtain⟨o',q⟩:=I.base.there b o e (A8);exact⟨o',PySem.W.hideAll_get _ q (out b o e c)⟩
 ·intro b o e c;obtain⟨sl,q⟩:=I.base.slot b o e (I.ok.frf b c) c (A8);obtain⟨_,y,g,d2⟩:=I.ok.funs.mem c;have g:s.heap.get? b=some y:=g;rw[e]at g;cases g;obtain⟨l,B⟩:=x4 b _ (p.keeps b _ q) d2;exact⟨l,B⟩
 ·intro b o e n;exact I.base.free b o e n (A8)
end
def sS (te:TX) (C a:Addr) (E:XK) (t:TA):TS:=λD σ H=>te σ H D.rt λcls _ H1=>cls=.ref C/\t σ H1 λvs H2=>vs.length<=sizeLine/\E (.ref a) none H2
theorem lO {E:XK} {te:TX} {r:Addr} {u w rp2:Pos} {j:_} {k:List Expr} {t:TA} {G:List Value} {b B2 c:String} (he:PEX X e te) (hn:∀pins σ H s,Inv X pins σ H s->X.A.handled=none) (hcl:Clr X.K (.ref C))
  (hf:X.env.frame=some X.env.locals) (f:∃out,X.stack=X.env::out) (hc:X.calm=true) (M:nE X E) (hnt:PySem.W.nsIn X.K mainGlobals "NoText"=some (some (.ref r)))
  (hg:Gl X x) (hm:X.mg x=some (.ref C)) (hC:PySem.W.excIn X.K C bmB newId=true) (m:bmB.contains (.type "BaseException")=true)
  (FB:ExcBaseFacts B2 b c G) (hgy:Gl X y) (hmy:X.mg y=some (.ref r)) (hC2:PySem.W.excIn X.K r G b=true) (ha:∀ea oe,PA (fm X ea oe) (a::k) t)
  (hdb:(x==("__debug__":Str))=false:=by decide) (hdy:(y==("__debug__":Str))=false:=by decide)
  (n:starEach (a::k) X.env=(false,eval a X.env)::starEach k X.env:=by rfl) (hpl:(backTo cpos (starEach k X.env)).any (·.1)=false:=by rfl) :
  PS X (.Try [.Return (some e) w] [.ExceptHandler (some (.Name x np)) none [.Raise (some (.Call (.Name y yp) (a::k) [] cpos)) (some (.Constant .none j p2)) rp2] u] [] [] pos) (sS te C r E t):=by
 intro pins s σ H D I h;have hn:=hn _ _ _ _ I;refine wpAny_Try_except (wpAny_execs_cons (wpAny_Return_some (wpAny_mono (he pins s σ H _ _ I h) (λv s1 h1=>?_) λev s1 h1=>?_)))
 ·obtain⟨y,H1,I1,r1,q1⟩:=h1;exact⟨y,σ,H1,I1,r1,q1⟩
 ·obtain⟨H1,s0,I0,ea,cls,a0,H2,B,rfl,⟨rfl,qs⟩,F,cx⟩:=h1;have cx:=cx hn hcl;obtain⟨out,f⟩:=f;have hfr:X.A.frames=some (X.env::out):=by rw[<-f];exact I.ok.frames
  have J:Heap.FlyingW B (X.env::out) ea (.ref C) a0 s1.heap:=by rw[<-f];exact F.fly
  refine jW (P:=True) hfr hf J (λ_=>cx) λh5 L i cx5=>?_
  have l:Heap.FlyingW B X.stack ea (.ref C) a0 h5:=by rw[f];exact L
  have I5:Inv X pins σ H2 { s1 with heap:=h5 }:=F.inv I0 L.1 i;obtain⟨oe,hco,ap⟩:=F.apart I0 l i;have J5:=Inv.sui I5 ap;refine wpAny_handleBy_cons (codeAny_handlers_test (d5 (X:=sui X ea oe) J5 hg hm ?_ hdb)) (by intro z;cases z);obtain⟨bm,Nn,nm,qn,bs,hdct,sn,sub,ab,col,dd,k0,k1,k2,k3,k5,mN,O,hN0,o,TL⟩:=fZ I5.kIn hC;refine wpAny_excMatches_sub_self O ap.1 hco (TL.hasType m) (codeAny_handlers_suite ?_);refine l9 (P:=True) l cx5 λh6 Q R cx6=>?_
  have I6:Inv X pins σ H2 { s1 with heap:=h6 }:=F.inv I0 Q.1 (i.trans R);obtain⟨g,hc6,S⟩:=F.apart I0 Q (i.trans R);have cn:∃vs,g.data=.fields vs/\vs[2]?=some .none:=by obtain⟨oe',vs',q1,q2,q3⟩:=cx6 trivial;have:=S.1;rw[q1]at this;cases this;exact⟨_,q2,q3⟩
  have J6:=Inv.fm I6 cn S;clear TL hN0 O o;obtain⟨tl,N,nm',q,bs',p,sn',U,ab',Y,dd',l0,l1,l2,l3,l5,mN',hD0,hN,o,T⟩:=fZ J6.mod.kin hC2;refine wpAny_execs_cons (ie (C:=r) (nm:=nm') (q:=q) (N:=N) (bs:=bs') (bm:=tl) (hdct:=p) (sn:=sn') (sub:=U) (ab:=ab') (col:=Y) (dd:=dd') (k0:=l0) (k1:=l1) (k2:=l2) (k3:=l3) (k5:=l5)
   FB (mN:=mN') (λz=>by cases z) (T.hasType FB.hasBase) (by rw[n];show (false|| (backTo cpos (starEach k X.env)).any (·.1))=false;rw[hpl];rfl) o (d5 (X:=fm X ea g) J6 hgy hmy ⟨rfl,?_⟩ hdy))
  have q0:=(ha ea g) cpos pins _ σ H2 _ J6 qs;rw[show starEach (a::k) (fm X ea g).env=(false,eval a X.env)::starEach k X.env from n]at q0;rw[n];refine Calls.evalArgs_plain (wpAny_mono q0 (λus s2 h2=>?_) λ_ _ y=>y.elim);obtain⟨vs,H3,Z,rv,z,hE⟩:=h2;exact⟨rfl,by rw[<-rv.length];exact z,Z.bk _ _ hD0,hN.keeps Z.bk,T.keeps Z.bk,Z.hdH hc,λh' ea' hx=>M ea g pins σ H3 s2 h' ea' r _ Z hx hnt hE⟩
section
variable {E:XK}
def fU (C a:Addr) (gf:List PyData->Rs PyData) (gs:Ds->Rs (List PyData)):Ds->Sr:=λδ=>match gs δ with
 |.ok ds=>(match gf ds with
  |.ok d=>.rt d
  |.rz C'=>if C'=C then .rz a else .no
  |.no=>.no)
 |_=>.no
theorem md {f:Str} {g:Addr} {b:List Expr} {S rp h hp i:Pos} {l jk:_} (D:fb X.prog X.w X.K X.mg X.base k f (a::b).length gf) (hc:X.calm=true) (T:cu j X.A) (hj:30<=j)
  (ha:PAD X.nox E0 (a::b) gs) (U:ij X.K X.mg x C) (Y:ij X.K X.mg y g) (n:Clr X.K (.ref C)) (r:PySem.W.nsIn X.K mainGlobals "NoText"=some (some (.ref g))) (M:nE X E) (hk:k<=j:=by decide)
  (hf:X.env.frame=some X.env.locals:=by rfl) (s:∃out,X.stack=X.env::out:=by exact⟨_,rfl⟩) (hg:Gl X x:=by rfl) (t:Gl X y:=by rfl) (B:Gl X f:=by rfl)
  (G:(f==("__debug__":Str))=false:=by decide) (I:(x==("__debug__":Str))=false:=by decide) (J:(y==("__debug__":Str))=false:=by decide) (he:starEach (a::b) X.env=(false,eval a X.env)::starEach b X.env:=by rfl) (L:(backTo S (starEach b X.env)).any (·.1)=false:=by rfl)
  (c:starEach [.Constant (.str z) l i] X.env=(false,eval (.Constant (.str z) l i) X.env)::starEach [] X.env:=by rfl) :
  PSD X E O (.Try [.Return (some (.Call (.Name f p) (a::b) [] S)) rp] [.ExceptHandler (some (.Name x np)) none [.Raise (some (.Call (.Name y yp) [.Constant (.str z) l i] [] cpos)) (some (.Constant .none jk p2)) h] hp] [] [] pos) (fU C g gf gs):=by
 obtain⟨fa,fd,ps,F,hm,N,hb⟩:=D.ex;refine (lO (iI F hc (T.mono hk) B hm N hb .nil ha.1 G he L) (λ_ _ _ _ _=>T.hd hj) n hf s hc M r hg U.m U.e (by decide) PySem.F.excBase_ValueError t Y.m Y.e (λea oe=>bO qz dy c) I J c rfl).imp λDn σ H P=>?_
 obtain⟨H0,A0,A,δ,R,o⟩:=P;unfold fU at o;refine aD.run R.full (λds Z vs H1 s1 R1 hv=>?_) (λC' Q H' s'=>?_) (λQ=>?_)
 ·simp only[Z]at o;refine⟨A0,ds,R1.ls,by simpa using hv,ha.2 δ ds Z,?_⟩;cases q:gf ds with
  |ok v=>rw[q]at o;exact λu H' s' hu=>o u H' (R.same.trans (s1.trans s')) hu
  |rz C' =>
   rw[q]at o;intro H' s';simp only at o;split at o
   ·rename_i z;subst z;exact⟨rfl,by show 1<=sizeLine;decide,o H' (R.same.trans (s1.trans s'))⟩
   ·exact o.elim
  |no=>rw[q]at o;exact o.elim
 ·simp only[Q]at o;exact o.elim
 ·simp only[Q]at o;exact o
theorem Inv.forget1 {m:Str->Option Value} {g:Option Value} {t':Nat} (I:Inv X pins σ H s) (h:X.N.Nodup) (hi:X.N[i]?=some n) (hm:s.heap.Ns X.env.locals m)
  (hl:∀(i:Nat) (x:Str) (v:V),X.N[i]?=some x->σ[i]?=some (some v)->Vis X.env.scope x->∃u,RelV v u/\Look X.env s.heap m x u)
  (hn:h'.Ns X.env.locals (λx=>if x=n then g else m x)) (f:Heap.SameBut X.env.locals s.heap h') :
  Inv X pins (σ.set i none) H { s with heap:=h',toks:=t' }:=by
 have k:∀b o,b≠X.env.locals->s.heap.get? b=some o->h'.get? b=some o:=λb o t e=>(f.2 b t).trans e
 have old:∀b o,X.s₀.heap.get? b=some o->b≠X.env.locals:=λb o e=>Nat.ne_of_lt (B5 (Heap.lt_size e) I.ok.above)
 refine⟨I.ok,I.os,I.bare,⟨λb o e n h1 h2=>k b o (old b o e) (I.base.keep b o e n h1 h2),λb o e n h1 h2=>?_,I.base.free,λb o e h1=>?_,I.base.tups,I.base.frzs,I.base.tbls⟩,⟨_,hn,λj x v e1 e2 w=>?_⟩,λx c e=>?_,I.free,I.freeC,λp y=>?_,λb o e=>?_,by rw[C3];exact I.len,I.tab⟩
 ·obtain⟨sl,q⟩:=I.base.slot b o e n h1 h2;exact⟨sl,k b _ (old b o e) q⟩
 ·obtain⟨o',q⟩:=I.base.there b o e h1;exact⟨o',k b o' (old b o e) q⟩
 ·have a:i≠j:=by
   rintro rfl
   rw[List.getElem?_set]at e2;simp at e2
  rw[Bd a]at e2;have A:x≠n:=by
   rintro rfl
   exact a (iS h hi e1)
  obtain⟨u,r,l⟩:=hl j x v e1 e2 w;refine⟨u,r,?_⟩;rcases l with⟨z1,z2⟩|⟨z1,c,z2,z3⟩
  ·exact .inl ⟨z1,(if_neg A).trans z2⟩
  ·exact .inr ⟨z1,c,z2,z3.sameBut f (I.cne x c z2)⟩
 ·obtain⟨v,q⟩:=I.cell x c e;exact⟨v,q.sameBut f (I.cne x c e)⟩
 ·obtain⟨e,n,ne,B,d⟩:=I.pin p y;exact⟨k p.1 p.2 ne e,n,ne,B,d⟩
 ·refine (I.hok b o e).stay (λc v hc q=>k c v ?_ q) (λ_ q=>q) λ_ _ q=>q
  rintro rfl
  rcases hc with z|z
  ·subst z;rw[I.free]at e;cases e
  ·rw[I.free]at z;cases z
def tXt (i:Nat) (ea:Addr) (b:Bool):TT:=λσ H Q=>σ[i]?=some (some (.ref ea))/\Q b H
theorem jo (h:PE X e (tXe i ea (.bl b))) (c:∀whole,isTrue e X.env whole=(do let v <-whole;standAt e.pos;holding [v] (truthy v)):=by intro _;rfl):PT X e (tXt i ea b) :=
 (rl h c).imp λσ H Q a=>(by obtain⟨e1,q⟩:=a;exact⟨e1,b,rfl,q⟩)
theorem oS (h:PT X a (tXt i ea b)):PT X (.UnaryOp .Not a pos) (tXt i ea (!b)):=(rO h).imp λσ H Q c=>(by obtain⟨e1,q⟩:=c;exact⟨e1,q⟩)
theorem tQ (h:PT X a (tXt i ea b)):PW X (.BoolOp .Or [a] pos) (tXt i ea b):=sT h
theorem qR {c:Bool} {rest:List Expr} (h:PT X a (tXt i ea b)) (h2:PW X (.BoolOp .Or (e::rest) pos) (tXt i ea c)):PW X (.BoolOp .Or (a::e::rest) pos) (tXt i ea (b||c)) :=
 (vU h h2).imp λσ H Q ⟨e1,q⟩=>⟨e1,by cases b with|true=>exact q|false=>exact⟨e1,q⟩⟩
theorem wk (c:b=false) (h:PT X a (tXt i ea b)):PT X a (tXt i ea false):=by subst c;exact h
def u5 (te:TX) (i0:Nat) (C:Addr) (i:Nat):TS:=λD σ H=>te σ H (λv H1=>D.nx (σ.set i0 (some v)) H1) λcls _ H1=>cls=.ref C/\i<σ.length/\D.nx ((σ.set i (some .non)).set i none) H1
theorem mT {c:Expr} {te:TX} {i0:Nat} {m j ip:Pos} (he:PEX X e te)
  (hf:X.env.frame=some X.env.locals) (a:∃out,X.stack=X.env::out) (G:X.N.Nodup) (hi:X.N[i]?=some n) (hl:X.env.scope.names.lookup n=some .local)
  (J:X.N[i0]?=some y) (hy:X.env.scope.names.lookup y=some .local)
  (hg:Gl X x) (hm:X.mg x=some (.ref C)) (hC:PySem.W.excIn X.K C bmB newId=true) (l:bmB.contains (.type "BaseException")=true) (ht:∀ea oe,oe.cls=.ref C->PT (sui X ea oe) c (tXt i ea false)) (L:(x==("__debug__":Str))=false:=by decide)
  (M:swapsWith e (some (.Name y yp)) j.line X.env=pure false:=by rfl) :
  PS X (.Try [.Assign [.Name y yp] e j] [.ExceptHandler (some (.Name x np)) (some n) [.If c ss [] ip] m] [] [] pos) (u5 te i0 C i):=by
 intro pins s σ H D I h;refine wpAny_Try_except (wpAny_execs_cons (wpAny_Assign_Name (wpAny_mono (he pins s σ H _ _ I h) (λv w h1=>?_) λev w h1=>?_) M))
 ·obtain⟨z,H1,I1,r1,q1⟩:=h1;exact gw I1 G J (.inl hy) r1 (λs2 I2=>wpAny_execs_nil (wpAny_execs_nil ⟨_,H1,I2,q1⟩)) (.inr hy)
 ·obtain⟨H1,s0,E,ea,cls,a0,H2,B,rfl,⟨rfl,O,qs⟩,F,_⟩:=h1;obtain⟨out,a⟩:=a;have P:X.A.frames=some (X.env::out):=by rw[<-a];exact I.ok.frames
  have o:Heap.FlyingW B (X.env::out) ea (.ref C) a0 w.heap:=by rw[<-a];exact F.fly
  refine wpAny_looks_onW P hf o λh4 Q f=>?_
  refine wpAny_landsW Q λh5 p g=>?_
  have k:Heap.FlyingW B X.stack ea (.ref C) a0 h5:=by rw[a];exact p
  have I5:Inv X pins σ H2 { w with heap:=h5 }:=F.inv E p.1 (f.trans g);obtain⟨oe,hc,ap⟩:=F.apart E k (f.trans g);have J5:=Inv.sui I5 ap;refine wpAny_handleBy_cons (codeAny_handlers_test (d5 (X:=sui X ea oe) J5 hg hm ?_ L)) (by intro z;cases z);obtain⟨bm,Nn,nm,qn,bs,hdct,sn,sub,ab,col,dd,k0,k1,k2,k3,k5,mN,R,hN0,hni,TL⟩:=fZ I5.kIn hC;refine wpAny_excMatches_sub_self R ap.1 hc (TL.hasType l) (codeAny_handlers_suite_as ?_);refine lands_againW k λh6 q r=>?_
  have I6:Inv X pins σ H2 { w with heap:=h6 }:=F.inv E q.1 ((f.trans g).trans r);obtain⟨t,S,T⟩:=F.apart E q ((f.trans g).trans r);have J6:=Inv.sui I6 T;refine gw (X:=sui X ea t) (v:=.ref ea) J6 G hi (.inl hl) rfl (λs7 J7=>?_) (.inr hl);refine wpAny_execs_cons (wpAny_If (wpAny_mono (ht ea t S pins s7 _ H2 (λb U=>b=false/\U=H2) J7 ⟨by rw[Bu O],rfl,rfl⟩) (λb s8 h8=>?_) λ_ _ z=>z.elim));obtain⟨U,J8,rfl,rfl⟩:=h8;rw[if_neg (by decide)];refine wpAny_execs_nil (wpAny_execs_nil ?_);have I8:=Inv.unsui I.ok J8;obtain⟨m8,u,Y⟩:=I8.loc;refine wpAny_nameGoes_keeps hl u (by rw[I.ok.kind];rfl) λh9 v9 Z hs9=>⟨_,U,?_,qs⟩
  have:=I8.forget1 (t':=s8.toks+1) G hi u Y Z hs9;rw[List.set_set]at this ⊢;exact this
theorem bu.drop (R:bu K H0 A0 H A O δ σ) (hi:i∉O):bu K H0 A0 H A O (δ.set i none) (σ.set i none):=by
 have ne:∀{j:Nat} {d:PyData},(δ.set i none)[j]?=some (some d)->i≠j:=λ{j d} e=>by
  rintro rfl
  rw[List.getElem?_set]at e;simp at e
 refine⟨R.same,R.ls0,R.new,R.ls,by rw[C3,C3];exact R.len,λj d b e=>?_,λj d b e=>?_,λj k d d' a b g e1 e2 c f=>?_⟩
 ·have:=ne e;rw[Bd this]at e ⊢;exact R.pl j d b e
 ·have:=ne e;rw[Bd this]at e ⊢;exact R.own j d b e
 ·have n1:=ne e1;have n2:=ne e2;rw[Bd n1]at e1 c;rw[Bd n2]at e2 f;exact R.inj j k d d' a b g e1 e2 c f
def lV (O:List Nat) (C:Addr) (i0 i:Nat) (gf:List PyData->Rs PyData) (gs:Ds->Rs (List PyData)):Ds->Sr:=λδ=>if i0<δ.length/\i<δ.length then (match gs (mask O δ) with
 |.ok ds=>(match gf ds with
  |.ok d=>.nx (δ.set i0 (some d))
  |.rz C'=>if C'=C then .nx (δ.set i none) else .no
  |.no=>.no)
 |_=>.no) else .no
theorem m5 {i0:Nat} {f:Str} {b:List Expr} {c:Expr} {Y h Q S Z hp:Pos} (D:fb X.prog X.w X.K X.mg X.base k f (a::b).length gf) (hc:X.calm=true) (hr:cu j X.A)
  (ha:PAD X.nox E0 (a::b) gs) (T:ij X.K X.mg x C) (hN:X.N.Nodup) (ht:∀ea oe,oe.cls=.ref C->PT (sui X ea oe) c (tXt i ea false)) (hO:i∉O:=by decide) (l:i0∉O:=by decide) (hk:k<=j:=by decide)
  (hf:X.env.frame=some X.env.locals:=by rfl) (r:∃out,X.stack=X.env::out:=by exact⟨_,rfl⟩) (hi:X.N[i]?=some n:=by rfl) (hl:X.env.scope.names.lookup n=some .local:=by rfl) (s:X.N[i0]?=some y:=by rfl) (hy:X.env.scope.names.lookup y=some .local:=by rfl) (hg:Gl X x:=by rfl) (t:Gl X f:=by rfl)
  (B:(f==("__debug__":Str))=false:=by decide) (G:(x==("__debug__":Str))=false:=by decide) (he:starEach (a::b) X.env=(false,eval a X.env)::starEach b X.env:=by rfl) (I:(backTo h (starEach b X.env)).any (·.1)=false:=by rfl)
  (J:swapsWith (.Call (.Name f p) (a::b) [] h) (some (.Name y S)) Q.line X.env=pure false:=by rfl) :
  PSD X E O (.Try [.Assign [.Name y S] (.Call (.Name f p) (a::b) [] h) Q] [.ExceptHandler (some (.Name x Y)) (some n) [.If c ss [] Z] hp] [] [] pos) (lV O C i0 i gf gs):=by
 obtain⟨fa,fd,ps,F,hm,L,hb⟩:=D.ex;refine (mT (i:=i) (i0:=i0) (iI F hc (hr.mono hk) t hm L hb .nil ha.1 B he I) hf r hN hi hl s hy hg T.m T.e (by decide) ht G J).imp λDn σ H M=>?_
 obtain⟨H0,A0,A,δ,R,o⟩:=M;unfold lV at o;split at o
 ·rename_i g;refine aD.run R.part (λds U vs H1 W R1 hv=>?_) (λC' P H' s'=>?_) (λP=>?_)
  ·simp only[U]at o;refine⟨A++A0,ds,R1.ls,by simpa using hv,ha.2 _ ds U,?_⟩;cases q:gf ds with
   |ok v=>rw[q]at o;exact λu H' s' hu=>o A _ H' ((R.step (W.trans s')).set l g.1 hu)
   |rz C' =>
    rw[q]at o;intro H' s';simp only at o;split at o
    ·rename_i z;subst z;refine⟨rfl,by rw[<-R.len];exact g.2,?_⟩;rw[List.set_set];exact o A _ H' ((R.step (W.trans s')).drop hO)
    ·exact o.elim
   |no=>rw[q]at o;exact o.elim
  ·simp only[P]at o;exact o.elim
  ·simp only[P]at o;exact o
 ·exact o.elim
end
section
variable {E:XK}
end
section
variable {E:XK}
end
section
variable {E:XK} {b c:Expr} {ga gb gc:Ds->Rs PyData}
end
section
variable {E:XK}
end
section
variable {E:XK}
end
end L2
namespace PyProof.Rows
open PySem
section
variable {prog:Program} {w:World} {A:Around}
end
end PyProof.Rows
namespace L2
open PySem PySem.Spec PyProof.Rows
section
variable {E:XK} {a:Expr}
end
section
variable {E:XK} {a b:Expr} {ga gb:Ds->Rs PyData}
end
section
variable {prog:Program} {w:World} {A:Around} {R:Result->Shared->Prop} {I:Addr} {wr:List Addr} {T:Nat->Value->Prop} {St:Nat->Heap->Prop} {dv:Value}
variable {l:Addr} {xs:Array (Int×Tok)}
end
section
variable {E:XK} {a b:Expr} {ga gb:Ds->Rs PyData}
end
section
variable {E:XK} {a b:Expr}
end
section
variable {E:XK}
end
end L2
namespace RS
open PySem
set_option genInjectivity true in
structure Er where
 every:Int
 due:Int
 late:Int
 parts:List (Int×Option Int)
def f6:Option Int->PyData
 |none=>.none
 |some i=>.int i
def az (p:Int×Option Int):PyData:=.tuple [.int p.1,f6 p.2]
def Er.d (e:Er):PyData:=.tuple [.int e.every,.int e.due,.int e.late,.tuple (e.parts.map az)]
def a4 (es:List Er):PyData:=.tuple (es.map Er.d)
def isWhole (d:PyData) (lo hi:Int):Bool:=match d with
 |.int i=>decide (lo<=i)&&decide (i<=hi)
 |_=>false
def bj (d:PyData) (lo hi:Int):Bool:=match d with
 |.tuple ds=>decide (lo<=(ds.length:Int))&&decide ((ds.length:Int)<=hi)
 |_=>false
def aY (d:PyData):Bool:=match d with
 |.tuple [a,b]=>isWhole a 1 20&&(match b with|.none=>true|b=>isWhole b 0 3)
 |_=>false
def dW (ds:List PyData):Bool:=match ds.getLast? with
 |some (.tuple [_,.none])=>true
 |_=>false
def bH (d:PyData):Bool:=match d with
 |.tuple ds=>decide (1<=ds.length)&&decide (ds.length<=4)&&ds.all aY&&dW ds
 |_=>false
def aA (d:PyData):Bool:=match d with
 |.tuple [.int e,du,.int l,ps]=>decide (2<=e)&&decide (e<=60)&&(decide (0<=l)&&decide (l<=(if e-1<20 then e-1 else 20)))&&isWhole du 1 (e-l)&&bH ps
 |_=>false
def au (d:PyData):Bool:=match d with
 |.tuple ds=>decide (1<=ds.length)&&decide (ds.length<=6)&&ds.all aA
 |_=>false
structure Er.Ok (e:Er):Prop where
 e1:2<=e.every
 e2:e.every<=60
 l1:0<=e.late
 l2:e.late<=20
 l3:e.late<e.every
 d1:1<=e.due
 d2:e.due<=e.every-e.late
 p1:e.parts≠[]
 p2:e.parts.length<=4
 pl:∀p∈e.parts,1<=p.1/\p.1<=20/\∀t,p.2=some t->0<=t/\t<=3
 la:∀p,e.parts.getLast?=some p->p.2=none
theorem p0 {p:Int×Option Int} (h1:1<=p.1) (h2:p.1<=20) (c:∀t,p.2=some t->0<=t/\t<=3):aY (az p)=true:=by
 obtain⟨l,t⟩:=p;cases t with
 |none=>simp[aY,az,f6,isWhole,h1,h2]
 |some t =>obtain⟨a,b⟩:=c t rfl;simp[aY,az,f6,isWhole,h1,h2,a,b]
theorem hV {e:Er} (h:e.Ok):aA e.d=true:=by
 have f:(e.parts.map az).all aY=true:=by rw[Bg];intro d hd;obtain⟨p,f,rfl⟩:=Bc.mp hd;obtain⟨a,b,c⟩:=h.pl p f;exact p0 a b c
 have hl:dW (e.parts.map az)=true:=by
  unfold dW;rw[List.getLast?_map];cases q:e.parts.getLast? with
  |none=>exact absurd (List.getLast?_eq_none_iff.mp q) h.p1
  |some p =>obtain⟨l,t⟩:=p;have:t=none:=h.la _ q;subst this;rfl
 have hn:1<=e.parts.length:=by
  cases q:e.parts with
  |nil=>exact absurd q h.p1
  |cons _ _=>simp
 have h1:=h.e1;have h2:=h.e2;have i:=h.l1;have h4:=h.l2;have h5:=h.l3;have j:=h.d1;have k:=h.d2;have m:=h.p2;have g:e.late<=if e.every-1<20 then e.every-1 else 20:=by split <;> omega
 show (decide (2<=e.every)&&decide (e.every<=60)&&(decide (0<=e.late)&&decide (e.late<=(if e.every-1<20 then e.every-1 else 20)))&&(decide (1<=e.due)&&decide (e.due<=e.every-e.late))&&(decide (1<=(e.parts.map az).length)&&decide ((e.parts.map az).length<=4)&&(e.parts.map az).all aY&&dW (e.parts.map az)))=true;rw[B7,f,hl,decide_eq_true h1,decide_eq_true h2,decide_eq_true i,decide_eq_true g,decide_eq_true j,decide_eq_true k,decide_eq_true hn,decide_eq_true m];rfl
theorem kE {es:List Er} (h1:1<=es.length) (h2:es.length<=6) (h:∀e∈es,e.Ok):au (a4 es)=true:=by
 have a:(es.map Er.d).all aA=true:=by rw[Bg];intro d hd;obtain⟨e,b,rfl⟩:=Bc.mp hd;exact hV (h e b)
 simp[au,a4,h1,h2,a]
def cellAt (ns:List Int) (k:Int):Int :=
 if k<(ns.length:Int) then ns.getD k.toNat 0 else if ns=[] then 0 else ns.getD (k % (ns.length:Int)).toNat 0*31+k
def qe (ns:List Int) (k:Int):Int:=(cellAt ns k+7919*k+1)*48271 % 2147483647
def mixed (ns:List Int) (k many:Int):Int:=(qe ns k*qe ns k+7*qe ns k+k) % 2147483629 % many
theorem ue (ns:List Int) (k:Int):0<=qe ns k:=BB _ (by decide)
theorem t8 (ns:List Int) (k:Int):qe ns k<2147483647:=Bx _ (by decide)
theorem bF (ns:List Int) (k:Int) (h:0<many):0<=mixed ns k many:=BB _ (by omega)
theorem bR (ns:List Int) (k:Int) (h:0<many):mixed ns k many<many:=Bx _ h
def fE (i:Int):Option Int:=if i=0 then some 0 else if i=1 then some 1 else if i=2 then some 1 else if i=3 then some 0 else none
def cC (ns:List Int) (j:Int) (a:Bool):Int×Option Int:=(1+mixed ns j 40 % 4,if a then fE (mixed ns j 40 / 4 % 5) else none)
def eu (ns:List Int) (at' a:Int):Int :=
 if a-1<mixed ns (at' + 1) 4*(if mixed ns (at' + 2) 3=0 then 1 else 0) then a-1 else mixed ns (at' + 1) 4*(if mixed ns (at' + 2) 3=0 then 1 else 0)
def g8 (ns:List Int) (at' a:Int):Int:=if mixed ns (at' + 1) 3=0 then a-mixed ns (at' + 2) a else a
def mkE (ns:List Int) (at' top:Int) (a:Bool):Er where
 every:=3+mixed ns at' top
 late:=eu ns at' (3+mixed ns at' top)
 due:=g8 ns at' (3+mixed ns at' top-eu ns at' (3+mixed ns at' top))
 parts:=((List.range (mixed ns (at' + 3) 3).toNat).map λ(k:Nat)=>cC ns (at' + 4+(k:Int)) a)++[(1+mixed ns (at' + 6) 3,none)]
def ia (ns:List Int) (at' most top:Int) (a:Bool):List Er:=(List.range (1+mixed ns at' most).toNat).map λ(k:Nat)=>mkE ns (at' + 1+7*(k:Int)) top a
theorem lr (ns:List Int) (at' a:Int) (h:3<=a):0<=eu ns at' a/\eu ns at' a<=3/\eu ns at' a<a:=by
 have h1:=bF ns (at' + 1) (many:=4) (by decide);have h2:=bR ns (at' + 1) (many:=4) (by decide);unfold eu;generalize mixed ns (at' + 1) 4=x at *;by_cases hc:mixed ns (at' + 2) 3=0
 ·simp only[hc,if_true,Int.mul_one];split <;> omega
 ·simp only[hc,if_false,Int.mul_zero];split <;> omega
theorem vy (ns:List Int) (at' a:Int) (h:1<=a):1<=g8 ns at' a/\g8 ns at' a<=a:=by have h1:=bF ns (at' + 2) (many:=a) (by omega);have h2:=bR ns (at' + 2) (many:=a) (by omega);unfold g8;split <;> omega
theorem tR (i t:Int) (h:fE i=some t):0<=t/\t<=1:=by
 unfold fE at h
 repeat' split at h
 all_goals (first|(cases h;decide)|cases h)
theorem sP (ns:List Int) (j:Int) (a:Bool):1<=(cC ns j a).1/\(cC ns j a).1<=4/\∀t,(cC ns j a).2=some t->0<=t/\t<=1:=by
 have h1:0<=mixed ns j 40 % 4:=BB _ (by decide);have h2:mixed ns j 40 % 4<4:=Bx _ (by decide);refine⟨by unfold cC;simp only;omega,by unfold cC;simp only;omega,λt h=>?_⟩;unfold cC at h;simp only at h;cases a with
 |false=>simp at h
 |true=>simp at h;exact tR _ _ h
theorem yb (ns:List Int) (at' top:Int) (a:Bool) (h1:0<top) (h2:top<=58):(mkE ns at' top a).Ok:=by
 have a1:=bF ns at' h1;have a2:=bR ns at' h1;have l:=lr ns at' (3+mixed ns at' top) (by omega);have d:=vy ns at' (3+mixed ns at' top-eu ns at' (3+mixed ns at' top)) (by omega);have n1:=bF ns (at' + 3) (many:=3) (by decide);have n2:=bR ns (at' + 3) (many:=3) (by decide);have n3:=bF ns (at' + 6) (many:=3) (by decide);have n4:=bR ns (at' + 6) (many:=3) (by decide);refine⟨?_,?_,l.1,?_,l.2.2,d.1,d.2,?_,?_,?_,?_⟩
 ·show 2<=3+mixed ns at' top;omega
 ·show 3+mixed ns at' top<=60;omega
 ·have:=l.2.1;show eu ns at' (3+mixed ns at' top)<=20;omega
 ·simp[mkE]
 ·simp only[mkE,B1,B7,List.length_range,Bi];omega
 ·intro p b;simp only[mkE,B8,Bc,List.mem_singleton]at b;rcases b with⟨k,_,rfl⟩|rfl
  ·have:=sP ns (at' + 4+(k:Int)) a;refine⟨this.1,by omega,λt c=>?_⟩;have:=this.2.2 t c;omega
  ·exact⟨by simp only;omega,by simp only;omega,λt c=>by cases c⟩
 ·intro p b;simp only[mkE,BR,List.getLast?_singleton,Option.some_or]at b;cases b;rfl
theorem sN (ns:List Int) (at' most top:Int) (a:Bool) (h:0<most):1<=(ia ns at' most top a).length/\((ia ns at' most top a).length:Int)<=most:=by have h1:=bF ns at' h;have h2:=bR ns at' h;simp only[ia,B7,List.length_range];omega
theorem uo (ns:List Int) (at' most top:Int) (a:Bool) (h1:0<top) (h2:top<=58):∀e∈ia ns at' most top a,e.Ok:=by intro e b;simp only[ia,Bc]at b;obtain⟨k,_,rfl⟩:=b;exact yb _ _ _ _ h1 h2
end RS
namespace RS
open PySem L2
structure Cs where
 RankError:Addr
 NoErrands:Addr
 NoRanks:Addr
 NoComings:Addr
 NoErrand:Addr
 NoNumber:Addr
 TooLong:Addr
 NoText:Addr
 Holding:Addr
 Jobs:Addr
abbrev Gf:=List PyData->Rs PyData
def bK (K:PySem.W.Frag) (mg:Str->Option Value) (x:Str) (st:Stmt) (ps:List Str):Prop:=∃f fd,Fun K x x st f fd/\Binds K fd ps []/\mg x=some (.ref f)
def eX (cs:Cs):Ds->Sr :=
 (aG (sIf (cOr (di (gT (g1 (cw "int") (ae 0)))) (gT (g1 (cw "bool") (ae 0)))) (bp (gC (.bool false))) bq)
  (bp (gN dLe dLe (ae 1) (ae 0) (ae 2))))
def eS (cs:Cs):Ds->Sr :=
 (bp (uO (g1 (cw "tuple") (ae 0)) (gN dLe dLe (ae 1) (gF eC (aa (ae 0) af)) (ae 2))))
def dE (cs:Cs) (aO aH:Gf):Ds->Sr :=
 (aG (sIf (cOr (di (gT (ak aH (aa (ae 0) (aa (gC (.int 2)) (aa (gC (.int 2)) af)))))) (di (gT (ak aO (aa (g2 dIx (ae 0) (gC (.int 0))) (aa (gC (.int 1)) (aa (gC (.int 20)) af))))))) (bp (gC (.bool false))) bq)
  (bp (gOr (g1 gJ (g2 dIx (ae 0) (gC (.int 1)))) (ak aO (aa (g2 dIx (ae 0) (gC (.int 1))) (aa (gC (.int 0)) (aa (g2 ji (gC (.int 4)) (gC (.int 1))) af)))))))
def da (cs:Cs) (aH a:Gf):Ds->Sr :=
 (aG (sIf (cOr (di (gT (ak aH (aa (ae 0) (aa (gC (.int 1)) (aa (gC (.int 4)) af)))))) (di (gT (gF qc (aa (gL (a5 1 (ck (ae 0)) aT (ak a (aa (ae 1) af)) aF)) af))))) (bp (gC (.bool false))) bq)
  (bp (g1 gJ (g2 dIx (g2 dIx (ae 0) (g1 eE (gC (.int 1)))) (gC (.int 1))))))
def b8 (cs:Cs) (aO a aH:Gf):Ds->Sr :=
 (aG (sIf (di (gT (ak aH (aa (ae 0) (aa (gC (.int 4)) (aa (gC (.int 4)) af)))))) (bp (gC (.bool false))) bq)
  (aG (aM [] 1 (g2 dIx (ae 0) (gC (.int 0))))
  (aG (aM [] 2 (g2 dIx (ae 0) (gC (.int 1))))
  (aG (aM [] 3 (g2 dIx (ae 0) (gC (.int 2))))
  (aG (sIf (di (gT (ak aO (aa (ae 1) (aa (gC (.int 2)) (aa (gC (.int 60)) af)))))) (bp (gC (.bool false))) bq)
  (aG (sIf (di (gT (ak aO (aa (ae 3) (aa (gC (.int 0)) (aa (gF jh (aa (gC (.int 20)) (aa (g2 ji (ae 1) (gC (.int 1))) af))) af)))))) (bp (gC (.bool false))) bq)
  (bp (uO (ak aO (aa (ae 2) (aa (gC (.int 1)) (aa (g2 ji (ae 1) (ae 3)) af)))) (ak a (aa (g2 dIx (ae 0) (gC (.int 3))) af))))))))))
def eG (cs:Cs) (aH a:Gf):Ds->Sr :=
 (aG (sIf (cOr (di (gT (ak aH (aa (ae 0) (aa (gC (.int 1)) (aa (gC (.int 6)) af)))))) (di (gT (gF qc (aa (gL (a5 1 (ck (ae 0)) aT (ak a (aa (ae 1) af)) aF)) af))))) (fP cs.NoErrands (aa (gC (.str "errands are a tuple of 1 to 6 errands (every, due, late, parts)")) af)) bq)
  (bp (ae 0)))
def dC (cs:Cs) (ah:Gf):Ds->Sr :=
 (aG (aM [7] 4 (g2 bI (gC (.int 3)) (ak ah (aa (ae 0) (aa (ae 1) (aa (ae 2) af))))))
  (aG (aM [7] 5 (g2 lI (ak ah (aa (ae 0) (aa (g2 bI (ae 1) (gC (.int 1))) (aa (gC (.int 4)) af)))) (gF ju (aa (g2 dEq (ak ah (aa (ae 0) (aa (g2 bI (ae 1) (gC (.int 2))) (aa (gC (.int 3)) af)))) (gC (.int 0))) af))))
  (aG (aM [7] 5 (gF jh (aa (ae 5) (aa (g2 ji (ae 4) (gC (.int 1))) af))))
  (aG (aM [7] 6 (g2 ji (ae 4) (ae 5)))
  (aG (sIf (gT (g2 dEq (ak ah (aa (ae 0) (aa (g2 bI (ae 1) (gC (.int 1))) (aa (gC (.int 3)) af)))) (gC (.int 0)))) (aM [7] 6 (g2 ji (ae 6) (ak ah (aa (ae 0) (aa (g2 bI (ae 1) (gC (.int 2))) (aa (ae 6) af)))))) bq)
  (aG (jG [7] 7 af)
  (aG (ig [7] (fh (aa (ak ah (aa (ae 0) (aa (g2 bI (ae 1) (gC (.int 3))) (aa (gC (.int 3)) af)))) af)) (dw 8) (aG (aM [7] 9 (ak ah (aa (ae 0) (aa (g2 bI (g2 bI (ae 1) (gC (.int 4))) (ae 8)) (aa (gC (.int 40)) af)))))
  (aG (gR [7] 7 (eU (aa (g2 bI (gC (.int 1)) (g2 dZ (ae 9) (gC (.int 4)))) (aa (g2 dIx (dq (aa (gC (.int 0)) (aa (gC (.int 1)) (aa (gC (.int 1)) (aa (gC (.int 0)) (aa (gC .none) af)))))) (g2 dZ (g2 ib (ae 9) (gC (.int 4))) (gC (.int 5)))) af))))
  (sIf (di (gT (ae 3))) (pJ 7 (g1 eE (gC (.int 1))) (eU (aa (g2 dIx (g2 dIx (ae 7) (g1 eE (gC (.int 1)))) (gC (.int 0))) (aa (gC .none) af)))) bq))))
  (bp (eU (aa (ae 4) (aa (ae 6) (aa (ae 5) (aa (gF br (aa (g2 bI (ae 7) (dq (aa (eU (aa (g2 bI (gC (.int 1)) (ak ah (aa (ae 0) (aa (g2 bI (ae 1) (gC (.int 6))) (aa (gC (.int 3)) af))))) (aa (gC .none) af))) af))) af)) af)))))))))))))
def c5 (cs:Cs) (aZ ah:Gf):Ds->Sr :=
 (aG (aM [] 5 (g2 bI (gC (.int 1)) (ak ah (aa (ae 0) (aa (ae 1) (aa (ae 2) af))))))
  (bp (gF br (aa (gL (a5 6 (fh (aa (ae 5) af)) aT (ak aZ (aa (ae 0) (aa (g2 bI (g2 bI (ae 1) (gC (.int 1))) (g2 lI (gC (.int 7)) (ae 6))) (aa (ae 3) (aa (ae 4) af))))) aF)) af))))
end RS
set_option maxHeartbeats 1000000
namespace RS
open PySem L2
variable {xs:List PyData} {a b:Int} {g:PyData->Bool} {e:PyData}
theorem tN (h:i∉O):(mask O δ)[i]?=δ[i]?:=by
 unfold mask;by_cases z:O=[]
 ·rw[if_pos z]
 ·rw[if_neg z,List.getElem?_mapIdx];cases δ[i]? with
  |none=>rfl
  |some d=>simp[h]
theorem aP (h:i∉O):ae i (mask O δ)=ae i δ:=by unfold ae;rw[tN h]
@[simp]theorem bP (d:PyData) (δ:Ds):ae 0 (some d::δ)=.ok d:=rfl
@[simp]theorem bL (i:Nat) (x:Option PyData) (δ:Ds):ae (i+1) (x::δ)=ae i δ:=rfl
@[simp]theorem il (d:PyData) (δ:Ds):gC d δ=.ok d:=rfl
@[simp]theorem m9 (f:PyData->Option PyData) (a:Ds->Rs PyData) (δ:Ds):g1 f a δ=(a δ).bind λx=>Rs.aW (f x):=rfl
@[simp]theorem fL (f:PyData->PyData->Option PyData) (a b:Ds->Rs PyData) (δ:Ds):g2 f a b δ=(a δ).bind λx=>(b δ).bind λy=>Rs.aW (f x y):=rfl
@[simp]theorem nK (f:List PyData->Option PyData) (a:Ds->Rs (List PyData)) (δ:Ds):gF f a δ=(a δ).bind λx=>Rs.aW (f x):=rfl
@[simp]theorem cV (δ:Ds):af δ=.ok []:=rfl
@[simp]theorem bb (a:Ds->Rs PyData) (r:Ds->Rs (List PyData)) (δ:Ds):aa a r δ=(a δ).bind λx=>(r δ).bind λxs=>.ok (x::xs):=rfl
@[simp]theorem fN (a:Ds->Rs (List PyData)) (δ:Ds):eU a δ=(a δ).bind λds=>.ok (.tuple ds):=rfl
@[simp]theorem mV (a:Ds->Rs (List PyData)) (δ:Ds):dq a δ=(a δ).bind λds=>.ok (.list ds):=rfl
@[simp]theorem cP (f:Gf) (a:Ds->Rs (List PyData)) (δ:Ds):ak f a δ=(a δ).bind f:=rfl
@[simp]theorem xi (a:Ds->Rs PyData) (δ:Ds):gT a δ=(a δ).bind truth:=rfl
@[simp]theorem kF (b:Bool):truth (.bool b)=.ok b:=rfl
@[simp]theorem fK (a:Ds->Rs Bool) (δ:Ds):di a δ=(a δ).bind λb=>.ok (!b):=rfl
@[simp]theorem AH (a b:Ds->Rs Bool) (δ:Ds):Aa a b δ=(a δ).bind λx=>if x=true then b δ else .ok false:=rfl
@[simp]theorem jY (a b:Ds->Rs Bool) (δ:Ds):cOr a b δ=(a δ).bind λx=>if x=true then .ok true else b δ:=rfl
@[simp]theorem zY (a b:Ds->Rs PyData) (δ:Ds):uO a b δ=(a δ).bind λx=>(truth x).bind λt=>if t=true then b δ else .ok (.bool false):=rfl
@[simp]theorem AQ (a b:Ds->Rs PyData) (δ:Ds):gOr a b δ=(a δ).bind λx=>(truth x).bind λt=>if t=true then .ok (.bool true) else b δ:=rfl
@[simp]theorem Aj (a:Ds->Rs PyData) (δ:Ds):AG a δ=(a δ).bind λx=>(truth x).bind λt=>.ok (.bool (!t)):=rfl
@[simp]theorem wd (a:Ds->Rs (List PyData)) (δ:Ds):gL a δ=(a δ).bind λds=>.ok (.list ds):=rfl
@[simp]theorem m7 (a:Ds->Rs PyData) (δ:Ds):ck a δ=(a δ).bind lF:=rfl
@[simp]theorem AL (ds:List PyData):lF (.list ds)=.ok ds:=rfl
@[simp]theorem wo (ds:List PyData):lF (.tuple ds)=.ok ds:=rfl
@[simp]theorem ir (a:Ds->Rs (List PyData)) (δ:Ds):fh a δ=(a δ).bind t7:=rfl
@[simp]theorem zU (a:Ds->Rs (List PyData)) (δ:Ds):yR a δ=(a δ).bind zD:=rfl
@[simp]theorem zW (a:Ds->Rs (List PyData)) (δ:Ds):zj a δ=(a δ).bind yS:=rfl
@[simp]theorem AS (a:Ds->Rs (List PyData)) (δ:Ds):gLR a δ=(a δ).bind sJ:=rfl
@[simp]theorem zQ (a:Ds->Rs (List PyData)) (δ:Ds):yM a δ=(a δ).bind km:=rfl
@[simp]theorem zS (ds:List PyData):km [.list ds]=.ok (oy ds):=rfl
@[simp]theorem zP (ds:List PyData):km [.tuple ds]=.ok (oy ds):=rfl
@[simp]theorem yD (f f':PyData->PyData->Option PyData) (a b c:Ds->Rs PyData) (δ:Ds):gN f f' a b c δ=(a δ).bind λx=>(b δ).bind λy=>(Rs.aW (f x y)).bind λz=>(truth z).bind λt=>if t=true then (c δ).bind λw=>Rs.aW (f' y w) else .ok (.bool false):=rfl
@[simp]theorem yw (δ:Ds):av δ=.ok none:=rfl
@[simp]theorem zT (g:Ds->Rs PyData) (δ:Ds):aR g δ=(g δ).bind rh:=rfl
@[simp]theorem zR (i:Int):rh (.int i)=.ok (some i):=rfl
@[simp]theorem sI (g:Ds->Rs PyData) (lo hi:Ds->Rs (Option Int)) (δ:Ds):cf g lo hi δ=(g δ).bind λd=>(lo δ).bind λl=>(hi δ).bind λh=>Rs.aW (uU d l h):=rfl
@[simp]theorem Ag (x:List PyData) (lo hi:Option Int):uU (.list x) lo hi=some (.list (cutD x lo hi)):=rfl
@[simp]theorem Ae (x:List PyData) (lo hi:Option Int):uU (.tuple x) lo hi=some (.tuple (cutD x lo hi)):=rfl
@[simp]theorem aQ (a b:Ds->Sr) (δ:Ds):aG a b δ=match a δ with|.nx δ'=>b δ'|r=>r:=rfl
@[simp]theorem zX (δ:Ds):bq δ=.nx δ:=rfl
@[simp]theorem oP (c:Ds->Rs Bool) (a b:Ds->Sr) (δ:Ds):sIf c a b δ=ofR (c δ) λt=>if t=true then a δ else b δ:=rfl
@[simp]theorem gE (g:Ds->Rs PyData) (δ:Ds):bp g δ=ofR (g δ) .rt:=rfl
@[simp]theorem zV (g:Ds->Rs PyData) (δ:Ds):jT g δ=ofR (g δ) λ_=>.nx δ:=rfl
@[simp]theorem uK (i:Nat) (g:Ds->Rs PyData) (δ:Ds):aM [] i g δ=if i<δ.length then ofR (g δ) λd=>.nx (δ.set i (some d)) else .no:=by unfold aM;rw[dR]
@[simp]theorem zJ (C:Addr) (gs:Ds->Rs (List PyData)) (δ:Ds):fP C gs δ=ofR (gs δ) λ_=>.rz C:=rfl
theorem sW (O:List Nat) (src:Ds->Rs (List PyData)) (tgt:PyData->Ds->Option Ds) (body:Ds->Sr) (δ:Ds):ig O src tgt body δ=ofR (src (mask O δ)) λds=>forL tgt body ds δ:=rfl
@[simp]theorem pq (d:PyData):bt (.rt d)=.ok d:=rfl
@[simp]theorem yu (δ:Ds):bt (.nx δ)=.ok .none:=rfl
@[simp]theorem yr (C:Addr):bt (.rz C)=.rz C:=rfl
@[simp]theorem yt:bt .no=.no:=rfl
@[simp]theorem fe (a b:Int):bI (.int a) (.int b)=some (.int (a+b)):=rfl
@[simp]theorem sZ (a b:Int):ji (.int a) (.int b)=some (.int (a-b)):=rfl
@[simp]theorem v8 (a b:Int):dZ (.int a) (.int b)=if 0<b then some (.int (a % b)) else none:=rfl
@[simp]theorem vY (a b:Int):ib (.int a) (.int b)=if 0<b/\b<1073741824 then some (.int (a / b)) else none:=rfl
@[simp]theorem Ah (a b:Int):dLt (.int a) (.int b)=some (.bool (decide (a<b))):=rfl
@[simp]theorem A1 (a b:Int):dLe (.int a) (.int b)=some (.bool (decide (a<=b))):=rfl
@[simp]theorem Av (a b:Int):dGt (.int a) (.int b)=some (.bool (decide (b<a))):=rfl
@[simp]theorem A5 (a b:Int):dGe (.int a) (.int b)=some (.bool (decide (b<=a))):=rfl
@[simp]theorem yG (a:Int):eE (.int a)=some (.int (-a)):=rfl
@[simp]theorem AU (d:PyData):gJ d=some (.bool (dD d)):=rfl
@[simp]theorem AO (d:PyData):zC d=some (.bool (!dD d)):=rfl
@[simp]theorem yA:dD .none=true:=rfl
@[simp]theorem yx (i:Int):dD (.int i)=false:=rfl
@[simp]theorem AW (x:List PyData) (i:Int):dIx (.tuple x) (.int i)=atI x i:=rfl
@[simp]theorem wb (x:List PyData) (i:Int):dIx (.list x) (.int i)=atI x i:=rfl
@[simp]theorem Au (x:List PyData):eC [.tuple x]=some (.int x.length):=rfl
@[simp]theorem Ay (x:List PyData):eC [.list x]=some (.int x.length):=rfl
@[simp]theorem wz (a b:Int):jh [.int a,.int b]=some (.int (if b<a then b else a)):=rfl
@[simp]theorem AE (a b:Int):yJ [.int a,.int b]=some (.int (if b>a then b else a)):=rfl
@[simp]theorem xE (b:Bool):ju [.bool b]=some (.int (if b then 1 else 0)):=rfl
@[simp]theorem xo (x:List PyData):br [.list x]=some (.tuple x):=rfl
@[simp]theorem AF (x:List PyData):br [.tuple x]=some (.tuple x):=rfl
@[simp]theorem mH (a b:Int):dEq (.int a) (.int b)=some (.bool (a==b)):=by
 have h:∀i:Int,PySem.SeqAt.shaped (.int i)=true:=λi=>by simp[PySem.SeqAt.shaped,PyData.canLay0,PyData.depth]
 unfold dEq;rw[h,h];simp[aC,PyData.eqv]
@[simp]theorem AV (a b:Int):dNe (.int a) (.int b)=some (.bool (!(a==b))):=by
 have h:∀i:Int,PySem.SeqAt.shaped (.int i)=true:=λi=>by simp[PySem.SeqAt.shaped,PyData.canLay0,PyData.depth]
 unfold dNe;rw[h,h];simp[aC,PyData.eqv]
theorem kX {xs:List α} {i:Int} (h:i=j):atI xs i=xs[j]?:=by
 subst h;unfold atI ixN;by_cases z:(j:Int)<xs.length
 ·rw[if_pos (by omega),if_pos z];simp
 ·rw[if_pos (by omega),if_neg z];simp;omega
@[simp]theorem AX (xs:List α):atI xs 0=xs[0]?:=kX (j:=0) rfl
@[simp]theorem AZ (xs:List α):atI xs 1=xs[1]?:=kX (j:=1) rfl
@[simp]theorem AY (xs:List α):atI xs 2=xs[2]?:=kX (j:=2) rfl
@[simp]theorem A3 (xs:List α):atI xs 3=xs[3]?:=kX (j:=3) rfl
theorem j9 (xs:List α):atI xs (-1)=xs.getLast?:=by
 unfold atI ixN;rw[if_neg (by decide)];by_cases z:xs=[]
 ·subst z;rfl
 ·have:0<xs.length:=List.length_pos_iff.mpr z;rw[if_pos (by omega),List.getLast?_eq_getElem?];simp only[C9];congr 1;omega
theorem lQ (g:α->Bool) (xs:List α):qc [.list (xs.map λd=>.bool (g d))]=some (.bool (xs.all g)):=by
 have a:ei (xs.map λd=>PyData.bool (g d))=some (xs.map g):=by rw[show (xs.map λd=>PyData.bool (g d))=(xs.map g).map PyData.bool by rw[Bm];rfl];exact ja _
 show (ei (xs.map λd=>PyData.bool (g d))).map (λns=>PyData.bool (ns.all id))=_;rw[a,C4,List.all_map];rfl
theorem comp_map {elt:Ds->Rs PyData} {δ:Ds} {f:PyData->PyData}:∀(ds:List PyData),(∀d∈ds,elt (δ++[some d])=.ok (f d))->eI aT elt aF δ ds=.ok (ds.map f)
 |[],_=>rfl
 |d::r,h=>by unfold eI;simp only[aF,aT,Rs.ft,Rs.ag,if_true,h d List.mem_cons_self,comp_map r λe a=>h e (A6 _ a),Bk]
theorem cY {elt:Ds->Rs PyData} {f:PyData->PyData} (hn:δ.length=n0) (a:src δ=.ok ds) (hl:ds.length<=1000000) (h:∀d∈ds,elt (δ++[some d])=.ok (f d)) :
  a5 n0 src aT elt aF δ=.ok (ds.map f):=by
 unfold a5;rw[if_pos hn,a];simp only[Rs.ag,if_pos hl];exact comp_map ds h
theorem iO:∀{ds:List PyData},dH ds=true->∀d∈ds,aC d=true
 |[],_,d,hd=>by cases hd
 |e::r,h,d,hd=>by
  unfold dH at h;obtain⟨h1,h2⟩:=BG.mp h;rcases List.mem_cons.mp hd with z|z
  ·rw[z];exact h1
  ·exact iO h2 d z
theorem cH (h:aC (.tuple ds)=true):∀d∈ds,aC d=true:=by unfold aC at h;exact iO h
def aO:Gf
 |[d,.int a,.int b]=>if aC d then .ok (.bool (isWhole d a b)) else .no
 |_=>.no
theorem lp {f:PyData->Int->Int->Rs PyData} (h:(match ds with|[x0,.int x1,.int x2]=>f x0 x1 x2|_=>.no)≠.no):∃x0 x1 x2,ds=[x0,.int x1,.int x2]/\f x0 x1 x2≠.no:=by
 rcases ds with _|⟨x0,_|⟨x1,_|⟨x2,_|⟨y,ys⟩⟩⟩⟩
 ·exact absurd rfl h
 ·exact absurd rfl h
 ·first|exact absurd rfl h|(cases x1 <;> exact absurd rfl h)
 ·skip
  cases x1 with
  |int x1 =>
   cases x2 with
   |int x2 =>exact⟨_,_,_,rfl,h⟩
   |_=>exact absurd rfl h
  |_=>first|exact absurd rfl h|(cases x2 <;> exact absurd rfl h)
 ·first|exact absurd rfl h|(cases x1 <;> first|exact absurd rfl h|(cases x2 <;> exact absurd rfl h))
abbrev LLq (G:Ds->Sr) (n k:Nat) (g:Gf):Prop:=∀ds,ds.length=n->g ds≠.no->bt (G (ds.map some++List.replicate k none))=g ds
theorem mR (cs:Cs):LLq (eX cs) 3 0 aO:=by
 intro ds hl c;obtain⟨d,a,b,f,e⟩:=lp c;clear c;subst f;have c:=e;clear e;unfold aO
 ·skip
  split at c
  ·rename_i hd;simp only[hd,if_true];cases d with
   |int i=>by_cases h:a<=i <;> simp[eX,cw,hd,fB,tyD,isWhole,h]
   |dict _=>simp[aC]at hd
   |_=>simp[eX,cw,hd,fB,tyD,isWhole]
  ·exact absurd rfl c
def aH:Gf
 |[d,.int a,.int b]=>if aC d then .ok (.bool (bj d a b)) else .no
 |_=>.no
theorem mX (cs:Cs):LLq (eS cs) 3 0 aH:=by
 intro ds hl c;obtain⟨d,a,b,f,e⟩:=lp c;clear c;subst f;have c:=e;clear e;unfold aH
 ·skip
  split at c
  ·rename_i hd;simp only[hd,if_true];cases d with
   |tuple x=>by_cases h:a<=(x.length:Int) <;> simp[eS,cw,hd,fB,tyD,bj,h]
   |dict _=>simp[aC]at hd
   |_=>simp[eS,cw,hd,fB,tyD,bj]
  ·exact absurd rfl c
def dz (g:PyData->Bool):Gf
 |[d]=>if aC d then .ok (.bool (g d)) else .no
 |_=>.no
theorem iF (h:dz g ds≠.no):∃d,ds=[d]/\aC d=true/\dz g ds=.ok (.bool (g d)):=by
 unfold dz at h ⊢;split at h
 ·rename_i d;split at h
  ·rename_i hd;exact⟨d,rfl,hd,by simp[hd]⟩
  ·exact absurd rfl h
 ·exact absurd rfl h
theorem i7 {d:PyData} (h:aC d=true):dz g [d]=.ok (.bool (g d)):=by unfold dz;simp[h]
@[simp]theorem yv {d:PyData} (h:aC d=true):aH [d,.int a,.int b]=.ok (.bool (bj d a b)):=by unfold aH;simp[h]
@[simp]theorem wa {d:PyData} (h:aC d=true):aO [d,.int a,.int b]=.ok (.bool (isWhole d a b)):=by unfold aO;simp[h]
theorem lC {d:PyData} (h:bj d 2 2=true):∃a b,d=.tuple [a,b]:=by
 cases d with
 |tuple ds =>
  simp[bj]at h
  match ds,h with
  |[a,b],_=>exact⟨a,b,rfl⟩
  |[],h=>simp at h
  |[_],h=>simp at h
  |_::_::_::_,h=>simp at h;omega
 |_=>cases h
theorem qb (cs:Cs):LLq (dE cs aO aH) 1 0 (dz aY):=by
 intro ds hl c;obtain⟨d,rfl,hd,e⟩:=iF c;rw[e];cases e1:bj d 2 2 with
 |false =>
  have:aY d=false:=by
   unfold aY;split
   ·simp[bj]at e1
   ·rfl
  simp[dE,hd,e1,this]
 |true =>
  obtain⟨a,b,rfl⟩:=lC e1;have ha:=cH hd a (by simp);have f:=cH hd b (by simp);cases e2:isWhole a 1 20 with
  |false=>simp[dE,hd,ha,e1,e2,aY]
  |true =>
   cases b with
   |none=>simp[dE,hd,ha,e1,e2,aY]
   |_=>simp[dE,hd,ha,f,e1,e2,aY,dD]
theorem lS (cs:Cs):LLq (da cs aH (dz aY)) 1 0 (dz bH):=by
 intro ds hl c;obtain⟨d,rfl,hd,e⟩:=iF c;rw[e];cases e1:bj d 1 4 with
 |false =>
  have:bH d=false:=by
   cases d with
   |tuple ds =>simp only[bj,Bt,decide_eq_false_iff_not]at e1;simp only[bH,Bt,decide_eq_false_iff_not];refine .inl (.inl ?_);omega
   |_=>rfl
  simp[da,hd,e1,this]
 |true =>
  obtain⟨xs,rfl⟩:∃ds,d=.tuple ds:=by cases d <;> first|exact⟨_,rfl⟩|cases e1
  have hn:1<=xs.length/\xs.length<=4:=by simp only[bj,B3,decide_eq_true_eq]at e1;omega
  have hc:a5 1 (ck (ae 0)) aT (ak (dz aY) (aa (ae 1) af)) aF [some (.tuple xs)]=.ok (xs.map λd=>.bool (aY d)) :=
   cY rfl rfl (by omega) λd h=>by simp[i7 (cH hd d h)]
  have k:=lQ aY xs;cases e2:xs.all aY with
  |false=>simp[da,hd,e1,hc,k,e2,bH]
  |true =>
   have c:xs≠[]:=by intro z;subst z;simp at hn
   have f:xs.getLast?=some (xs.getLast c):=List.getLast?_eq_some_getLast c;have g:=Bg.mp e2 _ (List.getLast_mem c);obtain⟨a,b,i⟩:∃a b,xs.getLast c=.tuple [a,b]:=by
    revert g;generalize xs.getLast c=z;intro g;unfold aY at g;split at g
    ·exact⟨_,_,rfl⟩
    ·cases g
   rw[i]at f;have j:dW xs=dD b:=by unfold dW;rw[f];cases b <;> rfl
   simp[da,hd,e1,hc,k,e2,bH,j9,f,j,hn.1,hn.2]
theorem lg {d:PyData} (h:bj d 4 4=true):∃a b c e,d=.tuple [a,b,c,e]:=by
 cases d with
 |tuple ds =>
  simp[bj]at h
  match ds,h with
  |[a,b,c,e],_=>exact⟨a,b,c,e,rfl⟩
  |[],h=>simp at h
  |[_],h=>simp at h
  |[_,_],h=>simp at h
  |[_,_,_],h=>simp at h
  |_::_::_::_::_::_,h=>simp at h;omega
 |_=>cases h
theorem de {d:PyData} (h:isWhole d a b=true):∃i,d=.int i/\a<=i/\i<=b:=by
 cases d with
 |int i=>simp[isWhole]at h;exact⟨i,rfl,h⟩
 |_=>cases h
theorem jf {a b c:PyData} (h:isWhole a 2 60=false):aA (.tuple [a,b,c,e])=false:=by
 cases a with
 |int i =>
  cases c with
  |int l =>simp only[isWhole,Bt,decide_eq_false_iff_not]at h;simp only[aA,Bt,decide_eq_false_iff_not];omega
  |_=>rfl
 |_=>rfl
theorem jx {b c:PyData} {i:Int} (h:isWhole c 0 (if i-1<20 then i-1 else 20)=false):aA (.tuple [.int i,b,c,e])=false:=by
 cases c with
 |int l =>simp only[isWhole,Bt,decide_eq_false_iff_not]at h;simp only[aA,Bt,decide_eq_false_iff_not];exact .inl (.inl (.inr h))
 |_=>rfl
theorem jv {b:PyData} {i l:Int} (h1:2<=i/\i<=60) (h2:0<=l/\l<=if i-1<20 then i-1 else 20):aA (.tuple [.int i,b,.int l,e])=(isWhole b 1 (i-l)&&bH e):=by simp[aA,h1.1,h1.2,h2.1,h2.2]
theorem ml (cs:Cs):LLq (b8 cs aO (dz bH) aH) 1 3 (dz aA):=by
 intro ds hl h;obtain⟨d,rfl,hd,e⟩:=iF h;rw[e];cases e1:bj d 4 4 with
 |false =>
  have:aA d=false:=by
   unfold aA;split
   ·simp[bj]at e1
   ·rfl
  simp[b8,hd,e1,this]
 |true =>
  obtain⟨a,b,c,q,rfl⟩:=lg e1;have ha:=cH hd a (by simp);have g:=cH hd b (by simp);have hc:=cH hd c (by simp);have f:=cH hd q (by simp);cases e2:isWhole a 2 60 with
  |false=>simp[b8,hd,ha,g,hc,f,e1,e2,jf e2]
  |true =>
   obtain⟨i,rfl,i1,i2⟩:=de e2;cases e3:isWhole c 0 (if i-1<20 then i-1 else 20) with
   |false=>simp[b8,hd,ha,g,hc,f,e1,e2,e3,jx e3]
   |true =>
    obtain⟨l,rfl,l1,l2⟩:=de e3;have j:=jv (b:=b) (e:=q) ⟨i1,i2⟩ ⟨l1,l2⟩;cases e4:isWhole b 1 (i-l) with
    |false=>simp[b8,hd,ha,g,hc,f,e1,e2,e3,e4,j]
    |true=>simp[b8,hd,ha,g,hc,f,e1,e2,e3,e4,j,i7 f]
def aw (cs:Cs):Gf
 |[d]=>if aC d then (if au d then .ok d else .rz cs.NoErrands) else .no
 |_=>.no
theorem p8 (cs:Cs):LLq (eG cs aH (dz aA)) 1 0 (aw cs):=by
 intro ds hl a;obtain⟨d,rfl⟩:∃d,ds=[d]:=by
  match ds,hl with
  |[d],_=>exact⟨d,rfl⟩
 have hd:aC d=true:=by
  unfold aw at a;by_cases z:aC d=true
  ·exact z
  ·simp[z]at a
 have e:aw cs [d]=if au d then .ok d else .rz cs.NoErrands:=by unfold aw;simp[hd]
 rw[e];cases e1:bj d 1 6 with
 |false =>
  have:au d=false:=by
   cases d with
   |tuple ds =>simp only[bj,Bt,decide_eq_false_iff_not]at e1;simp only[au,Bt,decide_eq_false_iff_not];refine .inl ?_;omega
   |_=>rfl
  simp[eG,hd,e1,this]
 |true =>
  obtain⟨xs,rfl⟩:∃ds,d=.tuple ds:=by cases d <;> first|exact⟨_,rfl⟩|cases e1
  have hn:1<=xs.length/\xs.length<=6:=by simp only[bj,B3,decide_eq_true_eq]at e1;omega
  have hc:a5 1 (ck (ae 0)) aT (ak (dz aA) (aa (ae 1) af)) aF [some (.tuple xs)]=.ok (xs.map λd=>.bool (aA d)) :=
   cY rfl rfl (by omega) λd b=>by simp[i7 (cH hd d b)]
  have c:=lQ aA xs;cases e2:xs.all aA with
  |false=>simp[eG,hd,e1,hc,c,e2,au]
  |true=>simp[eG,hd,e1,hc,c,e2,au,hn.1,hn.2]
theorem je {β:Type} {tgt:PyData->Ds->Option Ds} {body:Ds->Sr} (inv:Nat->Ds->Prop):∀(ds:List PyData) (k:Nat),(∀(i:Nat) d δ,ds[i]?=some d->inv (k+i) δ->∃b a,tgt d δ=some b/\body b=.nx a/\inv (k+i+1) a) ->
  ∀δ,inv k δ->∃δ',forL tgt body ds δ=.nx δ'/\inv (k+ds.length) δ'
 |[],k,_,δ,h=>⟨δ,rfl,h⟩
 |d::r,k,hs,δ,h=>by
  obtain⟨b,a,e1,e2,h2⟩:=hs 0 d δ rfl h;obtain⟨δ',c,e⟩:=je (β:=β) inv r (k+1) (λi x δ f hi=>by have:=hs (i+1) x δ (by simpa using f) (by rw[show k+(i+1)=k+1+i by omega];exact hi);rw[show k+1+i+1=k+(i+1)+1 by omega];exact this) a h2
  exact⟨δ',by unfold forL;rw[e1];simp only[e2];exact c,by rw[Bn,show k+(r.length+1)=k+1+r.length by omega];exact e⟩
def tf:PyData->Option Int
 |.int i=>some i
 |_=>none
def bN:PyData->Int×Option Int
 |.tuple [.int l,t]=>(l,tf t)
 |_=>(0,none)
def deE:PyData->Er
 |.tuple [.int e,.int d,.int l,.tuple ps]=>⟨e,d,l,ps.map bN⟩
 |_=>⟨0,0,0,[]⟩
theorem AR (e:Int) (d:Int) (l:Int) (ps:List PyData):deE (.tuple [.int e,.int d,.int l,.tuple ps])=⟨e,d,l,ps.map bN⟩:=rfl
def nG:PyData->List Er
 |.tuple ds=>ds.map deE
 |_=>[]
theorem nM (o:Option Int):tf (f6 o)=o:=by cases o <;> rfl
theorem iU (p:Int×Option Int):bN (az p)=p:=by obtain⟨l,t⟩:=p;simp[az,bN,nM]
theorem v3 (e:Er):deE e.d=e:=by obtain⟨a,b,c,ps⟩:=e;show Er.mk a b c ((ps.map az).map bN)=_;rw[Bm,show bN∘az=id from funext iU,List.map_id]
theorem part_of {d:PyData} (h:aY d=true):az (bN d)=d/\1<=(bN d).1/\(bN d).1<=20/\∀t,(bN d).2=some t->0<=t/\t<=3:=by
 unfold aY at h;split at h
 ·rename_i a b;rw[B3]at h;obtain⟨i,rfl,h1,h2⟩:=de h.1;have c:=h.2;cases b with
  |none=>exact⟨rfl,h1,h2,λt q=>by cases q⟩
  |int t =>obtain⟨t',q,e,f⟩:=de c;cases q;exact⟨rfl,h1,h2,λt q=>by cases q;exact⟨e,f⟩⟩
  |_=>cases c
 ·cases h
theorem qi {d:PyData} (h:aA d=true):∃e f l ps,d=.tuple [.int e,f,.int l,ps]:=by
 cases d <;> first|(cases h;done)|skip
 rename_i xs;rcases xs with _|⟨a,_|⟨b,_|⟨c,_|⟨d,_|⟨x,r⟩⟩⟩⟩⟩ <;> first|(cases h;done)|skip
 ·cases a <;> (cases h;done)
 ·cases a <;> (cases h;done)
 ·cases a <;> first|(cases h;done)|skip
  cases c <;> (cases h;done)
 ·cases a <;> first|(cases h;done)|skip
  cases c <;> first|(cases h;done)|skip
  exact⟨_,_,_,_,rfl⟩
 ·cases a <;> first|(cases h;done)|skip
  cases c <;> (cases h;done)
theorem kg {d:PyData} (h:aA d=true):(deE d).d=d/\(deE d).Ok:=by
 obtain⟨e,g,l,ps,rfl⟩:=qi h
 ·have h:(decide (2<=e)&&decide (e<=60)&&(decide (0<=l)&&decide (l<=(if e-1<20 then e-1 else 20)))&&isWhole g 1 (e-l)&&bH ps)=true:=h;simp only[B3,decide_eq_true_eq]at h;obtain⟨⟨⟨⟨h1,h2⟩,k,m⟩,n⟩,c⟩:=h;obtain⟨g,rfl,d1,d2⟩:=de n;unfold bH at c;split at c
  ·rename_i ps;simp only[B3,decide_eq_true_eq]at c;obtain⟨⟨⟨p1,p2⟩,o⟩,f⟩:=c;have i:=Bg.mp o;have j:l<=20/\l<e:=by split at m <;> omega
   refine⟨?_,?_⟩
   ·have r:ps.map (az∘bN)=ps:=by
     conv=>rhs;rw[<-List.map_id ps]
     exact Bz λp b=>(part_of (i p b)).1
    show PyData.tuple [.int e,.int g,.int l,.tuple ((ps.map bN).map az)]=_;rw[Bm,r]
   ·refine⟨h1,h2,k,j.1,j.2,d1,d2,λz=>?_,by show (ps.map bN).length<=4;rw[B7];exact p2,λp b=>?_,λp b=>?_⟩
    ·have:ps=[]:=List.map_eq_nil_iff.mp (show ps.map bN=[] from z);subst this;simp at p1
    ·obtain⟨q,s,rfl⟩:=Bc.mp (show p∈ps.map bN from b);exact (part_of (i q s)).2
    ·have b:(ps.map bN).getLast?=some p:=b;rw[List.getLast?_map]at b;unfold dW at f;cases q:ps.getLast? with
     |none=>rw[q]at b;cases b
     |some z =>
      rw[q]at b f;simp at b;split at f
      ·rename_i a heq;cases heq;subst b;unfold bN;split
       ·rename_i l t e1;injection e1 with e1;injection e1 with _ e1;injection e1 with e1 _
        rw[<-e1];rfl
       ·rfl
      ·cases f
  ·cases c
theorem mQ {d:PyData} (h:au d=true):a4 (nG d)=d/\1<=(nG d).length/\(nG d).length<=6/\∀e∈nG d,e.Ok:=by
 unfold au at h;split at h
 ·rename_i ds;simp only[B3,decide_eq_true_eq]at h;obtain⟨⟨h1,h2⟩,b⟩:=h;have a:=Bg.mp b;refine⟨?_,by simpa[nG] using h1,by simpa[nG] using h2,λe c=>?_⟩
  ·simp only[nG,a4,Bm];congr 1
   conv=>rhs;rw[<-List.map_id ds]
   exact Bz λp f=>(kg (a p f)).1
  ·obtain⟨q,g,rfl⟩:=Bc.mp (show e∈ds.map deE from c);exact (kg (a q g)).2
 ·cases h
def deI:PyData->Int
 |.int i=>i
 |_=>0
def rF (ns:List Int):PyData:=.tuple (ns.map .int)
structure v5 (n:Nat) (rs:List Int):Prop where
 len:rs.length=n
 rng:∀r∈rs,0<=r/\r<n
 nd:rs.Nodup
theorem yf (p:Int×Option Int):dIx (az p) (.int 0)=some (.int p.1):=rfl
theorem AN (e:Er):dIx e.d (.int 3)=some (.tuple (e.parts.map az)):=rfl
@[simp]theorem Aw (go ga:Ds->Rs PyData) (δ:Ds):Ap go ga δ=(go δ).bind λd=>match d with|.tuple xs=>(ga δ).bind λy=>Rs.aW (fj xs y)|_=>.no:=rfl
theorem rJ:cutD xs (some (k:Int)) none=xs.drop k:=by
 unfold cutD;have e1:HT.sIx xs.length 0 (some (k:Int))=min k xs.length:=HT.oq _ _ _;have e2:HT.sIx xs.length xs.length none=xs.length:=rfl;rw[e1,e2];by_cases h:k<=xs.length
 ·rw[Nat.min_eq_left h];exact BP (by simp)
 ·rw[Nat.min_eq_right (by omega),List.drop_of_length_le (B0 _),List.drop_of_length_le (by omega)];simp
theorem xR:cutD xs none (some (k:Int))=xs.take k:=by unfold cutD;have e1:HT.sIx xs.length 0 none=0:=rfl;have e2:HT.sIx xs.length xs.length (some (k:Int))=min k xs.length:=HT.oq _ _ _;rw[e1,e2];simp
theorem qB (h1:-(2 ^ 64)<a) (h2:a<2 ^ 64):lI (.int a) (.int b)=some (.int (a*b)):=by show (if _ then _ else _)=_;rw[if_pos (.inl ⟨h1,h2⟩)]
def cO:PyData->Option (List Int)
 |.dict [(.none,.list l)]=>iL l
 |_=>none
theorem cU (ns:List Int):cO (ai ns)=some ns:=jS ns
def ah:Gf
 |[s,.int k,.int many]=>(match cO s with
  |some ns=>if 0<=k/\0<many then .ok (.int (mixed ns k many)) else .no
  |none=>.no)
 |_=>.no
theorem bU {k:Int} (h1:0<=k) (h2:0<many):ah [ai ns,.int k,.int many]=.ok (.int (mixed ns k many)):=by unfold ah;simp[cU,h1,h2]
theorem gQ (O:List Nat) (i:Nat) (g:Ds->Rs PyData) (δ:Ds):aM O i g δ=if i<δ.length then ofR (g (mask O δ)) λd=>.nx (δ.set i (some d)) else .no:=rfl
def aZ:Gf
 |[s,.int a,.int top,.bool tools]=>(match cO s with
  |some ns=>if 0<=a/\0<top/\top<=58 then .ok (mkE ns a top tools).d else .no
  |none=>.no)
 |_=>.no
theorem eM {top:Int} {b:Bool} (h1:0<=a) (h2:0<top) (c:top<=58):aZ [ai ns,.int a,.int top,.bool b]=.ok (mkE ns a top b).d:=by unfold aZ;simp[cU,h1,h2,c]
theorem pf (o:Option Int):cT (f6 o)=true:=by cases o <;> (unfold f6 cT;rfl)
theorem nh (p:Int×Option Int):cT (az p)=true:=by unfold az cT fO;rw[show cT (.int p.1)=true by unfold cT;rfl];unfold fO;rw[pf];unfold fO;rfl
theorem qD {i:Int} (h0:0<=i) (h1:i<5):atI [PyData.int 0,PyData.int 1,PyData.int 1,PyData.int 0,PyData.none] i=some (f6 (fE i)):=by
 have:i=0\/i=1\/i=2\/i=3\/i=4:=by omega
 rcases this with rfl|rfl|rfl|rfl|rfl <;> rfl
theorem mw (ns:List Int) (a top:Int) (b:Bool) (e la f:PyData) (ha:0<=a) (L:List PyData) (hL:L.length<1000) (i:Nat) (x8 g:Option PyData) :
   aG (aM [7] 9 (ak ah (aa (ae 0) (aa (g2 bI (g2 bI (ae 1) (gC (.int 4))) (ae 8)) (aa (gC (.int 40)) af)))))
   (aG (gR [7] 7 (eU (aa (g2 bI (gC (.int 1)) (g2 dZ (ae 9) (gC (.int 4)))) (aa (g2 dIx (dq (aa (gC (.int 0)) (aa (gC (.int 1)) (aa (gC (.int 1)) (aa (gC (.int 0)) (aa (gC .none) af)))))) (g2 dZ (g2 ib (ae 9) (gC (.int 4))) (gC (.int 5)))) af))))
   (sIf (di (gT (ae 3))) (pJ 7 (g1 eE (gC (.int 1))) (eU (aa (g2 dIx (g2 dIx (ae 7) (g1 eE (gC (.int 1)))) (gC (.int 0))) (aa (gC .none) af)))) bq))
     [some (ai ns),some (.int a),some (.int top),some (.bool b),some e,some la,some f,some (.list L),some (.int (0+(i:Int))),g]
  =.nx [some (ai ns),some (.int a),some (.int top),some (.bool b),some e,some la,some f,some (.list (L++[az (cC ns (a+4+(i:Int)) b)])),some (.int (0+(i:Int))),some (.int (mixed ns (a+4+(0+(i:Int))) 40))]:=by
 have hm:=bU (ns:=ns) (k:=a+4+(0+(i:Int))) (many:=40) (by omega) (by decide);have m0:=bF ns (a+4+(0+(i:Int))) (many:=40) (by decide);have m1:=bR ns (a+4+(0+(i:Int))) (many:=40) (by decide);have j:a+4+(0+(i:Int))=a+4+(i:Int):=by omega
 generalize hc:mixed ns (a+4+(0+(i:Int))) 40=c at *;have l:0<=c / 4 % 5:=BB _ (by decide);have m:c / 4 % 5<5:=Bx _ (by decide);have n:=qD l m;have h:cC ns (a+4+(i:Int)) b=(1+c % 4,if b then fE (c / 4 % 5) else none):=by unfold cC;rw[<-j,hc]
 have o:aM [7] 9 (ak ah (aa (ae 0) (aa (g2 bI (g2 bI (ae 1) (gC (.int 4))) (ae 8)) (aa (gC (.int 40)) af)))) [some (ai ns),some (.int a),some (.int top),some (.bool b),some e,some la,some f,some (.list L),some (.int (0+(i:Int))),g]
    =.nx [some (ai ns),some (.int a),some (.int top),some (.bool b),some e,some la,some f,some (.list L),some (.int (0+(i:Int))),some (.int c)]:=by
   rw[gQ,if_pos (by simp)];simp only[cP,bb,cV,fL,aP (show 0∉[7] by decide),aP (show 1∉[7] by decide),aP (show 8∉[7] by decide),bP,bL,il,Rs.ag,fe,Rs.aN,hm,a9];rfl
 have s2:gR [7] 7 (eU (aa (g2 bI (gC (.int 1)) (g2 dZ (ae 9) (gC (.int 4)))) (aa (g2 dIx (dq (aa (gC (.int 0)) (aa (gC (.int 1)) (aa (gC (.int 1)) (aa (gC (.int 0)) (aa (gC .none) af)))))) (g2 dZ (g2 ib (ae 9) (gC (.int 4))) (gC (.int 5)))) af)))
     [some (ai ns),some (.int a),some (.int top),some (.bool b),some e,some la,some f,some (.list L),some (.int (0+(i:Int))),some (.int c)]
    =.nx [some (ai ns),some (.int a),some (.int top),some (.bool b),some e,some la,some f,some (.list (L++[az (1+c % 4,fE (c / 4 % 5))])),some (.int (0+(i:Int))),some (.int c)]:=by
   unfold gR;simp only[List.getElem?_cons_succ,List.getElem?_cons_zero];simp only[fN,mV,bb,cV,fL,aP (show 9∉[7] by decide),bP,bL,il,Rs.ag,fe,Rs.aN,v8,vY,if_pos (show (0:Int)<4 by decide),if_pos (show (0:Int)<5 by decide),if_pos (show (0:Int)<4/\(4:Int)<1073741824 by decide),wb,n,a9,if_pos (show L.length<1000000 by omega)];rfl
 rw[aQ,o];simp only;rw[aQ,s2];simp only;cases b with
 |true =>rw[h];simp
 |false =>
   rw[h];have hl:atI (L++[az (1+c % 4,fE (c / 4 % 5))]) (-1)=some (az (1+c % 4,fE (c / 4 % 5))):=by rw[j9];simp
   have p:ixN (L++[az (1+c % 4,fE (c / 4 % 5))]).length (-1)=some L.length:=by unfold ixN;rw[if_neg (by decide),B1,Bi,if_pos (by omega)];congr 1;omega
   have q:(L++[az (1+c % 4,fE (c / 4 % 5))]).set L.length (.tuple [.int (1+c % 4),.none])=L++[az (1+c % 4,none)]:=by rw[List.set_append_right _ _ (B0 _)];simp;rfl
   have r:cT (.tuple [.int (1+c % 4),.none])=true:=nh (1+c % 4,none);rw[oP];simp only[fK,xi,bP,bL,Rs.ag,kF,a9,Bool.not_false,if_true];unfold pJ;simp only[List.getElem?_cons_succ,List.getElem?_cons_zero,fN,bb,cV,fL,m9,bP,bL,il,Rs.ag,yG,Rs.aN,wb,hl,yf,a9,p,r,if_true,q];rfl
theorem iq {j:Int} (h0:0<=j) (h1:j<1000000):t7 [.int j]=.ok (bW 0 j.toNat):=by show (if _ then _ else _)=_;rw[if_pos (by omega)]
theorem fG {lo:Int} {d:PyData} (h:(bW lo n)[i]?=some d):i<n/\d=.int (lo+(i:Int)):=by have hi:=(Bw.mp h).1;rw[cE]at hi;unfold bW at h;rw[BF,List.getElem?_range hi]at h;exact⟨hi,(Option.some.inj h).symm⟩
theorem iR (n:Nat) (g:Nat->α):(List.range (n+1)).map g=(List.range n).map g++[g n]:=by rw[List.range_succ,BV];rfl
theorem qx {f:PyData->Int->Int->Bool->Rs PyData} (h:(match ds with|[x0,.int x1,.int x2,.bool x3]=>f x0 x1 x2 x3|_=>.no)≠.no):∃x0 x1 x2 x3,ds=[x0,.int x1,.int x2,.bool x3]/\f x0 x1 x2 x3≠.no:=by
 rcases ds with _|⟨x0,_|⟨x1,_|⟨x2,_|⟨x3,_|⟨y,ys⟩⟩⟩⟩⟩
 ·exact absurd rfl h
 ·exact absurd rfl h
 ·first|exact absurd rfl h|(cases x1 <;> exact absurd rfl h)
 ·first|exact absurd rfl h|(cases x1 <;> first|exact absurd rfl h|(cases x2 <;> exact absurd rfl h))
 ·skip
  cases x1 with
  |int x1 =>
   cases x2 with
   |int x2 =>
    cases x3 with
    |bool x3 =>exact⟨_,_,_,_,rfl,h⟩
    |_=>exact absurd rfl h
   |_=>first|exact absurd rfl h|(cases x3 <;> exact absurd rfl h)
  |_=>first|exact absurd rfl h|(cases x2 <;> first|exact absurd rfl h|(cases x3 <;> exact absurd rfl h))
 ·first|exact absurd rfl h|(cases x1 <;> first|exact absurd rfl h|(cases x2 <;> first|exact absurd rfl h|(cases x3 <;> exact absurd rfl h)))
theorem kR (cs:Cs):LLq (dC cs ah) 4 6 aZ:=by
 intro ds hl c;obtain⟨s,a,top,b,q,p⟩:=qx c;clear c;subst q;have c:=p;clear p
 ·skip
  split at c
  ·rename_i ns h;have es:s=ai ns:=by
    unfold cO at h;split at h
    ·rename_i l;rw[fI h];rfl
    ·cases h
   subst es;split at c
   ·rename_i hc;obtain⟨ha,j,m⟩:=hc;rw[eM ha j m];show bt (dC cs ah [some (ai ns),some (.int a),some (.int top),some (.bool b),none,none,none,none,none,none])=_;have hm:∀k many:Int,0<=k->0<many->ah [ai ns,.int k,.int many]=.ok (.int (mixed ns k many)):=λk many h1 h2=>bU h1 h2
    have a1:=bF ns a j;have lb:=lr ns a (3+mixed ns a top) (by omega);have b1:=bF ns (a+1) (many:=4) (by decide);have b2:=bR ns (a+1) (many:=4) (by decide);have n1:=bF ns (a+3) (many:=3) (by decide);have n2:=bR ns (a+3) (many:=3) (by decide);have c1:=bF ns (a+6) (many:=3) (by decide);have c2:=bR ns (a+6) (many:=3) (by decide)
    -- every
    have r:aM [7] 4 (g2 bI (gC (.int 3)) (ak ah (aa (ae 0) (aa (ae 1) (aa (ae 2) af))))) [some (ai ns),some (.int a),some (.int top),some (.bool b),none,none,none,none,none,none]
      =.nx [some (ai ns),some (.int a),some (.int top),some (.bool b),some (.int (3+mixed ns a top)),none,none,none,none,none]:=by
     rw[gQ,if_pos (by simp)];simp only[cP,bb,cV,fL,aP (show 0∉[7] by decide),aP (show 1∉[7] by decide),aP (show 2∉[7] by decide),bP,bL,il,Rs.ag,hm a top ha j,fe,Rs.aN,a9];rfl
    generalize hev:3+mixed ns a top=ev at *;have evp:3<=ev:=by omega
    have s2:aM [7] 5 (g2 lI (ak ah (aa (ae 0) (aa (g2 bI (ae 1) (gC (.int 1))) (aa (gC (.int 4)) af)))) (gF ju (aa (g2 dEq (ak ah (aa (ae 0) (aa (g2 bI (ae 1) (gC (.int 2))) (aa (gC (.int 3)) af)))) (gC (.int 0))) af))) [some (ai ns),some (.int a),some (.int top),some (.bool b),some (.int ev),none,none,none,none,none]
      =.nx [some (ai ns),some (.int a),some (.int top),some (.bool b),some (.int ev),some (.int (mixed ns (a+1) 4*(if mixed ns (a+2) 3=0 then 1 else 0))),none,none,none,none]:=by
     rw[gQ,if_pos (by simp)];simp only[cP,bb,cV,fL,nK,aP (show 0∉[7] by decide),aP (show 1∉[7] by decide),bP,bL,il,Rs.ag,fe,Rs.aN,hm (a+1) 4 (by omega) (by decide),hm (a+2) 3 (by omega) (by decide),mH,xE];rw[qB (by omega) (by omega)];simp only[Rs.aN,a9,beq_iff_eq];rfl
    have t:aM [7] 5 (gF jh (aa (ae 5) (aa (g2 ji (ae 4) (gC (.int 1))) af))) [some (ai ns),some (.int a),some (.int top),some (.bool b),some (.int ev),some (.int (mixed ns (a+1) 4*(if mixed ns (a+2) 3=0 then 1 else 0))),none,none,none,none]
      =.nx [some (ai ns),some (.int a),some (.int top),some (.bool b),some (.int ev),some (.int (eu ns a ev)),none,none,none,none]:=by
     rw[gQ,if_pos (by simp)];simp only[nK,bb,cV,fL,aP (show 4∉[7] by decide),aP (show 5∉[7] by decide),bP,bL,il,Rs.ag,sZ,Rs.aN,wz,a9];rfl
    generalize hla:eu ns a ev=la at *;have u:aM [7] 6 (g2 ji (ae 4) (ae 5)) [some (ai ns),some (.int a),some (.int top),some (.bool b),some (.int ev),some (.int la),none,none,none,none]
      =.nx [some (ai ns),some (.int a),some (.int top),some (.bool b),some (.int ev),some (.int la),some (.int (ev-la)),none,none,none]:=by
     rw[gQ,if_pos (by simp)];simp only[fL,aP (show 4∉[7] by decide),aP (show 5∉[7] by decide),bP,bL,Rs.ag,sZ,Rs.aN,a9];rfl
    have v:sIf (gT (g2 dEq (ak ah (aa (ae 0) (aa (g2 bI (ae 1) (gC (.int 1))) (aa (gC (.int 3)) af)))) (gC (.int 0)))) (aM [7] 6 (g2 ji (ae 6) (ak ah (aa (ae 0) (aa (g2 bI (ae 1) (gC (.int 2))) (aa (ae 6) af)))))) bq
        [some (ai ns),some (.int a),some (.int top),some (.bool b),some (.int ev),some (.int la),some (.int (ev-la)),none,none,none]
      =.nx [some (ai ns),some (.int a),some (.int top),some (.bool b),some (.int ev),some (.int la),some (.int (g8 ns a (ev-la))),none,none,none]:=by
     rw[oP];simp only[xi,fL,cP,bb,cV,bP,bL,il,Rs.ag,fe,Rs.aN,hm (a+1) 3 (by omega) (by decide),mH,kF,a9];by_cases z:mixed ns (a+1) 3=0
     · rw[if_pos (by simp[z]),gQ,if_pos (by simp)];simp only[cP,bb,cV,fL,aP (show 0∉[7] by decide),aP (show 1∉[7] by decide),aP (show 6∉[7] by decide),bP,bL,il,Rs.ag,fe,Rs.aN,hm (a+2) (ev-la) (by omega) (by omega),sZ,a9];unfold g8;rw[if_pos z];rfl
     · rw[if_neg (by simp[z])];unfold g8;rw[if_neg z];rfl
    generalize hdu:g8 ns a (ev-la)=du at *;have w:jG [7] 7 af [some (ai ns),some (.int a),some (.int top),some (.bool b),some (.int ev),some (.int la),some (.int du),none,none,none]
      =.nx [some (ai ns),some (.int a),some (.int top),some (.bool b),some (.int ev),some (.int la),some (.int du),some (.list []),none,none]:=rfl
    have src:fh (aa (ak ah (aa (ae 0) (aa (g2 bI (ae 1) (gC (.int 3))) (aa (gC (.int 3)) af)))) af) (mask [7] [some (ai ns),some (.int a),some (.int top),some (.bool b),some (.int ev),some (.int la),some (.int du),some (.list []),none,none])=.ok (bW 0 (mixed ns (a+3) 3).toNat):=by simp only[ir,cP,bb,cV,fL,aP (show 0∉[7] by decide),aP (show 1∉[7] by decide),bP,bL,il,Rs.ag,fe,Rs.aN,hm (a+3) 3 (by omega) (by decide)];exact iq n1 (by omega)
    obtain⟨δ',e,x8,f,n⟩:=je (β:=Unit) (tgt:=dw 8) (body:=aG (aM [7] 9 (ak ah (aa (ae 0) (aa (g2 bI (g2 bI (ae 1) (gC (.int 4))) (ae 8)) (aa (gC (.int 40)) af)))))
  (aG (gR [7] 7 (eU (aa (g2 bI (gC (.int 1)) (g2 dZ (ae 9) (gC (.int 4)))) (aa (g2 dIx (dq (aa (gC (.int 0)) (aa (gC (.int 1)) (aa (gC (.int 1)) (aa (gC (.int 0)) (aa (gC .none) af)))))) (g2 dZ (g2 ib (ae 9) (gC (.int 4))) (gC (.int 5)))) af))))
  (sIf (di (gT (ae 3))) (pJ 7 (g1 eE (gC (.int 1))) (eU (aa (g2 dIx (g2 dIx (ae 7) (g1 eE (gC (.int 1)))) (gC (.int 0))) (aa (gC .none) af)))) bq)))
     (λi δ=>∃x8 f,δ=[some (ai ns),some (.int a),some (.int top),some (.bool b),some (.int ev),some (.int la),some (.int du),some (.list ((List.range i).map λ(k:Nat)=>az (cC ns (a+4+(k:Int)) b))),x8,f])
     (bW 0 (mixed ns (a+3) 3).toNat) 0 (λi d δ hi o=>by obtain⟨x8,f,x⟩:=o;subst x;rw[Nat.zero_add]at *;obtain⟨hil,rfl⟩:=fG hi;refine⟨[some (ai ns),some (.int a),some (.int top),some (.bool b),some (.int ev),some (.int la),some (.int du),some (.list ((List.range i).map λ(k:Nat)=>az (cC ns (a+4+(k:Int)) b))),some (.int (0+(i:Int))),f],_,rfl,mw ns a top b (.int ev) (.int la) (.int du) ha _ (by simp;omega) i none f,some (.int (0+(i:Int))),some (.int (mixed ns (a+4+(0+(i:Int))) 40)),?_⟩;rw[iR]) [some (ai ns),some (.int a),some (.int top),some (.bool b),some (.int ev),some (.int la),some (.int du),some (.list []),none,none] ⟨none,none,rfl⟩
    subst n;rw[Nat.zero_add,cE]at e;have hd:(mkE ns a top b).d=.tuple [.int ev,.int du,.int la,.tuple (((List.range (mixed ns (a+3) 3).toNat).map λ(k:Nat)=>az (cC ns (a+4+(k:Int)) b))++[az (1+mixed ns (a+6) 3,none)])]:=by simp only[mkE,Er.d,BV,Bm,hev,hla,hdu];rfl
    rw[hd];simp only[dC];rw[aQ,r];simp only;rw[aQ,s2];simp only;rw[aQ,t];simp only;rw[aQ,u];simp only;rw[aQ,v];simp only;rw[aQ,w];simp only;rw[aQ,sW,src,a9,e];simp only;simp only[gE,fN,mV,bb,cV,fL,nK,cP,bP,bL,il,Rs.ag,fe,Rs.aN,hm (a+6) 3 (by omega) (by decide)];have g:bI (.list ((List.range (mixed ns (a+3) 3).toNat).map λ(k:Nat)=>az (cC ns (a+4+(k:Int)) b))) (.list [.tuple [.int (1+mixed ns (a+6) 3),.none]])=some (.list (((List.range (mixed ns (a+3) 3).toNat).map λ(k:Nat)=>az (cC ns (a+4+(k:Int)) b))++[az (1+mixed ns (a+6) 3,none)])):=by show (if _ then _ else _)=_;rw[if_pos (by simp;omega)];rfl
    rw[g];simp
   ·exact absurd rfl c
  ·exact absurd rfl c
def aI:Gf
 |[s,.int a,.int most,.int top,.bool tools]=>(match cO s with
  |some ns=>if 0<=a/\0<most/\most<=6/\0<top/\top<=58 then .ok (a4 (ia ns a most top tools)) else .no
  |none=>.no)
 |_=>.no
theorem ef {most top:Int} {b:Bool} (h1:0<=a) (h2:0<most) (c:most<=6) (e:0<top) (f:top<=58):aI [ai ns,.int a,.int most,.int top,.bool b]=.ok (a4 (ia ns a most top b)):=by unfold aI;simp[cU,h1,h2,c,e,f]
theorem fc {s:PyData} (a:cO s=some ns):s=ai ns:=by
 unfold cO at a;split at a
 ·rename_i l;rw[fI a];rfl
 ·cases a
theorem pZ {f:PyData->Int->Int->Int->Bool->Rs PyData} (h:(match ds with|[x0,.int x1,.int x2,.int x3,.bool x4]=>f x0 x1 x2 x3 x4|_=>.no)≠.no):∃x0 x1 x2 x3 x4,ds=[x0,.int x1,.int x2,.int x3,.bool x4]/\f x0 x1 x2 x3 x4≠.no:=by
 rcases ds with _|⟨x0,_|⟨x1,_|⟨x2,_|⟨x3,_|⟨x4,_|⟨y,ys⟩⟩⟩⟩⟩⟩
 ·exact absurd rfl h
 ·exact absurd rfl h
 ·first|exact absurd rfl h|(cases x1 <;> exact absurd rfl h)
 ·first|exact absurd rfl h|(cases x1 <;> first|exact absurd rfl h|(cases x2 <;> exact absurd rfl h))
 ·first|exact absurd rfl h|(cases x1 <;> first|exact absurd rfl h|(cases x2 <;> first|exact absurd rfl h|(cases x3 <;> exact absurd rfl h)))
 ·skip
  cases x1 with
  |int x1 =>
   cases x2 with
   |int x2 =>
    cases x3 with
    |int x3 =>
     cases x4 with
     |bool x4 =>exact⟨_,_,_,_,_,rfl,h⟩
     |_=>exact absurd rfl h
    |_=>first|exact absurd rfl h|(cases x4 <;> exact absurd rfl h)
   |_=>first|exact absurd rfl h|(cases x3 <;> first|exact absurd rfl h|(cases x4 <;> exact absurd rfl h))
  |_=>first|exact absurd rfl h|(cases x2 <;> first|exact absurd rfl h|(cases x3 <;> first|exact absurd rfl h|(cases x4 <;> exact absurd rfl h)))
 ·first|exact absurd rfl h|(cases x1 <;> first|exact absurd rfl h|(cases x2 <;> first|exact absurd rfl h|(cases x3 <;> first|exact absurd rfl h|(cases x4 <;> exact absurd rfl h))))
theorem jF (cs:Cs):LLq (c5 cs aZ ah) 5 1 aI:=by
 intro ds hl c;obtain⟨s,a,most,top,b,n,l⟩:=pZ c;clear c;subst n;have c:=l;clear l
 ·skip
  split at c
  ·rename_i ns o;have es:=fc o;subst es;split at c
   ·rename_i hc;obtain⟨ha,e,g,m,f⟩:=hc;rw[ef ha e g m f];have hm:=bU (ns:=ns) ha e;have m1:=bF ns a e;have m2:=bR ns a e;have h:a5 6 (fh (aa (ae 5) af)) aT (ak aZ (aa (ae 0) (aa (g2 bI (g2 bI (ae 1) (gC (.int 1))) (g2 lI (gC (.int 7)) (ae 6))) (aa (ae 3) (aa (ae 4) af))))) aF
      [some (ai ns),some (.int a),some (.int most),some (.int top),some (.bool b),some (.int (1+mixed ns a most))]=.ok ((bW 0 (1+mixed ns a most).toNat).map λd=>(mkE ns (a+1+7*deI d) top b).d) :=
     cY rfl (by simp only[ir,bb,cV,bP,bL,Rs.ag];exact iq (by omega) (by omega)) (by rw[cE];omega) λd hd=>by obtain⟨i,hi⟩:=List.getElem?_of_mem hd;obtain⟨_,rfl⟩:=fG hi;simp only[List.cons_append,BU,cP,bb,cV,fL,bP,bL,il,Rs.ag,fe,Rs.aN];rw[qB (by decide) (by decide)];simp only[Rs.aN,Rs.ag,fe];exact eM (by omega) m f
    have j:a4 (ia ns a most top b)=.tuple ((bW 0 (1+mixed ns a most).toNat).map λd=>(mkE ns (a+1+7*deI d) top b).d):=by
     unfold a4 ia bW;rw[Bm,Bm];congr 1;refine Bz λk _=>?_
     simp[deI]
    rw[j];show bt (c5 cs aZ ah [some (ai ns),some (.int a),some (.int most),some (.int top),some (.bool b),none])=_;simp only[c5,aQ,uK,Bn,List.length_nil,Nat.reduceAdd,Nat.reduceLT,if_true,cP,bb,cV,fL,bP,bL,il,Rs.ag,hm,fe,Rs.aN,a9,List.set_cons_succ,List.set_cons_zero,gE,nK,wd,h,xo,pq]
   ·exact absurd rfl c
  ·exact absurd rfl c
end RS
namespace RS
open PySem PySem.Spec PyProof.Rows L2
section
variable {w:World}
theorem vg {f:Addr} {G:Ds->Sr} (F:Fun K x qual st f fd) (S:c6 N ps (aJ st)) (c:∀i∈O,ps.length<=i)
  (body:∀(cdv:Value) (A:Around) (outer:List Env) (s:Shared) (H:Hp) (E:XK),cu k (A.deeper (envOfC qual (aJ st) s.heap.objs.size f cdv))->PBD (bT (CXW P w K) P w K mg base N qual (aJ st) f cdv A outer s H E) E O (cA st) G)
  (e:∀ds,ds.length=ps.length->gf ds≠.no->bt (G (ds.map some++List.replicate (N.length-ps.length) none))=gf ds):ff P w K mg base (CXW P w K) (k+1) f fd ps (spD K ps.length gf):=by
 refine oG F S (λvs H Q E h=>?_) (λcdv A outer s H vs Q E g h=>?_)
 ·obtain⟨A,ds,b,hi,hl,o⟩:=h;rw[hi.length,hl]
 ·obtain⟨A0,ds,b,hi,hl,o⟩:=h;refine⟨_,body cdv A outer s H E g,H,A0,[],_,bu.start b hi hl c,?_⟩;have a:=e ds hl (λz=>by rw[z]at o;exact o);cases q:G (ds.map some++List.replicate (N.length-ps.length) none) with
  |rt d=>rw[q]at a;rw[<-a]at o;exact λv H' s' j=>o v H' s' j
  |nx δ=>rw[q]at a;rw[<-a]at o;exact λA' σ H' l=>o .non H' l.same is_none
  |rz C=>rw[q]at a;rw[<-a]at o;exact λH' s'=>o H' s'
  |bk δ=>rw[q]at a;rw[<-a]at o;exact o.elim
  |ct δ=>rw[q]at a;rw[<-a]at o;exact o.elim
  |no=>rw[q]at a;rw[<-a]at o;exact o.elim
theorem td {f:Addr} {sl:Array (Option Value)} {kV b:Value} (X:K.In h) (G:h.Ns mainGlobals mg)
  (e:∀(kV doc pm:Value) (an:Option Addr) (cdv ct:Value) (us:List Value),us.length=ps.length->bindArgs (PySem.W.fnOf x x (eR st) (cA st) (aJ st) .none kV doc pm an cdv ct) ⟨us,[]⟩=pure (ps.zip us))
  (a:PySem.W.nsIn K mainGlobals x=some (some (.ref f)))
  (l:K.lookup f=some ⟨oc,od,.func (PySem.W.fnOf x x (eR st) (cA st) (aJ st) .none kV b pm an cd ct),sl⟩)
  (c:PySem.W.codeIn K cd x=true) (k:PySem.W.keepIn K (.ref f)=true):bK K mg x st ps :=
 have F:=yj (st:=st) l c k
 ⟨f,_,F,F.binds e,PySem.W.mg_of X G a⟩
theorem gq (X:K.In h) (G:h.Ns mainGlobals mg) (a:PySem.W.nsIn K mainGlobals x=some (some (.ref C)))
 (e:PySem.W.excIn K C [.type "ValueError",.type "Exception",.type "BaseException",.type "object"] "ValueError.__new__"=true):ij K mg x C:=⟨PySem.W.mg_of X G a,e⟩
theorem uW {n:Int} {t:_} (X:K.In h) (G:h.Ns mainGlobals mg) (a:PySem.W.nsIn K mainGlobals x=some (some (.int n t))):∃t,mg x=some (.int n t):=⟨t,PySem.W.mg_of X G a⟩
end
def c4 (n:Nat):Gf
 |[s]=>(match cO s with
  |some ns=>if ns.length<=n then .ok (.bool true) else .no
  |none=>.no)
 |_=>.no
theorem _root_.L2.tabsIn_nil (e:L2.oW=[]):L2.jb K h:=⟨(λP q a=>by obtain⟨x,m,_⟩:=a;rw[e]at m;cases m),(λP q q' b _=>by obtain⟨x,m,_⟩:=b;rw[e]at m;cases m)⟩
theorem zM {l:PySem.W.OpenLaw} {XP:(Str->Option Value)->Heap->Prop} {d:DefRec} {K:Params->PySem.W.Frag}
  (hn:l.most=some n) (i:n<=sizeLine) (j:d.params.defaults=[]) (A:cu k callerA)
  (B:∀(w:World) (h:Heap),YP w h->(K w.params).In h)
  (C:∀(kV doc pm:Value) (an:Option Addr) (cdv ct:Value) (us:List Value),us.length=1->bindArgs (PySem.W.fnOf d.name d.name (eR st) (cA st) (aJ st) .none kV doc pm an cdv ct) ⟨us,[]⟩=pure ([x].zip us))
  (F:∀(w:World) (mg:Str->Option Value) (h:Heap),(K w.params).In h->h.Ns mainGlobals mg->
   bK (K w.params) mg d.name st [x]/\∀f fd,Fun (K w.params) d.name d.name st f fd->∀base:Heap,(K w.params).In base->base.Ns mainGlobals mg->L2.jV mg base->ff l.prog w (K w.params) mg base (CXW l.prog w (K w.params)) k f fd [x] (spD (K w.params) 1 (c4 n)))
  (o:∀(w:World) (h:Heap) (c:List Str) (g:ExcName->Option Value) (mg D:Str->Option Value),PyProof.Rows.Top q c g mg D h->(K w.params).In h->L2.jb (K w.params) h:=by exact λ_ _ _ _ _ _ _ _=>L2.tabsIn_nil rfl) :
  PySem.W.WalkO q loose XP YP l.row.toRowW d [] (λf vs=>PySem.call f vs) :=
 L2.oE (n:=n) (k:=k) (x:=x) (CX:=λw=>CXW l.prog w (K w.params)) (sp:=λw=>spD (K w.params) 1 (c4 n)) hn i j A B
  (λw mg E h X G p=>by obtain⟨⟨f,fd,y,b,m⟩,I⟩:=F w mg h X G;have e:=p.symm.trans m;cases e;refine⟨fd,λs u=>?_,I E fd y⟩;obtain⟨oc,od,kV,doc,pm,an,cdv,ct,osl,rfl,lk,hcd⟩:=y.ex;exact .of_eq (C kV doc pm an cdv ct [u] rfl))
  (λw H a ns hl hO J=>by
   refine⟨[],[ai ns],?_,?_,rfl,?_⟩
   ·exact Ls.nil
   ·rw[oM];exact⟨_,[],rfl,pX J,rfl⟩
   ·have L:c4 n [ai ns]=.ok (.bool true):=by unfold c4;simp[cU,hl]
    rw[L];intro v H' _ r;rw[oM]at r;unfold Is at r;exact r)
  (λw H s e s' t=>(by obtain⟨_,_,_,_,_,_,z,_⟩:=t;exact z)) o
end RS
set_option maxHeartbeats 4000000
namespace L2
open PySem PySem.Spec PyProof.Rows
section
variable {E:XK} {a b o:Expr} {ga gb go:Ds->Rs PyData}
def aB (x y:PyData):Option PyData:=match x,y with
 |.str x,.str y=>if x.length+y.length<=1000000 then some (.str (x++y)) else none
 |x,y=>bI x y
theorem qW:OpD K aB (λx y H Q=>(∃i j,x=.str i/\y=.str j/\i.length+j.length<=sizeLine/\Q (.str (i++j)) H)\/(rI0 (λi j=>.int (i+j)) x y H Q\/wc x y H Q\/qX K x y H Q)):=λd1 d2 d x y H A Q e a h1 h2 k=>by
 unfold aB at e;split at e
 ·split at e
  ·rename_i z;cases e;exact .inl ⟨_,_,h1.ofStr,h2.ofStr,by rw[sizeLine_eq];omega,k _ H (aj.refl _) eo⟩
  ·cases e
 ·exact .inr (oH d1 d2 d x y H A Q e a h1 h2 k)
theorem tZ (ha:PD X E a ga) (c:PD X E b gb):PD X E (.BinOp a .Add b pos) (g2 aB ga gb):=dO qW ha c (cq (nF.or (fH.or (sk.or oF))))
def jn (x y:PyData):Option PyData:=match x,y with
 |.str x,.int n=>open Classical in if MulOk x n then some (.str (Txt.mul x n)) else none
 |_,_=>none
theorem sO:OpD K jn vR:=λd1 d2 d x y H A Q e hA h1 h2 k=>by
 unfold jn at e;split at e
 ·split at e
  ·rename_i z;cases e;exact⟨_,_,h1.ofStr,h2.ofInt,z,k _ H (aj.refl _) eo⟩
  ·cases e
 ·cases e
theorem uS (ha:PD X E a ga) (c:PD X E b gb):PD X E (.BinOp a .Mult b pos) (g2 jn ga gb):=dO sO ha c (cq uz)
def pz (x y:PyData):Option PyData:=match x,y with
 |.str z,.int i=>if z.length<=1000000 then (atI z.cps.toList i).map λc=>.str ⟨#[c]⟩ else none
 |x,y=>dIx x y
theorem uR:OpD K pz (λx y H Q=>xq K x y H Q\/(xU K x y H Q\/zN x y H Q)):=λd1 d2 d x y H A Q e a h1 h2 k=>by
 unfold pz at e;split at e
 ·rename_i z i;split at e
  ·rename_i hz;cases q:atI z.cps.toList i with
   |none=>rw[q]at e;cases e
   |some c =>rw[q]at e;cases e;exact .inr (.inr ⟨z,i,c,h1.ofStr,h2.ofInt,by rw[sizeLine_eq];omega,q,k _ H (aj.refl _) eo⟩)
  ·cases e
 ·rcases qU d1 d2 d x y H A Q e a h1 h2 k with z|z
  ·exact .inl z
  ·exact .inr (.inl z)
theorem xc (ha:PD X E a ga) (c:PD X E b gb) (e:kq b):PD X E (.Subscript a b pos) (g2 pz ga gb):=dO uR ha c λh1 h2=>oA (ix.or (qw.or wK)) h1 h2 e
def Ar:V->Option Int->Option Int->Hp->VK->Prop:=λx lo hi H Q=>∃z,x=.str z/\z.length<=sizeLine/\Q (.str (Txt.slice z lo hi)) H
theorem xh:SlR X Ar:=by
 intro pins s σ H x v vl vu lo hi sl Q I e f pl c h;obtain⟨z,rfl,a,q⟩:=h;obtain⟨t,rfl⟩:=e;obtain⟨os,g1,g2,b⟩:=f;refine⟨"str",_,PySem.F.slot_str_getitem.lookup,typeIs_str _ _ _,?_⟩;cases pl with
 |none =>
  cases c with
  |none=>exact wpAny_getItem_str_slice (l:=none) (u:=none) (st:=none) ⟨os,g1,g2,b⟩ rfl (post_val_or_str ⟨Bj (Txt.slice_le z _ _) a,λt' k=>⟨.str _,H,I.tok k,⟨_,rfl⟩,q⟩⟩)
  |int j tj=>exact wpAny_getItem_str_slice (l:=none) (u:=some (j,tj)) (st:=none) ⟨os,g1,g2,b⟩ rfl (post_val_or_str ⟨Bj (Txt.slice_le z _ _) a,λt' k=>⟨.str _,H,I.tok k,⟨_,rfl⟩,q⟩⟩)
 |int i ti =>
  cases c with
  |none=>exact wpAny_getItem_str_slice (l:=some (i,ti)) (u:=none) (st:=none) ⟨os,g1,g2,b⟩ rfl (post_val_or_str ⟨Bj (Txt.slice_le z _ _) a,λt' k=>⟨.str _,H,I.tok k,⟨_,rfl⟩,q⟩⟩)
  |int j tj=>exact wpAny_getItem_str_slice (l:=some (i,ti)) (u:=some (j,tj)) (st:=none) ⟨os,g1,g2,b⟩ rfl (post_val_or_str ⟨Bj (Txt.slice_le z _ _) a,λt' k=>⟨.str _,H,I.tok k,⟨_,rfl⟩,q⟩⟩)
def yY:PyData->Option Int->Option Int->Option PyData
 |.str z,lo,hi=>if z.length<=1000000 then some (.str (Txt.slice z lo hi)) else none
 |_,_,_=>none
def aK (g:Ds->Rs PyData) (lo hi:Ds->Rs (Option Int)):Ds->Rs PyData:=λδ=>(g δ).bind λd=>(lo δ).bind λl=>(hi δ).bind λh=>Rs.aW (yY d l h)
theorem qm {lo hi:Option Expr} {g i:Ds->Rs (Option Int)} (j:PD X E e ga) (hl:POD X E lo g) (k:POD X E hi i):PD X E (.Subscript e (.Slice lo hi none p2) pos) (aK ga g i) :=
 (lL xh j hl k).imp λσ H Q b=>by
  obtain⟨A,δ,R,o⟩:=b;unfold aK at o;refine eD.run R (λd m v H1 c n p=>?_) (λC a H' s'=>by rw[a]at o;exact o H' s') (λa=>by rw[a]at o;exact o);simp only[m,Rs.ag]at o;refine oD.run n (λl q H2 s2 R2=>?_) (λC a H' s'=>by rw[a]at o;exact o H' (c.trans s')) (λa=>by rw[a]at o;exact o);simp only[q,Rs.ag]at o;refine oD.run R2 (λh r H3 s R3=>?_) (λC a H' s'=>by rw[a]at o;exact o H' (c.trans (s2.trans s'))) (λa=>by rw[a]at o;exact o);simp only[r,Rs.ag]at o;have f:=c.trans (s2.trans s);cases d with
  |str z =>
   by_cases hz:z.length<=1000000
   ·have o':dB X.K E A H (Rs.aW (if z.length<=1000000 then some (.str (Txt.slice z l h)) else none)) Q:=o;rw[if_pos hz]at o';exact⟨z,p.ofStr,by rw[sizeLine_eq];omega,o' _ _ f eo⟩
   ·have o':dB X.K E A H (Rs.aW (if z.length<=1000000 then some (.str (Txt.slice z l h)) else none)) Q:=o;rw[if_neg hz]at o';exact o'.elim
  |_=>exact o.elim
def lT:List PyData->Option PyData
 |[.str z]=>if z.length<=1000000 then some (.int z.length) else none
 |_=>none
theorem rQ:FnD K lT (λxs H Q=>∃z,xs=[.str z]/\z.length<=sizeLine/\Q (.int z.length) H):=λds d vs H A Q e hA h k=>by
 unfold lT at e;split at e
 ·split at e
  ·cases e;obtain⟨v,rfl,a⟩:=gI h;rw[a.ofStr];exact⟨_,rfl,by rw[sizeLine_eq];omega,k _ H (aj.refl _) bG⟩
  ·cases e
 ·cases e
theorem vq (hm:X.mg "len"=none) (ha:PAD X E (a::es) gs) (c:Gl X "len") (e:starEach (a::es) X.env=(false,eval a X.env)::starEach es X.env) (b:(backTo pos (starEach es X.env)).any (·.1)=false) :
 PD X E (.Call (.Name "len" p) (a::es) [] pos) (gF lT gs):=cM rQ ha λh=>cR kM c hm PySem.boot_len h (by decide) (by decide) e b
def ay (i:Int):Str:=Str.ofString (toString i)
def intOf (x:Str):Option Int:=((List.range 100).map λ(k:Nat)=>(k:Int)).find? λk=>x==ay k
def mr:List PyData->Option PyData
 |[.str x]=>(intOf x).map .int
 |_=>none
theorem pS:d7 X (.type "int") (λxs H Q=>∃n:Int,xs=[.str (ay n)]/\0<=n/\n<100/\Q (.int n) H):=by intro pins s σ H xs us Q I r h;obtain⟨n,rfl,a,h1,q⟩:=h;obtain⟨u,rfl,b⟩:=vals1 r;obtain⟨t,rfl⟩:=b;exact PySem.W.KIN.call_num a (by omega) ⟨.int n,H,I.tok _,⟨_,rfl⟩,q⟩
theorem rm:FnD K mr (λxs H Q=>∃n:Int,xs=[.str (ay n)]/\0<=n/\n<100/\Q (.int n) H):=λds d vs H A Q e hA h k=>by
 unfold mr at e;split at e
 ·rename_i x;cases q:intOf x with
  |none=>rw[q]at e;cases e
  |some n =>
   rw[q]at e;cases e;obtain⟨v,rfl,b⟩:=gI h;have a:=List.find?_some q;have hm:=List.mem_of_find?_eq_some q;simp only[Bc,BJ]at hm;obtain⟨k0,hk0,rfl⟩:=hm;have a:x=ay (k0:Int):=by simpa using a
   rw[b.ofStr,a];exact⟨_,rfl,by omega,by omega,k _ H (aj.refl _) bG⟩
 ·cases e
theorem p6 (hm:X.mg "int"=none) (ha:PAD X E (a::es) gs) (c:Gl X "int") (e:starEach (a::es) X.env=(false,eval a X.env)::starEach es X.env) (b:(backTo pos (starEach es X.env)).any (·.1)=false) :
 PD X E (.Call (.Name "int" p) (a::es) [] pos) (gF mr gs):=cM rm ha λh=>eL pS c hm nj h (by decide) (by decide) e b
def rK:PyData->PyData->Option PyData
 |.str i,.str j=>some (.bool (!(!(Builtin.Str.occurrences j i 0 j.length 1).isEmpty)))
 |_,_=>none
theorem uL:OpD K rK (λx y H Q=>∃i j,x=.str i/\y=.str j/\Q (.bl (!(!(Builtin.Str.occurrences j i 0 j.length 1).isEmpty))) H):=λd1 d2 d x y H A Q e hA h1 h2 k=>by
 unfold rK at e;split at e
 ·cases e;exact⟨_,_,h1.ofStr,h2.ofStr,k _ H (aj.refl _) is_bool⟩
 ·cases e
theorem tK (ha:PD X E a ga) (c:PD X E b gb) (hm:behindInMarks .NotIn b=false):PCD X E (.Compare a [.NotIn] [b] pos) (gT (g2 rK ga gb)):=fq uL ha c λh1 h2=>eP kv h1 h2 hm
end
open SeqAt (EqAt)
section
variable {E:XK} {a b o:Expr} {ga gb go:Ds->Rs PyData}
def gM (f:Str->PyData->Option PyData) (go ga:Ds->Rs PyData):Ds->Rs PyData:=λδ=>(go δ).bind λx=>match x with
 |.str z=>(ga δ).bind λy=>Rs.aW (f z y)
 |_=>.no
def MtD (K:PySem.W.Frag) (f:Str->PyData->Option PyData) (r:V->List V->Hp->VK->Prop):Prop:=∀(z:Str) (d2 d:PyData) (y:V) (H:Hp) (A:List Addr) (Q:VK),
 f z d2=some d->Ls H A->Is K (del H A) d2 y->(∀(v:V) (H':Hp),aj H H'->Is K (del H' A) d v->Q v H')->r (.str z) [y] H Q
theorem o1 {f:Str->PyData->Option PyData} {name:Str} {id:String} {r:V->List V->Hp->VK->Prop} (slot:Slot "str" name id) (j:typeOf (.builtin id)=pure (.type "method_descriptor")) (hm:MtR X id r) (hd:MtD X.K f r) (n:PD X E o go) (ha:PD X E e ga)
  (c:attributeBase o name X.env (eval o X.env)=eval o X.env)
  (i:((backTo cpos (starEach [e] X.env)).all (λx=>!x.1)&&(backToKw cpos (keywordEach [] X.env)).all (λx=>x.1.isSome)&&decide (([e]:List Expr).length+([]:List Keyword).length+(if ([]:List Keyword).isEmpty then 0 else 1)<30))=true)
  (g:(apos.endLine==cpos.line)=true) (l:starEach [e] X.env=(false,eval e X.env)::starEach [] X.env) (b:(backTo cpos (starEach [] X.env)).any (·.1)=false) :
  PD X E (.Call (.Attribute o name apos) [e] [] cpos) (gM f go ga):=(v7 PySem.F.plainAttrs_str slot j hm n (bO ha dy l) c i g l b).imp λσ H Q k=>by
 obtain⟨A,δ,R,a⟩:=k;unfold gM at a;refine eD.run R (λd1 e1 v H1 m p h1=>?_) (λC h H' s'=>by rw[h]at a;exact a H' s') (λh=>by rw[h]at a;exact a);simp only[e1,Rs.ag]at a;cases d1 with
 |str z =>
  rw[h1.ofStr];refine⟨rfl,?_⟩;have a:dB X.K E A H ((ga δ).bind λy=>Rs.aW (f z y)) Q:=a;refine eD.run p (λd2 e2 u H2 s2 R2 h2=>?_) (λC h H' s'=>by rw[h]at a;exact a H' (m.trans s')) (λh=>by rw[h]at a;exact a);simp only[e2,Rs.ag]at a;cases q:f z d2 with
  |none=>rw[q]at a;exact a.elim
  |some d =>rw[q]at a;exact hd z d2 d u H2 A Q q R2.ls h2 λw H' s' hw=>a w H' (m.trans (s2.trans s')) hw
 |_=>exact a.elim
def strsOf:List PyData->Option (List Str)
 |[]=>some []
 |.str x::r=>(strsOf r).map (x::·)
 |_::_=>none
theorem mq {K:PySem.W.Frag} {H:Hp}:∀{ds:List PyData} {vs:List V} {ys:List Str},Iss K H ds vs->strsOf ds=some ys->vs=ys.map V.str
 |[],_,_,h,e=>by cases e;rw[h.nil_of];rfl
 |d::r,_,ys,h,e=>by
  obtain⟨v,w,rfl,h1,h2⟩:=h.cons_of;cases d with
  |str x =>
   unfold strsOf at e;cases q:strsOf r with
   |none=>rw[q]at e;cases e
   |some zs=>rw[q]at e;cases e;rw[mq h2 q,h1.ofStr];rfl
  |_=>cases e
theorem j7:∀{ys:List Str} {us:List Value},Vals (ys.map V.str) us->StrsAre us ys
 |[],_,.nil=>.nil
 |y::r,_,.cons h t=>by obtain⟨tk,rfl⟩:=h;exact .cons y tk (j7 t)
def rJoin (K:PySem.W.Frag):V->List V->Hp->VK->Prop:=λx xs H Q=>∃z p ys,x=.str z/\xs=[.ref p]/\SqL K H p (ys.map V.str)/\(ys.map (·.length)).sum+ys.length*z.length<=16777216/\Q (.str (Txt.join z ys)) H
theorem tT:MtR X "str.join" (rJoin X.K):=by intro pins s σ H x xs v us Q I b a h;obtain⟨z,p,ys,rfl,rfl,c,e,q⟩:=h;obtain⟨t,rfl⟩:=b;obtain⟨u,rfl,f⟩:=vals1 a;cases f;obtain⟨its,g,pl,_⟩:=I.list c;exact join_list pl.isList (j7 g) e λt' k=>⟨.str _,H,I.tok k,⟨_,rfl⟩,q⟩
def e8 (z:Str):PyData->Option PyData
 |.list ds=>(strsOf ds).bind λys=>if (ys.map (·.length)).sum+ys.length*z.length<=16777216 then some (.str (Txt.join z ys)) else none
 |_=>none
theorem qA:MtD K e8 (rJoin K):=λz d2 d y H A Q e hA h2 k=>by
 unfold e8 at e;split at e
 ·rename_i ds;cases q:strsOf ds with
  |none=>rw[q]at e;cases e
  |some ys =>
   rw[q]at e;simp only[C9]at e;split at e
   ·rename_i b;cases e;obtain⟨p,xs,rfl,a,c⟩:=h2.ofLst;rw[mq c q]at a;exact⟨z,p,ys,rfl,rfl,SqL.of (aq _ _ a),b,k _ H (aj.refl _) eo⟩
   ·cases e
 ·cases e
theorem vm (g:PD X E o go) (ha:PD X E e ga) (b:attributeBase o "join" X.env (eval o X.env)=eval o X.env)
 (f:((backTo cpos (starEach [e] X.env)).all (λx=>!x.1)&&(backToKw cpos (keywordEach [] X.env)).all (λx=>x.1.isSome)&&decide (([e]:List Expr).length+([]:List Keyword).length+(if ([]:List Keyword).isEmpty then 0 else 1)<30))=true)
 (c:(apos.endLine==cpos.line)=true) (h:starEach [e] X.env=(false,eval e X.env)::starEach [] X.env) (a:(backTo cpos (starEach [] X.env)).any (·.1)=false) :
 PD X E (.Call (.Attribute o "join" apos) [e] [] cpos) (gM e8 go ga):=o1 PySem.F.slot_str_join PySem.F.type_str_join tT qA g ha b f c h a
def su:V->List V->Hp->VK->Prop:=λx xs H Q=>∃z y,x=.str z/\xs=[.str y]/\(y.length==0)=false/\z.length+2<=sizeLine/\∀p,H p=none->Q (.ref p) (upd H p (.lst ((Txt.split z y).map V.str)))
theorem fQ:∀l:List (Str×Tok),Vals ((l.map (·.1)).map V.str) (strValues l)
 |[]=>.nil
 |p::r=>.cons ⟨p.2,rfl⟩ (fQ r)
theorem qV:MtR X "str.split" su:=by
 intro pins s σ H v0 xs v us Q I g a h;obtain⟨x,y,rfl,rfl,c,hsz,q⟩:=h;obtain⟨t,rfl⟩:=g;obtain⟨u0,rfl,i⟩:=vals1 a;obtain⟨u,rfl⟩:=i;have hn:(Builtin.Str.partsBetween x (Builtin.Str.occurrences x y 0 x.length (x.length+1)) y.length).length<=sizeLine:=by have e1:=StrLaws.occ_length_le x y 0 x.length (x.length+1);rw[length_partsBetween];omega
 have fin:∀(l:List (Str×Tok)) (k:Nat),l.map (·.1)=Txt.split x y->l.length<=sizeLine->EP X pins σ Q (.ref s.heap.objs.size) { s with heap:=s.heap.push { cls:=.type "list",data:=.seq (strValues l).toArray },toks:=k }:=λl k e hl=>by refine⟨.ref s.heap.objs.size,_,I.laid (t':=k) (o:=.lst ((Txt.split x y).map V.str)) (λb ob q=>A7 _ q) (B0 _) ?_,rfl,q _ (I.hok.fresh (B0 _))⟩;refine⟨by rw[B7,<-e,B7];exact hl,strValues l,0,?_,Ba _ rfl⟩;rw[<-e];exact fQ l
 cases h1:(decide (x.length<y.length)||decide (Builtin.Str.strKind x<Builtin.Str.strKind y))
 ·cases hf:(Builtin.Str.occurrences x y 0 x.length (x.length+1)).isEmpty
  ·refine call_meets PySem.F.slot_str_split (typeIs_str _ _ _) PySem.F.entry_str_split (PySem.F.args_str_split_2 _ _) (meets_str_split_sep x y t u h1 c hf (by omega) hn) ?_;show wants _ _ _ { s with toks:=_,heap:=s.heap.push { cls:=.type "list",data:=.seq (strsFrom s.toks (Builtin.Str.partsBetween x (Builtin.Str.occurrences x y 0 x.length (x.length+1)) y.length)).toArray } };rw[strsFrom_eq];have f:=(numbered_texts s.toks (Builtin.Str.partsBetween x (Builtin.Str.occurrences x y 0 x.length (x.length+1)) y.length))
   refine fin (numbered s.toks _) _ (f.trans ((if_neg (ne_true_of_eq_false h1)).trans (if_neg (ne_true_of_eq_false hf))).symm) ?_;have:=congrArg List.length f;rw[B7]at this;rw[this];exact hn
  ·exact call_meets PySem.F.slot_str_split (typeIs_str _ _ _) PySem.F.entry_str_split (PySem.F.args_str_split_2 _ _) (meets_str_split_not_found x y t u h1 c hf)
    (fin [(x,t)] s.toks ((if_neg (ne_true_of_eq_false h1)).trans (if_pos hf)).symm (by show 1<=sizeLine;decide))
 ·exact call_meets PySem.F.slot_str_split (typeIs_str _ _ _) PySem.F.entry_str_split (PySem.F.args_str_split_2 _ _) (meets_str_split_cannot_occur x y t u h1)
   (fin [(x,t)] s.toks (if_pos h1).symm (by show 1<=sizeLine;decide))
def cc (z:Str):PyData->Option PyData
 |.str y=>if (y.length==0)=false/\z.length<=1000000 then some (.list ((Txt.split z y).map PyData.str)) else none
 |_=>none
theorem hU {K:PySem.W.Frag} {H:Hp}:∀ys:List Str,Iss K H (ys.map PyData.str) (ys.map V.str)
 |[]=>cN
 |y::r=>c9 eo (hU r)
theorem pb:MtD K cc su:=λz d2 d y H A Q e b h2 k=>by
 unfold cc at e;split at e
 ·split at e
  ·rename_i c;cases e;rw[h2.ofStr];exact⟨z,_,rfl,rfl,c.1,by rw[sizeLine_eq];omega,λp a=>k _ _ (bg a) (gv b a (hU _))⟩
  ·cases e
 ·cases e
theorem rG (g:PD X E o go) (ha:PD X E e ga) (b:attributeBase o "split" X.env (eval o X.env)=eval o X.env)
 (f:((backTo cpos (starEach [e] X.env)).all (λx=>!x.1)&&(backToKw cpos (keywordEach [] X.env)).all (λx=>x.1.isSome)&&decide (([e]:List Expr).length+([]:List Keyword).length+(if ([]:List Keyword).isEmpty then 0 else 1)<30))=true)
 (c:(apos.endLine==cpos.line)=true) (h:starEach [e] X.env=(false,eval e X.env)::starEach [] X.env) (a:(backTo cpos (starEach [] X.env)).any (·.1)=false) :
 PD X E (.Call (.Attribute o "split" apos) [e] [] cpos) (gM cc go ga):=o1 PySem.F.slot_str_split PySem.F.type_str_split qV pb g ha b f c h a
theorem uJ:MtR X "str.find" (λx xs H Q=>∃z y,x=.str z/\xs=[.str y]/\Q (.int (Txt.find z y)) H):=by intro pins s σ H v0 xs v us Q I b a h;obtain⟨x,y,rfl,rfl,q⟩:=h;obtain⟨t,rfl⟩:=b;obtain⟨u0,rfl,c⟩:=vals1 a;obtain⟨u,rfl⟩:=c;exact call_gives PySem.F.slot_str_find (typeIs_str _ _ _) PySem.F.entry_str_find (PySem.F.args_str_find_2 _ _) (gives_str_find x y t u) ⟨.int _,H,I.tok _,⟨_,rfl⟩,q⟩
def lx (z:Str):PyData->Option PyData
 |.str y=>some (.int (Txt.find z y))
 |_=>none
theorem rd:MtD K lx (λx xs H Q=>∃z y,x=.str z/\xs=[.str y]/\Q (.int (Txt.find z y)) H):=λz d2 d y H A Q e hA h2 k=>by
 unfold lx at e;split at e
 ·cases e;rw[h2.ofStr];exact⟨z,_,rfl,rfl,k _ H (aj.refl _) bG⟩
 ·cases e
theorem uP (g:PD X E o go) (ha:PD X E e ga) (b:attributeBase o "find" X.env (eval o X.env)=eval o X.env)
 (f:((backTo cpos (starEach [e] X.env)).all (λx=>!x.1)&&(backToKw cpos (keywordEach [] X.env)).all (λx=>x.1.isSome)&&decide (([e]:List Expr).length+([]:List Keyword).length+(if ([]:List Keyword).isEmpty then 0 else 1)<30))=true)
 (c:(apos.endLine==cpos.line)=true) (h:starEach [e] X.env=(false,eval e X.env)::starEach [] X.env) (a:(backTo cpos (starEach [] X.env)).any (·.1)=false) :
 PD X E (.Call (.Attribute o "find" apos) [e] [] cpos) (gM lx go ga):=o1 PySem.F.slot_str_find PySem.F.type_str_find uJ rd g ha b f c h a
theorem uA:MtR X "str.endswith" (λx xs H Q=>∃z y,x=.str z/\xs=[.str y]/\Q (.bl (Txt.endswith z y)) H):=by intro pins s σ H v0 xs v us Q I b a h;obtain⟨x,y,rfl,rfl,q⟩:=h;obtain⟨t,rfl⟩:=b;obtain⟨u0,rfl,c⟩:=vals1 a;obtain⟨u,rfl⟩:=c;exact call_gives PySem.F.slot_str_endswith (typeIs_str _ _ _) PySem.F.entry_str_endswith (PySem.F.args_str_endswith_2 _ _) (gives_str_endswith x y t u) ⟨.bl _,H,I,rfl,q⟩
def iP (z:Str):PyData->Option PyData
 |.str y=>some (.bool (Txt.endswith z y))
 |_=>none
theorem qE:MtD K iP (λx xs H Q=>∃z y,x=.str z/\xs=[.str y]/\Q (.bl (Txt.endswith z y)) H):=λz d2 d y H A Q e hA h2 k=>by
 unfold iP at e;split at e
 ·cases e;rw[h2.ofStr];exact⟨z,_,rfl,rfl,k _ H (aj.refl _) is_bool⟩
 ·cases e
theorem uE (g:PD X E o go) (ha:PD X E e ga) (b:attributeBase o "endswith" X.env (eval o X.env)=eval o X.env)
 (f:((backTo cpos (starEach [e] X.env)).all (λx=>!x.1)&&(backToKw cpos (keywordEach [] X.env)).all (λx=>x.1.isSome)&&decide (([e]:List Expr).length+([]:List Keyword).length+(if ([]:List Keyword).isEmpty then 0 else 1)<30))=true)
 (c:(apos.endLine==cpos.line)=true) (h:starEach [e] X.env=(false,eval e X.env)::starEach [] X.env) (a:(backTo cpos (starEach [] X.env)).any (·.1)=false) :
 PD X E (.Call (.Attribute o "endswith" apos) [e] [] cpos) (gM iP go ga):=o1 PySem.F.slot_str_endswith PySem.F.type_str_endswith uA qE g ha b f c h a
end
end L2
namespace L2
open PySem PySem.Spec PyProof.Rows
open SeqAt (EqAt)
section
variable {E:XK} {a b o:Expr} {ga gb go:Ds->Rs PyData}
theorem tq (K:PySem.W.Frag) {a:String} (ha:a∈["NoneType", "bool", "int", "str", "list", "tuple"]):PySem.W.kitOne K (.type a) (.type "str")=some (a=="str" ||("str"=="int"&&a=="bool")):=by simp only[List.mem_cons,A8,or_false]at ha;rcases ha with rfl|rfl|rfl|rfl|rfl|rfl <;> rfl
theorem k8:d7 X (.builtin "isinstance") (λxs H Q=>∃d v,xs=[v,.ty "str"]/\IsD X.K H d v/\Q (.bl (fB d "str")) H):=by
 intro pins s σ H xs us Q I r h;obtain⟨d,v,rfl,hd,q⟩:=h;obtain⟨u,c,rfl,f,k⟩:=vals2 r;cases k;have e:PySem.W.kitOne X.K (.type (tyD d)) (.type "str")=some (fB d "str"):=tq X.K (oO hd);have fin:∀tk,EP X pins σ Q (.bool (fB d "str")) { s with toks:=tk }:=λtk=>⟨.bl _,H,I.tok tk,rfl,q⟩
 cases d with
 |none=>rw[hd.ofNone]at f;cases f;exact PySem.W.kia_one PySem.W.kitx_none I.kIn True.intro e (λz=>nomatch z) fin
 |bool b=>rw[hd.ofBool]at f;cases f;exact PySem.W.kia_one PySem.W.kitx_bool I.kIn True.intro e (λz=>nomatch z) fin
 |int i=>rw[hd.ofInt]at f;obtain⟨t,rfl⟩:=f;exact PySem.W.kia_one PySem.W.kitx_int I.kIn True.intro e (λz=>nomatch z) fin
 |str x=>rw[hd.ofStr]at f;obtain⟨t,rfl⟩:=f;exact PySem.W.kia_one PySem.W.kitx_str I.kIn True.intro e (λz=>nomatch z) fin
 |list ds =>obtain⟨a,xs,e1,h1,h2⟩:=hd.ofLst;subst e1;cases f;obtain⟨j,l,⟨o,n,g,c,_,_⟩,_⟩:=I.list h1;exact PySem.W.kia_one PySem.W.kitx_list I.kIn ⟨o,g,c⟩ e (λz=>nomatch z) fin
 |tuple ds =>obtain⟨a,xs,e1,h1,h2⟩:=hd.ofTup;subst e1;cases f;obtain⟨j,l,⟨o,g,c,n,_⟩,_⟩:=I.tuple h1;exact PySem.W.kia_one PySem.W.kitx_tuple I.kIn ⟨o,g,c⟩ e (λz=>nomatch z) fin
 |dict _=>unfold IsD at hd;exact hd.elim
theorem nP {b:Pos} (hm:X.mg "isinstance"=none) (c:X.mg "str"=none) (ha:PD X E a ga)
  (m:Gl X "isinstance") (f:Gl X "str") (l:starEach [a,.Name "str" b] X.env=(false,eval a X.env)::starEach [.Name "str" b] X.env)
  (g:starEach [.Name "str" b] X.env=(false,eval (.Name "str" b) X.env)::starEach [] X.env) (i:(backTo pos (starEach [.Name "str" b] X.env)).any (·.1)=false) :
  PD X E (.Call (.Name "isinstance" p) [a,.Name "str" b] [] pos) (g1 (cw "str") ga):=by
 refine (cR k8 m hm gU (bO ha (bO (kT (v:=.ty "str") f c kr rfl (by decide) (by decide)) dy g) l) (by decide) (by decide) l i).imp λσ H Q j=>?_
 obtain⟨A,δ,R,o⟩:=j;refine g1.read (tt:=λQ x H1=>∃d v,[x,V.ty "str"]=[v,.ty "str"]/\IsD X.K H1 d v/\Q (.bl (fB d "str")) H1) R o λd1 d x H' e _ _ h k=>?_
 unfold cw at e;split at e
 ·rename_i z;cases e;exact⟨d1,x,rfl,(h.same aq).isd z,k _ H' (aj.refl _) is_bool⟩
 ·cases e
def uM:V->List V->Hp->VK->Prop:=λx vs H Q=>∃l xs y j,x=.ref l/\vs=[y]/\H l=some (.lst xs)/\e6 y=true/\xs.all e6=true/\(xs.findIdx? λz=>eqV z y)=some j/\(j:Int)<1000000/\Q (.int j) H
def Af (to:TE) (t:TA):TE:=λσ H Q=>to σ H λx H1=>(∃l xs,x=.ref l/\H1 l=some (.lst xs))/\t σ H1 λvs H2=>uM x vs H2 Q
theorem pR {to:TE} {t:TA} (N:PE X o to) (ha:PA X [e] t) (c:attributeBase o "index" X.env (eval o X.env)=eval o X.env:=by rfl)
  (k:((backTo cpos (starEach [e] X.env)).all (λx=>!x.1)&&(backToKw cpos (keywordEach [] X.env)).all (λx=>x.1.isSome)&&decide (([e]:List Expr).length+([]:List Keyword).length+(if ([]:List Keyword).isEmpty then 0 else 1)<30))=true:=by rfl)
  (f:(apos.endLine==cpos.line)=true:=by rfl) (O:starEach [e] X.env=(false,eval e X.env)::starEach [] X.env:=by rfl) (b:(backTo cpos (starEach [] X.env)).any (·.1)=false:=by rfl) :
  PE X (.Call (.Attribute o "index" apos) [e] [] cpos) (Af to t):=by
 intro pins s σ H Q I h;refine wpAny_Call_method_late c k f rfl (thn (N pins s σ H _ I h) λv P g=>?_);obtain⟨x,H1,J,R,⟨l,xs,S,hl⟩,T⟩:=g;subst S;cases R;obtain⟨_,its,n,rv,_,K⟩:=J.lstM hl;refine⟨"list", "list.index",PySem.F.plainAttrs_list,PySem.F.slot_list_index,PySem.F.type_list_index,⟨_,K,rfl⟩,λa ea=>by cases ea;exact⟨_,K,rfl⟩,?_⟩;have L:=ha cpos pins P σ H1 _ J T;rw[O]at L ⊢;refine Calls.callWith_builtin (by show (false||(backTo cpos (starEach [] X.env)).any (·.1))=false;rw[b];rfl) (Calls.evalArgs_plain ?_);refine thn L λus s2 g=>?_
 obtain⟨vs,H2,M,U,W⟩:=g;obtain⟨l',i,y,j,e1,e2,w,Y,fs,Z,hj1,q⟩:=W;cases e1;subst e2;obtain⟨_,its',n',p,hlen,r⟩:=M.lstM w;obtain⟨u,rfl,ru⟩:=vals1 U;obtain⟨A,B,C⟩:=BI.mp Z;have at':∀(m:Nat) (hm:m<i.length),eqU y (its'[m]'(by omega))=eqV i[m] y:=λm hm=>by
  obtain⟨w',hw,D⟩:=p.get (B6 hm);have:its'[m]'(by omega)=w':=by have h2:=B6 (show m<its'.length by omega);rw[h2]at hw;exact Option.some.inj hw
  rw[this];exact nv D (Bg.mp fs _ (Ca hm))
 refine call_meets PySem.F.slot_list_index ⟨_,r,rfl⟩ PySem.F.entry_list_index (PySem.F.args_list_index_2 _ _) (SeqAt.list_indexAt l its'.toArray n' none #[] u (eqU y) j (by simp;omega) (by omega) (by simpa[at' j A] using B) (λm hm E=>?_)) ⟨r,λz hz=>fW ru Y p fs z (by simpa using hz),⟨.int j,H2,M.tok _,⟨_,rfl⟩,q⟩⟩;have G:m<i.length:=by simp at hm;omega
 have:=C m E;simpa[at' m G] using this
def lG (go ga:Ds->Rs PyData):Ds->Rs PyData:=λδ=>(go δ).bind λd=>match d with
 |.list xs=>(ga δ).bind λy=>if xs.length<=100000 then Rs.aW (fj xs y) else .no
 |_=>.no
theorem pe (n:PD X E o go) (ha:PD X E e ga) (c:attributeBase o "index" X.env (eval o X.env)=eval o X.env)
  (h:((backTo cpos (starEach [e] X.env)).all (λx=>!x.1)&&(backToKw cpos (keywordEach [] X.env)).all (λx=>x.1.isSome)&&decide (([e]:List Expr).length+([]:List Keyword).length+(if ([]:List Keyword).isEmpty then 0 else 1)<30))=true)
  (f:(apos.endLine==cpos.line)=true) (k:starEach [e] X.env=(false,eval e X.env)::starEach [] X.env) (b:(backTo cpos (starEach [] X.env)).any (·.1)=false) :
  PD X E (.Call (.Attribute o "index" apos) [e] [] cpos) (lG go ga):=(pR n (bO ha dy k) c h f k b).imp λσ H Q i=>by
 obtain⟨A,δ,R,a⟩:=i;unfold lG at a;refine eD.run R (λd1 e1 v H1 l r h1=>?_) (λC g H' s'=>by rw[g]at a;exact a H' s') (λg=>by rw[g]at a;exact a);simp only[e1,Rs.ag]at a;cases d1 with
 |list xs =>
  obtain⟨p,vs,rfl,m,s⟩:=h1.ofLst;refine⟨⟨p,vs,rfl,aq _ _ m⟩,?_⟩;have a:dB X.K E A H ((ga δ).bind λy=>if xs.length<=100000 then Rs.aW (fj xs y) else .no) Q:=a;refine eD.run r (λd2 e2 u H2 s2 R2 h2=>?_) (λC g H' s'=>by rw[g]at a;exact a H' (l.trans s')) (λg=>by rw[g]at a;exact a);simp only[e2,Rs.ag]at a;split at a
  ·rename_i hlen;unfold fj at a;split at a
   ·rename_i z;rw[B3]at z;obtain⟨f1,f2⟩:=h2.flat z.1;obtain⟨t,w⟩:=s.flat z.2;cases q:((xs.map toV).findIdx? λz=>eqV z (toV d2)) with
    |none=>rw[q]at a;exact a.elim
    |some j =>rw[q]at a;obtain⟨B,_⟩:=BI.mp q;rw[B7]at B;exact⟨p,vs,u,j,rfl,rfl,s2 _ _ (aq _ _ m),f2,w,by rw[f1,t];exact q,by omega,a _ H2 (l.trans s2) bG⟩
   ·exact a.elim
  ·exact a.elim
 |_=>exact a.elim
end
end L2
namespace L2
open PySem PySem.Spec PyProof.Rows
variable {g:TG} {cond:Ds->Rs Bool} {e:Addr}
def bxe (X:Cx) (env:Env) (C:Addr):Value->Shared->Prop:=notedBy (model X.prog X.w) X.A env λx s'=>compPost (model X.prog X.w) X.A X.xe none (λ_ _=>False) .none C (.error x) s'
def ug (X:Cx) (M:List Str) (scope:Scope) (own:List Str) (C:Addr) (s2:Shared) (H2:Hp) (fp:List Addr):Cx:=(blk X M scope own C s2 H2 fp).wish (bxe X (blk X M scope own C s2 H2 fp).env C)
def vc (X:Cx) (C:Addr) (s2:Shared) (H2:Hp) (fp:List Addr):Prop:=∃pins σ,Inv X pins σ H2 s2/\(∀b∈fp,i4 X pins H2 b)/\s2.heap.objs.size<=C
section
variable {prog:Program} {w:World} {A:Around} {R:Result->Shared->Prop}
theorem jA {target:Expr} {it acc:Value} (I:Nat->Shared->Prop)
  (turn:∀n s,I n s->wpAny (model prog w) A (pyNext it) (λr a=>match r with
   |none=>R (.ok .next) a
   |some v=>wpAny (model prog w) A (letOwnedTupleGo target it v) (λ_ j=>wpAny (model prog w) A (assign target env v) (λ_ e =>
    wpAny (model prog w) A (forIn ifs true λc r=>if r=true then do let ok <-isTrue c env (eval c env);pure (ForInStep.yield ok) else pure (ForInStep.yield r)) (λok b =>
     if ok=true then wpAny (model prog w) A (eval elt env) (λx f =>
      wpAny (model prog w) A (call (.builtin "list.append") [acc,x]) (λ_ g=>∃m,m<n/\I m g) (λ_ _=>False) f) (notedBy (model prog w) A env λx s'=>R (.error x) s') b
     else ∃m,m<n/\I m b) (λ_ _=>False) e) (λ_ _=>False) j) (λ_ _=>False) a) (λ_ _=>False) s)
  (n:Nat) (h:I n s) :
  codeAny (model prog w) A (.compLoop (.ListComp elt [⟨target,iter,ifs,0⟩] scope pos) 0 it acc env) R s:=by
 refine codeAny_loop rfl I (λn s q=>?_) n h;show wpAny _ A ((compTurn (.ListComp elt [⟨target,iter,ifs,0⟩] scope pos) 0 it acc env).onRaise (λx=>do noteFrame x env;theTreesLotGoes x)) _ _ s;refine wpAny_noted ?_;rw[compTurn_list];refine wpAny_bind (wpAny_standAt (wpAny_bind (wpAny_mono (turn n s q) (λr a h₁=>?_) λ_ _ h'=>h'.elim)));cases r with
 |none=>exact wpAny_pure h₁
 |some v =>
  refine wpAny_bind (wpAny_mono h₁ (λ_ j p=>?_) λ_ _ h'=>h'.elim);refine wpAny_bind (wpAny_mono p (λ_ e k=>wpAny_bind (wpAny_mono k (λok b i=>?_) λ_ _ h'=>h'.elim)) λ_ _ h'=>h'.elim);cases ok with
  |false=>exact wpAny_pure ⟨rfl,i⟩
  |true =>exact wpAny_bind (wpAny_bind (wpAny_mono i (λx f l=>wpAny_bind (wpAny_mono l (λ_ g o=>wpAny_pure (wpAny_pure ⟨rfl,o⟩)) λ_ _ h'=>h'.elim)) λ_ _ h'=>h'))
end
theorem lP {wi:TI} {tt:TT} (hc:X.calm=true) (hi:PI X tg iter wi)
  (hg:∀C s2 H2 fp,PG (blk X M scope own C s2 H2 fp) tg g) (ht:∀C s2 H2 fp,PTs (blk X M scope own C s2 H2 fp) ifs tt) (he:∀C s2 H2 fp,vc X C s2 H2 fp->PE (ug X M scope own C s2 H2 fp) elt te)
  (hB:g0 X.N M X.env.scope scope own=true) (hs:∀x,foldedSetIterable iter X.env x=pure x) {Q:VK} (I:Inv X pins σ H s) (h:tLC own.length wi g tt te σ H Q)
  (fin:∀(C D:Addr) (O:Shared) (K:Hp),(∀h',Heap.SameBut C O.heap h'->Inv X pins σ K { O with heap:=h' })->(∃m,O.heap.Ns C m)->K C=none->C≠X.env.locals->(∀x c,X.env.cells.lookup x=some c->c≠C)->(∀p∈X.pn++pins,p.1≠C)->X.s₀.heap.objs.size<=C->Q (.ref D) K ->
   compPost (model X.prog X.w) X.A X.xe none Qf (.ref D) C (.ok .next) O) :
  wpAny (model X.prog X.w) X.A (comprehension (.ListComp elt [⟨tg,iter,ifs,0⟩] scope pos) scope X.env cpos (newList []) false (eval iter X.env) none) Qf X.xe s:=by
 have B:dF X M scope own:=dF.of hB;have P:closureFor scope X.env=pure (f7 scope.names X.env.cells []):=e9 λy hy hf=>by
  obtain⟨hv,hnl⟩:=B.free y hy hf;have hh:X.env.kindOf y.1=some .cell\/X.env.kindOf y.1=some .free:=by
   rcases hv with z|z|z
   ·exact absurd z hnl
   ·exact .inl z
   ·exact .inr z
  exact I.ok.has y.1 hh
 refine wpAny_comprehension_free (use:=none) rfl hs P B.kind B.names (thn (hi pins s σ H _ I h) λv s1 h1=>thn h1 λitv s2 h2=>?_);obtain⟨it,fp,tn,J,H2,e,L,T,R,f2,hD⟩:=h2;subst e;have S:∀b∈fp,b<s2.heap.objs.size:=λb k=>by obtain⟨o,q,_⟩:=T.obj _ _ R b k;exact Heap.lt_size q
 obtain⟨W,⟨m0,w0⟩,turn⟩:=hD s2.heap.objs.size (L.hok.fresh (B0 _));refine wpAny_newObj_type (wpAny_newFunctionEnv B.nocell (by intro y hy;simp at hy) (λh₁ j f=>?_) B.kind);dsimp only at j f ⊢;generalize hG:s2.heap.push { cls:=.type "list",dict:=none,data:=.seq ([]:List Value).toArray }=G at j f ⊢;have Z:G.objs.size=s2.heap.objs.size+1:=by rw[<-hG,Heap.size_push]
 have hk:∀b o,s2.heap.get? b=some o->h₁.get? b=some o:=λb o e=>f.extBut b o (by rw[Z];exact Nat.ne_of_lt (Bv (Heap.lt_size e))) (A7 _ (hG▸A7 _ e))
 have hDC:s2.heap.objs.size≠G.objs.size:=by rw[Z];exact Nat.ne_of_lt (BQ _)
 have hl:h₁.get? s2.heap.objs.size=some { cls:=.type "list",data:=.seq ([]:List Value).toArray 0 }:=f.extBut _ _ hDC (A7 _ (hG▸Ba _ rfl));have hns:h₁.Ns G.objs.size (λ_=>none):=by
  have e:(λx=>([]:List (Str×Value)).reverse.lookup x)=λ_=>none:=by funext x;rfl
  rw[<-e];exact j
 have I3:=λt'=>L.blk (t':=t') (C:=G.objs.size) (D:=s2.heap.objs.size) B f2 S rfl Z hl hns hk
 have l:∀{H':Hp},(∀b∈fp,H' b=none)->∀b∈fp,i4 (blk X M scope own G.objs.size s2 H2 fp) [] H' b:=λhn b k=>by
  refine⟨hn b k,?_,?_,.inl k,λx c e z=>?_,λp hp=>(f2 b k).2.2.2.2.2 p (Bb _ ((B8.mp hp).resolve_right A8))⟩
  ·show b≠G.objs.size;rw[Z];exact Nat.ne_of_lt (Bv (S b k))
  ·exact (I3 0).ok.exfs b k
  ·exact ((I3 0).ok.exf b k).2 x c e z
 have loop:∀s3:Shared,(∃t',s3={ s2 with heap:=h₁,toks:=t' })->codeAny (model X.prog X.w) X.A (.compLoop (.ListComp elt [⟨tg,iter,ifs,0⟩] scope pos) 0 (.ref it) (.ref s2.heap.objs.size) (compEnvC scope (f7 scope.names X.env.cells []) G.objs.size X.env))
   (compPost (model X.prog X.w) X.A X.xe none Qf (.ref s2.heap.objs.size) G.objs.size) s3:=by
  rintro s3 ⟨t',rfl⟩
  refine jA (λn s'=>∃i ys F H',F.length=own.length/\Inv (blk X M scope own G.objs.size s2 H2 fp) [] (σ++F) H' s'/\tn i s'.heap/\(∀b∈fp,H' b=none)/\W i n ys H') ?_ m0
   ⟨0,[],_,_,by simp,I3 t',T.keep _ _ _ R λb k o e=>hk b o e,λb k=>by rw[aV (Nat.ne_of_lt (S b k))];exact (f2 b k).1,w0⟩
  rintro n s4 ⟨i,ys,F,K,hl',I4,st4,fr4,w4⟩
  obtain⟨hDl,alt⟩:=turn i n ys K w4;rcases alt with⟨stop,qn⟩|⟨go,step⟩
  ·refine thn (T.done (blk X M scope own G.objs.size s2 H2 fp) rfl rfl rfl hc i [] s4 _ K _ I4 (l fr4) st4 stop) λr O a=>?_
   obtain⟨hr,I5⟩:=a;subst hr;obtain⟨m,hn,_⟩:=I5.loc;have cS:s2.heap.objs.size<=G.objs.size:=by rw[Z];exact BZ _
   refine fin G.objs.size s2.heap.objs.size O K (λh' hs'=>L.unblk (C:=G.objs.size) f2 cS I5 hs') ⟨m,hn⟩ I5.free ?_ (λx c e=>?_) (λp hp=>?_) (Bj L.sz cS) qn
   ·obtain⟨_,hl0,_⟩:=L.loc;exact BX (B5 hl0.lt cS)
   ·obtain⟨_,q⟩:=L.cell x c e;exact Nat.ne_of_lt (B5 q.lt cS)
   ·exact Nat.ne_of_lt (B5 (Heap.lt_size (L.pin p hp).1) cS)
  ·refine thn (T.item (blk X M scope own G.objs.size s2 H2 fp) rfl rfl rfl hc i [] s4 _ K _ I4 (l fr4) st4 go) λr O a=>?_
   obtain⟨u,hr,h5⟩:=a;subst hr;refine thn h5 λ_ s6 a=>?_
   obtain⟨x,H6,I6,r6,y6,U,fr6⟩:=a;have I6':=I6.pinned (l fr6) (T.obj _ _ U);have kp:∀{t:St} {H7:Hp} {s7:Shared},Inv (blk X M scope own G.objs.size s2 H2 fp) ([]++gX fp s6.heap) t H7 s7->tn (i+1) s7.heap/\∀b∈fp,H7 b=none:=λ{t H7 s7} I7=>by refine⟨T.keep _ _ _ U λb k o e=>(I7.pin (b,o) (A9 _ (A9 _ (cX k e)))).1,λb k=>?_⟩;obtain⟨o,e,d⟩:=T.obj _ _ U b k;exact (I7.pin (b,o) (A9 _ (A9 _ (cX k e)))).2.1
   refine thn (hg _ _ _ _ _ s6 _ H6 x u _ I6' r6 (step x H6 F hl' y6)) λ_ s7 a=>?_
   obtain⟨t,H7,I7,q7⟩:=a;refine thn ((ht _ _ _ _).run I7 q7) λok s8 a=>?_
   obtain⟨H8,I8,q8⟩:=a;cases ok with
   |false =>
    obtain⟨⟨E,e,Y⟩,m',hm,w8⟩:=(show if false=true then _ else _ from q8)
    subst e;obtain⟨k1,k2⟩:=kp I8;exact⟨m',hm,i+1,ys,E,H8,Y,I8.unpinned,k1,k2,w8⟩
   |true =>
    have q8:te t H8 _:=q8;refine thn (he _ _ _ _ ⟨pins,σ,L,f2,by rw[Z];exact BZ _⟩ _ s8 t H8 _ (I8.wish _) q8) λy s9 a=>?_
    obtain⟨v,H9,I9,r9,d9,z9,⟨E,e,Y⟩,m',hm,w9⟩:=a;have I9:=I9.unwish;subst e;refine thn (gW (X:=blk X M scope own G.objs.size s2 H2 fp) _ s9 _ H9 (.ref s2.heap.objs.size) [v] (.ref s2.heap.objs.size) [y] (λ_ H'=>H'=upd H9 s2.heap.objs.size (.lst (ys++[v]))) I9 rfl (.cons r9 .nil) ⟨_,ys,v,rfl,rfl,d9,z9,rfl⟩) λ_ s10 a=>?_
    obtain⟨_,H10,I10,_,e10⟩:=a;subst e10;obtain⟨k1,k2⟩:=kp I10;exact⟨m',hm,i+1,ys++[v],E,_,Y,I10.unpinned,k1,k2,w9⟩
 exact codeAny_compStart_list (loop _ ⟨_,rfl⟩) (T.self _ 0 _ _ _ (T.keep _ _ _ R λb k o e=>hk b o e) (loop _ ⟨_,rfl⟩))
theorem pH {c:TI} {tt:TT} (hc:X.calm=true) (hi:PI X tg iter c)
  (e:∀C s2 H2 fp,PG (blk X M scope own C s2 H2 fp) tg g) (f:∀C s2 H2 fp,PTs (blk X M scope own C s2 H2 fp) ifs tt) (i:∀C s2 H2 fp,vc X C s2 H2 fp->PE (ug X M scope own C s2 H2 fp) elt te)
  (hB:g0 X.N M X.env.scope scope own=true:=by rfl) (j:∀x,foldedSetIterable iter X.env x=pure x:=by intro _;rfl):PE X (.ListComp elt [⟨tg,iter,ifs,0⟩] scope pos) (tLC own.length c g tt te):=by
 intro pins s σ H Q I h;rw[eval_ListComp];refine lP hc hi e f i hB j I h λC D s5 l k a _ _ _ _ _ q=>?_
 obtain⟨m,hn⟩:=a;exact⟨m,hn,λh' b=>⟨.ref D,l,k h' b,rfl,q⟩⟩
section
variable {M:Model} {A:Around} {P:Prop}
def iE (base:Heap) (l:List Env) (e:Addr) (cls a0:Value) (h:Heap):Prop:=base.StaysIn h/\base.get? e=none/\h.FunFrames base l/\∃a,h.TracedAtW base e cls a0 a
theorem lU {l:List Env} {v:Value} {fr:Option Addr} (y:iE base l e cls a0 s.heap) (z:P->eQ s.heap e)
  (B:∀h',base.StaysIn h'->h'.FunFrames base l->h'.TracedAtW base e cls a0 (fr.elim Value.none λf=>rawInt f)->s.heap.UpToSlots h'->(P->eQ h' e)->Q () { s with heap:=h' }):wpAny M A (setFlight (.ref e) fr) Q E s:=by
 obtain⟨r,hen,hl,fl,oe,vs,T,oT,ts,x,m,hd,h1,n,j,t,h,C⟩:=y;have i:3<ts.size:=(Be.mp C).1;have other:∀b,b≠T->(s.heap.update T (Obj.mapFields (·.setIfInBounds 3 (fr.elim Value.none λf=>rawInt f)))).get? b=s.heap.get? b :=
  λb c=>B9 _ _ (Ne.symm c)
 have a:∀b o,s.heap.get? b=some o->(∀vs,o.data≠.fields vs)->b≠T:=λb o c g q=>by rw[q,t]at c;injection c with c;subst c;exact g ts h
 unfold setFlight;refine wpAny_bind (wpAny_field x hd h1 ?_);rw[if_pos (show (Value.ref T != Value.none)=true from by simp)];refine wpAny_setField t h i (B _ (λb o k=>(other b λq=>by rw[q,n]at k;cases k).trans (r b o k))
  (hl.of_keeps λb o c g=>⟨o,(other b (a b o c g)).trans c,rfl⟩) ?_ (λb o c g=>⟨o.slots,(other b (a b o c g)).trans c⟩) λp=>?_)
 ·exact⟨oe,vs,T,_,_,(other e (Ne.symm j)).trans x,m,hd,h1,n,j,Bl _ t (Obj.isFreed_of_fields (Obj.data_mapFields h _)),Obj.data_mapFields h _,by simp[i]⟩
 ·obtain⟨u,w,D,F,G⟩:=z p;exact⟨u,w,(other e (Ne.symm j)).trans D,F,G⟩
theorem nr {vs:Array Value} {head:Value} {l:Bool}
  (z:A.frames=some (env::outer)) (hl:s.heap.FunFrames base (env::outer)) (J:env.frame=some L)
  (B:s.heap.get? e=some oe) (C:base.StaysIn s.heap) (D:base.get? e=none) (hd:oe.data=.fields vs) (hsz:1<vs.size) (K:vs[0]?=some a0) (N:P->vs[2]?=some .none)
  (h:∀h',base.StaysIn h'->h'.FunFrames base (env::outer)->h'.TracedAtW base e oe.cls a0 (rawInt L)->s.heap.UpToSlots h'->(P->eQ h' e)->Q () { s with heap:=h' }) :
  wpAny M A (do let a <-frameOf env;let pl <-entryPlaceOf L l;let b <-EntryCells.newEntry head a .none (rawInt L) .none pl;setField (.ref e) 1 b) Q E s:=by
 have v:e∉(env::outer).filterMap (·.frame):=λhm=>by obtain⟨_,o,y,g⟩:=hl.mem hm;rw[B]at y;injection y with y;subst y;exact g vs hd
 refine wpAny_bind (wpAny_frameOf_fun z hl J λh₁ f=>wpAny_bind (wpAny_entryPlaceOf λpl F=>?_));unfold EntryCells.newEntry newFields;refine wpAny_bind (wpAny_newObj_type ?_ (F.sizeOk5 _ _ _ _ _));generalize hO:({ cls:=.type "traceback",dict:=none,data:=.fields ([head,.ref L,.none,rawInt L,.none]++(if pl.isEmpty then List.replicate 6 Value.none else pl)).toArray }:Obj)=tb;have G:∃ts,tb.data=.fields ts/\ts[3]?=some (rawInt L):=⟨_,by rw[<-hO],by simp⟩
 obtain⟨ts,w,O⟩:=G;have m:h₁.get? e=some oe:=(f.2.1 e v).trans B;have n:base.StaysIn h₁:=λb o i=>(f.2.1 b λhm=>by rw[(hl.mem hm).1]at i;cases i).trans (C b o i)
 have r:=A7 (h:=h₁) tb m;refine wpAny_setField r hd hsz ?_;have x:h₁.objs.size≠e:=BX (Heap.lt_size m);have j:=Obj.data_mapFields hd (·.setIfInBounds 1 (Value.ref h₁.objs.size));have t:=Bl (Obj.mapFields (·.setIfInBounds 1 (Value.ref h₁.objs.size))) r (Obj.isFreed_of_fields j);have u:=(B9 (h₁.push tb) (Obj.mapFields (·.setIfInBounds 1 (Value.ref h₁.objs.size))) (Ne.symm x)).trans (Ba h₁ (Obj.isFreed_of_fields w));have keep:∀b o,b≠e->h₁.get? b=some o->((h₁.push tb).update e (Obj.mapFields (·.setIfInBounds 1 (Value.ref h₁.objs.size)))).get? b=some o:=λb o H k=>by rw[B9 _ _ (Ne.symm H)];exact A7 _ k
 have c:∀b o,s.heap.get? b=some o->(∀vs,o.data≠.fields vs)->b≠e:=λb o k g q=>by rw[q,B]at k;injection k with k;subst k;exact g vs hd
 refine h _ (λb o i=>keep b o (λq=>by rw[q,D]at i;cases i) (n b o i)) (hl.of_keeps λb o k g=>?_) ?_ (λb o k g=>?_) λp=>⟨_,_,t,j,by rw[Bo (by decide)];exact N p⟩
 ·obtain⟨sl,I⟩:=f.2.2 b o k;exact⟨_,keep b _ (c b o k g) I,rfl⟩
 ·exact⟨_,_,h₁.objs.size,_,_,t,⟨Obj.cls_mapFields _ _,by rw[Bo (by decide)];exact K⟩,j,by simp[hsz],n.fresh,x,u,w,O⟩
 ·obtain⟨sl,I⟩:=f.2.2 b o k;exact⟨sl,keep b _ (c b o k g) I⟩
theorem lu
  (u:A.frames=some (env::outer)) (w:env.frame=some L) (j:iE base (env::outer) e cls a0 s.heap) (x:P->eQ s.heap e)
  (z:∀h',iE base (env::outer) e cls a0 h'->s.heap.UpToSlots h'->(P->eQ h' e)->Q () { s with heap:=h' }):wpAny M A (noteFrame (.ref e) env) Q E s:=by
 obtain⟨k,h,hl,B,oe,vs,T,G,ts,r,⟨l,C⟩,hd,h1,m,n,t,g,v⟩:=j;subst l;unfold noteFrame;simp only[w];refine wpAny_bind (wpAny_field r hd h1 ?_);rw[if_pos (show (Value.ref T != Value.none)=true from by simp)];refine wpAny_bind (wpAny_field t g v ?_);cases j:(B==rawInt L) with
 |true =>rw[if_pos rfl];exact wpAny_pure (z _ ⟨k,h,hl,B,oe,vs,T,G,ts,r,⟨rfl,C⟩,hd,h1,m,n,t,g,v⟩ (Heap.UpToSlots.refl _) x)
 |false =>
  rw[if_neg (by decide)];refine wpAny_bind (wpAny_setField t g (Be.mp v).1 ?_);have other:∀b,b≠T->(s.heap.update T (Obj.mapFields (·.setIfInBounds 3 Value.none))).get? b=s.heap.get? b:=λb f=>B9 _ _ (Ne.symm f)
  have a:∀b o,s.heap.get? b=some o->(∀vs,o.data≠.fields vs)->b≠T:=λb o f c q=>by rw[q,t]at f;injection f with f;subst f;exact c ts g
  refine nr (P:=P) u (hl.of_keeps λb o f c=>⟨o,(other b (a b o f c)).trans f,rfl⟩) w ((other e (Ne.symm n)).trans r)
   (λb o i=>(other b λq=>by rw[q,m]at i;cases i).trans (k b o i)) h hd (Be.mp h1).1 C (λp=>?_)
   λh' x1 x2 x3 x4 y=>z h' ⟨x1,h,x2,_,x3⟩ (λb o f c=>x4 b o ((other b (a b o f c)).trans f) c) y
  obtain⟨oe',vs',D,F,H⟩:=x p;rw[r]at D;cases D;rw[hd]at F;cases F;exact H
theorem pO
  (a:A.frames=some (env::outer)) (c:env.frame=some L) (b:iE base (env::outer) e cls a0 s.heap) (f:P->eQ s.heap e)
  (g:∀h',Heap.FlyingW base outer e cls a0 h'->s.heap.UpToSlots h'->(P->eQ h' e)->Q () { s with heap:=h' }):wpAny M A (leaving env (.ref e)) Q E s:=by
 unfold leaving;refine wpAny_bind (lu a c b f λh1 f1 h p1=>?_);refine lU (v:=.none) (fr:=none) f1 p1 λh2 i j l m p2=>g h2 ⟨i,f1.2.1,?_,l⟩ (h.trans m) p2
 obtain⟨_,_,k⟩:=j;exact k
end
theorem iW {C:Addr} {h h' base a:Heap} (c:Heap.SameBut C h h') (e:∀b,base.get? b=none->a.get? b=none):∀{l:List Env},C∉frs l->h.FunFrames base l->h'.FunFrames a l
 |[],_,_=>trivial
 |env::rest,hC,⟨hk,⟨L,o,hf,hn,ho,hd⟩,hr⟩=>by rw[dG hf]at hC;exact⟨hk,⟨L,o,hf,e L hn,(c.2 L λz=>hC (by rw[z];exact List.mem_cons_self)).trans ho,hd⟩,iW c e (λz=>hC (A6 _ z)) hr⟩
section
variable {w:World} {f:Addr} {A:Around} {E:XK}
theorem pN {sc:Scope} {s2:Shared} {H2:Hp} (c:vc (bT (CXW P w K) P w K mg base N qual scope f cd A outer s H E) C s2 H2 fp) :
  Passes (CXW P w K) (ug (bT (CXW P w K) P w K mg base N qual scope f cd A outer s H E) M sc own C s2 H2 fp) E:=by
 refine⟨rfl,?_⟩;intro pins σ H1 Y e s' J Z;obtain⟨ea,cls,a0,H',B,rfl,hE,F,hp⟩:=Z;obtain⟨t,σ0,I,hfp,x⟩:=c;have J0:Inv (blk (bT (CXW P w K) P w K mg base N qual scope f cd A outer s H E) M sc own C s2 H2 fp) [] σ H1 Y:=(Inv.unwish J).pins_of (λp hp=>absurd hp A8);have g:Inv (bT (CXW P w K) P w K mg base N qual scope f cd A outer s H E) t σ0 H1 Y:=I.unblk (C:=C) hfp x J0 (Heap.SameBut.refl _ _);have O:frs (bT (CXW P w K) P w K mg base N qual scope f cd A outer s H E).stack=s.heap.objs.size::frs outer:=dG rfl;have out:∀b o,s.heap.get? b=some o->b∉frs outer->b∉frs (bT (CXW P w K) P w K mg base N qual scope f cd A outer s H E).stack:=λb o e n z=>by
  rw[O]at z;rcases List.mem_cons.mp z with z|z
  ·rw[z]at e;exact absurd (Heap.lt_size e) (Bs _)
  ·exact n z
 have Q:C∉frs (bT (CXW P w K) P w K mg base N qual scope f cd A outer s H E).stack:=λz=>by obtain⟨_,o,ho,_⟩:=I.stack.mem z;exact absurd (B5 (Heap.lt_size ho) x) (Bs _)
 have old:∀b o,s.heap.get? b=some o->b≠C:=λb o e z=>by have h1:=Heap.lt_size e;have h2:s.heap.objs.size<=s2.heap.objs.size:=I.sz;rw[z]at h1;exact absurd (B5 h1 (Bj h2 x)) (Bs _)
 obtain⟨mC,⟨L,es,ep,i,hdC,hkC,hmC⟩,_⟩:=J0.loc;have i:Y.heap.get? C=some L:=i;have R:H1 C=none:=J0.free;have bC:B.get? C=some L:=F.keep C L i R Q;have j:H' C=none:=F.free C L i R;have nB:∀b,B.get? b=none->(PySem.W.hideAll B [C]).get? b=none:=λb c=>by
  cases q:(PySem.W.hideAll B [C]).get? b with
  |none=>rfl
  |some o=>rw[PySem.W.of_hideAll _ q]at c;cases c
 show wpAny (model P w) _ (noteFrame (.ref ea) (bT (CXW P w K) P w K mg base N qual scope f cd A outer s H E).env) _ _ s';refine lu (P:=A.handled=none/\Clr K cls) g.ok.frames rfl ⟨F.fly.1,F.fly.2.1,F.fly.2.2.1,_,F.fly.2.2.2.at⟩ (λz=>hp z.1 z.2) λh1 f1 u1 p1=>?_
 refine⟨mC,⟨L,es,ep,f1.1 C L bC,hdC,hkC,hmC⟩,λh2 h cenv _=>?_⟩;have D:∀b,B.get? b=none->b≠C:=λb c z=>by rw[z,bC]at c;cases c
 have G:iE (PySem.W.hideAll B [C]) (bT (CXW P w K) P w K mg base N qual scope f cd A outer s H E).stack ea cls a0 h2:=by
  obtain⟨g1,g2,g3,fl,oe,vs,T,oT,ts,S,m,hd,k,U,hTe,hT,hdT,X⟩:=f1;refine⟨λb o q=>?_,nB ea g2,iW h nB Q g3,fl,oe,vs,T,oT,ts,(h.2 ea (D ea g2)).trans S,m,hd,k,nB T U,hTe,(h.2 T (D T U)).trans hT,hdT,X⟩;have hbC:b≠C:=λz=>by rw[z,PySem.W.hideAll_none [C] (List.mem_singleton.mpr rfl)]at q;cases q
  exact (h.2 b hbC).trans (g1 b o (PySem.W.of_hideAll _ q))
 have p2:A.handled=none/\Clr K cls->eQ h2 ea:=λz=>by obtain⟨oe,vs,k,r,X⟩:=p1 z;exact⟨oe,vs,(h.2 ea (D ea f1.2.1)).trans k,r,X⟩
 unfold PySem.passOn;have l:∃oe vs T,h2.get? ea=some oe/\oe.data=.fields vs/\vs[1]?=some (.ref T):=by obtain⟨_,_,_,fl,oe,vs,T,oT,ts,S,m,hd,k,_⟩:=G;exact⟨oe,vs,T,S,hd,k⟩
 obtain⟨oe,vs,T,S,hd,k⟩:=l;refine wpAny_bind (wpAny_field S hd k ?_);rw[if_neg (show ¬ ((Value.ref T==Value.none)=true) from by simp)];refine wpAny_bind (lU (v:=.none) (P:=A.handled=none/\Clr K cls) G p2 λh3 y1 y2 y3 u3 p3=>wpAny_throw ?_);refine pO (P:=A.handled=none/\Clr K cls) g.ok.frames rfl ⟨y1,G.2.1,y2,_,y3⟩ p3 λh4 x1 x2 y=>⟨ea,cls,a0,H',_,rfl,hE,⟨F.os.trans g.os,F.bare,?_,?_,?_,?_,?_,?_,?_,?_,x1⟩,λa b=>y ⟨a,b⟩⟩
 ·intro a o e;refine (F.hok a o e).stay (λb u c q=>PySem.W.hideAll_get _ q λz=>?_) (λ_ q=>q) λ_ _ q=>q
  rw[List.mem_singleton]at z;subst z;rcases c with c|c
  ·rw[c,e]at j;cases j
  ·rw[c]at j;cases j
 ·intro b o e n c;exact PySem.W.hideAll_get _ (F.keep b o (g.base.keep b o e n c (A8)) (g.base.free b o e n (A8)) (out b o e c)) λz=>old b o e (List.mem_singleton.mp z)
 ·intro b o e c;obtain⟨o',q⟩:=g.base.there b o e (A8);obtain⟨o2,r⟩:=F.there b o' q (out b o e c);exact⟨o2,PySem.W.hideAll_get _ r λz=>old b o e (List.mem_singleton.mp z)⟩
 ·intro b o e c;obtain⟨sl,q⟩:=g.base.slot b o e (g.ok.frf b c) c (A8);obtain⟨_,o2,r,d2⟩:=g.ok.funs.mem c;have r:s.heap.get? b=some o2:=r;rw[e]at r;cases r;obtain⟨sl1,k⟩:=F.slot b _ q (show b∈frs (bT (CXW P w K) P w K mg base N qual scope f cd A outer s H E).stack by rw[O];exact A6 _ c);obtain⟨sl2,X⟩:=u1 b _ k d2;have q4:=(h.2 b (old b _ e)).trans X;obtain⟨sl3,q5⟩:=u3 b _ q4 d2;obtain⟨sl4,q6⟩:=x2 b _ q5 d2;exact⟨sl4,q6⟩
 ·intro b o e n;obtain⟨o',q⟩:=g.base.there b o e (A8);exact F.free b o' q (g.base.free b o e n (A8))
 ·intro b xs e;exact F.tups b xs (g.base.tups b xs e)
 ·intro b o u e;exact F.frzs b o u (g.base.frzs b o u e)
 ·intro b ps e;exact F.tbls b ps (g.base.tbls b ps e)
end
section
variable {E:XK}
def cF (cond:Ds->Rs Bool) (elt:Ds->Rs PyData) (tgt:PyData->Option Ds) (δ:Ds):List PyData->Rs (List PyData)
 |[]=>.ok []
 |d::r=>match tgt d with
  |none=>.no
  |some own=>(cond (δ++own)).calm.bind λb=>if b=true then (elt (δ++own)).bind λx=>(cF cond elt tgt δ r).bind λxs=>.ok (x::xs) else cF cond elt tgt δ r
def dt (n0:Nat) (src:Ds->Rs (List PyData)) (cond:Ds->Rs Bool) (elt:Ds->Rs PyData) (tgt:PyData->Option Ds):Ds->Rs (List PyData):=λδ=>if δ.length=n0 then (src δ).bind λds=>if ds.length<=1000000 then cF cond elt tgt δ ds else .no else .no
theorem ui {γ:Type} (r:Rs α) (f:α->Rs β) (g:β->Rs γ):(r.bind f).bind g=r.bind λx=>(f x).bind g:=by cases r <;> rfl
theorem ud {T:Ds->Rs (List PyData)} {tt:TT} {f:Ds->Rs PyData} (hT:TgD K n0 own.length tgt g) (U:∀σ H Q,cD K E0 cond σ H Q->tt σ H Q) :
  ∀σ H Q,lD K E (dt n0 T cond f tgt) σ H Q->tLC own.length (iD K E T) g tt (eD K E f) σ H Q:=by
 intro σ H Q ⟨A,δ,R,o⟩;unfold dt at o;by_cases hn0:δ.length=n0
 case neg=>rw[if_neg hn0]at o;exact o.elim
 rw[if_pos hn0]at o;have X:σ.length=n0:=by rw[<-R.len];exact hn0
 refine⟨A,δ,R,?_⟩;cases q:T δ with
 |no=>rw[q]at o;exact o
 |rz C=>rw[q]at o;exact o
 |ok ds =>
  rw[q]at o;have o:uB K E A H (if ds.length<=1000000 then cF cond f tgt δ ds else .no) Q:=o;by_cases hz:ds.length<=1000000
  case neg=>rw[if_neg hz]at o;exact o.elim
  rw[if_pos hz]at o;intro J H1 O hJ D t;have P:=R.same O;have nD:D∉A:=P.ls.new t;refine⟨λi m ys H'=>m=ds.length-i/\i<=ds.length/\aj H1 H'/\H' D=some (.lst ys)/\ys.length<=i/\∃l,cF cond f tgt δ ds=(cF cond f tgt δ (ds.drop i)).bind (λrest=>.ok (l++rest))/\Iss K (del H' (D::A)) l ys,
   ⟨ds.length,by simp,C0 _,bg t,bS,B0 _,[],by rw[List.drop_zero];cases cF cond f tgt δ ds <;> rfl,cN⟩,?_⟩
  rintro i m ys H' ⟨rfl,hi,n,hl,hy,l,j,Y⟩
  refine⟨hl,?_⟩;have sG:aj (del H1 A) H':=aq.trans n;have w:∀b∈D::A,(del H1 A) b=none:=λb B=>by
   rcases List.mem_cons.mp B with z|z
   ·rw[z,bc nD];exact t
   ·exact fJ z
  obtain⟨jg,js,jy⟩:=hJ H' (D::A) sG (λb B=>by
   rcases List.mem_cons.mp B with z|z
   ·exact⟨_,by rw[z];exact hl,rfl⟩
   ·exact (P.ls.same n) b z) w
  by_cases hlt:i<ds.length
  ·refine .inr ⟨jg i hlt,λx H2 Z F y=>?_⟩;obtain⟨s2,d,ed,hd⟩:=jy i x H2 hlt y;have edr:ds.drop i=d::ds.drop (i+1):=by
    rw[BH hlt];have:ds[i]=d:=by have:=B6 hlt;rw[this]at ed;exact Option.some.inj ed
    rw[this]
   rw[edr]at j;have o':uB K E A H ((cF cond f tgt δ (d::ds.drop (i+1))).bind (λrest=>.ok (l++rest))) Q:=j▸o;unfold cF at o';have a:=j;rw[cF.eq_2]at a;cases et:tgt d with
   |none=>rw[et]at o';exact o'.elim
   |some ow =>
    rw[et]at o' a;have l2:H2 D=some (.lst ys):=s2 _ _ hl;have G:Ls H2 (D::A):=λb B=>by
     rcases List.mem_cons.mp B with z|z
     ·exact⟨_,by rw[z];exact l2,rfl⟩
     ·exact (P.ls.same (n.trans s2)) b z
    obtain⟨hol,hgo⟩:=hT d x σ Z H2 (D::A) (λh H2=>tt h H2 λb H3 =>
     if b=true then eD K E f h H3 λv p=>p D=some (.lst ys)/\ys.length<sizeLine/\(∃c,h=σ++c/\c.length=own.length)/\∃m',m' < ds.length-i/\_
     else (∃c,h=σ++c/\c.length=own.length)/\∃m',m' < ds.length-i/\_) ow X F G hd et
    refine hgo λvs r I=>?_
    have L:aj (del H1 A) (del H2 (D::A)):=iu (sG.trans s2) w;have RE:cG K H2 (D::A) (δ++ow) (σ++vs):=by
     refine⟨G,by rw[B1,B1,R.len,r,hol],λk e S=>?_⟩;by_cases hk:k<δ.length
     ·rw[Bh hk]at S;obtain⟨u,e1,hu⟩:=P.get k e S;exact⟨u,by rw[Bh (by rw[<-R.len];exact hk)];exact e1,hu.same L⟩
     ·rw[Bf (by omega)]at S;obtain⟨u,e1,hu⟩:=I _ e S;exact⟨u,by rw[Bf (by rw[<-R.len];omega),<-R.len];exact e1,hu⟩
    dsimp only at o' a;refine U _ _ _ (cD.run RE (λb M H3 s R3=>?_) (λC M=>?_) (λM=>?_))
    ·simp only[M,Rs.ft,Rs.ag]at o' a;cases b with
     |true =>
      simp only[if_true]at o' a;refine eD.run R3 (λxd ex v p N R4 hv=>?_) (λC ex p N=>?_) (λex=>?_)
      ·simp only[ex,Rs.ag]at o' a;have l4:p D=some (.lst ys):=N _ _ (s _ _ l2);have dU:del (upd p D (.lst (ys++[v]))) (D::A)=del p (D::A):=kJ (List.mem_cons_self);refine⟨l4,by rw[sizeLine_eq];omega,⟨vs,rfl,r⟩,ds.length-(i+1),by omega,rfl,hlt,?_,bS,by simp;omega,l++[xd],?_,?_⟩
       ·exact aj.put (((n.trans s2).trans s).trans N) t
       ·rw[a,ui];cases cF cond f tgt δ (ds.drop (i+1)) <;> simp[Rs.bind]
       ·rw[dU];exact (Y.same (aj.del (s2.trans (s.trans N)))).append (kZ hv)
      ·simp only[ex,Rs.d8]at o';exact o' p (O.trans (n.trans (s2.trans (s.trans N))))
      ·simp only[ex,Rs.bo]at o';exact o'
     |false =>simp only[BW,if_false]at o' a;exact⟨⟨vs,rfl,r⟩,ds.length-(i+1),by omega,rfl,hlt,(n.trans s2).trans s,s _ _ l2,by omega,l,a,Y.same (aj.del (s2.trans s))⟩
    ·simp only[M,Rs.calm,Rs.bo]at o';exact o'.elim
    ·simp only[M,Rs.calm,Rs.bo]at o';exact o'.elim
  ·have e:i=ds.length:=by omega
   subst e;rw[C8]at j;have j:cF cond f tgt δ ds=.ok (l++[]):=j;rw[BC]at j;rw[j]at o;exact .inl ⟨js,o D ys H' (O.free t) (O.trans n) hl Y⟩
abbrev bkE (X:Cx) (tg:Expr) (scope:Scope):=ug X (tw (cB tg) X.N) scope (cB tg)
theorem pL {b:Ds->Rs (List PyData)} {a:Ds->Rs PyData} (hc:X.calm=true) (hi:PID X E tg iter b)
  (e:TgD X.K n0 (cB tg).length tgt g) (f:∀C s2 H2 fp,PG (bk X tg scope C s2 H2 fp) tg g) (c:∀C s2 H2 fp,PIf (bk X tg scope C s2 H2 fp) ifs cond) (h:∀C s2 H2 fp,vc X C s2 H2 fp->PD (bkE X tg scope C s2 H2 fp) E elt a)
  (hB:wB X tg scope=true) (i:∀x,foldedSetIterable iter X.env x=pure x):PLD X E (.ListComp elt [⟨tg,iter,ifs,0⟩] scope pos) (dt n0 b cond a tgt) :=
 (pH (own:=cB tg) (te:=eD X.K E a) hc hi f (λC s2 H2 fp=>(c C s2 H2 fp).pts) (λC s2 H2 fp j=>h C s2 H2 fp j) hB i).imp (ud e (PIf.tt (c 0 X.s₀ X.H₀ [])))
end
theorem str_of_none {prog:Program} {w:World} {A:Around} {Q:Value->Shared->Prop} (h:Q (.str "None" s.toks) { s with toks:=s.toks+1 }):wpAny (model prog w) A (call (.type "str") [.none]) Q E s :=
 callType_new F.called_str (by decide) (F.typeCall_str_1 _) (F.newCall_str_1 _) (λobj=>F.args_object_init_2 obj _) F.entry_str_new
  (PySem.meets_str_new (S:=λ_ R s=>R (.ok (.ret (.str "None" s.toks))) { s with toks:=s.toks+1 }) λ_ _ _ _ s a =>
   PySem.wpAny_strOf_gives rfl (typeIs_none s) F.slot_NoneType_str F.slot_NoneType_repr F.entry_NoneType_repr (F.args_NoneType_repr_1 _) gives_none_repr a (hsz:=by decide)) ⟨typeIs_str _ _ _,h⟩
section
variable {E:XK}
def g6 (ds:List PyData):Option PyData:=match ds with
 |[.none]=>some (.str "None")
 |ds=>bD ds
theorem pM:d7 X (.type "str") (λxs H Q=>(xs=[.non]/\Q (.str "None") H)\/∃i,xs=[.int i]/\i.natAbs.log2<1920/\Q (.str (toString i)) H):=by
 intro pins s σ H xs us Q I r h;rcases h with⟨rfl,q⟩|h
 ·obtain⟨u,rfl,a⟩:=vals1 r;cases a;exact str_of_none ⟨.str _,H,I.tok _,⟨_,rfl⟩,q⟩
 ·exact f9 pins s σ H xs us Q I r h
theorem qJ:FnD K g6 (λxs H Q=>(xs=[.non]/\Q (.str "None") H)\/∃i,xs=[.int i]/\i.natAbs.log2<1920/\Q (.str (toString i)) H):=λds d vs H A Q e a h k=>by
 unfold g6 at e;split at e
 ·cases e;obtain⟨v,rfl,h1⟩:=gI h;rw[h1.ofNone];exact .inl ⟨rfl,k _ H (aj.refl _) eo⟩
 ·exact .inr (oz ds d vs H A Q e a h k)
theorem pT {a:Expr} (hm:X.mg "str"=none) (ha:PAD X E (a::es) gs) (c:Gl X "str") (e:starEach (a::es) X.env=(false,eval a X.env)::starEach es X.env) (b:(backTo pos (starEach es X.env)).any (·.1)=false) :
 PD X E (.Call (.Name "str" p) (a::es) [] pos) (gF g6 gs):=cM qJ ha λh=>eL pM c hm kr h (by decide) (by decide) e b
end
end L2
namespace RS
open PySem L2
def bY (cs:Cs):Ds->Sr :=
 (aG (aM [] 1 (gF bD (aa (g2 dIx (ae 0) (gC (.int 0))) af)))
  (bp (gIf (gT (g1 gJ (g2 dIx (ae 0) (gC (.int 1))))) (ae 1) (g2 aB (g2 aB (ae 1) (gC (.str "*"))) (gF bD (aa (g2 dIx (ae 0) (gC (.int 1))) af))))))
def eJ (cs:Cs) (aS:Gf):Ds->Sr :=
 (aG (aM [] 1 (dq (aa (gF bD (aa (g2 dIx (ae 0) (gC (.int 0))) af)) (aa (gF bD (aa (g2 dIx (ae 0) (gC (.int 1))) af)) (aa (gF bD (aa (g2 dIx (ae 0) (gC (.int 2))) af)) af)))))
  (bp (g2 aB (gM e8 (gC (.str " ")) (g2 aB (ae 1) (gL (a5 2 (ck (g2 dIx (ae 0) (gC (.int 3)))) aT (ak aS (aa (ae 2) af)) aF)))) (gC (.str "\n")))))
def gx (cs:Cs) (bZ aw:Gf):Ds->Sr :=
 (aG (jT (ak aw (aa (ae 0) af)))
  (bp (gM e8 (gC (.str "")) (gL (a5 1 (ck (ae 0)) aT (ak bZ (aa (ae 1) af)) aF)))))
def cz (cs:Cs):Ds->Sr :=
 (aG (aM [] 1 (gL (a5 2 (fh (aa (g2 aB (gC (.int 60)) (gC (.int 1))) af)) aT (gF bD (aa (ae 2) af)) aF)))
  (aG (sIf (gT (g2 (mG true) (ae 0) (ae 1))) (fP cs.NoText (aa (gC (.str "this is no number that an errand can have")) af)) bq)
  (bp (lG (ae 1) (ae 0)))))
def df (cs:Cs) (ar:Gf):Ds->Sr :=
 (aG (aM [] 1 (gM cc (ae 0) (gC (.str "*"))))
  (aG (sIf (gT (g2 dGt (gF eC (aa (ae 1) af)) (gC (.int 2)))) (fP cs.NoText (aa (gC (.str "a part has one tool at the most")) af)) bq)
  (aG (aM [] 2 (gIf (gT (g2 dEq (gF eC (aa (ae 1) af)) (gC (.int 2)))) (ak ar (aa (g2 dIx (ae 1) (gC (.int 1))) af)) (gC .none)))
  (bp (eU (aa (ak ar (aa (g2 dIx (ae 1) (gC (.int 0))) af)) (aa (ae 2) af)))))))
def dg (cs:Cs) (bA ar:Gf):Ds->Sr :=
 (aG (aM [] 1 (gM cc (ae 0) (gC (.str " "))))
  (aG (aM [] 2 (gF br (aa (gL (dt 3 (ck (cf (ae 1) av (aR (gC (.int 3))))) aT (ak ar (aa (ae 3) af)) aF)) af)))
  (bp (g2 aB (ae 2) (eU (aa (gF br (aa (gL (dt 3 (ck (cf (ae 1) (aR (gC (.int 3))) av)) aT (ak bA (aa (ae 3) af)) aF)) af)) af))))))
def fM (cs:Cs) (aw bx:Gf):Ds->Sr :=
 (aG (sIf (cOr (di (gT (g1 (cw "str") (ae 0)))) (di (gT (gM iP (ae 0) (gC (.str "\n")))))) (fP cs.NoText (aa (gC (.str "errands are written as lines, each ended by a line end")) af)) bq)
  (aG (aM [] 1 (gF br (aa (gL (dt 2 (ck (cf (gM cc (ae 0) (gC (.str "\n"))) av (aR (g1 eE (gC (.int 1)))))) aT (ak bx (aa (ae 2) af)) aF)) af)))
  (fU cs.NoErrands cs.NoText aw (aa (ae 1) af))))
def bz (cs:Cs):Ds->Sr :=
 (aG (aM [] 3 (g2 dZ (ae 1) (g2 aB (gF lT (aa (ae 0) af)) (gC (.int 1)))))
  (aG (aM [] 4 (g2 pz (gC (.str " *\n0123456789-+.aN 1*0")) (g2 dZ (g2 ib (ae 1) (gC (.int 1000))) (gC (.int 22)))))
  (aG (aM [] 5 (g2 dZ (g2 ib (ae 1) (gC (.int 40000))) (gC (.int 6))))
  (aG (sIf (gT (g2 dEq (ae 5) (gC (.int 0)))) (bp (g2 aB (g2 aB (aK (ae 0) av (aR (ae 3))) (ae 4)) (aK (ae 0) (aR (ae 3)) av))) bq)
  (aG (sIf (gT (g2 dEq (ae 5) (gC (.int 1)))) (bp (g2 aB (aK (ae 0) av (aR (ae 3))) (aK (ae 0) (aR (g2 aB (ae 3) (gC (.int 1)))) av))) bq)
  (aG (sIf (gT (g2 dEq (ae 5) (gC (.int 2)))) (bp (g2 aB (g2 aB (aK (ae 0) av (aR (ae 3))) (ae 4)) (aK (ae 0) (aR (g2 aB (ae 3) (gC (.int 1)))) av))) bq)
  (aG (sIf (gT (g2 dEq (ae 5) (gC (.int 3)))) (bp (g2 aB (aK (ae 0) av (aR (ae 3))) (aK (ae 0) (aR (g2 aB (ae 3) (g2 dZ (g2 ib (ae 1) (gC (.int 7))) (gC (.int 9))))) av))) bq)
  (aG (sIf (gT (g2 dEq (ae 5) (gC (.int 4)))) (bp (g2 dIx (dq (aa (g2 aB (ae 0) (ae 0)) (aa (g2 aB (aK (ae 0) (aR (ae 3)) av) (aK (ae 0) av (aR (ae 3)))) (aa (g2 aB (gC (.str " ")) (ae 0)) (aa (g2 aB (ae 0) (gC (.str " "))) af))))) (g2 dZ (ae 1) (gC (.int 4))))) bq)
  (bp (g2 dIx (g2 aB (ae 2) (dq (aa (gC .none) (aa (gC (.int 5)) (aa (dq (aa (ae 0) af)) (aa (gC (.str "")) af)))))) (g2 dZ (ae 1) (g2 aB (gF eC (aa (ae 2) af)) (gC (.int 4))))))))))))))
def dM (cs:Cs):Ds->Sr :=
 (aG (aM [6] 1 (gC (.str "")))
  (aG (ig [6] (ck (ae 0)) (d6 [2,3,4,5]) (aG (jG [6] 6 (aa (gF bD (aa (ae 2) af)) (aa (gF bD (aa (ae 3) af)) (aa (gF bD (aa (ae 4) af)) af))))
  (aG (ig [6] (ck (ae 5)) (d6 [7,8]) (gR [6] 6 (g2 dIx (dq (aa (g2 aB (g2 aB (gF bD (aa (ae 7) af)) (gC (.str "*"))) (gF g6 (aa (ae 8) af))) (aa (gF bD (aa (ae 7) af)) af))) (gF ju (aa (g1 gJ (ae 8)) af)))))
  (mF 1 (g2 aB (g2 aB (ae 1) (gM e8 (gC (.str " ")) (ae 6))) (gC (.str "\n")))))))
  (bp (ae 1))))
def cL (cs:Cs):Ds->Sr :=
 (aG (sIf (gT (g2 (mG true) (ae 0) (gL (a5 1 (fh (aa (gC (.int 100)) af)) aT (gF bD (aa (ae 1) af)) aF)))) (bp (g1 eE (gC (.int 1)))) bq)
  (bp (gF mr (aa (ae 0) af))))
def dP (cs:Cs) (aE:Gf):Ds->Sr :=
 (aG (sIf (gT (g2 rK (gC (.str "*")) (ae 0))) (bp (eU (aa (ak aE (aa (ae 0) af)) (aa (gC .none) af)))) bq)
  (aG (aM [] 1 (gM lx (ae 0) (gC (.str "*"))))
  (bp (eU (aa (ak aE (aa (aK (ae 0) av (aR (ae 1))) af)) (aa (ak aE (aa (aK (ae 0) (aR (g2 aB (ae 1) (gC (.int 1)))) av) af)) af))))))
def cW (cs:Cs) (aw bf aE:Gf):Ds->Sr :=
 (aG (sIf (cOr (di (gT (g1 (cw "str") (ae 0)))) (gT (g2 dNe (aK (ae 0) (aR (g1 eE (gC (.int 1)))) av) (gC (.str "\n"))))) (bp (gC .none)) bq)
  (aG (jG [1] 1 af)
  (aG (ig [1] (ck (gM cc (aK (ae 0) av (aR (g1 eE (gC (.int 1))))) (gC (.str "\n")))) (dw 2) (aG (aM [1] 3 (gM cc (ae 2) (gC (.str " "))))
  (aG (aM [1] 4 (gL (a5 5 (ck (cf (ae 3) av (aR (gC (.int 3))))) aT (ak aE (aa (ae 5) af)) aF)))
  (aG (sIf (gT (g2 dLt (gF eC (aa (ae 3) af)) (gC (.int 4)))) (bp (gC .none)) bq)
  (gR [1] 1 (eU (aa (g2 dIx (ae 4) (gC (.int 0))) (aa (g2 dIx (ae 4) (gC (.int 1))) (aa (g2 dIx (ae 4) (gC (.int 2))) (aa (gF br (aa (gL (a5 5 (ck (cf (ae 3) (aR (gC (.int 3))) av)) aT (ak bf (aa (ae 5) af)) aF)) af)) af))))))))))
  (aG (jm cs.NoErrands aw (aa (gF br (aa (ae 1) af)) af) (gC .none))
  (bp (gF br (aa (ae 1) af)))))))
def lB (cs:Cs) (bQ bX ah aL bw dj aI:Gf):Ds->Sr :=
 (aG (aM [] 1 (ak aI (aa (ae 0) (aa (gC (.int 2)) (aa (gC (.int 4)) (aa (gC (.int 28)) (aa (gC (.bool true)) af)))))))
  (aG (aM [] 2 (ak dj (aa (ae 1) af)))
  (aG (sIf (cOr (di (gT (g1 (cw "str") (ae 2)))) (cOr (gT (g2 dNe (ae 2) (ak bw (aa (ae 1) af)))) (gT (g2 dNe (ak bX (aa (ae 2) af)) (ae 1))))) (bp (gC (.bool false))) bq)
  (aG (aM [] 3 (dq (aa (gC (.str "2 1 0 1*0\n")) (aa (gC (.str "2 1 0 1*0*1 1\n")) (aa (gC (.str "02 1 0 1\n")) (aa (gC (.str "2 1 0\n")) (aa (g2 jn (gC (.str "2 1 0 1\n")) (gC (.int 7))) (aa (gC (.str "61 1 0 1\n")) (aa (gC (.str "2 1 0 1")) af)))))))))
  (aG (aM [] 2 (ak aL (aa (ae 2) (aa (ak ah (aa (ae 0) (aa (gC (.int 0)) (aa (g2 tV (gC (.int 10)) (gC (.int 7))) af)))) (aa (ae 3) af)))))
  (aG (aM [] 4 (gC .none))
  (aG (lV [] cs.NoText 4 5 bX (aa (ae 2) af))
  (bp (g2 dEq (ae 4) (ak bQ (aa (ae 2) af)))))))))))
end RS
set_option maxHeartbeats 1000000
namespace RS
open PySem L2
inductive Fa2 {α β:Type} (R:α->β->Prop):List α->List β->Prop where
 |nil:Fa2 R [] []
 |cons {a:α} {b:β} {l:List α} {m:List β} (h:R a b) (t:Fa2 R l m):Fa2 R (a::l) (b::m)
section
variable {es:List Er} {A B:List Int} {x y:Int}
end
section
variable {es:List Er} {rs ot:List Int} {n:Int}
end
def fz (ns:List Int) (a:Int) (many:Nat):Nat->List Int×List Int
 |0=>((List.range many).map λ(i:Nat)=>(i:Int),[])
 |i+1=>((fz ns a many i).1.eraseIdx (mixed ns (a+(i:Int)) ((fz ns a many i).1.length:Int)).toNat,(fz ns a many i).2++[(fz ns a many i).1.getD (mixed ns (a+(i:Int)) ((fz ns a many i).1.length:Int)).toNat 0])
def iy (ns:List Int) (a:Int) (many:Nat):List Int:=(fz ns a many many).2
theorem jr {α:Type}:∀(l:List α) (j:Nat) (h:j<l.length),(l[j]::l.eraseIdx j).Perm l
 |[],j,h=>by simp at h
 |x::r,0,h=>by simp
 |x::r,j+1,h=>by
  simp only[List.getElem_cons_succ,List.eraseIdx_cons_succ];have h':j<r.length:=by simpa using h
  exact (List.Perm.swap _ _ _).trans ((jr r j h').cons x)
theorem ly (ns:List Int) (a:Int) (many:Nat):∀i,i<=many->(fz ns a many i).1.length=many-i/\(fz ns a many i).2.length=i/\((fz ns a many i).1++(fz ns a many i).2).Perm ((List.range many).map λ(i:Nat)=>(i:Int))
 |0,_=>⟨by simp[fz],rfl,by simp[fz]⟩
 |i+1,h=>by
  obtain⟨h1,h2,e⟩:=ly ns a many i (by omega);simp only[fz];generalize (fz ns a many i).1=L at *;generalize (fz ns a many i).2=M at *;have c:0<(L.length:Int):=by omega
  have m0:=bF ns (a+(i:Int)) c;have m1:=bR ns (a+(i:Int)) c;generalize mixed ns (a+(i:Int)) (L.length:Int)=z at *;have b:z.toNat<L.length:=by omega
  refine⟨by rw[List.length_eraseIdx_of_lt b];omega,by simp[h2],?_⟩;refine List.Perm.trans ?_ e;rw[BD,B6 b,Option.getD_some];have p1:(L[z.toNat]::L.eraseIdx z.toNat).Perm L:=jr L z.toNat b;have p2:(L.eraseIdx z.toNat++(M++[L[z.toNat]])).Perm ((L[z.toNat]::L.eraseIdx z.toNat)++M):=by rw[<-List.append_assoc];exact (List.perm_append_singleton _ _)
  exact p2.trans (p1.append_right M)
theorem nT (ns:List Int) (a:Int) (many:Nat):v5 many (iy ns a many):=by
 obtain⟨h1,h2,b⟩:=ly ns a many many (B0 _);unfold iy;have e:(fz ns a many many).1=[]:=Bp.mp (by omega);rw[e,BU]at b;refine⟨h2,λr c=>?_,b.nodup_iff.mpr ?_⟩
 ·obtain⟨k,g,rfl⟩:=Bc.mp (b.mem_iff.mp c);have:=BJ.mp g;omega
 ·exact (List.nodup_range).map (f:=λ(i:Nat)=>(i:Int)) λx y h=>by intro q;have q:(x:Int)=(y:Int):=q;exact h (by omega)
def eO:Gf
 |[s,.int a,.int many]=>(match cO s with
  |some ns=>if 0<=a/\0<=many/\many<=100 then .ok (rF (iy ns a many.toNat)) else .no
  |none=>.no)
 |_=>.no
theorem hZ {a:Int} (h1:0<=a) (h2:0<=many) (b:many<=100):eO [ai ns,.int a,.int many]=.ok (rF (iy ns a many.toNat)):=by unfold eO;simp[cU,h1,h2,b]
theorem ke:∀{ds:List PyData},(∀d∈ds,aC d=true)->dH ds=true
 |[],_=>by unfold dH;rfl
 |d::r,h=>by unfold dH;rw[h d List.mem_cons_self,ke λe a=>h e (A6 _ a)];rfl
theorem a7 (h:∀d∈ds,aC d=true):aC (.tuple ds)=true:=by unfold aC;exact ke h
theorem bV (i:Int):aC (.int i)=true:=by unfold aC;rfl
theorem pD (o:Option Int):aC (f6 o)=true:=by cases o <;> (unfold f6 aC;rfl)
theorem mZ (p:Int×Option Int):aC (az p)=true:=a7 λd hd=>by
 rcases List.mem_cons.mp hd with rfl|hd
 ·exact bV _
 ·cases List.mem_singleton.mp hd;exact pD _
theorem rk (e:Er):aC e.d=true:=a7 λd hd=>by
 rcases List.mem_cons.mp hd with rfl|hd
 ·exact bV _
 ·rcases List.mem_cons.mp hd with rfl|hd
  ·exact bV _
  ·rcases List.mem_cons.mp hd with rfl|hd
   ·exact bV _
   ·cases List.mem_singleton.mp hd;exact a7 λd hd=>by obtain⟨p,_,rfl⟩:=Bc.mp hd;exact mZ p
theorem gS (es:List Er):aC (a4 es)=true:=a7 λd hd=>by obtain⟨p,_,rfl⟩:=Bc.mp hd;exact rk p
end RS
namespace RS
open PySem PySem.Spec PyProof.Rows L2
section
variable {w:World}
theorem oX {xs:List α} {k:Int} {v:α} (a:0<=k) (h:xs[k.toNat]?=some v):atI xs k=some v:=by
 have:=kK h
 rwa[Int.toNat_of_nonneg a]at this
theorem depthAll_ints:∀ns:List Int,PyData.depthAll (ns.map PyData.int)<=1
 |[]=>by simp[PyData.depthAll]
 |n::r=>by have:=depthAll_ints r;simp only[Bk,PyData.depthAll,PyData.depth];omega
theorem g4:∀ns:List Int,PyData.canLayAll0 (ns.map PyData.int)=true
 |[]=>by simp[PyData.canLayAll0]
 |n::r=>by simp[PyData.canLayAll0,PyData.canLay0,g4 r]
theorem shaped_ints (ns:List Int):SeqAt.shaped (.list (ns.map PyData.int))=true:=by
 have:=depthAll_ints ns;have h2:(PyData.list (ns.map PyData.int)).depth<=64:=by simp only[PyData.depth];omega
 simp[SeqAt.shaped,PyData.canLay0,g4,h2]
theorem nt:SeqAt.shaped (.list [])=true:=shaped_ints []
theorem sA:∀ns:List Int,PyData.eqv (.list (ns.map PyData.int)) (.list [])=decide (ns=[])
 |[]=>by simp[PyData.eqv,PyData.eqvAll]
 |_::_=>by simp[PyData.eqv,PyData.eqvAll]
def rL (K:PySem.W.Frag):Sp:=λvs H Q _=>∃(a:Addr) (ns:List Int) (k:Int),vs=[.ref a,.int k]/\SqL K H a (ns.map V.int)/\0<=k/\∀H',aj H H'->Q (.int (cellAt ns k)) H'
def vQ (K:PySem.W.Frag):Sp:=λvs H Q _=>∃(a:Addr) (ns:List Int) (k many:Int),vs=[.ref a,.int k,.int many]/\SqL K H a (ns.map V.int)/\0<=k/\0<many/\∀H',aj H H'->Q (.int (mixed ns k many)) H'
theorem vv (ds:List PyData) (hl:ds.length=3) (b:ah ds≠.no):∃d,ah ds=.ok d/\dJ d=true/\∀vs H Q,Iss K H ds vs->(∀v H',aj H H'->IsD K H' d v->Q v H')->vQ K vs H Q E0:=by
 obtain⟨s,k,many,e,c⟩:=lp b;clear b;subst e;have b:=c;clear c
 ·skip
  split at b
  ·rename_i ns f;have es:=fc f;subst es;split at b
   ·rename_i hc;refine⟨_,bU hc.1 hc.2,rfl,λvs H Q hi g=>?_⟩;obtain⟨v0,r0,rfl,h,v1,r1,rfl,h1,v2,r2,rfl,h2,rfl⟩:=hi;obtain⟨a,rfl,i⟩:=h.ofScript;rw[h1.ofInt,h2.ofInt];exact⟨a,ns,k,many,rfl,i,hc.1,hc.2,λH' s'=>g _ _ s' k6⟩
   ·exact absurd rfl b
  ·exact absurd rfl b
end
end RS
namespace RS
open PySem L2
section
variable {es:List Er} {rs:List Int} {n:Int}
end
theorem sx (ns:List Int) (a top:Int) (ha:0<=a) (g:0<top) (b:top<=58):∃es rs,ia ns a 4 top true=es/\1<=es.length/\es.length<=4/\(∀e∈es,e.Ok)/\v5 es.length rs/\aI [ai ns,.int a,.int 4,.int top,.bool true]=.ok (a4 es)/\eO [ai ns,.int 0,.int (es.length:Int)]=.ok (rF rs):=by have hl:=sN ns a 4 top true (by decide);have hok:=uo ns a 4 top true g b;have f:aI [ai ns,.int a,.int 4,.int top,.bool true]=.ok (a4 (ia ns a 4 top true)):=ef ha (by decide) (by decide) g b;generalize ia ns a 4 top true=es at *;have c:=hZ (ns:=ns) (a:=0) (many:=(es.length:Int)) (by decide) (by omega) (by omega);rw[BE]at c;exact⟨es,_,rfl,hl.1,by omega,hok,nT ns 0 es.length,f,c⟩
theorem lawT_of {G:Ds->Sr} (h:∀ns:List Int,G (some (ai ns)::List.replicate k none)=.rt (.bool true)):∀ds,ds.length=1->c4 n ds≠.no->bt (G (ds.map some++List.replicate k none))=c4 n ds:=by
 intro ds hl a
 match ds,hl with
 |[s],_ =>
  unfold c4 at a ⊢;simp only at a ⊢;split at a
  ·rename_i ns b;have es:=fc b;subst es;split at a
   ·rename_i hc;simp only[cU,if_pos hc];show bt (G (some (ai ns)::List.replicate k none))=_;rw[h];rfl
   ·exact absurd rfl a
  ·exact absurd rfl a
theorem jM {es:List Er} (cs:Cs) (h1:1<=es.length) (h2:es.length<=6) (h:∀e∈es,e.Ok):aw cs [a4 es]=.ok (a4 es):=by unfold aw;simp[gS,kE h1 h2 h]
def gfG (n k:Nat) (G:Ds->Sr):Gf:=λds=>if ds.length=n then bt (G (ds.map some++List.replicate k none)) else .no
theorem e7 {G:Ds->Sr}:∀ds,ds.length=n->gfG n k G ds≠.no->bt (G (ds.map some++List.replicate k none))=gfG n k G ds:=by intro ds hl _;unfold gfG;rw[if_pos hl]
def aS (cs:Cs):Gf:=gfG 1 1 (bY cs)
def bZ (cs:Cs):Gf:=gfG 1 1 (eJ cs (aS cs))
def dj (cs:Cs):Gf:=gfG 1 0 (gx cs (bZ cs) (aw cs))
def ar (cs:Cs):Gf:=gfG 1 1 (cz cs)
def bA (cs:Cs):Gf:=gfG 1 2 (df cs (ar cs))
def bx (cs:Cs):Gf:=gfG 1 2 (dg cs (bA cs) (ar cs))
def bX (cs:Cs):Gf:=gfG 1 1 (fM cs (aw cs) (bx cs))
def aL (cs:Cs):Gf:=gfG 3 3 (bz cs)
def bw (cs:Cs):Gf:=gfG 1 8 (dM cs)
def aE (cs:Cs):Gf:=gfG 1 0 (cL cs)
def bf (cs:Cs):Gf:=gfG 1 1 (dP cs (aE cs))
def bQ (cs:Cs):Gf:=gfG 1 4 (cW cs (aw cs) (bf cs) (aE cs))
end RS
namespace RS
open PySem PySem.Builtin PySem.Builtin.Str PyProof.Rows
abbrev sg (x:Str):List Nat:=x.cps.toList
abbrev ch (c:Nat):Str:=⟨#[c]⟩
theorem c0 {a b:Str} (h:sg a=sg b):a=b:=ext_toList h
theorem bM (a b:Str):sg (a++b)=sg a++sg b:=by show (a.cps++b.cps).toList=_;rw[Array.toList_append]
theorem ba (a:Str):a.length=(sg a).length:=by simp[Str.length]
def jl (c:Nat):List (List Nat)->List Nat
 |[]=>[]
 |[x]=>x
 |x::y::r=>x++c::jl c (y::r)
theorem c7 (c:Nat):∀ys:List Str,sg (Str.join (ch c) ys)=jl c (ys.map sg)
 |[]=>rfl
 |[x]=>rfl
 |x::y::r=>by show sg ((x++ch c)++Str.join (ch c) (y::r))=_;rw[bM,bM,c7 c (y::r),List.append_assoc];rfl
theorem xt:∀{a b:List (List Nat)},a≠[]->b≠[]->(∀p∈a,c∉p)->(∀p∈b,c∉p)->jl c a=jl c b->a=b:=by
 have key:∀(x:List Nat) (y:List Nat),c∉x->c∉y->∀u v,x++c::u=y++c::v->x=y/\u=v:=by
  intro x
  induction x with
  |nil =>
   intro y _ f u v h;cases y with
   |nil=>exact⟨rfl,(List.cons.inj h).2⟩
   |cons d r=>exact absurd (List.cons.inj h).1 (λz=>f (by rw[<-z];exact List.mem_cons_self))
  |cons d r ih =>
   intro y g f u v h;cases y with
   |nil=>exact absurd (List.cons.inj h).1.symm (λz=>g (by rw[<-z];exact List.mem_cons_self))
   |cons d' r' =>obtain⟨h1,h2⟩:=List.cons.inj h;obtain⟨e1,e2⟩:=ih r' (λz=>g (A6 _ z)) (λz=>f (A6 _ z)) u v h2;exact⟨by rw[h1,e1],e2⟩
 have e:∀(x:List Nat) u (y:List Nat),c∉y->x++c::u≠y:=λx u y f z=>f (by rw[<-z];exact A9 _ List.mem_cons_self)
 intro a
 induction a with
 |nil=>intro b h;exact absurd rfl h
 |cons x r ih =>
  intro b _ k ha i h;cases b with
  |nil=>exact absurd rfl k
  |cons y r' =>
   have g:=ha x List.mem_cons_self;have f:=i y List.mem_cons_self;cases r with
   |nil =>
    cases r' with
    |nil=>exact congrArg (·::[]) h
    |cons z s=>exact absurd h.symm (e _ _ _ g)
   |cons z s =>
    cases r' with
    |nil=>exact absurd h (e _ _ _ f)
    |cons z' s' =>obtain⟨e1,e2⟩:=key x y g f _ _ h;rw[e1,ih (by simp) (by simp) (λp j=>ha p (A6 _ j)) (λp j=>i p (A6 _ j)) e2]
theorem i5:∀{a b:List Str},a.map sg=b.map sg->a=b
 |[],[],_=>rfl
 |x::r,y::s,h=>by obtain⟨h1,h2⟩:=List.cons.inj h;rw[c0 h1,i5 h2]
 |[],_::_,h=>by cases h
 |_::_,[],h=>by cases h
theorem nS (hn:ys≠[]) (f:∀p∈ys,c∉sg p):Txt.split (Str.join (ch c) ys) (ch c)=ys:=by
 apply i5;have h1:=StrLaws.join_split (Str.join (ch c) ys) (ch c);have h2:=StrLaws.split_free (Str.join (ch c) ys) c;have e:=split_pos (Str.join (ch c) ys) (ch c);refine xt (c:=c) ?_ (by simpa using hn) (λp a=>?_) (λp a=>?_) ?_
 ·intro z;rw[List.map_eq_nil_iff]at z;rw[z]at e;simp at e
 ·obtain⟨q,b,rfl⟩:=Bc.mp a;exact h2 q b
 ·obtain⟨q,b,rfl⟩:=Bc.mp a;exact f q b
 ·rw[<-c7,<-c7,h1]
theorem fg (hn:ys≠[]) (a:∀p∈ys,c∉sg p) (h:sg x=jl c (ys.map sg)):Txt.split x (ch c)=ys:=by have:x=Str.join (ch c) ys:=c0 (by rw[c7];exact h);rw[this];exact nS hn a
theorem lE (x:Str) (c:Nat):jl c ((Txt.split x (ch c)).map sg)=sg x:=by rw[<-c7,StrLaws.join_split]
theorem iV (x:Str) (c:Nat):Txt.split x (ch c)≠[]:=λz=>by have:=split_pos x (ch c);rw[z]at this;simp at this
theorem o3 (c:Nat):∀{a:List (List Nat)},a≠[]->jl c (a++[[]])=jl c a++[c]
 |[x],_=>by simp[jl]
 |x::y::r,_=>by have:=o3 c (a:=y::r) (by simp);show x++c::jl c (y::r++[[]])=x++c::jl c (y::r)++[c];rw[this];simp
theorem nQ {u:Str} (h:sg x=sg u++[c]):Txt.split x (ch c)=Txt.split u (ch c)++[Str.empty]:=by
 refine fg (by simp) (λp a=>?_) ?_
 ·rcases B8.mp a with a|a
  ·exact StrLaws.split_free u c p a
  ·rw[List.mem_singleton.mp a];simp[Str.empty]
 ·rw[BV,List.map_singleton,show sg Str.empty=[] by simp[Str.empty],o3 c (by simpa using iV u c),lE,h]
theorem rE (c:Nat) (l:List Nat):(decide (0+1<=l.length)&&((l.drop (l.length-1)).take 1==[c]))=decide (l.getLast?=some c):=by
 rcases List.eq_nil_or_concat l with rfl|⟨r,d,rfl⟩
 ·simp
 ·rw[List.concat_eq_append,B1,Bi,C6,List.drop_left,BR];by_cases h:d=c <;> simp[h]
theorem rY (x:Str) (c:Nat):Txt.endswith x (ch c)=decide ((sg x).getLast?=some c):=by unfold Txt.endswith;rw[StrLaws.subAt_eq,ba x];exact rE c (sg x)
theorem ny (x:Str):Txt.slice x (some (-1)) none=⟨((sg x).drop ((sg x).length-1)).toArray⟩:=by
 by_cases hx:(sg x).length=0
 ·have a:x.length=0:=by rw[ba];exact hx
  apply c0;have:=Txt.slice_le x (some (-1)) none;rw[a,ba]at this;have e:sg (Txt.slice x (some (-1)) none)=[]:=Bp.mp (by omega);rw[e];have:sg x=[]:=Bp.mp hx;simp[this]
 ·have:=StrLaws.sliceText_from_neg (x:=x) (i:=-1) (by decide) (by rw[ba];omega);show StrLaws.sliceText x (some (-1)) none=_;rw[this];apply c0;show ((x.cps.toList.drop (-1+(x.length:Int)).toNat).take ((x.cps.toList.length:Int)-(-1+x.length)).toNat)=(sg x).drop ((sg x).length-1);rw[ba,show (-1+((sg x).length:Int)).toNat=(sg x).length-1 by omega];exact BP (by rw[BK];show (sg x).length-((sg x).length-1)<=(((sg x).length:Int)-(-1+(sg x).length)).toNat;omega)
theorem nC (x:Str):Txt.slice x none (some (-1))=⟨((sg x).take ((sg x).length-1)).toArray⟩:=by
 by_cases hx:(sg x).length=0
 ·have a:x.length=0:=by rw[ba];exact hx
  apply c0;have:=Txt.slice_le x none (some (-1));rw[a,ba]at this;have e:sg (Txt.slice x none (some (-1)))=[]:=Bp.mp (by omega);rw[e];have:sg x=[]:=Bp.mp hx;simp[this]
 ·have:=StrLaws.sliceText_to_neg (x:=x) (j:=-1) (by decide) (by rw[ba];omega);show StrLaws.sliceText x none (some (-1))=_;rw[this];apply c0;show ((x.cps.toList.drop 0).take (-1+(x.length:Int)-0).toNat)=(sg x).take ((sg x).length-1);rw[ba,List.drop_zero,show (-1+((sg x).length:Int)-0).toNat=(sg x).length-1 by omega]
theorem r8 (x:Str) (hk:k<=(sg x).length):Txt.slice x none (some (k:Int))=⟨((sg x).take k).toArray⟩:=by have:=beq_iff_eq.mp (slice_closes_to (x:=x) (j:=(k:Int)) ⟨by omega,by show (k:Int)<=(sg x).length;omega⟩);rw[this];apply c0;show ((x.cps.toList.drop (0:Int).toNat).take ((k:Int)-0).toNat)=(sg x).take k;rw[show ((k:Int)-0).toNat=k by omega];rfl
theorem oh (x:Str) (hk:k<=(sg x).length):Txt.slice x (some (k:Int)) none=⟨((sg x).drop k).toArray⟩:=by have:=slice_from_eq (x:=x) (i:=(k:Int)) (b:=x.length) (by omega) (by rw[ba];omega) rfl;rw[this];apply c0;show ((x.cps.toList.drop ((k:Int)).toNat).take ((x.length:Int)-k).toNat)=(sg x).drop k;rw[BE,ba];exact BP (by rw[BK];show (sg x).length-k<=(((sg x).length:Int)-k).toNat;omega)
theorem qr (x:Str) (c:Nat):(!(!(occurrences x (ch c) 0 x.length 1).isEmpty))=!decide (c∈sg x):=by rw[StrLaws.found_one]
theorem uN {a r:List Nat} (h:sg x=a++c::r) (ha:c∉a):Txt.find x (ch c)=(a.length:Int):=by
 unfold Txt.find;have atI:∀i,StrLaws.At x (ch c) x.length i↔i+1<=(sg x).length/\(sg x)[i]?=some c:=λi=>by
  unfold StrLaws.At;rw[StrLaws.subAt_eq,ba x,show (ch c).length=1 from rfl,show (ch c).cps.toList=[c] from rfl];refine and_congr_right λhi=>?_
  rw[beq_iff_eq];have b:i<(sg x).length:=hi;rw[B6 b,BH b];simp
 have hlen:(sg x).length=a.length+1+r.length:=by rw[h];simp;omega
 have here:StrLaws.At x (ch c) x.length a.length:=(atI _).mpr ⟨by omega,by rw[h];simp⟩;have before:∀k,k<a.length->¬ StrLaws.At x (ch c) x.length k:=λk f z=>by obtain⟨_,z2⟩:=(atI k).mp z;rw[h,Bh f]at z2;exact ha (C1 z2)
 rcases StrLaws.occ_head x (ch c) 1 (B0 _) with⟨_,hn⟩|⟨i,t,e,hi,g⟩
 ·exact absurd here (hn _)
 ·rw[e];have:i=a.length:=by
   rcases Nat.lt_trichotomy i a.length with q|q|q
   ·exact absurd hi (before i q)
   ·exact q
   ·exact absurd here (g _ q)
  rw[this]
end RS
namespace RS
open PySem L2
variable {a:Ds->Rs (List PyData)} {b ga:Ds->Rs PyData} {p:Int×Option Int} {e:Er} {es:List Er}
theorem qQ:((List.range 100).all λ(k:Nat)=>(sg (ay (k:Int))).all λc=>decide (48<=c)&&decide (c<=57))=true:=by decide +kernel
theorem yE (h:k<100):∀c∈sg (ay (k:Int)),48<=c/\c<=57:=λc hc=>by have:=Bg.mp qQ k (BJ.mpr h);have:=Bg.mp this c hc;simpa using this
theorem ni:((List.range 100).map λ(k:Nat)=>ay (k:Int)).Nodup:=by decide +kernel
theorem mE (hi:i<100) (a:j<100) (h:ay (i:Int)=ay (j:Int)):i=j:=by
 have n:=ni;have b:i<((List.range 100).map λ(k:Nat)=>ay (k:Int)).length:=by simpa using hi
 have c:j<((List.range 100).map λ(k:Nat)=>ay (k:Int)).length:=by simpa using a
 exact (List.getElem_inj (h₀:=b) (h₁:=c) n).mp (by simpa using h)
def numAt (n:Nat) (w:Str):Option Nat:=(List.range n).find? λk=>w==ay (k:Int)
theorem dX (h:numAt n w=some k):k<n/\w=ay (k:Int):=by unfold numAt at h;have h1:=List.find?_some h;have h2:=List.mem_of_find?_eq_some h;exact⟨BJ.mp h2,by simpa using h1⟩
theorem i6 (hn:n<=100) (a:k<n):numAt n (ay (k:Int))=some k:=by
 cases h:numAt n (ay (k:Int)) with
 |none =>unfold numAt at h;have:=List.find?_eq_none.mp h k (BJ.mpr a);simp at this
 |some j =>obtain⟨h1,h2⟩:=dX h;rw[mE (by omega) (by omega) h2]
def a3 (w:Str):Int:=match numAt 100 w with
 |some k=>(k:Int)
 |none=>-1
abbrev cZ (w:Str):Option Nat:=numAt 61 w
theorem tO (h:k<100):a3 (ay (k:Int))=(k:Int):=by unfold a3;rw[i6 (B0 _) h]
theorem pK (h:cZ w=some k):a3 w=(k:Int)/\k<=60:=by obtain⟨h1,rfl⟩:=dX h;exact⟨tO (by omega),by omega⟩
theorem om (a:0<=a3 w) (h1:a3 w<=60):cZ w=some (a3 w).toNat:=by
 unfold a3 at a h1 ⊢;cases q:numAt 100 w with
 |none=>rw[q]at a;exact absurd a (by decide)
 |some k =>rw[q]at h1;obtain⟨_,rfl⟩:=dX q;have h1:(k:Int)<=60:=h1;show numAt 61 _=some (Int.toNat (k:Int));rw[BE];exact i6 (by decide) (by omega)
theorem nA (h:c∈sg w) (hc:c<48):a3 w=-1:=by
 unfold a3;cases q:numAt 100 w with
 |none=>rfl
 |some k =>obtain⟨h1,rfl⟩:=dX q;have:=yE h1 c h;omega
theorem kx {i:Int} (h0:0<=i) (h1:i<1000):bD [.int i]=some (.str (ay i)):=by simp only[bD];rw[if_pos (by omega)];rfl
def eZ (n:Nat):List PyData:=(List.range n).map λ(k:Nat)=>.str (ay (k:Int))
theorem sH (hn:δ.length=n0) (a:src δ=.ok (bW 0 n)) (hl:n<=1000):a5 n0 src aT (gF bD (aa (ae n0) af)) aF δ=.ok (eZ n):=by
 have:=cY (n0:=n0) (src:=src) (elt:=gF bD (aa (ae n0) af)) (δ:=δ) (f:=λd=>match d with|.int i=>PyData.str (ay i)|_=>.none) (ds:=bW 0 n) hn a (by rw[cE];omega) λd hd=>by
  obtain⟨i,hi⟩:=List.getElem?_of_mem hd;obtain⟨h1,rfl⟩:=fG hi;have b:ae n0 (δ++[some (.int (0+(i:Int)))])=.ok (.int (0+(i:Int))):=by unfold ae;rw[<-hn,Bf (B0 _),Nat.sub_self];rfl
  rw[nK,bb,b];show Rs.aW (bD [.int (0+(i:Int))])=_;rw[kx (by omega) (by omega)];rfl
 rw[this];unfold bW eZ;rw[Bm];congr 1;refine Bz λk _=>?_
 show PyData.str (ay (0+(k:Int)))=_;rw[Int.zero_add]
theorem lM (n:Nat):(eZ n).all dJ=true:=by rw[Bg];intro d hd;obtain⟨k,_,rfl⟩:=Bc.mp hd;rfl
theorem in_tab (n:Nat) (w:Str):inD (.str w) (eZ n)=(numAt n w).isSome:=by
 unfold inD inV eZ numAt;rw[List.any_map,List.any_map,Bool.eq_iff_iff,List.any_eq_true,List.find?_isSome];refine exists_congr λk=>and_congr_right λ_=>?_
 show (ay (k:Int)==w)=true↔_;rw[beq_iff_eq,beq_iff_eq];exact eq_comm
theorem vD (hn:n<=100) (h:numAt n w=some k):fj (eZ n) (.str w)=some (.int (k:Int)):=by
 obtain⟨a,rfl⟩:=dX h;unfold fj;rw[lM,show dJ (.str (ay (k:Int)))=true from rfl,if_pos (by rfl)];have:((eZ n).map toV).findIdx? (λz=>eqV z (toV (.str (ay (k:Int)))))=some k:=by
  rw[BI];refine⟨by simp[eZ];exact a,?_,λj hj=>?_⟩
  ·simp[eZ,toV,eqV]
  ·simp only[eZ,Bm,List.getElem_map,List.getElem_range,Function.comp,toV,eqV];intro z;have:=mE (by omega) (by omega) (beq_iff_eq.mp z);omega
 rw[this];rfl
theorem uy (n:Nat):(eZ n).length=n:=by simp[eZ]
theorem bE {d:PyData} (hi:i<δ.length) (a:g (mask O δ)=.ok d):aM O i g δ=.nx (δ.set i (some d)):=by unfold aM;rw[if_pos hi,a,a9]
theorem m6 (hi:i<δ.length) (a:g δ=.rz C):aM [] i g δ=.rz C:=by unfold aM;rw[if_pos hi,dR,a,lq]
theorem cm {f:Gf} {d:PyData} (ha:a δ=.ok ds) (b:f ds=.ok d):ak f a δ=.ok d:=by rw[cP,ha,Rs.ag,b]
theorem fV {f:Gf} (ha:a δ=.ok ds):ak f a δ=f ds:=by rw[cP,ha,Rs.ag]
theorem aU {a b:Ds->Sr} {δ':Ds} (h:a δ=.nx δ'):aG a b δ=b δ':=by rw[aQ,h]
theorem sj {a b:Ds->Sr} {d:PyData} (h:a δ=.rt d):aG a b δ=.rt d:=by rw[aQ,h]
theorem nO {a b:Ds->Sr} (h:a δ=.rz C):aG a b δ=.rz C:=by rw[aQ,h]
theorem nY {tgt:PyData->Ds->Option Ds} {body:Ds->Sr} (h:src (mask O δ)=.ok ds):ig O src tgt body δ=forL tgt body ds δ:=by rw[sW,h,a9]
theorem sX {g:Ds->Rs (List PyData)} (hi:i<δ.length) (a:g (mask O δ)=.ok ds):jG O i g δ=.nx (δ.set i (some (.list ds))):=by unfold jG;rw[if_pos hi,a,a9]
theorem aX {a:Ds->Rs PyData} {x y z:PyData} (ha:a δ=.ok x) (c:b δ=.ok y) (e:f x y=some z):g2 f a b δ=.ok z:=by rw[fL,ha,Rs.ag,c,Rs.ag,e];rfl
theorem iY {f:List PyData->Option PyData} {d:PyData} (ha:a δ=.ok ds) (b:f ds=some d):gF f a δ=.ok d:=by rw[nK,ha,Rs.ag,b];rfl
theorem ao {a:Ds->Rs PyData} {r:Ds->Rs (List PyData)} {d:PyData} (ha:a δ=.ok d) (b:r δ=.ok ds):aa a r δ=.ok (d::ds):=by rw[bb,ha,Rs.ag,b,Rs.ag]
theorem tup_is (ha:a δ=.ok ds):eU a δ=.ok (.tuple ds):=by rw[fN,ha,Rs.ag]
theorem lst_is (ha:a δ=.ok ds):dq a δ=.ok (.list ds):=by rw[mV,ha,Rs.ag]
theorem j8 {g:Ds->Rs (List PyData)} (h:g δ=.ok ds):gL g δ=.ok (.list ds):=by rw[wd,h];rfl
theorem fF {f:Str->PyData->Option PyData} {go:Ds->Rs PyData} {y d:PyData} (a:go δ=.ok (.str z)) (ha:ga δ=.ok y) (b:f z y=some d):gM f go ga δ=.ok d:=by unfold gM;rw[a,Rs.ag];show (ga δ).bind _=_;rw[ha,Rs.ag,b];rfl
theorem eF {d:PyData} (h:g δ=.ok d):bp g δ=.rt d:=by rw[gE,h,a9]
theorem jC {c:Ds->Rs Bool} {a b:Ds->Sr} (h:c δ=.ok true):sIf c a b δ=a δ:=by rw[oP,h,a9,if_pos rfl]
theorem jz {c:Ds->Rs Bool} {a b:Ds->Sr} (h:c δ=.ok false):sIf c a b δ=b δ:=by rw[oP,h,a9,if_neg (by decide)]
theorem dm {b:Bool} (h:g δ=.ok (.bool b)):gT g δ=.ok b:=by rw[xi,h,Rs.ag,kF]
theorem vM:mG true (.str w) (.list (eZ n))=some (.bool (!(numAt n w).isSome)):=by show (if _ then _ else _)=_;rw[lM,show dJ (.str w)=true from rfl,if_pos (by rfl),in_tab];rfl
theorem cK (cs:Cs) (w:Str):ar cs [.str w]=match cZ w with
  |some k=>.ok (.int (k:Int))
  |none=>.rz cs.NoText:=by
 show bt (cz cs [some (.str w),none])=_;have b:aM [] 1 (gL (a5 2 (fh (aa (g2 aB (gC (.int 60)) (gC (.int 1))) af)) aT (gF bD (aa (ae 2) af)) aF)) [some (.str w),none]=.nx [some (.str w),some (.list (eZ 61))]:=by refine bE (by decide:1<2) (j8 (sH rfl ?_ (by decide)));rw[dR,ir,show (aa (g2 aB (gC (.int 60)) (gC (.int 1))) af) [some (.str w),none]=.ok [.int 61] from rfl,Rs.ag,iq (by decide) (by decide)];rfl
 have a:gT (g2 (mG true) (ae 0) (ae 1)) [some (.str w),some (.list (eZ 61))]=.ok (!(cZ w).isSome):=dm (aX rfl rfl vM);unfold cz;rw[aU b];cases q:cZ w with
 |none =>rw[q]at a;rw[aQ,jC a];rfl
 |some k =>
  rw[q]at a;rw[aQ,jz a];show bt (bp (lG (ae 1) (ae 0)) [some (.str w),some (.list (eZ 61))])=_;rw[eF (d:=.int (k:Int)) (by unfold lG;show (if (eZ 61).length<=100000 then Rs.aW (fj (eZ 61) (.str w)) else .no)=_;rw[uy,if_pos (by decide),vD (by decide) q];rfl)]
  rfl
theorem law_number_is (cs:Cs) (w:Str):aE cs [.str w]=.ok (.int (a3 w)):=by
 show bt (cL cs [some (.str w)])=_;have h1:gL (a5 1 (fh (aa (gC (.int 100)) af)) aT (gF bD (aa (ae 1) af)) aF) [some (.str w)]=.ok (.list (eZ 100)):=by refine j8 (sH rfl ?_ (by decide));rw[ir,show (aa (gC (.int 100)) af) [some (.str w)]=.ok [.int 100] from rfl,Rs.ag,iq (by decide) (by decide)];rfl
 have a:gT (g2 (mG true) (ae 0) (gL (a5 1 (fh (aa (gC (.int 100)) af)) aT (gF bD (aa (ae 1) af)) aF))) [some (.str w)]=.ok (!(numAt 100 w).isSome):=dm (aX rfl h1 vM);unfold cL a3;cases q:numAt 100 w with
 |none =>rw[q]at a;rw[aQ,jC a];rfl
 |some k =>
  rw[q]at a;rw[aQ,jz a];show bt (bp (gF mr (aa (ae 0) af)) [some (.str w)])=_;have hi:intOf w=some (k:Int):=by
   unfold intOf;rw[List.find?_map];unfold numAt at q;have:((λ(k:Int)=>w==ay k)∘λ(k:Nat)=>(k:Int))=λ(k:Nat)=>w==ay (k:Int):=rfl
   rw[this,q];rfl
  rw[eF (iY (ds:=[.str w]) rfl (d:=.int (k:Int)) (by show (intOf w).map PyData.int=_;rw[hi];rfl))];rfl
theorem gn:Str.ofString "*"=ch 42:=by decide +kernel
theorem fY:Str.ofString " "=ch 32:=by decide +kernel
theorem fw:Str.ofString "\n"=ch 10:=by decide +kernel
theorem mD:Str.ofString ""=Str.empty:=by decide +kernel
theorem eN (a:z.length<=1000000):cc z (.str (ch c))=some (.list ((Txt.split z (ch c)).map PyData.str)):=by show (if _ then _ else _)=_;rw[if_pos ⟨rfl,a⟩]
def cI (w:Str):Option PyData:=match Txt.split w (ch 42) with
 |[a]=>(cZ a).map λ(k:Nat)=>PyData.tuple [.int (k:Int),.none]
 |[a,b]=>(cZ b).bind λ(t:Nat)=>(cZ a).map λ(k:Nat)=>PyData.tuple [.int (k:Int),.int (t:Int)]
 |_=>none
def dQ (w:Str):PyData:=match Txt.split w (ch 42) with
 |[]=>.none
 |[a]=>.tuple [.int (a3 a),.none]
 |a::r=>.tuple [.int (a3 a),.int (a3 (Str.join (ch 42) r))]
theorem law_part_is (cs:Cs) (hw:w.length<=1000000):bf cs [.str w]=.ok (dQ w):=by
 show bt (dP cs (aE cs) [some (.str w),none])=_;have g:=lE w 42;have k:=StrLaws.split_free w 42;have h:=iV w 42;have f:gT (g2 rK (gC (.str "*")) (ae 0)) [some (.str w),none]=.ok (!decide (42∈sg w)):=by refine dm (aX (x:=.str (ch 42)) (y:=.str w) (by rw[<-gn];rfl) rfl ?_);show some (PyData.bool _)=_;rw[qr]
 unfold dP dQ;cases q:Txt.split w (ch 42) with
 |nil=>exact absurd q h
 |cons a r =>
  rw[q]at g k;have ha:=k a List.mem_cons_self;cases r with
  |nil =>have i:w=a:=c0 g.symm;subst i;rw[decide_eq_false ha]at f;rw[aQ,jC f,eF (tup_is (ao (cm (ds:=[.str w]) rfl (law_number_is cs w)) (ao rfl rfl)))];rfl
  |cons b t =>
   have e:sg w=sg a++42::sg (Str.join (ch 42) (b::t)):=by rw[c7];exact g.symm
   have j:42∈sg w:=by rw[e];exact A9 _ List.mem_cons_self
   rw[decide_eq_true j]at f;have hlen:(sg w).length=(sg a).length+1+(sg (Str.join (ch 42) (b::t))).length:=by rw[e];simp;omega
   have c:=uN e ha;have l:aM [] 1 (gM lx (ae 0) (gC (.str "*"))) [some (.str w),none]=.nx [some (.str w),some (.int ((sg a).length:Int))]:=by refine bE (by decide:1<2) (fF (z:=w) (y:=.str (ch 42)) rfl (by rw[<-gn];rfl) ?_);show some (PyData.int _)=_;rw[c]
   have l1:aK (ae 0) av (aR (ae 1)) [some (.str w),some (.int ((sg a).length:Int))]=.ok (.str a):=by show Rs.aW (if w.length<=1000000 then some (PyData.str (Txt.slice w none (some ((sg a).length:Int)))) else none)=_;rw[if_pos hw,r8 w (by omega),e,List.take_left];rfl
   have l2:aK (ae 0) (aR (g2 aB (ae 1) (gC (.int 1)))) av [some (.str w),some (.int ((sg a).length:Int))]=.ok (.str (Str.join (ch 42) (b::t))):=by show Rs.aW (if w.length<=1000000 then some (PyData.str (Txt.slice w (some (((sg a).length+1:Nat):Int)) none)) else none)=_;rw[if_pos hw,oh w (by omega),e,<-List.drop_drop,List.drop_left];rfl
   rw[aQ,jz f];show bt (aG _ _ [some (.str w),none])=_;rw[aU l,eF (tup_is (ao (cm (ds:=[.str a]) (ao l1 rfl) (law_number_is cs a)) (ao (cm (ao l2 rfl) (law_number_is cs _)) rfl)))];rfl
theorem kH (cs:Cs) (hw:w.length<=1000000):bA cs [.str w]=match cI w with
  |some d=>.ok d
  |none=>.rz cs.NoText:=by
 show bt (df cs (ar cs) [some (.str w),none,none])=_;have g:=iV w 42;have h:aM [] 1 (gM cc (ae 0) (gC (.str "*"))) [some (.str w),none,none]=.nx [some (.str w),some (.list ((Txt.split w (ch 42)).map PyData.str)),none] :=
  bE (by decide:1<3) (fF (z:=w) (y:=.str (ch 42)) rfl (by rw[<-gn];rfl) (eN hw))
 unfold df cI;rw[aU h];cases q:Txt.split w (ch 42) with
 |nil=>exact absurd q g
 |cons a r =>
  cases r with
  |nil =>
   have e:gT (g2 dGt (gF eC (aa (ae 1) af)) (gC (.int 2))) [some (.str w),some (.list ([a].map PyData.str)),none]=.ok false:=rfl;have s2:aM [] 2 (gIf (gT (g2 dEq (gF eC (aa (ae 1) af)) (gC (.int 2)))) (ak (ar cs) (aa (g2 dIx (ae 1) (gC (.int 1))) af)) (gC .none)) [some (.str w),some (.list ([a].map PyData.str)),none]=.nx [some (.str w),some (.list ([a].map PyData.str)),some .none]:=by refine bE (by decide:2<3) ?_;have:gT (g2 dEq (gF eC (aa (ae 1) af)) (gC (.int 2))) [some (.str w),some (.list ([a].map PyData.str)),none]=.ok false:=dm (aX (x:=.int 1) (y:=.int 2) rfl rfl (mH 1 2));unfold gIf;rw[dR,this];rfl
   rw[aQ,jz e];show bt (aG _ _ [some (.str w),some (.list ([a].map PyData.str)),none])=_;rw[aU s2,gE,fN,bb,fV (ds:=[.str a]) rfl,cK];dsimp only;cases cZ a <;> rfl
  |cons b t =>
   cases t with
   |nil =>
    have e:gT (g2 dGt (gF eC (aa (ae 1) af)) (gC (.int 2))) [some (.str w),some (.list ([a,b].map PyData.str)),none]=.ok false:=rfl;have f:gIf (gT (g2 dEq (gF eC (aa (ae 1) af)) (gC (.int 2)))) (ak (ar cs) (aa (g2 dIx (ae 1) (gC (.int 1))) af)) (gC .none) [some (.str w),some (.list ([a,b].map PyData.str)),none]=ar cs [.str b]:=by have:gT (g2 dEq (gF eC (aa (ae 1) af)) (gC (.int 2))) [some (.str w),some (.list ([a,b].map PyData.str)),none]=.ok true:=dm (aX (x:=.int 2) (y:=.int 2) rfl rfl (mH 2 2));unfold gIf;rw[this];show ak (ar cs) (aa (g2 dIx (ae 1) (gC (.int 1))) af) [some (.str w),some (.list ([a,b].map PyData.str)),none]=_;rw[fV (ds:=[.str b]) rfl]
    rw[aQ,jz e];show bt (aG _ _ [some (.str w),some (.list ([a,b].map PyData.str)),none])=_;rw[cK]at f;cases hb:cZ b with
    |none =>rw[hb]at f;rw[nO (m6 (by decide:2<3) f)];dsimp only;rw[hb];rfl
    |some k =>rw[hb]at f;rw[aU (δ':=[some (.str w),some (.list ([a,b].map PyData.str)),some (.int (k:Int))]) (bE (by decide:2<3) (by rw[dR];exact f)),gE,fN,bb,fV (ds:=[.str a]) rfl,cK];dsimp only;rw[hb];dsimp only[Option.bind];cases cZ a <;> rfl
   |cons c t =>
    have e:gT (g2 dGt (gF eC (aa (ae 1) af)) (gC (.int 2))) [some (.str w),some (.list ((a::b::c::t).map PyData.str)),none]=.ok true:=by refine dm (aX (x:=.int (((a::b::c::t).map PyData.str).length:Int)) (y:=.int 2) rfl rfl ?_);rw[Av,decide_eq_true (by simp;omega)]
    rw[aQ,jC e];rfl
theorem fv (h:cZ w=some k):PyData.int (a3 w)=.int (k:Int):=by rw[(pK h).1]
theorem oU {d:PyData} (h:cI w=some d):dQ w=d:=by
 unfold cI at h;unfold dQ;cases q:Txt.split w (ch 42) with
 |nil=>rw[q]at h;cases h
 |cons a r =>
  rw[q]at h;cases r with
  |nil =>
   have h:(cZ a).map (λ(k:Nat)=>PyData.tuple [.int (k:Int),.none])=some d:=h;cases ha:cZ a with
   |none=>rw[ha]at h;cases h
   |some k =>rw[ha]at h;cases h;show PyData.tuple [.int (a3 a),.none]=_;rw[fv ha]
  |cons b t =>
   cases t with
   |nil =>
    have h:((cZ b).bind λ(t:Nat)=>(cZ a).map λ(k:Nat)=>PyData.tuple [.int (k:Int),.int (t:Int)])=some d:=h;cases hb:cZ b with
    |none=>rw[hb]at h;cases h
    |some m =>
     cases ha:cZ a with
     |none=>rw[hb,ha]at h;cases h
     |some k =>rw[hb,ha]at h;cases h;show PyData.tuple [.int (a3 a),.int (a3 b)]=_;rw[fv ha,fv hb]
   |cons c t=>cases h
theorem kP {lo hi:Int} (hl:0<=lo) (hh:hi<=60) (h:isWhole (.int (a3 w)) lo hi=true):cZ w=some (a3 w).toNat/\((a3 w).toNat:Int)=a3 w:=by simp only[isWhole,B3,decide_eq_true_eq]at h;exact⟨om (by omega) (by omega),by omega⟩
theorem u4 (h:aY (dQ w)=true):cI w=some (dQ w):=by
 have hf:=StrLaws.split_free w 42;unfold dQ at h ⊢;unfold cI;cases q:Txt.split w (ch 42) with
 |nil=>rw[q]at h;cases h
 |cons a r =>
  rw[q]at h;cases r with
  |nil =>simp only[aY,B3]at h;obtain⟨h1,h2⟩:=kP (by decide) (by decide) h.1;simp only[h1,C4,h2]
  |cons b t =>
   cases t with
   |nil =>have h:aY (.tuple [.int (a3 a),.int (a3 b)])=true:=h;simp only[aY,B3]at h;obtain⟨h1,h2⟩:=kP (by decide) (by decide) h.1;obtain⟨e,f⟩:=kP (by decide) (by decide) h.2;simp only[h1,e,C9,C4,h2,f];rfl
   |cons c t =>exfalso;have hm:a3 (Str.join (ch 42) (b::c::t))=-1:=nA (c:=42) (by rw[c7];show 42∈sg b++42::_;exact A9 _ List.mem_cons_self) (by decide);have h:aY (.tuple [.int (a3 a),.int (a3 (Str.join (ch 42) (b::c::t)))])=true:=h;rw[hm]at h;simp[aY,isWhole]at h
def a8 (f:Str->Option PyData):List Str->Option (List PyData)
 |[]=>some []
 |w::r=>(f w).bind λd=>(a8 f r).map (d::·)
def ofO (C:Addr):Option PyData->Rs PyData
 |some d=>.ok d
 |none=>.rz C
def ofL (C:Addr):Option (List PyData)->Rs (List PyData)
 |some d=>.ok d
 |none=>.rz C
theorem iK {f:Str->Option PyData}:∀{ws:List Str} {ds:List PyData},a8 f ws=some ds->ds.length=ws.length
 |[],_,h=>by cases h;rfl
 |w::r,ds,h=>by
  unfold a8 at h;cases q:f w with
  |none=>rw[q]at h;cases h
  |some d =>
   rw[q]at h;cases q2:a8 f r with
   |none=>rw[q2]at h;cases h
   |some ds'=>rw[q2]at h;cases h;simp[iK q2]
theorem fX {f:Str->Option PyData} {g:Str->PyData}:∀{ws:List Str},(∀w∈ws,f w=some (g w))->a8 f ws=some (ws.map g)
 |[],_=>rfl
 |w::r,h=>by unfold a8;rw[h w List.mem_cons_self,fX λx a=>h x (A6 _ a)];rfl
theorem iw {f:Str->Option PyData} {g:Str->PyData}:∀{ws:List Str} {ds:List PyData},a8 f ws=some ds->(∀w∈ws,∀d,f w=some d->g w=d)->ws.map g=ds
 |[],_,h,_=>by cases h;rfl
 |w::r,ds,h,k=>by
  unfold a8 at h;cases q:f w with
  |none=>rw[q]at h;cases h
  |some d =>
   rw[q]at h;cases q2:a8 f r with
   |none=>rw[q2]at h;cases h
   |some ds' =>rw[q2]at h;cases h;rw[Bk,k w List.mem_cons_self d q,iw q2 λx a=>k x (A6 _ a)]
theorem gy {f:Str->Option PyData}:∀{ws:List Str} {ds:List PyData},a8 f ws=some ds->∀d∈ds,∃w∈ws,f w=some d
 |[],_,h,d,hd=>by cases h;cases hd
 |w::r,ds,h,d,hd=>by
  unfold a8 at h;cases q:f w with
  |none=>rw[q]at h;cases h
  |some d0 =>
   rw[q]at h;cases q2:a8 f r with
   |none=>rw[q2]at h;cases h
   |some ds' =>
    rw[q2]at h;cases h;rcases List.mem_cons.mp hd with rfl|hd
    ·exact⟨w,List.mem_cons_self,q⟩
    ·obtain⟨x,a,e⟩:=gy q2 d hd;exact⟨x,A6 _ a,e⟩
theorem iZ {C:Addr} {f:Str->Option PyData} {gf:Gf} {δ:Ds} {n0:Nat} (hn:δ.length=n0):∀{ws:List Str},(∀w∈ws,gf [.str w]=ofO C (f w)) ->
  cF aT (ak gf (aa (ae n0) af)) aF δ (ws.map PyData.str)=ofL C (a8 f ws)
 |[],_=>rfl
 |w::r,h=>by
  have a:ae n0 (δ++[some (PyData.str w)])=.ok (.str w):=by unfold ae;rw[<-hn,Bf (B0 _),Nat.sub_self];rfl
  have hc:ak gf (aa (ae n0) af) (δ++[some (PyData.str w)])=ofO C (f w):=by rw[fV (ds:=[.str w]) (ao a rfl)];exact h w List.mem_cons_self
  have b:=iZ hn λx c=>h x (A6 _ c)
  rw[Bk];show (if true=true then (ak gf (aa (ae n0) af) (δ++[some (PyData.str w)])).bind λx=>(cF aT (ak gf (aa (ae n0) af)) aF δ (r.map PyData.str)).bind λxs=>.ok (x::xs) else cF aT (ak gf (aa (ae n0) af)) aF δ (r.map PyData.str))=_;rw[if_pos rfl,hc,b];show _=ofL C ((f w).bind λd=>(a8 f r).map (d::·));cases f w with
  |none=>rfl
  |some d=>cases a8 f r <;> rfl
theorem kG {f:Str->Option PyData} {gf:Gf} (hn:δ.length=n0) (a:src δ=.ok (ws.map PyData.str)) (hl:ws.length<=1000000) (h:∀w∈ws,gf [.str w]=ofO C (f w)) :
  dt n0 src aT (ak gf (aa (ae n0) af)) aF δ=ofL C (a8 f ws):=by
 unfold dt;rw[if_pos hn,a,Rs.ag,if_pos (by rw[B7];exact hl)];exact iZ hn h
theorem wt {g:Ds->Rs (List PyData)} {o:Option (List PyData)} (h:g δ=ofL C o):gF br (aa (gL g) af) δ=ofO C (o.map PyData.tuple):=by rw[nK,bb,wd,h];cases o <;> rfl
def eH (w:Str):Option PyData:=(cZ w).map λ(k:Nat)=>PyData.int (k:Int)
theorem qa (cs:Cs) (w:Str):ar cs [.str w]=ofO cs.NoText (eH w):=by rw[cK];unfold eH;cases cZ w <;> rfl
theorem nq (cs:Cs) (hw:w.length<=1000000):bA cs [.str w]=ofO cs.NoText (cI w):=by rw[kH cs hw];cases cI w <;> rfl
abbrev words (l:Str):List Str:=Txt.split l (ch 32)
def dY (l:Str):Option PyData:=(a8 eH ((words l).take 3)).bind λns=>(a8 cI ((words l).drop 3)).map λps=>PyData.tuple (ns++[.tuple ps])
theorem fS (h:w∈Txt.split l (ch c)):w.length<=l.length:=PyProof.Rows.part_short h
theorem gZ (hl:l.length<=900000):(Txt.split l (ch c)).length<=1000000:=by have:=PyProof.Rows.split_le l (ch c);omega
theorem oZ:cutD (ws.map PyData.str) none (some 3)=(ws.take 3).map PyData.str:=by rw[show (3:Int)=((3:Nat):Int) from rfl,xR,List.map_take]
theorem jU:cutD (ws.map PyData.str) (some 3) none=(ws.drop 3).map PyData.str:=by rw[show (3:Int)=((3:Nat):Int) from rfl,rJ,List.map_drop]
theorem kz (cs:Cs) (hl:l.length<=900000):bx cs [.str l]=ofO cs.NoText (dY l):=by
 show bt (dg cs (bA cs) (ar cs) [some (.str l),none,none])=_;have hw:(words l).length<=1000000:=gZ (c:=32) hl;have b:aM [] 1 (gM cc (ae 0) (gC (.str " "))) [some (.str l),none,none]=.nx [some (.str l),some (.list ((words l).map PyData.str)),none] :=
  bE (by decide:1<3) (fF (z:=l) (y:=.str (ch 32)) rfl (by rw[<-fY];rfl) (eN (by omega)))
 have a:gF br (aa (gL (dt 3 (ck (cf (ae 1) av (aR (gC (.int 3))))) aT (ak (ar cs) (aa (ae 3) af)) aF)) af) [some (.str l),some (.list ((words l).map PyData.str)),none]=ofO cs.NoText ((a8 eH ((words l).take 3)).map PyData.tuple):=by refine wt (kG rfl ?_ (by rw[BA];omega) λw _=>qa cs w);rw[<-oZ];rfl
 unfold dg dY;rw[aU b];cases q:a8 eH ((words l).take 3) with
 |none =>rw[q]at a;rw[nO (m6 (by decide:2<3) a)];rfl
 |some ns =>
  rw[q]at a;have e:gF br (aa (gL (dt 3 (ck (cf (ae 1) (aR (gC (.int 3))) av)) aT (ak (bA cs) (aa (ae 3) af)) aF)) af) [some (.str l),some (.list ((words l).map PyData.str)),some (.tuple ns)]=ofO cs.NoText ((a8 cI ((words l).drop 3)).map PyData.tuple):=by refine wt (kG rfl ?_ (by rw[BK];omega) λw h=>nq cs (by have:=fS (List.mem_of_mem_drop h);omega));rw[<-jU];rfl
  rw[aU (δ':=[some (.str l),some (.list ((words l).map PyData.str)),some (.tuple ns)]) (bE (by decide:2<3) (by rw[dR];exact a)),gE,fL,fN,bb,e];have hn:=iK q;rw[BA]at hn;cases a8 cI ((words l).drop 3) with
  |none=>rfl
  |some ps =>show bt (ofR (Rs.aW (aB (.tuple ns) (.tuple [.tuple ps]))) .rt)=_;rw[show aB (.tuple ns) (.tuple [.tuple ps])=bI (.tuple ns) (.tuple [.tuple ps]) from rfl,show bI (.tuple ns) (.tuple [.tuple ps])=some (.tuple (ns++[.tuple ps])) from if_pos (by rw[Bi];omega)];rfl
theorem vt {d:PyData} (h:eH w=some d):aC d=true:=by
 unfold eH at h;cases q:cZ w with
 |none=>rw[q]at h;cases h
 |some k=>rw[q]at h;cases h;exact bV _
theorem mn (w:Str):aC (dQ w)=true:=by
 unfold dQ;split
 ·unfold aC;rfl
 ·exact a7 λd hd=>by
   simp only[List.mem_cons,A8,or_false]at hd;rcases hd with rfl|rfl
   ·exact bV _
   ·unfold aC;rfl
 ·exact a7 λd hd=>by simp only[List.mem_cons,A8,or_false]at hd;rcases hd with rfl|rfl <;> exact bV _
theorem vf {d:PyData} (h:dY l=some d):aC d=true:=by
 unfold dY at h;cases q:a8 eH ((words l).take 3) with
 |none=>rw[q]at h;cases h
 |some ns =>
  rw[q]at h;cases q2:a8 cI ((words l).drop 3) with
  |none=>rw[q2]at h;cases h
  |some ps =>
   rw[q2]at h;cases h;refine a7 λd hd=>?_
   rcases B8.mp hd with hd|hd
   ·obtain⟨w,_,e⟩:=gy q d hd;exact vt e
   ·rw[List.mem_singleton.mp hd];refine a7 λd hd=>?_
    obtain⟨w,_,e⟩:=gy q2 d hd;rw[<-oU e];exact mn w
structure Asc (t:Str):Prop where
 sg:∀c∈sg t,c<128
 len:t.length<=100000
theorem mm (h:Asc t):PySem.SeqAt.shaped (.str t)=true:=by
 have:PyData.strOk t=true:=by unfold PyData.strOk;rw[Array.all_eq_true];intro i hi;have:=h.sg t.cps[i] (Array.mem_toList_iff.mpr (Array.getElem_mem hi));exact decide_eq_true (by omega)
 simp[SeqAt.shaped,PyData.canLay0,this,PyData.depth]
theorem j6 (x:Str) (l u:Option Int):∀c∈sg (Txt.slice x l u),c∈sg x:=λc hc=>by
 unfold Txt.slice at hc;split at hc
 ·exact hc
 ·simp only[sg,BO]at hc;obtain⟨i,_,hi⟩:=hc;exact Array.mem_toList_iff.mpr (Array.mem_of_getElem? hi)
theorem Asc.slice (h:Asc t) (l u:Option Int):Asc (Txt.slice t l u):=⟨λc hc=>h.sg c (j6 t l u c hc),Bj (Txt.slice_le t l u) h.len⟩
theorem xP {xs:List PyData}:cutD xs none (some (-1))=xs.take (xs.length-1):=by
 unfold cutD;have e1:HT.sIx xs.length 0 none=0:=rfl;have e2:HT.sIx xs.length xs.length (some (-1))=xs.length-1:=by unfold HT.sIx;simp only;rw[if_pos (by decide)];omega
 rw[e1,e2];simp
def ini (t:Str):Str:=⟨((sg t).take ((sg t).length-1)).toArray⟩
theorem sU (h:(sg t).getLast?=some c):sg t=sg (ini t)++[c]:=by show sg t=(sg t).take ((sg t).length-1)++[c];obtain⟨r,a⟩:=List.getLast?_eq_some_iff.mp h;rw[a];simp
theorem oJ (t:Str):(ini t).length<=t.length:=by rw[ba,ba];show ((sg t).take ((sg t).length-1)).length<=_;rw[BA];omega
def g5 (t:Str):Option PyData:=if (sg t).getLast?=some 10 then (a8 dY (Txt.split (ini t) (ch 10))).bind λrows=>if au (.tuple rows)=true then some (.tuple rows) else none else none
theorem ll (t:Str):cw "str" (.str t)=some (.bool true):=by unfold cw;rw[if_pos (by unfold aC;rfl)];rfl
theorem o4 (cs:Cs) (ht:t.length<=800000):bX cs [.str t]=ofO cs.NoText (g5 t):=by
 show bt (fM cs (aw cs) (bx cs) [some (.str t),none])=_;have c:gT (g1 (cw "str") (ae 0)) [some (.str t),none]=.ok true:=dm (by rw[m9];show Rs.aW (cw "str" (.str t))=_;rw[ll];rfl);have f:gT (gM iP (ae 0) (gC (.str "\n"))) [some (.str t),none]=.ok (decide ((sg t).getLast?=some 10)):=dm (fF (z:=t) (y:=.str (ch 10)) rfl (by rw[<-fw];rfl) (by show some (PyData.bool _)=_;rw[rY]));have a:cOr (di (gT (g1 (cw "str") (ae 0)))) (di (gT (gM iP (ae 0) (gC (.str "\n"))))) [some (.str t),none]=.ok (!decide ((sg t).getLast?=some 10)):=by rw[jY,fK,c,Rs.ag,Rs.ag,if_neg (by decide),fK,f];rfl
 unfold fM g5;by_cases hl:(sg t).getLast?=some 10
 ·rw[decide_eq_true hl]at a;rw[if_pos hl,aQ,jz a];have hi:=oJ t;have b:=nQ (sU hl);have hn:(Txt.split (ini t) (ch 10)).length<=1000000:=gZ (by omega);have g1:gF br (aa (gL (dt 2 (ck (cf (gM cc (ae 0) (gC (.str "\n"))) av (aR (g1 eE (gC (.int 1)))))) aT (ak (bx cs) (aa (ae 2) af)) aF)) af) [some (.str t),none]=ofO cs.NoText ((a8 dY (Txt.split (ini t) (ch 10))).map PyData.tuple):=by refine wt (kG rfl ?_ hn λw h=>kz cs (by have:=fS h;omega));have g:gM cc (ae 0) (gC (.str "\n")) [some (.str t),none]=.ok (.list ((Txt.split t (ch 10)).map PyData.str)):=fF (z:=t) (y:=.str (ch 10)) rfl (by rw[<-fw];rfl) (eN (by omega));rw[m7,sI,g,Rs.ag];show Rs.bind (Rs.aW (some (.list (cutD ((Txt.split t (ch 10)).map PyData.str) none (some (-1)))))) lF=_;rw[xP,b];show Rs.ok _=_;congr 1;rw[BV,B1,B7,List.map_singleton,Bi,C6];have:=List.take_left (l₁:=(Txt.split (ini t) (ch 10)).map PyData.str) (l₂:=[PyData.str Str.empty]);rw[B7]at this;exact this
  show bt (aG _ _ [some (.str t),none])=_;cases q:a8 dY (Txt.split (ini t) (ch 10)) with
  |none =>rw[q]at g1;rw[nO (m6 (by decide:1<2) g1)];rfl
  |some rows =>
   rw[q]at g1;have nd:aC (.tuple rows)=true:=a7 λd hd=>by obtain⟨w,_,e⟩:=gy q d hd;exact vf e
   rw[aU (δ':=[some (.str t),some (.tuple rows)]) (bE (by decide:1<2) (by rw[dR];exact g1))];have hc:aw cs [.tuple rows]=if au (.tuple rows)=true then .ok (.tuple rows) else .rz cs.NoErrands:=by show (if aC (.tuple rows)=true then _ else _)=_;rw[if_pos nd]
   unfold fU;rw[show (aa (ae 1) af) [some (PyData.str t),some (.tuple rows)]=.ok [.tuple rows] from rfl];dsimp only[Option.bind];rw[hc];by_cases he:au (.tuple rows)=true
   ·rw[if_pos he,if_pos he];rfl
   ·rw[if_neg he,if_neg he];dsimp only;rw[if_pos rfl];rfl
 ·rw[decide_eq_false hl]at a;rw[if_neg hl,aQ,jC a];rfl
theorem tU (cs:Cs) {d:PyData} (hd:aC d=true) (a:fB d "str"=false):bX cs [d]=.rz cs.NoText:=by
 show bt (fM cs (aw cs) (bx cs) [some d,none])=_;have b:gT (g1 (cw "str") (ae 0)) [some d,none]=.ok false:=dm (by rw[m9];show Rs.aW (cw "str" d)=_;unfold cw;rw[if_pos hd,a];rfl)
 have c:cOr (di (gT (g1 (cw "str") (ae 0)))) (di (gT (gM iP (ae 0) (gC (.str "\n"))))) [some d,none]=.ok true:=by rw[jY,fK,b,Rs.ag];rfl
 unfold fM;rw[aQ,jC c];rfl
theorem oi {f:Str->Option PyData}:∀{ws:List Str} {ds:List PyData},a8 f ws=some ds->∀w∈ws,∃d∈ds,f w=some d
 |[],_,_,w,hw=>by cases hw
 |w0::r,ds,h,w,hw=>by
  unfold a8 at h;cases q:f w0 with
  |none=>rw[q]at h;cases h
  |some d0 =>
   rw[q]at h;cases q2:a8 f r with
   |none=>rw[q2]at h;cases h
   |some ds' =>
    rw[q2]at h;cases h;rcases List.mem_cons.mp hw with rfl|hw
    ·exact⟨d0,List.mem_cons_self,q⟩
    ·obtain⟨d,hd,e⟩:=oi q2 w hw;exact⟨d,A6 _ hd,e⟩
def eB (l:Str):PyData:=match words l with
 |a::b::c::r=>.tuple [.int (a3 a),.int (a3 b),.int (a3 c),.tuple (r.map dQ)]
 |_=>.none
theorem xK {d:PyData} (h:eH w=some d):PyData.int (a3 w)=d:=by
 unfold eH at h;cases q:cZ w with
 |none=>rw[q]at h;cases h
 |some k=>rw[q]at h;cases h;exact fv q
theorem kn (a:0<=a3 w) (h1:a3 w<=60):eH w=some (.int (a3 w)):=by unfold eH;rw[om a h1];show some (PyData.int ((a3 w).toNat:Int))=_;rw[show ((a3 w).toNat:Int)=a3 w by omega]
theorem four (h:4<=ws.length):∃a b c r,ws=a::b::c::r/\r≠[]:=by
 match ws,h with
 |a::b::c::d::r,_=>exact⟨a,b,c,d::r,rfl,by simp⟩
theorem xg {d:PyData} (f:4<=(words l).length) (h:dY l=some d):eB l=d:=by
 obtain⟨a,b,c,r,e,_⟩:=four f;unfold dY at h;unfold eB;rw[e]at h ⊢;have h:((a8 eH [a,b,c]).bind λns=>(a8 cI r).map λps=>PyData.tuple (ns++[.tuple ps]))=some d:=h;cases q:a8 eH [a,b,c] with
 |none=>rw[q]at h;cases h
 |some ns =>
  rw[q]at h;cases q2:a8 cI r with
  |none=>rw[q2]at h;cases h
  |some ps =>
   rw[q2]at h;cases h;have e1:=iw (g:=λw=>.int (a3 w)) q λw _ d hd=>xK hd
   have e2:=iw (g:=dQ) q2 λw _ d hd=>oU hd
   rw[<-e1,<-e2];rfl
theorem xa (i:4<=(words l).length) (h:aA (eB l)=true):dY l=some (eB l):=by
 obtain⟨a,b,c,r,e,_⟩:=four i;unfold eB at h ⊢;unfold dY;rw[e]at h ⊢;have h:aA (.tuple [.int (a3 a),.int (a3 b),.int (a3 c),.tuple (r.map dQ)])=true:=h;simp only[aA,B3,decide_eq_true_eq,isWhole]at h;obtain⟨⟨⟨⟨a1,a2⟩,c1,j⟩,b1,b2⟩,f⟩:=h;have c3:a3 c<=60:=by split at j <;> omega
 simp only[bH,B3,Bg]at f;have k:a8 cI r=some (r.map dQ):=fX λw hw=>u4 (f.1.2 _ (List.mem_map_of_mem hw))
 have hn:a8 eH [a,b,c]=some [.int (a3 a),.int (a3 b),.int (a3 c)]:=fX (g:=λw=>.int (a3 w)) (ws:=[a,b,c]) λw hw=>by
  simp only[List.mem_cons,A8,or_false]at hw;rcases hw with rfl|rfl|rfl
  ·exact kn (by omega) (by omega)
  ·exact kn (by omega) (by omega)
  ·exact kn (by omega) (by omega)
 show ((a8 eH [a,b,c]).bind λns=>(a8 cI r).map λps=>PyData.tuple (ns++[.tuple ps]))=_;rw[hn,k];rfl
theorem qH {d:PyData} (h4:(words l).length<4) (h:dY l=some d):aA d=false:=by
 unfold dY at h;have hd:(words l).drop 3=[]:=List.drop_eq_nil_of_le (by omega);rw[hd]at h;cases q:a8 eH ((words l).take 3) with
 |none=>rw[q]at h;cases h
 |some ns =>
  rw[q]at h;have h:some (PyData.tuple (ns++[.tuple []]))=some d:=h;cases h;have hn:=iK q;rw[BA]at hn
  match ns,hn with
  |[],_=>rfl
  |[x],_ =>
   show aA (.tuple [x,.tuple []])=false;unfold aA;split
   ·rename_i heq;cases heq
   ·rfl
  |[x,y],_ =>
   show aA (.tuple [x,y,.tuple []])=false;unfold aA;split
   ·rename_i heq;cases heq
   ·rfl
  |[x,y,z],_ =>
   show aA (.tuple [x,y,z,.tuple []])=false;unfold aA;split
   ·rename_i heq;cases heq;simp[bH]
   ·rfl
  |_::_::_::_::_,hn=>simp at hn;omega
theorem nZ {ls:List Str} {rows:List PyData} (h:∃l∈ls,(words l).length<4) (hm:a8 dY ls=some rows):au (.tuple rows)=false:=by
 obtain⟨l,hl,a⟩:=h;obtain⟨d,hd,e⟩:=oi hm l hl;have:=qH a e;unfold au;have ha:rows.all aA=false:=by rw[List.all_eq_false];exact⟨d,hd,by rw[this];decide⟩
 simp only[ha,Bool.and_false]
theorem pQ {ls:List Str} (h:∀l∈ls,4<=(words l).length):((a8 dY ls).bind λrows=>if au (.tuple rows)=true then some (PyData.tuple rows) else none)=if au (.tuple (ls.map eB))=true then some (.tuple (ls.map eB)) else none:=by
 by_cases he:au (.tuple (ls.map eB))=true
 ·have hm:a8 dY ls=some (ls.map eB):=fX λl hl=>xa (h l hl) (by unfold au at he;simp only[B3,Bg]at he;exact he.2 _ (List.mem_map_of_mem hl))
  rw[hm];rfl
 ·rw[if_neg he];cases q:a8 dY ls with
  |none=>rfl
  |some rows =>
   have:=iw q λl hl d hd=>xg (h l hl) hd
   rw[this]at he;show (if _ then _ else _)=_;rw[if_neg he]
theorem vh (l:Str):aC (eB l)=true:=by
 unfold eB;split
 ·refine a7 λd hd=>?_
  simp only[List.mem_cons,A8,or_false]at hd;rcases hd with rfl|rfl|rfl|rfl
  ·exact bV _
  ·exact bV _
  ·exact bV _
  ·exact a7 λd hd=>by obtain⟨w,_,rfl⟩:=Bc.mp hd;exact mn w
 ·unfold aC;rfl
theorem kc {f:Str->PyData} {gf:Gf} (hn:δ.length=n0) (a:src δ=.ok (ws.map PyData.str)) (hl:ws.length<=1000000) (h:∀w∈ws,gf [.str w]=.ok (f w)) :
  a5 n0 src aT (ak gf (aa (ae n0) af)) aF δ=.ok (ws.map f):=by
 have:=cY (n0:=n0) (src:=src) (elt:=ak gf (aa (ae n0) af)) (δ:=δ) (f:=λd=>match d with|.str w=>f w|_=>.none) (ds:=ws.map PyData.str) hn a (by rw[B7];exact hl) λd hd=>by
  obtain⟨w,hw,rfl⟩:=Bc.mp hd;have b:ae n0 (δ++[some (PyData.str w)])=.ok (.str w):=by unfold ae;rw[<-hn,Bf (B0 _),Nat.sub_self];rfl
  rw[fV (ds:=[.str w]) (ao b rfl)];exact h w hw
 rw[this,Bm];rfl
theorem nk {d:PyData} (h:δ[i]?=some (some (.list ds))) (a:g (mask O δ)=.ok d) (hl:ds.length<1000000):gR O i g δ=.nx (δ.set i (some (.list (ds++[d])))):=by unfold gR;rw[h];dsimp only;rw[a,a9,if_pos hl]
def ic (cs:Cs):Ds->Sr:=(aG (aM [1] 3 (gM cc (ae 2) (gC (.str " "))))
 (aG (aM [1] 4 (gL (a5 5 (ck (cf (ae 3) av (aR (gC (.int 3))))) aT (ak (aE cs) (aa (ae 5) af)) aF)))
 (aG (sIf (gT (g2 dLt (gF eC (aa (ae 3) af)) (gC (.int 4)))) (bp (gC .none)) bq)
 (gR [1] 1 (eU (aa (g2 dIx (ae 4) (gC (.int 0))) (aa (g2 dIx (ae 4) (gC (.int 1))) (aa (g2 dIx (ae 4) (gC (.int 2))) (aa (gF br (aa (gL (a5 5 (ck (cf (ae 3) (aR (gC (.int 3))) av)) aT (ak (bf cs) (aa (ae 5) af)) aF)) af)) af)))))))))
def dS (T:PyData) (acc:List PyData) (x2 x3 x4:Option PyData):Ds:=[some T,some (.list acc),x2,x3,x4]
theorem qN (cs:Cs) {T:PyData} {acc:List PyData} (hl:l.length<=900000) (ha:acc.length<1000000) :
  ∃g,ic cs (dS T acc (some (.str l)) x3 x4)=if (words l).length<4 then .rt .none else .nx (dS T (acc++[eB l]) (some (.str l)) (some (.list ((words l).map PyData.str))) g):=by
 have hw:(words l).length<=1000000:=gZ (c:=32) hl;have j:aM [1] 3 (gM cc (ae 2) (gC (.str " "))) (dS T acc (some (.str l)) x3 x4)=.nx (dS T acc (some (.str l)) (some (.list ((words l).map PyData.str))) x4) :=
  bE (by decide:3<5) (fF (z:=l) (y:=.str (ch 32)) rfl (by rw[<-fY];rfl) (eN (by omega)))
 have s2:aM [1] 4 (gL (a5 5 (ck (cf (ae 3) av (aR (gC (.int 3))))) aT (ak (aE cs) (aa (ae 5) af)) aF)) (dS T acc (some (.str l)) (some (.list ((words l).map PyData.str))) x4)=.nx (dS T acc (some (.str l)) (some (.list ((words l).map PyData.str))) (some (.list (((words l).take 3).map λw=>.int (a3 w))))):=by refine bE (by decide:4<5) (j8 (kc rfl ?_ (by rw[BA];omega) λw _=>law_number_is cs w));rw[<-oZ];rfl
 have f:gT (g2 dLt (gF eC (aa (ae 3) af)) (gC (.int 4))) (dS T acc (some (.str l)) (some (.list ((words l).map PyData.str))) (some (.list (((words l).take 3).map λw=>.int (a3 w)))))=.ok (decide ((words l).length<4)):=by refine dm (aX (x:=.int (((words l).map PyData.str).length:Int)) (y:=.int 4) rfl rfl ?_);rw[Ah,B7];congr 2;rw[decide_eq_decide];omega
 refine⟨some (.list (((words l).take 3).map λw=>.int (a3 w))),?_⟩;unfold ic;rw[aU j,aU s2];by_cases h4:(words l).length<4
 ·rw[decide_eq_true h4]at f;rw[if_pos h4,aQ,jC f];rfl
 ·rw[decide_eq_false h4]at f;rw[if_neg h4,aQ,jz f];obtain⟨a,b,c,r,e,_⟩:=four (show 4<=(words l).length by omega);have g1:gF br (aa (gL (a5 5 (ck (cf (ae 3) (aR (gC (.int 3))) av)) aT (ak (bf cs) (aa (ae 5) af)) aF)) af) (mask [1] (dS T acc (some (.str l)) (some (.list ((words l).map PyData.str))) (some (.list (((words l).take 3).map λw=>.int (a3 w))))))=.ok (.tuple (((words l).drop 3).map dQ)):=by refine iY (ds:=[.list (((words l).drop 3).map dQ)]) (ao (j8 (kc rfl ?_ (by rw[BK];omega) λw h=>law_part_is cs (by have:=fS (List.mem_of_mem_drop h);omega))) rfl) rfl;rw[<-jU];rfl
  have k:eU (aa (g2 dIx (ae 4) (gC (.int 0))) (aa (g2 dIx (ae 4) (gC (.int 1))) (aa (g2 dIx (ae 4) (gC (.int 2))) (aa (gF br (aa (gL (a5 5 (ck (cf (ae 3) (aR (gC (.int 3))) av)) aT (ak (bf cs) (aa (ae 5) af)) aF)) af)) af)))) (mask [1] (dS T acc (some (.str l)) (some (.list ((words l).map PyData.str))) (some (.list (((words l).take 3).map λw=>.int (a3 w))))))=.ok (eB l):=by unfold eB;rw[e];rw[e]at g1;exact tup_is (ao (d:=.int (a3 a)) rfl (ao (d:=.int (a3 b)) rfl (ao (d:=.int (a3 c)) rfl (ao g1 rfl))))
  exact nk (i:=1) (ds:=acc) rfl k ha
theorem mf (cs:Cs) {T:PyData}:∀(ls:List Str) (acc:List PyData) (x2 x3 x4:Option PyData),(∀l∈ls,l.length<=900000)->acc.length+ls.length<1000000 ->
  (∃l∈ls,(words l).length<4)/\forL (dw 2) (ic cs) (ls.map PyData.str) (dS T acc x2 x3 x4)=.rt .none \/
  (∀l∈ls,4<=(words l).length)/\∃c f g,forL (dw 2) (ic cs) (ls.map PyData.str) (dS T acc x2 x3 x4)=.nx (dS T (acc++ls.map eB) c f g)
 |[],acc,x2,x3,x4,_,_=>.inr ⟨λ_ h=>(nomatch h),x2,x3,x4,by show _=Sr.nx (dS T (acc++[]) x2 x3 x4);rw[BC];rfl⟩
 |l::r,acc,x2,x3,x4,hl,ha=>by
  rw[Bn]at ha;obtain⟨g,j⟩:=qN cs (T:=T) (acc:=acc) (x3:=x3) (x4:=x4) (hl l List.mem_cons_self) (by omega);have a:forL (dw 2) (ic cs) ((l::r).map PyData.str) (dS T acc x2 x3 x4)=match ic cs (dS T acc (some (.str l)) x3 x4) with
   |.nx δ2=>forL (dw 2) (ic cs) (r.map PyData.str) δ2
   |.ct δ2=>forL (dw 2) (ic cs) (r.map PyData.str) δ2
   |.bk δ2=>.nx δ2
   |.rt v=>.rt v
   |.rz C=>.rz C
   |.no=>.no:=rfl
  rw[a,j];by_cases h4:(words l).length<4
  ·rw[if_pos h4];exact .inl ⟨⟨l,List.mem_cons_self,h4⟩,rfl⟩
  ·rw[if_neg h4];rcases mf cs (T:=T) r (acc++[eB l]) (some (.str l)) (some (.list ((words l).map PyData.str))) g (λx b=>hl x (A6 _ b)) (by rw[B1,Bi];omega) with⟨⟨x,b,i⟩,e⟩|⟨i,c,f,k,e⟩
   ·exact .inl ⟨⟨x,A6 _ b,i⟩,e⟩
   ·refine .inr ⟨λx b=>?_,c,f,k,?_⟩
    ·rcases List.mem_cons.mp b with rfl|b
     ·omega
     ·exact i x b
    ·show forL _ _ _ _=_;rw[e,Bk,List.append_assoc];rfl
theorem ne_str {s:Str} (h1:Asc s) (h2:Asc t):dNe (.str s) (.str t)=some (.bool (!(s==t))):=by unfold dNe;rw[mm h1,mm h2];simp[aC,PyData.eqv]
theorem sV:Asc (ch 10):=⟨λc hc=>by rw[show c=10 from List.mem_singleton.mp hc];decide,by decide⟩
theorem vE (t:Str):(Txt.slice t (some (-1)) none==ch 10)=decide ((sg t).getLast?=some 10):=by
 rw[ny,Bool.eq_iff_iff,beq_iff_eq,decide_eq_true_eq];have key:∀l:List Nat,l.drop (l.length-1)=[10]↔l.getLast?=some 10:=λl=>by
  rcases List.eq_nil_or_concat l with rfl|⟨r,d,rfl⟩
  ·simp
  ·rw[List.concat_eq_append,B1,Bi,C6,List.drop_left,BR];simp
 constructor
 ·intro h;exact (key _).mp (congrArg sg h)
 ·intro h;exact c0 ((key _).mpr h)
theorem law_due_is (cs:Cs) (h:Asc t):bQ cs [.str t]=.ok ((g5 t).getD .none):=by
 show bt (cW cs (aw cs) (bf cs) (aE cs) [some (.str t),none,none,none,none])=_;have hlen:=h.len;have m:gT (g1 (cw "str") (ae 0)) [some (.str t),none,none,none,none]=.ok true:=dm (by rw[m9];show Rs.aW (cw "str" (.str t))=_;rw[ll];rfl);have l1:aK (ae 0) (aR (g1 eE (gC (.int 1)))) av [some (.str t),none,none,none,none]=.ok (.str (Txt.slice t (some (-1)) none)):=by show Rs.aW (if t.length<=1000000 then some (PyData.str (Txt.slice t (some (-1)) none)) else none)=_;rw[if_pos (by omega)];rfl
 have n:gT (g2 dNe (aK (ae 0) (aR (g1 eE (gC (.int 1)))) av) (gC (.str "\n"))) [some (.str t),none,none,none,none]=.ok (!decide ((sg t).getLast?=some 10)):=by refine dm (aX l1 (y:=.str (ch 10)) (by rw[<-fw];rfl) ?_);rw[ne_str (h.slice _ _) sV,vE]
 have c:cOr (di (gT (g1 (cw "str") (ae 0)))) (gT (g2 dNe (aK (ae 0) (aR (g1 eE (gC (.int 1)))) av) (gC (.str "\n")))) [some (.str t),none,none,none,none]=.ok (!decide ((sg t).getLast?=some 10)):=by rw[jY,fK,m,Rs.ag,Rs.ag,if_neg (by decide),n]
 unfold cW g5;by_cases hl:(sg t).getLast?=some 10
 ·rw[decide_eq_true hl]at c;rw[if_pos hl,aQ,jz c];have hi:=oJ t;show bt (aG _ _ [some (.str t),none,none,none,none])=_;rw[aU (δ':=dS (.str t) [] none none none) (sX (by decide:1<5) rfl)];have b:ck (gM cc (aK (ae 0) av (aR (g1 eE (gC (.int 1))))) (gC (.str "\n"))) (mask [1] (dS (.str t) [] none none none))=.ok ((Txt.split (ini t) (ch 10)).map PyData.str):=by
   have l2:aK (ae 0) av (aR (g1 eE (gC (.int 1)))) (mask [1] (dS (.str t) [] none none none))=.ok (.str (ini t)):=by show Rs.aW (if t.length<=1000000 then some (PyData.str (Txt.slice t none (some (-1)))) else none)=_;rw[if_pos (by omega),nC];rfl
   rw[m7,fF (z:=ini t) (y:=.str (ch 10)) l2 (by rw[<-fw];rfl) (eN (by omega))];rfl
  have a:ig [1] (ck (gM cc (aK (ae 0) av (aR (g1 eE (gC (.int 1))))) (gC (.str "\n")))) (dw 2) (ic cs) (dS (.str t) [] none none none)=forL (dw 2) (ic cs) ((Txt.split (ini t) (ch 10)).map PyData.str) (dS (.str t) [] none none none):=nY b;have hsl:=PyProof.Rows.split_le (ini t) (ch 10);rcases mf cs (T:=.str t) (Txt.split (ini t) (ch 10)) [] none none none (λl hl=>by have:=fS hl;omega) (by rw[List.length_nil];omega) with⟨g,e⟩|⟨g,i,j,k,e⟩
  ·have key:=a.trans e;unfold ic at key;rw[sj key];cases q:a8 dY (Txt.split (ini t) (ch 10)) with
   |none=>rfl
   |some rows =>show _=Rs.ok (Option.getD (if au (.tuple rows)=true then some (PyData.tuple rows) else none) PyData.none);rw[nZ g q];rfl
  ·have key:=a.trans e;unfold ic at key;rw[aU key,pQ g,BU];have nd:aC (.tuple ((Txt.split (ini t) (ch 10)).map eB))=true:=a7 λd hd=>by obtain⟨w,_,rfl⟩:=Bc.mp hd;exact vh w
   have hc:aw cs [.tuple ((Txt.split (ini t) (ch 10)).map eB)]=if au (.tuple ((Txt.split (ini t) (ch 10)).map eB))=true then .ok (.tuple ((Txt.split (ini t) (ch 10)).map eB)) else .rz cs.NoErrands:=by show (if aC _=true then _ else _)=_;rw[if_pos nd]
   generalize (Txt.split (ini t) (ch 10)).map eB=rows at hc;have f:jm cs.NoErrands (aw cs) (aa (gF br (aa (ae 1) af)) af) (gC .none) (dS (.str t) rows i j k)=if au (.tuple rows)=true then .nx (dS (.str t) rows i j k) else .rt .none:=by
    unfold jm;rw[show (aa (gF br (aa (ae 1) af)) af) (dS (.str t) rows i j k)=.ok [.tuple rows] from rfl];dsimp only;rw[hc];by_cases he:au (.tuple rows)=true
    ·rw[if_pos he,if_pos he]
    ·rw[if_neg he,if_neg he];dsimp only;rw[if_pos rfl];rfl
   by_cases he:au (.tuple rows)=true
   ·rw[if_pos he]at f;rw[aU f,if_pos he];rfl
   ·rw[if_neg he]at f;rw[sj f,if_neg he];rfl
 ·rw[decide_eq_false hl]at c;rw[if_neg hl,aQ,jC c];rfl
theorem law_due_no (cs:Cs) {d:PyData} (hd:aC d=true) (a:fB d "str"=false):bQ cs [d]=.ok .none:=by
 show bt (cW cs (aw cs) (bf cs) (aE cs) [some d,none,none,none,none])=_;have b:gT (g1 (cw "str") (ae 0)) [some d,none,none,none,none]=.ok false:=dm (by rw[m9];show Rs.aW (cw "str" d)=_;unfold cw;rw[if_pos hd,a];rfl)
 have c:cOr (di (gT (g1 (cw "str") (ae 0)))) (gT (g2 dNe (aK (ae 0) (aR (g1 eE (gC (.int 1)))) av) (gC (.str "\n")))) [some d,none,none,none,none]=.ok true:=by rw[jY,fK,b,Rs.ag];rfl
 unfold cW;rw[aQ,jC c];rfl
theorem qK:((List.range 100).all λ(k:Nat)=>decide ((ay (k:Int)).length<=3))=true:=by decide +kernel
theorem dig {i:Int} (a:0<=i) (h1:i<100):(∀c∈sg (ay i),48<=c/\c<=57)/\(ay i).length<=3:=by obtain⟨k,rfl⟩:=BN a;refine⟨yE (k:=k) (by omega),?_⟩;have:=Bg.mp qK k (BJ.mpr (by omega));exact of_decide_eq_true this
theorem nV {i:Int} (a:0<=i) (h1:i<=60):∃k:Nat,i=(k:Int)/\cZ (ay i)=some k:=by obtain⟨k,rfl⟩:=BN a;exact⟨k,rfl,i6 (by decide) (by omega)⟩
theorem nW {i:Int} (a:0<=i) (h1:i<=60):eH (ay i)=some (.int i):=by obtain⟨k,e,h⟩:=nV a h1;unfold eH;rw[h,e];rfl
def POk (p:Int×Option Int):Prop:=1<=p.1/\p.1<=20/\∀t,p.2=some t->0<=t/\t<=3
def cQ (p:Int×Option Int):Str:=match p.2 with
 |none=>ay p.1
 |some t=>ay p.1++ch 42++ay t
theorem qZ (h:POk p):(∀c∈sg (cQ p),42<=c/\c<=57)/\(cQ p).length<=7:=by
 obtain⟨a,b⟩:=p;obtain⟨d1,l1⟩:=dig (i:=a) (by have:=h.1;simp at this;omega) (by have:=h.2.1;simp at this;omega);cases b with
 |none=>exact⟨λc hc=>by have:=d1 c hc;omega,Bj l1 (by decide)⟩
 |some t =>
  have ht:=h.2.2 t rfl;obtain⟨d2,l2⟩:=dig (i:=t) (by omega) (by omega);constructor
  ·intro c hc;have hc:c∈sg (ay a++ch 42++ay t):=hc;rw[bM,bM,B8,B8]at hc;rcases hc with (hc|hc)|hc
   ·have:=d1 c hc;omega
   ·rw[List.mem_singleton.mp hc];decide
   ·have:=d2 c hc;omega
  ·show (ay a++ch 42++ay t).length<=7;rw[ba,bM,bM,B1,B1];rw[ba]at l1 l2;have:(sg (ch 42)).length=1:=rfl;omega
theorem vb (h:POk p):cI (cQ p)=some (az p):=by
 obtain⟨a,b⟩:=p;have h1:1<=a:=h.1;have h2:a<=20:=h.2.1;obtain⟨d1,l1⟩:=dig (i:=a) (by omega) (by omega);obtain⟨k,f,g⟩:=nV (i:=a) (by omega) (by omega);cases b with
 |none =>
  have e:Txt.split (cQ (a,none)) (ch 42)=[ay a]:=fg (by simp) (λq c hc=>by rw[List.mem_singleton.mp c]at hc;have:=d1 _ hc;omega) rfl
  unfold cI;rw[e];show (cZ (ay a)).map _=_;rw[g,f];rfl
 |some t =>
  have ht:=h.2.2 t rfl;obtain⟨d2,l2⟩:=dig (i:=t) (by omega) (by omega);obtain⟨m,j,hm⟩:=nV (i:=t) (by omega) (by omega);have e:Txt.split (cQ (a,some t)) (ch 42)=[ay a,ay t]:=fg (by simp) (λq c hc=>by
   simp only[List.mem_cons,A8,or_false]at c;rcases c with rfl|rfl
   ·have:=d1 _ hc;omega
   ·have:=d2 _ hc;omega) (by show sg (ay a++ch 42++ay t)=_;rw[bM,bM,List.append_assoc];rfl)
  unfold cI;rw[e];show ((cZ (ay t)).bind λ(t:Nat)=>(cZ (ay a)).map λ(k:Nat)=>PyData.tuple [.int (k:Int),.int (t:Int)])=_;rw[hm,g,j,f];rfl
def b9 (e:Er):List Str:=[ay e.every,ay e.due,ay e.late]++e.parts.map cQ
theorem gG (h:e.Ok):∀w∈b9 e,(∀c∈sg w,42<=c/\c<=57)/\w.length<=7:=by
 intro w hw;have num:∀i:Int,0<=i->i<100->(∀c∈sg (ay i),42<=c/\c<=57)/\(ay i).length<=7:=λi a h1=>by obtain⟨d,l⟩:=dig a h1;exact⟨λc hc=>by have:=d c hc;omega,by omega⟩
 have:=h.e1;have:=h.e2;have:=h.l1;have:=h.l2;have:=h.d1;have:=h.d2;unfold b9 at hw;rcases B8.mp hw with hw|hw
 ·simp only[List.mem_cons,A8,or_false]at hw;rcases hw with rfl|rfl|rfl
  ·exact num _ (by omega) (by omega)
  ·exact num _ (by omega) (by omega)
  ·exact num _ (by omega) (by omega)
 ·obtain⟨p,b,rfl⟩:=Bc.mp hw;exact qZ (h.pl p b)
theorem rW {c x:Nat}:∀{L:List (List Nat)},x∈jl c L->x=c\/∃l∈L,x∈l
 |[],h=>by cases h
 |[l],h=>.inr ⟨l,List.mem_cons_self,h⟩
 |l::m::r,h=>by
  have h:x∈l++c::jl c (m::r):=h;rcases B8.mp h with h|h
  ·exact .inr ⟨l,List.mem_cons_self,h⟩
  ·rcases List.mem_cons.mp h with h|h
   ·exact .inl h
   ·rcases rW h with h|⟨y,a,h⟩
    ·exact .inl h
    ·exact .inr ⟨y,A6 _ a,h⟩
theorem tJ {c k:Nat}:∀{L:List (List Nat)},(∀l∈L,l.length<=k)->(jl c L).length<=L.length*(k+1)
 |[],_=>by simp[jl]
 |[l],h=>by have:=h l List.mem_cons_self;simp only[jl,Bi];omega
 |l::m::r,h=>by
  have i:=tJ (c:=c) (k:=k) (L:=m::r) λx b=>h x (A6 _ b)
  have:=h l List.mem_cons_self;show (l++c::jl c (m::r)).length<=_;rw[B1,Bn];rw[Bn (a:=l),Cb];omega
def cy (e:Er):Str:=Str.join (ch 32) (b9 e)
theorem dN (h:e.Ok):(∀c∈sg (cy e),32<=c/\c<=57)/\(cy e).length<=56:=by
 have hw:=gG h;constructor
 ·intro c hc;unfold cy at hc;rw[c7]at hc;rcases rW hc with rfl|⟨l,hl,hc⟩
  ·decide
  ·obtain⟨w,hm,rfl⟩:=Bc.mp hl;have:=(hw w hm).1 c hc;omega
 ·unfold cy;rw[ba,c7];have:=tJ (c:=32) (k:=7) (L:=(b9 e).map sg) λl hl=>by obtain⟨w,hm,rfl⟩:=Bc.mp hl;rw[<-ba];exact (hw w hm).2
  have hp:=h.p2;have hl:((b9 e).map sg).length<=7:=by rw[B7];unfold b9;rw[B1,B7];show 3+_<=7;omega
  have:((b9 e).map sg).length*(7+1)<=7*(7+1):=Nat.mul_le_mul_right _ hl;omega
theorem uj (h:e.Ok):words (cy e)=b9 e:=by refine fg (by unfold b9;simp) (λw hw hc=>?_) (by unfold cy;rw[c7]);have:=(gG h w hw).1 _ hc;omega
theorem iB {α:Type} {f:Str->Option PyData} {g:α->Str} {k:α->PyData}:∀{xs:List α},(∀x∈xs,f (g x)=some (k x))->a8 f (xs.map g)=some (xs.map k)
 |[],_=>rfl
 |x::r,h=>by rw[Bk];unfold a8;rw[h x List.mem_cons_self,iB λy a=>h y (A6 _ a)];rfl
theorem xu (h:e.Ok):dY (cy e)=some e.d:=by
 have:=h.e1;have:=h.e2;have:=h.l1;have:=h.l2;have:=h.d1;have:=h.d2;unfold dY;rw[uj h];have e1:(b9 e).take 3=[e.every,e.due,e.late].map ay:=rfl;have e2:(b9 e).drop 3=e.parts.map cQ:=rfl;have a:a8 eH ([e.every,e.due,e.late].map ay)=some ([e.every,e.due,e.late].map PyData.int):=iB λi hi=>by
  simp only[List.mem_cons,A8,or_false]at hi;rcases hi with rfl|rfl|rfl
  ·exact nW (by omega) (by omega)
  ·exact nW (by omega) (by omega)
  ·exact nW (by omega) (by omega)
 have b:a8 cI (e.parts.map cQ)=some (e.parts.map az):=iB λp c=>vb (h.pl p c)
 rw[e1,e2,a,b];rfl
def textOf (es:List Er):Str:=⟨((es.map λe=>sg (cy e)++[10]).flatten).toArray⟩
theorem gu (es:List Er):sg (textOf es)=(es.map λe=>sg (cy e)++[10]).flatten:=rfl
theorem oj:∀{L:List (List Nat)},L≠[]->(L.map λl=>l++[10]).flatten=jl 10 L++[10]
 |[l],_=>by simp[jl]
 |l::m::r,_=>by have i:=oj (L:=m::r) (by simp);rw[Bk,Br,i];show l++[10]++(jl 10 (m::r)++[10])=l++10::jl 10 (m::r)++[10];simp
theorem vB (h:es≠[]):sg (textOf es)=jl 10 ((es.map cy).map sg)++[10]:=by rw[gu,<-oj (by simp[h]),Bm,Bm];rfl
theorem text_len (h:∀e∈es,e.Ok):(textOf es).length<=es.length*57:=by
 rw[ba,gu]
 induction es with
 |nil=>simp
 |cons e r ih =>
  have i:=ih λx a=>h x (A6 _ a)
  have l:=(dN (h e List.mem_cons_self)).2;rw[ba]at l;rw[Bk,Br,B1,B1,Bi,Bn,Cb];omega
theorem rT (h4:es.length<=4) (h:∀e∈es,e.Ok):Asc (textOf es):=by
 refine⟨λc hc=>?_,by have:=text_len h;omega⟩;rw[gu]at hc;obtain⟨l,hl,hc⟩:=List.mem_flatten.mp hc;obtain⟨e,a,rfl⟩:=Bc.mp hl;rcases B8.mp hc with hc|hc
 ·have:=(dN (h e a)).1 c hc;omega
 ·rw[List.mem_singleton.mp hc];decide
theorem qk (h1:1<=es.length) (f:es.length<=6) (h:∀e∈es,e.Ok):g5 (textOf es)=some (a4 es):=by
 have b:es≠[]:=λz=>by rw[z]at h1;exact absurd h1 (by decide)
 have c:=vB b;have hl:(sg (textOf es)).getLast?=some 10:=by rw[c,BR];rfl
 have hi:sg (ini (textOf es))=jl 10 ((es.map cy).map sg):=by have:=sU hl;rw[c]at this;exact (List.append_cancel_right this).symm
 have g:Txt.split (ini (textOf es)) (ch 10)=es.map cy:=fg (by simp[b]) (λw hw hc=>by obtain⟨e,a,rfl⟩:=Bc.mp hw;have:=(dN (h e a)).1 _ hc;omega) hi
 have hm:a8 dY (es.map cy)=some (es.map Er.d):=iB λe a=>xu (h e a)
 have a:au (.tuple (es.map Er.d))=true:=by
  have ha:(es.map Er.d).all aA=true:=by rw[Bg];intro d hd;obtain⟨e,a,rfl⟩:=Bc.mp hd;exact hV (h e a)
  simp only[au,B7,ha,Bool.and_true,B3,decide_eq_true_eq];exact⟨h1,f⟩
 unfold g5;rw[if_pos hl,g,hm];show (if au (.tuple (es.map Er.d))=true then _ else _)=_;rw[if_pos a];rfl
theorem add_str {a b:Str} (h:a.length+b.length<=1000000):aB (.str a) (.str b)=some (.str (a++b)):=by show (if a.length+b.length<=1000000 then some (PyData.str (a++b)) else none)=_;rw[if_pos h]
theorem str_len (a b:Str):(a++b).length=a.length+b.length:=by rw[ba,bM,B1,ba,ba]
theorem fSt {i:Int} (h:g δ=.ok (.int i)) (a:0<=i) (h1:i<1000):gF bD (aa g af) δ=.ok (.str (ay i)):=iY (ao h rfl) (kx a h1)
theorem n6 (cs:Cs) (h:POk p):aS cs [az p]=.ok (.str (cQ p)):=by
 obtain⟨a,b⟩:=p;have h1:1<=a:=h.1;have h2:a<=20:=h.2.1;obtain⟨_,l1⟩:=dig (i:=a) (by omega) (by omega);show bt (bY cs [some (az (a,b)),none])=_;unfold bY;have c:aM [] 1 (gF bD (aa (g2 dIx (ae 0) (gC (.int 0))) af)) [some (az (a,b)),none]=.nx [some (az (a,b)),some (.str (ay a))] :=
  bE (by decide:1<2) (fSt (aX (x:=az (a,b)) (y:=.int 0) rfl rfl rfl) (by omega) (by omega))
 rw[aU c];cases b with
 |none=>rfl
 |some t =>
  have ht:=h.2.2 t rfl;obtain⟨_,l2⟩:=dig (i:=t) (by omega) (by omega);have e:g2 aB (g2 aB (ae 1) (gC (.str "*"))) (gF bD (aa (g2 dIx (ae 0) (gC (.int 1))) af)) [some (az (a,some t)),some (.str (ay a))]=.ok (.str (ay a++ch 42++ay t)):=by
   refine aX (x:=.str (ay a++ch 42)) (aX (x:=.str (ay a)) (y:=.str (ch 42)) rfl (by rw[<-gn];rfl) (add_str ?_)) (fSt (aX (x:=az (a,some t)) (y:=.int 1) rfl rfl rfl) (by omega) (by omega)) (add_str ?_)
   ·have:(ch 42).length=1:=rfl;omega
   ·have:(ch 42).length=1:=rfl;rw[str_len];omega
  have f:gIf (gT (g1 gJ (g2 dIx (ae 0) (gC (.int 1))))) (ae 1) (g2 aB (g2 aB (ae 1) (gC (.str "*"))) (gF bD (aa (g2 dIx (ae 0) (gC (.int 1))) af))) [some (az (a,some t)),some (.str (ay a))]=.ok (.str (ay a++ch 42++ay t)):=by rw[<-e];rfl
  rw[eF f];rfl
theorem oY:∀ys:List Str,strsOf (ys.map PyData.str)=some ys
 |[]=>rfl
 |y::r=>by show (strsOf (r.map PyData.str)).map (y::·)=_;rw[oY r];rfl
theorem rZ {k:Nat}:∀{ys:List Str},(∀y∈ys,y.length<=k)->(ys.map (·.length)).sum<=ys.length*k
 |[],_=>by simp
 |y::r,h=>by
  have:=rZ (k:=k) (ys:=r) λx a=>h x (A6 _ a)
  have:=h y List.mem_cons_self;rw[Bk,List.sum_cons,Bn,Cb];omega
theorem ko (e:z.length<=1) (hl:ys.length<=100) (h:∀y∈ys,y.length<=100):e8 z (.list (ys.map PyData.str))=some (.str (Str.join z ys)):=by show ((strsOf (ys.map PyData.str)).bind λys=>if (ys.map (·.length)).sum+ys.length*z.length<=16777216 then some (PyData.str (Txt.join z ys)) else none)=_;rw[oY];show (if (ys.map (·.length)).sum+ys.length*z.length<=16777216 then some (PyData.str (Txt.join z ys)) else none)=_;have a:=rZ h;have b:ys.length*100<=100*100:=Nat.mul_le_mul_right _ hl;have c:ys.length*z.length<=100*1:=Nat.mul_le_mul hl e;rw[if_pos (by omega)];show some (PyData.str (Builtin.Str.glued z ys))=_;rw[StrLaws.glued_eq_join]
theorem jQ (h:e.Ok):(b9 e).length<=100/\∀w∈b9 e,w.length<=100:=by refine⟨?_,λw hw=>by have:=(gG h w hw).2;omega⟩;have:=h.p2;unfold b9;rw[B1,B7];show 3+_<=100;omega
def ee (e:Er):Str:=cy e++ch 10
theorem uf (cs:Cs) (h:e.Ok):bZ cs [e.d]=.ok (.str (ee e)):=by
 have:=h.e1;have:=h.e2;have:=h.l1;have:=h.l2;have:=h.d1;have:=h.d2;show bt (eJ cs (aS cs) [some e.d,none])=_;unfold eJ;have a:aM [] 1 (dq (aa (gF bD (aa (g2 dIx (ae 0) (gC (.int 0))) af)) (aa (gF bD (aa (g2 dIx (ae 0) (gC (.int 1))) af)) (aa (gF bD (aa (g2 dIx (ae 0) (gC (.int 2))) af)) af)))) [some e.d,none]=.nx [some e.d,some (.list ([ay e.every,ay e.due,ay e.late].map PyData.str))] :=
  bE (by decide:1<2) (lst_is (ao (fSt (i:=e.every) (aX (x:=e.d) (y:=.int 0) rfl rfl rfl) (by omega) (by omega)) (ao (fSt (i:=e.due) (aX (x:=e.d) (y:=.int 1) rfl rfl rfl) (by omega) (by omega)) (ao (fSt (i:=e.late) (aX (x:=e.d) (y:=.int 2) rfl rfl rfl) (by omega) (by omega)) rfl))))
 rw[aU a];have hc:a5 2 (ck (g2 dIx (ae 0) (gC (.int 3)))) aT (ak (aS cs) (aa (ae 2) af)) aF [some e.d,some (.list ([ay e.every,ay e.due,ay e.late].map PyData.str))]=.ok ((e.parts.map az).map λd=>.str (cQ (bN d))):=by
  refine cY rfl ?_ (by have:=h.p2;rw[B7];omega) λd hd=>?_
  ·rw[m7,aX (x:=e.d) (y:=.int 3) rfl rfl (AN _),Rs.ag,wo]
  ·obtain⟨p,c,rfl⟩:=Bc.mp hd;rw[iU];exact cm (ds:=[az p]) rfl (n6 cs (h.pl p c))
 have hm:((e.parts.map az).map λd=>PyData.str (cQ (bN d)))=(e.parts.map cQ).map PyData.str:=by rw[Bm,Bm];exact Bz λp _=>by simp[iU]
 rw[hm]at hc;obtain⟨f,g⟩:=jQ h;have ha:g2 aB (ae 1) (gL (a5 2 (ck (g2 dIx (ae 0) (gC (.int 3)))) aT (ak (aS cs) (aa (ae 2) af)) aF)) [some e.d,some (.list ([ay e.every,ay e.due,ay e.late].map PyData.str))]=.ok (.list ((b9 e).map PyData.str)):=by refine aX (x:=.list ([ay e.every,ay e.due,ay e.late].map PyData.str)) rfl (j8 hc) ?_;unfold b9;rw[BV];show (if _ then _ else _)=_;rw[if_pos (by have:=h.p2;rw[B7,B7,B7];show 3+_<=_;omega)]
 have j:gM e8 (gC (.str " ")) (g2 aB (ae 1) (gL (a5 2 (ck (g2 dIx (ae 0) (gC (.int 3)))) aT (ak (aS cs) (aa (ae 2) af)) aF))) [some e.d,some (.list ([ay e.every,ay e.due,ay e.late].map PyData.str))]=.ok (.str (cy e)) :=
  fF (z:=ch 32) (by rw[<-fY];rfl) ha (ko (by decide) f g)
 have k:=aX j (b:=gC (.str "\n")) (y:=.str (ch 10)) (by rw[<-fw];rfl) (add_str (by have:=(dN h).2;have:(ch 10).length=1:=rfl;omega))
 rw[eF k];rfl
theorem mj:∀ys:List Str,sg (Str.join Str.empty ys)=(ys.map sg).flatten
 |[]=>rfl
 |[x]=>by simp[Str.join]
 |x::y::r=>by show sg ((x++Str.empty)++Str.join Str.empty (y::r))=_;rw[bM,bM,mj (y::r),Bk,Br];show sg x++[]++_=_;rw[BC];simp
theorem qh (es:List Er):Str.join Str.empty (es.map ee)=textOf es:=by
 refine c0 ?_;rw[mj,gu,Bm];congr 1;refine Bz λe _=>?_
 show sg (cy e++ch 10)=_;rw[bM]
theorem sM (cs:Cs) (h1:1<=es.length) (b:es.length<=6) (h:∀e∈es,e.Ok):dj cs [a4 es]=.ok (.str (textOf es)):=by
 show bt (gx cs (bZ cs) (aw cs) [some (a4 es)])=_;unfold gx;have c:jT (ak (aw cs) (aa (ae 0) af)) [some (a4 es)]=.nx [some (a4 es)]:=by unfold jT;rw[cm (ds:=[a4 es]) rfl (jM cs h1 b h),a9]
 rw[aU c];have hc:a5 1 (ck (ae 0)) aT (ak (bZ cs) (aa (ae 1) af)) aF [some (a4 es)]=.ok ((es.map Er.d).map λd=>.str (ee (deE d))):=by
  refine cY rfl rfl (by rw[B7];omega) λd hd=>?_
  obtain⟨e,a,rfl⟩:=Bc.mp hd;rw[v3];exact cm (ds:=[e.d]) rfl (uf cs (h e a))
 have hm:((es.map Er.d).map λd=>PyData.str (ee (deE d)))=(es.map ee).map PyData.str:=by rw[Bm,Bm];exact Bz λe _=>by simp[v3]
 rw[hm]at hc;have f:gM e8 (gC (.str "")) (gL (a5 1 (ck (ae 0)) aT (ak (bZ cs) (aa (ae 1) af)) aF)) [some (a4 es)]=.ok (.str (Str.join Str.empty (es.map ee))) :=
  fF (z:=Str.empty) (by rw[<-mD];rfl) (j8 hc) (ko (by decide) (by rw[B7];omega) λw hw=>by obtain⟨e,a,rfl⟩:=Bc.mp hw;have:=(dN (h e a)).2;have h1:(ch 10).length=1:=rfl;unfold ee;rw[str_len];omega)
 rw[eF f,qh];rfl
def ltS (D:PyData) (t:Str) (x2 x3 x4 x5:Option PyData) (ws:Option PyData) (x7 x8:Option PyData):Ds:=[some D,some (.str t),x2,x3,x4,x5,ws,x7,x8]
def ltI:Ds->Sr:=gR [6] 6 (g2 dIx (dq (aa (g2 aB (g2 aB (gF bD (aa (ae 7) af)) (gC (.str "*"))) (gF g6 (aa (ae 8) af))) (aa (gF bD (aa (ae 7) af)) af))) (gF ju (aa (g1 gJ (ae 8)) af)))
def ltO:Ds->Sr:=aG (jG [6] 6 (aa (gF bD (aa (ae 2) af)) (aa (gF bD (aa (ae 3) af)) (aa (gF bD (aa (ae 4) af)) af))))
 (aG (ig [6] (ck (ae 5)) (d6 [7,8]) ltI)
 (mF 1 (g2 aB (g2 aB (ae 1) (gM e8 (gC (.str " ")) (ae 6))) (gC (.str "\n")))))
theorem vI {D:PyData} {x2 x5:Option PyData} {ws:List PyData} (h:POk p) (hl:ws.length<1000000):ltI (ltS D t x2 x3 x4 x5 (some (.list ws)) (some (.int p.1)) (some (f6 p.2)))=.nx (ltS D t x2 x3 x4 x5 (some (.list (ws++[.str (cQ p)]))) (some (.int p.1)) (some (f6 p.2))):=by
 obtain⟨a,b⟩:=p;have h1:1<=a:=h.1;have h2:a<=20:=h.2.1;obtain⟨_,l1⟩:=dig (i:=a) (by omega) (by omega);unfold ltI;have one:(ch 42).length=1:=rfl;have key:∀(d:PyData) (w:Str),g6 [d]=some (.str w)->w.length<=10->∀k:Bool,gJ d=some (.bool k) ->
   g2 dIx (dq (aa (g2 aB (g2 aB (gF bD (aa (ae 7) af)) (gC (.str "*"))) (gF g6 (aa (ae 8) af))) (aa (gF bD (aa (ae 7) af)) af))) (gF ju (aa (g1 gJ (ae 8)) af)) (mask [6] (ltS D t x2 x3 x4 x5 (some (.list ws)) (some (.int a)) (some d)))=.ok (.str (if k then ay a else ay a++ch 42++w)):=by
  intro d w hd hw k c;have hm:mask [6] (ltS D t x2 x3 x4 x5 (some (.list ws)) (some (.int a)) (some d))=ltS D t x2 x3 x4 x5 none (some (.int a)) (some d):=rfl;rw[hm];have e:g2 aB (g2 aB (gF bD (aa (ae 7) af)) (gC (.str "*"))) (gF g6 (aa (ae 8) af)) (ltS D t x2 x3 x4 x5 none (some (.int a)) (some d))=.ok (.str (ay a++ch 42++w)) :=
   aX (x:=.str (ay a++ch 42)) (aX (y:=.str (ch 42)) (fSt (i:=a) rfl (by omega) (by omega)) (by rw[<-gn];rfl) (add_str (by omega))) (iY (ds:=[d]) rfl hd) (add_str (by rw[str_len];omega))
  have f:=lst_is (ao e (ao (fSt (g:=ae 7) (i:=a) (δ:=ltS D t x2 x3 x4 x5 none (some (.int a)) (some d)) rfl (by omega) (by omega)) (r:=af) (ds:=[]) rfl));have j:gF ju (aa (g1 gJ (ae 8)) af) (ltS D t x2 x3 x4 x5 none (some (.int a)) (some d))=.ok (.int (if k then 1 else 0)):=by refine iY (ds:=[.bool k]) (ao (by rw[m9];show Rs.aW (gJ d)=_;rw[c];rfl) rfl) rfl
  refine aX f j ?_;cases k <;> rfl
 cases b with
 |none=>exact nk (i:=6) (ds:=ws) rfl (key .none "None" rfl (by decide) true rfl) hl
 |some t2 =>have ht:=h.2.2 t2 rfl;obtain⟨_,l2⟩:=dig (i:=t2) (by omega) (by omega);exact nk (i:=6) (ds:=ws) rfl (key (.int t2) (ay t2) (kx (by omega) (by omega)) (by omega) false rfl) hl
theorem lN {D:PyData} {t:Str} {x2 x3 x4 x5:Option PyData}:∀(ps:List (Int×Option Int)) (ws:List PyData) (x7 x8:Option PyData),(∀p∈ps,POk p)->ws.length+ps.length<1000000 ->
  ∃b c,forL (d6 [7,8]) ltI (ps.map az) (ltS D t x2 x3 x4 x5 (some (.list ws)) x7 x8)=.nx (ltS D t x2 x3 x4 x5 (some (.list (ws++(ps.map cQ).map PyData.str))) b c)
 |[],ws,x7,x8,_,_=>⟨x7,x8,by show _=Sr.nx (ltS D t x2 x3 x4 x5 (some (.list (ws++[]))) x7 x8);rw[BC];rfl⟩
 |p::r,ws,x7,x8,h,hl=>by
  rw[Bn]at hl;have a:forL (d6 [7,8]) ltI ((p::r).map az) (ltS D t x2 x3 x4 x5 (some (.list ws)) x7 x8)=match ltI (ltS D t x2 x3 x4 x5 (some (.list ws)) (some (.int p.1)) (some (f6 p.2))) with
   |.nx δ2=>forL (d6 [7,8]) ltI (r.map az) δ2
   |.ct δ2=>forL (d6 [7,8]) ltI (r.map az) δ2
   |.bk δ2=>.nx δ2
   |.rt v=>.rt v
   |.rz C=>.rz C
   |.no=>.no:=rfl
  obtain⟨b,c,e⟩:=lN (D:=D) (t:=t) (x2:=x2) (x3:=x3) (x4:=x4) (x5:=x5) r (ws++[.str (cQ p)]) (some (.int p.1)) (some (f6 p.2)) (λq f=>h q (A6 _ f)) (by rw[B1,Bi];omega);refine⟨b,c,?_⟩;rw[a,vI (h p List.mem_cons_self) (by omega)];dsimp only;rw[e,List.append_assoc];rfl
theorem vx {D:PyData} {x6 x7 x8:Option PyData} (h:e.Ok) (ht:t.length<=10000):∃c a b,ltO (ltS D t (some (.int e.every)) (some (.int e.due)) (some (.int e.late)) (some (.tuple (e.parts.map az))) x6 x7 x8)=.nx (ltS D (t++ee e) (some (.int e.every)) (some (.int e.due)) (some (.int e.late)) (some (.tuple (e.parts.map az))) c a b):=by
 have:=h.e1;have:=h.e2;have:=h.l1;have:=h.l2;have:=h.d1;have:=h.d2;unfold ltO;have f:jG [6] 6 (aa (gF bD (aa (ae 2) af)) (aa (gF bD (aa (ae 3) af)) (aa (gF bD (aa (ae 4) af)) af))) (ltS D t (some (.int e.every)) (some (.int e.due)) (some (.int e.late)) (some (.tuple (e.parts.map az))) x6 x7 x8)=.nx (ltS D t (some (.int e.every)) (some (.int e.due)) (some (.int e.late)) (some (.tuple (e.parts.map az))) (some (.list [.str (ay e.every),.str (ay e.due),.str (ay e.late)])) x7 x8) :=
  sX (by decide:6<9) (ao (fSt (i:=e.every) rfl (by omega) (by omega)) (ao (fSt (i:=e.due) rfl (by omega) (by omega)) (ao (fSt (i:=e.late) rfl (by omega) (by omega)) rfl)))
 rw[aU f];obtain⟨a,b,g⟩:=lN (D:=D) (t:=t) (x2:=some (.int e.every)) (x3:=some (.int e.due)) (x4:=some (.int e.late)) (x5:=some (.tuple (e.parts.map az))) e.parts [.str (ay e.every),.str (ay e.due),.str (ay e.late)] x7 x8 h.pl (by have:=h.p2;show 3+_<_;omega);rw[aU ((nY (ds:=e.parts.map az) rfl).trans g)];refine⟨some (.list ([.str (ay e.every),.str (ay e.due),.str (ay e.late)]++(e.parts.map cQ).map PyData.str)),a,b,?_⟩;obtain⟨j,k⟩:=jQ h;have l:gM e8 (gC (.str " ")) (ae 6) (ltS D t (some (.int e.every)) (some (.int e.due)) (some (.int e.late)) (some (.tuple (e.parts.map az))) (some (.list ([.str (ay e.every),.str (ay e.due),.str (ay e.late)]++(e.parts.map cQ).map PyData.str))) a b)=.ok (.str (cy e)) :=
  fF (z:=ch 32) (y:=.list ((b9 e).map PyData.str)) (by rw[<-fY];rfl) rfl (ko (by decide) j k)
 have lb:=(dN h).2;have one:(ch 10).length=1:=rfl;have m:g2 aB (g2 aB (ae 1) (gM e8 (gC (.str " ")) (ae 6))) (gC (.str "\n")) (ltS D t (some (.int e.every)) (some (.int e.due)) (some (.int e.late)) (some (.tuple (e.parts.map az))) (some (.list ([.str (ay e.every),.str (ay e.due),.str (ay e.late)]++(e.parts.map cQ).map PyData.str))) a b)=.ok (.str (t++ee e)):=by refine (aX (x:=.str (t++cy e)) (y:=.str (ch 10)) (z:=.str (t++cy e++ch 10)) (aX (x:=.str t) rfl l (add_str (by omega))) (by rw[<-fw];rfl) (add_str (by rw[str_len];omega))).trans ?_;have:t++cy e++ch 10=t++ee e:=c0 (by unfold ee;rw[bM,bM,bM,bM,List.append_assoc]);rw[this]
 unfold mF;rw[if_pos (show 1<List.length (ltS D t (some (.int e.every)) (some (.int e.due)) (some (.int e.late)) (some (.tuple (e.parts.map az))) (some (.list ([.str (ay e.every),.str (ay e.due),.str (ay e.late)]++(e.parts.map cQ).map PyData.str))) a b) from (by decide:1<9)),m,a9,if_pos (by simp[cT])];rfl
theorem me {D:PyData}:∀(es:List Er) (t:Str) (x2 x3 x4 x5 x6 x7 x8:Option PyData),(∀e∈es,e.Ok)->t.length+es.length*57<=10000 ->
  ∃t' b c f g i j k,sg t'=sg t++(es.map λe=>sg (cy e)++[10]).flatten/\forL (d6 [2,3,4,5]) ltO (es.map Er.d) (ltS D t x2 x3 x4 x5 x6 x7 x8)=.nx (ltS D t' b c f g i j k)
 |[],t,x2,x3,x4,x5,x6,x7,x8,_,_=>⟨t,x2,x3,x4,x5,x6,x7,x8,by simp,rfl⟩
 |e::r,t,x2,x3,x4,x5,x6,x7,x8,h,hl=>by
  have a:forL (d6 [2,3,4,5]) ltO ((e::r).map Er.d) (ltS D t x2 x3 x4 x5 x6 x7 x8)=match ltO (ltS D t (some (.int e.every)) (some (.int e.due)) (some (.int e.late)) (some (.tuple (e.parts.map az))) x6 x7 x8) with
   |.nx δ2=>forL (d6 [2,3,4,5]) ltO (r.map Er.d) δ2
   |.ct δ2=>forL (d6 [2,3,4,5]) ltO (r.map Er.d) δ2
   |.bk δ2=>.nx δ2
   |.rt v=>.rt v
   |.rz C=>.rz C
   |.no=>.no:=rfl
  rw[Bn,Cb]at hl;obtain⟨z6,z7,z8,e1⟩:=vx (D:=D) (t:=t) (x6:=x6) (x7:=x7) (x8:=x8) (h e List.mem_cons_self) (by omega);have lb:=(dN (h e List.mem_cons_self)).2;have one:(ch 10).length=1:=rfl;obtain⟨t',b,c,f,g,i,j,k,l,e2⟩:=me (D:=D) r (t++ee e) (some (.int e.every)) (some (.int e.due)) (some (.int e.late)) (some (.tuple (e.parts.map az))) z6 z7 z8 (λx m=>h x (A6 _ m)) (by unfold ee;rw[str_len,str_len];omega);refine⟨t',b,c,f,g,i,j,k,?_,?_⟩
  ·rw[l,Bk,Br];unfold ee;rw[bM,bM,List.append_assoc]
  ·rw[a,e1];exact e2
theorem law_text_is (cs:Cs) (h6:es.length<=6) (h:∀e∈es,e.Ok):bw cs [a4 es]=.ok (.str (textOf es)):=by
 show bt (dM cs [some (a4 es),none,none,none,none,none,none,none,none])=_;unfold dM;have a:aM [6] 1 (gC (.str "")) [some (a4 es),none,none,none,none,none,none,none,none]=.nx (ltS (a4 es) Str.empty none none none none none none none):=by rw[<-mD];exact bE (by decide:1<9) rfl
 rw[aU a];obtain⟨t',b,c,f,g,i,j,k,l,e⟩:=me (D:=a4 es) es Str.empty none none none none none none none h (by show 0+_<=_;omega);have m:t'=textOf es:=c0 (by rw[l,gu];rfl);rw[m]at e;have key:ig [6] (ck (ae 0)) (d6 [2,3,4,5]) ltO (ltS (a4 es) Str.empty none none none none none none none)=.nx (ltS (a4 es) (textOf es) b c f g i j k):=(nY (ds:=es.map Er.d) rfl).trans e;unfold ltO ltI at key;rw[aU key];rfl
theorem qL (h:∀d∈ds,d.canLay0=true/\d.depth<=n):PyData.canLayAll0 ds=true/\PyData.depthAll ds<=n:=by
 induction ds with
 |nil=>exact⟨rfl,C0 _⟩
 |cons d r ih =>
  obtain⟨a,b⟩:=h d List.mem_cons_self;obtain⟨c,e⟩:=ih λx f=>h x (A6 _ f)
  refine⟨by simp[PyData.canLayAll0,a,c],?_⟩;simp only[PyData.depthAll];omega
theorem iz (h:∀d∈ds,d.canLay0=true/\d.depth<=n):(PyData.tuple ds).canLay0=true/\(PyData.tuple ds).depth<=n+1:=by obtain⟨a,b⟩:=qL h;refine⟨by simp[PyData.canLay0,a],?_⟩;simp only[PyData.depth];omega
theorem iC (es:List Er):SeqAt.shaped (a4 es)=true:=by
 have h:(a4 es).canLay0=true/\(a4 es).depth<=9+1:=iz λd hd=>by
  obtain⟨e,_,rfl⟩:=Bc.mp hd;have f:(PyData.tuple (e.parts.map az)).canLay0=true/\(PyData.tuple (e.parts.map az)).depth<=7+1:=iz λd hd=>by
   obtain⟨p,_,rfl⟩:=Bc.mp hd;refine iz (n:=6) λx c=>?_
   obtain⟨a,b⟩:=p;simp only[List.mem_cons,A8,or_false]at c;rcases c with rfl|rfl
   ·exact⟨rfl,by simp[PyData.depth]⟩
   ·cases b <;> exact⟨rfl,by simp[f6,PyData.depth]⟩
  refine iz (n:=8) λx c=>?_
  simp only[List.mem_cons,A8,or_false]at c;rcases c with rfl|rfl|rfl|rfl
  ·exact⟨rfl,by simp[PyData.depth]⟩
  ·exact⟨rfl,by simp[PyData.depth]⟩
  ·exact⟨rfl,by simp[PyData.depth]⟩
  ·exact f
 have h2:(a4 es).depth<=64:=by omega
 simp[SeqAt.shaped,h.1,h2]
theorem w5 (es:List Er):dNe (a4 es) (a4 es)=some (.bool false):=by unfold dNe;rw[gS,iC,SeqAt.eqv_refl _ (SeqAt.canLay_of_shaped (iC es))];rfl
theorem yn (es:List Er):dEq (a4 es) (a4 es)=some (.bool true):=by unfold dEq;rw[gS,iC,SeqAt.eqv_refl _ (SeqAt.canLay_of_shaped (iC es))];rfl
def Sz (n:Nat) (z:Str):Prop:=(∀c∈sg z,c<128)/\z.length<=n
theorem lR (h:((sg z).all (λc=>decide (c<128))&&decide (z.length<=n))=true):Sz n z:=by rw[B3,Bg,decide_eq_true_eq]at h;exact⟨λc hc=>of_decide_eq_true (h.1 c hc),h.2⟩
def TS (n:Nat) (g:Ds->Rs PyData) (δ:Ds):Prop:=∃z,g δ=.ok (.str z)/\Sz n z
theorem TS.add {m:Nat} {gb:Ds->Rs PyData} (h1:TS n ga δ) (h2:TS m gb δ) (h:n+m<=10000:=by decide):TS (n+m) (g2 aB ga gb) δ:=by
 obtain⟨a,ea,sa,la⟩:=h1;obtain⟨b,e,f,lb⟩:=h2;refine⟨a++b,aX ea e (add_str (by omega)),λc hc=>?_,by rw[str_len];omega⟩;rw[bM]at hc;rcases B8.mp hc with hc|hc
 ·exact sa c hc
 ·exact f c hc
theorem TS.sl {b e:Ds->Rs (Option Int)} {l h:Option Int} (h1:TS n g δ) (hl:b δ=.ok l) (f:e δ=.ok h) (hn:n<=10000:=by decide):TS n (aK g b e) δ:=by obtain⟨a,ea,sa,la⟩:=h1;refine⟨Txt.slice a l h,?_,λc hc=>sa c (j6 a l h c hc),Bj (Txt.slice_le a l h) la⟩;unfold aK;rw[ea,Rs.ag,hl,Rs.ag,f,Rs.ag];show Rs.aW (if a.length<=1000000 then some (PyData.str (Txt.slice a l h)) else none)=_;rw[if_pos (by omega)];rfl
theorem c8 {i:Int} (h:g δ=.ok (.int i)):aR g δ=.ok (some i):=by unfold aR;rw[h];rfl
def Bad (d:PyData):Prop:=(∃z,d=.str z/\Asc z)\/(aC d=true/\fB d "str"=false)
theorem TS.bad (h:TS n g δ) (hn:n<=100000:=by decide):∃d,g δ=.ok d/\Bad d:=by obtain⟨z,e,s,l⟩:=h;exact⟨.str z,e,.inl ⟨z,rfl,s,by omega⟩⟩
theorem fi {w j:Int} {rest:Ds->Sr} (hw:ae 5 δ=.ok (.int w)) (a:∃d,g δ=.ok d/\Bad d) (f:∃d,rest δ=.rt d/\Bad d):∃d,aG (sIf (gT (g2 dEq (ae 5) (gC (.int j)))) (bp g) bq) rest δ=.rt d/\Bad d:=by
 have c:gT (g2 dEq (ae 5) (gC (.int j))) δ=.ok (w==j):=dm (aX hw (y:=.int j) rfl (mH w j));obtain⟨d,e,b⟩:=a;cases q:w==j with
 |true=>rw[q]at c;exact⟨d,by rw[aQ,jC c,eF e],b⟩
 |false=>rw[q]at c;rw[aQ,jz c];exact f
theorem qC {i:Int} (b:0<=i) (h1:i<ds.length):∃d∈ds,dIx (.list ds) (.int i)=some d:=by
 obtain⟨k,rfl⟩:=BN b;have a:k<ds.length:=by omega
 exact⟨ds[k],Ca a,kK (xs:=ds) (B6 a)⟩
theorem pk {a:Ds->Rs PyData} {x y:Int} (h1:a δ=.ok (.int x)) (h2:b δ=.ok (.int y)) (c:0<y):g2 dZ a b δ=.ok (.int (x % y)):=aX h1 h2 (by rw[v8,if_pos c])
theorem wU {a:Ds->Rs PyData} {x y:Int} (h1:a δ=.ok (.int x)) (h2:b δ=.ok (.int y)) (c:0<y) (e:y<1073741824):g2 ib a b δ=.ok (.int (x / y)):=aX h1 h2 (by rw[vY,if_pos ⟨c,e⟩])
theorem tW {a:Ds->Rs PyData} {x y:Int} (h1:a δ=.ok (.int x)) (h2:b δ=.ok (.int y)):g2 aB a b δ=.ok (.int (x+y)):=aX h1 h2 rfl
theorem qO:((sg (Str.ofString " *\n0123456789-+.aN 1*0")).all (λc=>decide (c<128))&&decide ((sg (Str.ofString " *\n0123456789-+.aN 1*0")).length=22))=true:=by decide +kernel
theorem sign_is {i:Int} (e:0<=i) (h1:i<22):∃c,c<128/\pz (.str " *\n0123456789-+.aN 1*0") (.int i)=some (.str (ch c)):=by
 have a:=qO;rw[B3,Bg,decide_eq_true_eq]at a;obtain⟨k,rfl⟩:=BN e;have b:k<(sg (Str.ofString " *\n0123456789-+.aN 1*0")).length:=by rw[a.2];omega
 refine⟨(sg (Str.ofString " *\n0123456789-+.aN 1*0"))[k],of_decide_eq_true (a.1 _ (Ca b)),?_⟩;show (if (Str.ofString " *\n0123456789-+.aN 1*0").length<=1000000 then (atI (sg (Str.ofString " *\n0123456789-+.aN 1*0")) (k:Int)).map λc=>PyData.str ⟨#[c]⟩ else none)=_;rw[if_pos (by rw[ba,a.2];decide),kK (B6 b)];rfl
theorem iQ (cs:Cs) {c:Int} {more:List PyData} (q:Sz 1000 t) (hm:∀m∈more,Bad m) (hl:more.length<=10):∃d,aL cs [.str t,.int c,.list more]=.ok d/\Bad d:=by
 show ∃d,bt (bz cs [some (.str t),some (.int c),some (.list more),none,none,none])=.ok d/\Bad d;unfold bz;have lt:=q.2;have z:aM [] 3 (g2 dZ (ae 1) (g2 aB (gF lT (aa (ae 0) af)) (gC (.int 1)))) [some (.str t),some (.int c),some (.list more),none,none,none]=.nx [some (.str t),some (.int c),some (.list more),some (.int (c % ((t.length:Int)+1))),none,none] :=
  bE (by decide:3<6) (pk rfl (tW (x:=(t.length:Int)) (y:=1) (iY (ds:=[.str t]) rfl (by show (if t.length<=1000000 then some (PyData.int t.length) else none)=_;rw[if_pos (by omega)])) rfl) (by omega))
 rw[aU z];generalize c % ((t.length:Int)+1)=at0;obtain⟨sc,l,A⟩:=sign_is (i:=c / 1000 % 22) (BB _ (by decide)) (Bx _ (by decide));have s2:aM [] 4 (g2 pz (gC (.str " *\n0123456789-+.aN 1*0")) (g2 dZ (g2 ib (ae 1) (gC (.int 1000))) (gC (.int 22)))) [some (.str t),some (.int c),some (.list more),some (.int at0),none,none]=.nx [some (.str t),some (.int c),some (.list more),some (.int at0),some (.str (ch sc)),none] :=
  bE (by decide:4<6) (aX rfl (pk (wU (x:=c) (y:=1000) rfl rfl (by decide) (by decide)) (y:=22) rfl (by decide)) A)
 rw[aU s2];have B:aM [] 5 (g2 dZ (g2 ib (ae 1) (gC (.int 40000))) (gC (.int 6))) [some (.str t),some (.int c),some (.list more),some (.int at0),some (.str (ch sc)),none]=.nx [some (.str t),some (.int c),some (.list more),some (.int at0),some (.str (ch sc)),some (.int (c / 40000 % 6))] :=
  bE (by decide:5<6) (pk (wU (x:=c) (y:=40000) rfl rfl (by decide) (by decide)) (y:=6) rfl (by decide))
 rw[aU B];generalize c / 40000 % 6=w;have a:TS 1000 (ae 0) [some (.str t),some (.int c),some (.list more),some (.int at0),some (.str (ch sc)),some (.int w)]:=⟨t,rfl,q⟩
 have s:TS 1 (ae 4) [some (.str t),some (.int c),some (.list more),some (.int at0),some (.str (ch sc)),some (.int w)]:=⟨ch sc,rfl,λx C=>by rw[List.mem_singleton.mp C];exact l,B0 _⟩
 have hB:TS 1 (gC (.str " ")) [some (.str t),some (.int c),some (.list more),some (.int at0),some (.str (ch sc)),some (.int w)]:=⟨_,rfl,lR (by decide +kernel)⟩
 have f:ae 3 [some (.str t),some (.int c),some (.list more),some (.int at0),some (.str (ch sc)),some (.int w)]=.ok (.int at0):=rfl;have h1:ae 1 [some (.str t),some (.int c),some (.list more),some (.int at0),some (.str (ch sc)),some (.int w)]=.ok (.int c):=rfl;have h:ae 5 [some (.str t),some (.int c),some (.list more),some (.int at0),some (.str (ch sc)),some (.int w)]=.ok (.int w):=rfl;have u:ae 2 [some (.str t),some (.int c),some (.list more),some (.int at0),some (.str (ch sc)),some (.int w)]=.ok (.list more):=rfl;generalize ([some (PyData.str t),some (.int c),some (.list more),some (.int at0),some (.str (ch sc)),some (.int w)]:Ds)=δ at *;have no:av δ=.ok none:=rfl;have v:g2 aB (ae 3) (gC (.int 1)) δ=.ok (.int (at0+1)):=tW f rfl;have key:∃d,_=Sr.rt d/\Bad d:=fi h (j:=0) (((a.sl no (c8 f)).add s).add (a.sl (c8 f) no)).bad (fi h (j:=1) ((a.sl no (c8 f)).add (a.sl (c8 v) no)).bad (fi h (j:=2) (((a.sl no (c8 f)).add s).add (a.sl (c8 v) no)).bad (fi h (j:=3)
  ((a.sl no (c8 f)).add (a.sl (c8 (tW f (pk (wU h1 (b:=gC (.int 7)) (y:=7) rfl (by decide) (by decide)) (b:=gC (.int 9)) (y:=9) rfl (by decide)))) no)).bad
  (fi h (j:=4) (g:=g2 dIx (dq (aa (g2 aB (ae 0) (ae 0)) (aa (g2 aB (aK (ae 0) (aR (ae 3)) av) (aK (ae 0) av (aR (ae 3)))) (aa (g2 aB (gC (.str " ")) (ae 0)) (aa (g2 aB (ae 0) (gC (.str " "))) af))))) (g2 dZ (ae 1) (gC (.int 4))))
   (by obtain⟨d1,e1,b1⟩:=(a.add a).bad;obtain⟨d2,e2,b2⟩:=((a.sl (c8 f) no).add (a.sl no (c8 f))).bad;obtain⟨D,E,b3⟩:=(hB.add a).bad;obtain⟨F,G,b4⟩:=(a.add hB).bad;have o:=lst_is (ao e1 (ao e2 (ao E (ao G (r:=af) (ds:=[]) rfl))));obtain⟨d,hd,p⟩:=qC (ds:=[d1,d2,D,F]) (i:=c % 4) (BB _ (by decide)) (Bx _ (by decide));refine⟨d,aX o (pk h1 (y:=4) rfl (by decide)) p,?_⟩;simp only[List.mem_cons,A8,or_false]at hd;rcases hd with rfl|rfl|rfl|rfl <;> assumption)
   (rest:=bp (g2 dIx (g2 aB (ae 2) (dq (aa (gC .none) (aa (gC (.int 5)) (aa (dq (aa (ae 0) af)) (aa (gC (.str "")) af)))))) (g2 dZ (ae 1) (g2 aB (gF eC (aa (ae 2) af)) (gC (.int 4))))))
   (by
    obtain⟨k,H,q0⟩:=a;have o:dq (aa (gC .none) (aa (gC (.int 5)) (aa (dq (aa (ae 0) af)) (aa (gC (.str "")) af)))) δ=.ok (.list [.none,.int 5,.list [.str k],.str ""]):=lst_is (ao rfl (ao rfl (ao (lst_is (ao H rfl)) (ao rfl rfl))));have ea:g2 aB (ae 2) (dq (aa (gC .none) (aa (gC (.int 5)) (aa (dq (aa (ae 0) af)) (aa (gC (.str "")) af))))) δ=.ok (.list (more++[.none,.int 5,.list [.str k],.str ""])):=aX u o (by show (if more.length+4<=1000000 then some (PyData.list (more++[.none,.int 5,.list [.str k],.str ""])) else none)=_;rw[if_pos (by omega)])
    have I:g2 aB (gF eC (aa (ae 2) af)) (gC (.int 4)) δ=.ok (.int ((more.length:Int)+4)):=tW (iY (ao u rfl) rfl) rfl;obtain⟨d,hd,p⟩:=qC (ds:=more++[.none,.int 5,.list [.str k],.str ""]) (i:=c % ((more.length:Int)+4)) (BB _ (by omega)) (by rw[B1];have:=Bx c (show 0<(more.length:Int)+4 by omega);have J:List.length [PyData.none,.int 5,.list [.str k],.str ""]=4:=rfl;rw[J];omega)
    refine⟨d,eF (aX ea (pk h1 I (by omega)) p),?_⟩;rcases B8.mp hd with hd|hd
    ·exact hm d hd
    ·simp only[List.mem_cons,A8,or_false]at hd;rcases hd with rfl|rfl|rfl|rfl
     ·exact .inr ⟨by simp[aC],by decide⟩
     ·exact .inr ⟨by simp[aC],by decide⟩
     ·exact .inr ⟨by simp[aC,dH],rfl⟩
     ·exact .inl ⟨_,rfl,(lR (n:=100000) (by decide +kernel)).1,(lR (n:=100000) (by decide +kernel)).2⟩)))))
 obtain⟨d,e,b⟩:=key;exact⟨d,by rw[e];rfl,b⟩
theorem xr:tV (.int 10) (.int 7)=some (.int (10 ^ 7)):=by show (if 0<=(7:Int)/\(7:Int)<=1000000/\(10:Int).natAbs<2 ^ 64 then some (PyData.int (10 ^ (7:Int).toNat)) else none)=_;rw[if_pos (by decide)];rfl
theorem wO:jn (.str "2 1 0 1\n") (.int 7)=some (.str (Txt.mul "2 1 0 1\n" 7)):=by unfold jn;dsimp only;rw[if_pos];exact⟨by decide,λ_ _=>by decide +kernel,λ_ _=>by decide +kernel⟩
theorem xO (h:((sg z).all (λc=>decide (c<128))&&decide (z.length<=1000))=true):Bad (.str z):=.inl ⟨z,rfl,(lR h).1,by have:=(lR h).2;omega⟩
theorem uT (cs:Cs) {d:PyData} (h:Bad d) {x0 x1:Option PyData}:∃a x5,lV [] cs.NoText 4 5 (bX cs) (aa (ae 2) af) [x0,x1,some d,x3,some .none,none]=.nx [x0,x1,some d,x3,some a,x5]/\bQ cs [d]=.ok a/\dEq a a=some (.bool true):=by
 have key:lV [] cs.NoText 4 5 (bX cs) (aa (ae 2) af) [x0,x1,some d,x3,some .none,none]=match bX cs [d] with
  |.ok v=>.nx [x0,x1,some d,x3,some v,none]
  |.rz C'=>if C'=cs.NoText then .nx [x0,x1,some d,x3,some .none,none] else .no
  |.no=>.no:=rfl
 rw[key];rcases h with⟨z,rfl,b⟩|⟨n1,n2⟩
 ·have hl:=b.len;rw[o4 cs (by omega),law_due_is cs b];cases q:g5 z with
  |none =>refine⟨.none,none,?_,rfl,rfl⟩;show (if cs.NoText=cs.NoText then _ else _)=_;rw[if_pos rfl]
  |some r =>
   have c:∃rows,r=.tuple rows/\au (.tuple rows)=true:=by
    unfold g5 at q;split at q
    ·cases q2:a8 dY (Txt.split (ini z) (ch 10)) with
     |none=>rw[q2]at q;cases q
     |some rows =>
      rw[q2]at q;have q:(if au (.tuple rows)=true then some (PyData.tuple rows) else none)=some r:=q;split at q
      ·rename_i e;cases q;exact⟨rows,rfl,e⟩
      ·cases q
    ·cases q
   obtain⟨rows,rfl,f⟩:=c;refine⟨.tuple rows,none,rfl,rfl,?_⟩;have:=(mQ f).1;rw[<-this];exact yn _
 ·rw[tU cs n1 n2,law_due_no cs n1 n2];refine⟨.none,none,?_,rfl,rfl⟩;show (if cs.NoText=cs.NoText then _ else _)=_;rw[if_pos rfl]
theorem law_holds (cs:Cs) (ns:List Int):lB cs (bQ cs) (bX cs) ah (aL cs) (bw cs) (dj cs) aI (some (ai ns)::List.replicate 5 none)=.rt (.bool true):=by
 obtain⟨es,rs,_,l1,f,hok,_,b,_⟩:=sx ns 2 28 (by decide) (by decide) (by decide);have e:es.length<=6:=by omega
 have asc:=rT f hok;have tl:=text_len hok;show lB cs (bQ cs) (bX cs) ah (aL cs) (bw cs) (dj cs) aI [some (ai ns),none,none,none,none,none]=_;unfold lB;have g:aM [] 1 (ak aI (aa (ae 0) (aa (gC (.int 2)) (aa (gC (.int 4)) (aa (gC (.int 28)) (aa (gC (.bool true)) af)))))) [some (ai ns),none,none,none,none,none]=.nx [some (ai ns),some (a4 es),none,none,none,none] :=
  bE (by decide:1<6) (cm (ds:=[ai ns,.int 2,.int 4,.int 28,.bool true]) rfl b)
 rw[aU g];have s2:aM [] 2 (ak (dj cs) (aa (ae 1) af)) [some (ai ns),some (a4 es),none,none,none,none]=.nx [some (ai ns),some (a4 es),some (.str (textOf es)),none,none,none] :=
  bE (by decide:2<6) (cm (ds:=[a4 es]) rfl (sM cs l1 e hok))
 rw[aU s2];have h:gT (g1 (cw "str") (ae 2)) [some (ai ns),some (a4 es),some (.str (textOf es)),none,none,none]=.ok true:=dm (by rw[m9];show Rs.aW (cw "str" (.str (textOf es)))=_;rw[ll];rfl);have i:gT (g2 dNe (ae 2) (ak (bw cs) (aa (ae 1) af))) [some (ai ns),some (a4 es),some (.str (textOf es)),none,none,none]=.ok false:=by refine dm (aX (x:=.str (textOf es)) rfl (cm (ds:=[a4 es]) rfl (law_text_is cs e hok)) ?_);rw[ne_str asc asc];simp
 have j:gT (g2 dNe (ak (bX cs) (aa (ae 2) af)) (ae 1)) [some (ai ns),some (a4 es),some (.str (textOf es)),none,none,none]=.ok false:=by refine dm (aX (cm (ds:=[.str (textOf es)]) rfl ?_) (y:=a4 es) rfl (w5 es));rw[o4 cs (by omega),qk l1 e hok];rfl
 have k:sIf (cOr (di (gT (g1 (cw "str") (ae 2)))) (cOr (gT (g2 dNe (ae 2) (ak (bw cs) (aa (ae 1) af)))) (gT (g2 dNe (ak (bX cs) (aa (ae 2) af)) (ae 1))))) (bp (gC (.bool false))) bq [some (ai ns),some (a4 es),some (.str (textOf es)),none,none,none]=.nx [some (ai ns),some (a4 es),some (.str (textOf es)),none,none,none]:=by
  rw[jz]
  ·rfl
  ·rw[jY,fK,h,Rs.ag,Rs.ag,if_neg (by decide),jY,i,Rs.ag,if_neg (by decide),j]
 rw[aU k];have l:aM [] 3 (dq (aa (gC (.str "2 1 0 1*0\n")) (aa (gC (.str "2 1 0 1*0*1 1\n")) (aa (gC (.str "02 1 0 1\n")) (aa (gC (.str "2 1 0\n")) (aa (g2 jn (gC (.str "2 1 0 1\n")) (gC (.int 7))) (aa (gC (.str "61 1 0 1\n")) (aa (gC (.str "2 1 0 1")) af)))))))) [some (ai ns),some (a4 es),some (.str (textOf es)),none,none,none]=.nx [some (ai ns),some (a4 es),some (.str (textOf es)),some (.list [.str "2 1 0 1*0\n",.str "2 1 0 1*0*1 1\n",.str "02 1 0 1\n",.str "2 1 0\n",.str (Txt.mul "2 1 0 1\n" 7),.str "61 1 0 1\n",.str "2 1 0 1"]),none,none] :=
  bE (by decide:3<6) (lst_is (ao rfl (ao rfl (ao rfl (ao rfl (ao (aX rfl rfl wO) (ao rfl (ao rfl rfl))))))))
 rw[aU l];obtain⟨d,hd,n⟩:=iQ cs (t:=textOf es) (c:=mixed ns 0 (10 ^ 7)) (more:=[.str "2 1 0 1*0\n",.str "2 1 0 1*0*1 1\n",.str "02 1 0 1\n",.str "2 1 0\n",.str (Txt.mul "2 1 0 1\n" 7),.str "61 1 0 1\n",.str "2 1 0 1"]) ⟨asc.sg,by omega⟩ (λm hm=>by simp only[List.mem_cons,A8,or_false]at hm;rcases hm with rfl|rfl|rfl|rfl|rfl|rfl|rfl <;> exact xO (by decide +kernel)) (by decide)
 generalize [PyData.str "2 1 0 1*0\n",.str "2 1 0 1*0*1 1\n",.str "02 1 0 1\n",.str "2 1 0\n",.str (Txt.mul "2 1 0 1\n" 7),.str "61 1 0 1\n",.str "2 1 0 1"]=more at hd ⊢;have o:aM [] 2 (ak (aL cs) (aa (ae 2) (aa (ak ah (aa (ae 0) (aa (gC (.int 0)) (aa (g2 tV (gC (.int 10)) (gC (.int 7))) af)))) (aa (ae 3) af)))) [some (ai ns),some (a4 es),some (.str (textOf es)),some (.list more),none,none]=.nx [some (ai ns),some (a4 es),some d,some (.list more),none,none] :=
  bE (by decide:2<6) (cm (ao rfl (ao (cm (ds:=[ai ns,.int 0,.int (10 ^ 7)]) (ao rfl (ao rfl (ao (aX rfl rfl xr) rfl))) (bU (by decide) (by decide))) (ao rfl rfl))) hd)
 rw[aU o];have p:aM [] 4 (gC .none) [some (ai ns),some (a4 es),some d,some (.list more),none,none]=.nx [some (ai ns),some (a4 es),some d,some (.list more),some .none,none]:=rfl;rw[aU p];obtain⟨a,x5,e1,e2,q⟩:=uT cs n (x0:=some (ai ns)) (x1:=some (a4 es)) (x3:=some (.list more));rw[aU e1];exact eF (aX (x:=a) rfl (cm (ds:=[d]) rfl e2) q)
theorem yF (cs:Cs):LLq (lB cs (bQ cs) (bX cs) ah (aL cs) (bw cs) (dj cs) aI) 1 5 (c4 63):=lawT_of (law_holds cs)
end RS
set_option maxHeartbeats 4000000
namespace L2
open PySem PySem.Spec PyProof.Rows
def ndB:List Str->Bool
 |[]=>true
 |x::r=>!r.elem x&&ndB r
theorem qM:∀{l:List Str},ndB l=true->l.Nodup
 |[],_=>List.nodup_nil
 |x::r,h=>by simp only[ndB,B3,Bool.not_eq_true']at h;exact BS.mpr ⟨λz=>(by have:=List.elem_eq_true_of_mem z;rw[h.1]at this;cases this),qM h.2⟩
section
variable {w:World} {n':Nat} {m:Str}
def AtX (X:Cx) (P:Program) (w:World) (K:PySem.W.Frag) (mg:Str->Option Value) (base:Heap):Prop:=X.prog=P/\X.w=w/\X.K=K/\X.mg=mg/\X.base=base
theorem fb.to (h:fb P w K mg base k x n gf) (a:AtX X P w K mg base) (hn:n=n'):fb X.prog X.w X.K X.mg X.base k x n' gf:=by obtain⟨rfl,rfl,rfl,rfl,rfl⟩:=a;subst hn;exact h
end
end L2
namespace RS
open PySem PySem.Spec PyProof.Rows L2
theorem tP (d:α) {us:List α} (h:us.length=n):∃f:Nat->α,us=(List.range n).map f :=
 ⟨λi=>us.getD i d,List.ext_getElem (by simp[h]) λi h1 h2=>by simp[BD,B6 h1]⟩
section
variable {m q:Str} {G:Ds->Sr} {gf:Gf}
abbrev Bod (P:Program) (w:World) (K:PySem.W.Frag) (mg:Str->Option Value) (base:Heap) (q:Str) (st:Stmt) (k:Nat) (O:List Nat) (N:List Str) (G:Ds->Sr):Prop:=∀(f:Addr) (cdv:Value) (A:Around) (outer:List Env) (s:Shared) (H:Hp) (E:XK),N.Nodup->cu k (A.deeper (envOfC q (aJ st) s.heap.objs.size f cdv))->PBD (bT (CXW P w K) P w K mg base N q (aJ st) f cdv A outer s H E) E O (cA st) G
theorem dA (P:Program) (w:World) (base:Heap) (k:Nat) (O:List Nat) (N:List Str) (h:bK K mg x st ps) (a:∀ds,ds.length=ps.length->gf ds≠.no->bt (G (ds.map some++List.replicate (N.length-ps.length) none))=gf ds)
  (body:Bod P w K mg base x st k O N G) (S:c6 N ps (aJ st):=by exact⟨rfl,rfl,rfl,by decide +kernel,rfl,by decide +kernel,by decide +kernel⟩) (c:∀i∈O,ps.length<=i:=by decide):fb P w K mg base (k+1) x ps.length gf:=by
 obtain⟨f,fd,F,b,m⟩:=h;exact fb.of F S b m c (λcdv A outer s H E=>body f cdv A outer s H E S.nd) a
theorem dL {w:World} (k:Nat) (O:List Nat) (N:List Str) {f:Addr} (F:Fun K x x st f fd) (a:∀ds,ds.length=ps.length->gf ds≠.no->bt (G (ds.map some++List.replicate (N.length-ps.length) none))=gf ds)
  (body:Bod P w K mg base x st k O N G) (S:c6 N ps (aJ st):=by exact⟨rfl,rfl,rfl,by decide +kernel,rfl,by decide +kernel,by decide +kernel⟩) (b:∀i∈O,ps.length<=i:=by decide):ff P w K mg base (CXW P w K) (k+1) f fd ps (spD K ps.length gf) :=
 vg F S b (λcdv A outer s H E=>body f cdv A outer s H E S.nd) a
end
end RS
set_option maxHeartbeats 0
namespace RS
open PySem PySem.Spec PyProof.Rows L2
variable {f:Addr}
def top (i:Nat):Stmt:=PySem.Challenge.pw_ranksure_k24_texts.main.body.getD i (.Pass ⟨0,0,0,0⟩)
structure Tx (K:PySem.W.Frag) (mg:Str->Option Value) (cs:Cs):Prop where
 f_is_whole:bK K mg "is_whole" (top 12) ["thing", "least", "most"]
 f_is_tuple:bK K mg "is_tuple" (top 13) ["thing", "fewest", "most"]
 f_is_part:bK K mg "is_part" (top 14) ["thing"]
 f_are_parts:bK K mg "are_parts" (top 15) ["thing"]
 f_is_errand:bK K mg "is_errand" (top 16) ["thing"]
 f_checked:bK K mg "checked" (top 17) ["errands"]
 f_written_part:bK K mg "written_part" (top 19) ["part"]
 f_line_of:bK K mg "line_of" (top 20) ["errand"]
 f_shown:bK K mg "shown" (top 21) ["errands"]
 f_read_number:bK K mg "read_number" (top 22) ["word"]
 f_read_part:bK K mg "read_part" (top 23) ["word"]
 f_read_line:bK K mg "read_line" (top 24) ["line"]
 f_read:bK K mg "read" (top 25) ["text"]
 f_law_cell_at:bK K mg "_law_cell_at" (top 27) ["_law_script", "_law_k"]
 f_law_mixed:bK K mg "_law_mixed" (top 28) ["_law_script", "_law_k", "_law_many"]
 f_law_errand:bK K mg "_law_errand" (top 29) ["_law_script", "_law_at", "_law_top", "_law_tools"]
 f_law_errands:bK K mg "_law_errands" (top 30) ["_law_script", "_law_at", "_law_most", "_law_top", "_law_tools"]
 f_law_spoilt_text:bK K mg "_law_spoilt_text" (top 31) ["_law_text_here", "_law_cell", "_law_more"]
 f_law_text:bK K mg "_law_text" (top 32) ["_law_errands_here"]
 f_law_number:bK K mg "_law_number" (top 33) ["_law_word"]
 f_law_part:bK K mg "_law_part" (top 34) ["_law_word"]
 f_law_due:bK K mg "_law_due" (top 35) ["_law_text_here"]
 f_law:bK K mg "law" (top 36) ["_law_script"]
 bs:∀x∈["ValueError", "all", "bool", "int", "isinstance", "len", "min", "range", "str", "tuple"],mg x=none
 cst:∀q∈([("LEAST_EVERY",2),("MOST_ERRANDS",6),("MOST_EVERY",60),("MOST_LATE",20),("MOST_LENGTH",20),("MOST_PARTS",4),("TOOLS",4)]:List (Str×Int)),∃t,mg q.1=some (.int q.2 t)
 e_NoErrands:ij K mg "NoErrands" cs.NoErrands
 e_NoText:ij K mg "NoText" cs.NoText
 e_RankError:ij K mg "RankError" cs.RankError
 x_NoText:jD K cs.NoText
 i_NoText_NoErrands:PySem.W.kitOne K (.ref cs.NoText) (.ref cs.NoErrands)=some false
 i_NoText_RankError:PySem.W.kitOne K (.ref cs.NoText) (.ref cs.RankError)=some true
 i_NoText_ValueError:PySem.W.kitOne K (.ref cs.NoText) (.type "ValueError")=some true
 clr:Clr K (.ref cs.NoErrands)
 ntx:PySem.W.nsIn K mainGlobals "NoText"=some (some (.ref cs.NoText))
structure Ty (K:PySem.W.Frag) (mg:Str->Option Value) (cs:Cs) (base:Heap):Prop extends Tx K mg cs where
 hB:jV mg base
 hK:K.In base
section
variable {w:World} {cs:Cs}
theorem n9:c6 ["_law_script", "_law_k"] ["_law_script", "_law_k"] (aJ (top 27)):=⟨rfl,rfl,rfl,by decide +kernel,rfl,by decide +kernel,by decide +kernel⟩
theorem mY (F:Fun K "_law_cell_at" "_law_cell_at" (top 27) f fd) (bl:mg "len"=none):ff P w K mg base CX0 1 f fd ["_law_script", "_law_k"] (rL K):=by
 refine F.ok n9 (λvs H Q E h=>?_) (λcdv A outer s H vs Q E l h=>?_)
 ·obtain⟨a,ns,k,rfl,_⟩:=h;rfl
 ·obtain⟨a,ns,k,rfl,e,m,g⟩:=h;refine⟨_,fR (qt (rN (zv (pv 1) (cR eW rfl bl PySem.boot_len (bO (pv 0) dy)))) (fu (gz (oA ix (pv 0) (pv 1) (λ_ _=>rfl)))) kO)
   (fR (qt (eP (mO l.units) (pv 0) (nu dy) (gO _)) (fu (gz eV)) kO)
   (fu (gz (cq fH (cq gY (oA ix (pv 0) (cq iM (pv 1) (cR eW rfl bl PySem.boot_len (bO (pv 0) dy))) (λ_ _=>rfl)) eV) (pv 1))))),?_⟩
  refine⟨_,rfl,_,rfl,a,_,rfl,.inl e,k,_,rfl,rfl,_,rfl,?_⟩;have hlen:(ns.map V.int).length=ns.length:=B7 ..;rw[hlen];refine zL (λhc=>?_) (λhc=>?_)
  ·have hc:k<(ns.length:Int):=of_decide_eq_true hc;have hi:k.toNat<ns.length:=by omega
   refine⟨_,rfl,_,rfl,a,_,k,.int (ns.getD k.toNat 0),rfl,rfl,e,oX m ?_,?_⟩
   ·rw[BF,B6 hi,BD,B6 hi];rfl
   ·have:=g H (aj.refl H);rw[show cellAt ns k=ns.getD k.toNat 0 by unfold cellAt;rw[if_pos hc]]at this;exact this
  ·have hc:¬ k<(ns.length:Int):=λz=>hc (decide_eq_true z)
   refine⟨_,rfl,C0 _,λp i=>⟨.list (ns.map .int),.list [],(kQ e (kj ns)).same (gp i),kQ (SqL.of bS) jd,shaped_ints ns,nt,_,rfl,?_⟩⟩;rw[sA];refine zL (λb=>?_) (λb=>?_)
   ·have b:ns=[]:=of_decide_eq_true b;have:=g _ (gp (o:=.lst []) i);rw[show cellAt ns k=0 by unfold cellAt;rw[if_neg hc,if_pos b]]at this;exact this
   ·have b:¬ ns=[]:=λz=>b (decide_eq_true z)
    have c:0<(ns.length:Int):=by
     cases ns with
     |nil=>exact absurd rfl b
     |cons _ _=>simp
    have h1:0<=k % (ns.length:Int):=BB _ (by omega);have h2:k % (ns.length:Int)<(ns.length:Int):=Bx _ c;have hi:(k % (ns.length:Int)).toNat<ns.length:=by omega
    have j:aj H (upd H p (.lst [])):=gp i;refine⟨_,rfl,_,rfl,_,rfl,a,_,rfl,.inl (j.seq e),_,_,rfl,rfl,by rw[hlen];exact c,a,_,_,.int (ns.getD (k % (ns.length:Int)).toNat 0),rfl,rfl,j.seq e,?_,_,_,rfl,rfl,.inr ⟨by decide,by decide⟩,_,rfl,_,_,rfl,rfl,?_⟩
    ·rw[hlen];refine oX h1 ?_;rw[BF,B6 hi,BD,B6 hi];rfl
    ·have:=g _ j;rw[show cellAt ns k=ns.getD (k % (ns.length:Int)).toNat 0*31+k by unfold cellAt;rw[if_neg hc,if_neg b]]at this;exact this
theorem lY:c6 ["_law_script", "_law_k", "_law_many", "_law_drawn"] ["_law_script", "_law_k", "_law_many"] (aJ (top 28)):=⟨rfl,rfl,rfl,by decide +kernel,rfl,by decide +kernel,by decide +kernel⟩
theorem rf {c:Addr} {b:FuncData} (F:Fun K "_law_mixed" "_law_mixed" (top 28) f fd) (e:Fun K "_law_cell_at" "_law_cell_at" (top 27) c b) (g:Binds K b ["_law_script", "_law_k"] []) (j:mg "_law_cell_at"=some (.ref c)) (bl:mg "len"=none):ff P w K mg base CX0 2 f fd ["_law_script", "_law_k", "_law_many"] (vQ K):=by
 have l:ff P w K mg base CX0 1 c b _ (rL K):=mY e bl;refine F.ok lY (λvs H Q E h=>?_) (λcdv A outer s H vs Q E m h=>?_)
 ·obtain⟨a,ns,k,many,rfl,_⟩:=h;rfl
 ·obtain⟨a,ns,k,many,rfl,n,o,hm,p⟩:=h;refine⟨_,fR (lh (i:=3) lY.nd rfl (Or.inl rfl) (cq iM (cq gY (cq fH (cq fH (oK l m rfl j e.kp g .nil (zy rfl) (bO (pv 0) (bO (pv 1) dy))) (cq gY eV (pv 1))) eV) eV) eV))
   (fu (gz (cq iM (cq iM (cq fH (cq fH (cq gY (pv 3) (pv 3)) (cq gY eV (pv 3))) (pv 1)) eV) (pv 2)))),?_⟩
  refine⟨_,rfl,_,rfl,a,ns,k,rfl,n,o,λH1 q=>?_⟩;refine⟨_,rfl,_,_,rfl,rfl,.inl ⟨by decide,by decide⟩,_,_,rfl,rfl,_,_,rfl,rfl,_,_,rfl,rfl,.inr ⟨by decide,by decide⟩,_,_,rfl,rfl,(by show (0:Int)<2147483647;decide),?_⟩;have b1:=ue ns k;have b2:=t8 ns k;have eD:(cellAt ns k+7919*k+1)*48271 % 2147483647=qe ns k:=rfl;refine⟨_,rfl,_,rfl,_,_,rfl,rfl,.inl ⟨?_,?_⟩,_,rfl,_,_,rfl,rfl,.inl ⟨by decide,by decide⟩,_,_,rfl,rfl,_,rfl,_,_,rfl,rfl,_,_,rfl,rfl,(by show (0:Int)<2147483629;decide),_,rfl,_,_,rfl,rfl,hm,p H1 q⟩
  ·show -(2 ^ 64)<(cellAt ns k+7919*k+1)*48271 % 2147483647;rw[eD];omega
  ·show (cellAt ns k+7919*k+1)*48271 % 2147483647<2 ^ 64;rw[eD];omega
theorem mB (T:Tx K mg cs):fb P w K mg base 2 "_law_mixed" 3 ah:=by obtain⟨f,fd,F,b,m⟩:=T.f_law_mixed;obtain⟨fC,fdC,a,c,e⟩:=T.f_law_cell_at;exact fb.old (rf F a c e (T.bs _ (by decide))) m F.kp b vv
set_option hygiene false
local macro_rules | `(tactic| exists $r)=>`(tactic| refine' $r ..) |`(tactic| exists $r,$rs,*)=>`(tactic| first|refine' $r ..|exists $rs,*)
local macro_rules | `(tactic| infer_instance)=>`(tactic| first|((with_reducible show _=_);exact rfl)|(with_reducible first|(show PD _ _ _ _;first|exists wg,wX,t4,yy,qS,wN,zG,xG,xj,wQ,wy,yi,yh,wD,xS,xW,zb,yH,xA,xb,xY|(show PD _ _ _ (cf _ _ _);apply qP)|(show PD _ _ _ (ak _ _);apply uH)|exists nP,ql,wH,yc,sf,nI,sC,uF,tZ,uS,xc|(show PD _ _ _ (aK _ _ _);apply qm)|exists vq,p6,pT,vm,rG,uP,uE,pe,zr,xM,tX)|(show PAD _ _ _ _;first|exists rM,ur)|(show PCD _ _ _ _;first|exists tK,wJ,xH,xV,yl,qp,vn,ub|refine' vL (pwd_and ..)|refine' vL (rR ..)|refine' vA ..)|(show PSD _ _ _ _ _;first|exists vk,xn,pI|(show PSD _ _ _ (.Assign _ (.ListComp _ _ _ _) _) (aM _ _ (gL _));apply sF;apply tI;focus with_unfolding_all exact rfl)|exists vo,tE,vK,vd,vJ,qI|(show PSD _ _ _ _ (ig _ _ _ _);apply uG))|(show PBD _ _ _ _ _;first|exists vC,kI,bh)|(show PLD _ _ _ _;first|(show PLD _ _ _ (dt _ _ _ _ _);apply pL)|(show PLD _ _ _ (a5 _ _ _ _ _);apply rP)|refine' uD ..)|(show PID _ _ _ _ _;first|exists ng,uk)|(show PIf _ _ _;first|exact PIf.nil|refine' PIf.one ..)|(show PWD _ _ _ _;first|exists rR,pwd_and1,tL)|(show TgS _ _ _ _;first|exists sE,vi)|(show POD _ _ _ _;first|exists tu,rA)) <;> infer_instance|((with_reducible show PBD _ _ _ _ _); first|refine' bh ?_ ?_|refine' kI ?_) <;> infer_instance|((with_reducible show PG _ _ _); first|refine' uX ?_ ?_ ?_|refine' xQ ?_ ?_) <;> infer_instance|((with_reducible show PGs _ _ _); first|refine' sr ?_ ?_|exact u9) <;> infer_instance|exact rfl|((with_reducible show fb _ _ _ _ _ _ _ _ _);(with_reducible refine' fb.to ?z1 ?z2 ?z3);(case z1=>with_reducible assumption);(case z2=>exact⟨rfl,rfl,rfl,rfl,rfl⟩);(case z3=>rfl))|exact hr|exact uY|exact qG rfl|exact pN hb|exact T.bs _ (by decide +kernel)|exact T.cst (_,_) (by decide +kernel)|exact .inl rfl|exact .inr rfl|exact .inr (.inl rfl)|exact .inr (.inr rfl)|exact nd|exact qM (by kernel_rfl)|exact PassesOwn.leaving|exact rq|exact tgd_pair|exact λ_=>rfl|exact λ_ _=>rfl|((with_reducible intro _ _ _ _ hb);infer_instance)|((with_reducible intro _ _ _ _);infer_instance)|exact T.e_NoErrands|exact T.e_NoText|exact T.e_RankError|exact yd|exact nj|exact bt_bool|exact l7|exact kr|exact cu.u1 hr|exact hr.units|exact⟨rfl,rfl,rfl,rfl⟩|exact hr.in1.deeper _|exact cu.u1 (hr.in1.deeper _)|decide|with_unfolding_all rfl)
local macro_rules | `(tactic| nofun)=>`(tactic| (try have:=mP P w T;try have:=mK P w T;try have:=pU P w T;try have:=lW P w T;try have:=mh P w T;try have:=gP P w T;try have:=kY P w T;try have:=nz P w T;try have:=pG P w T;try have:=jN P w T;try have:=mx P w T;try have:=lA P w T;try have:=qu P w T;try have:=mB (P:=P) (w:=w) (base:=base) T.toTx;try have:=fT P w T;try have:=mI P w T;try have:=jq P w T;try have:=o8 P w T;try have:=uI P w T;try have:=kB P w T;try have:=jL P w T))
local macro_rules | `(tactic| and_intros)=>`(tactic| (nofun;intro f cdv A outer s H E nd hr;infer_instance))
variable (P w) (T:Ty K mg cs base)
def mP:=dA P w base 0 [] ["thing", "fewest", "most"] T.f_is_tuple (mX cs) (by delta eS;and_intros)
def mK:=dA P w base 0 [] ["thing", "least", "most"] T.f_is_whole (mR cs) (by delta eX;and_intros)
def pU:=dA P w base 1 [] ["thing"] T.f_is_part (qb cs) (by delta dE;and_intros)
def lW:=dA P w base 2 [] ["thing"] T.f_are_parts (lS cs) (by delta da;and_intros)
def mh:=dA P w base 3 [] ["thing", "every", "due", "late"] T.f_is_errand (ml cs) (by delta b8;and_intros)
def gP:=dA P w base 4 [] ["errands"] T.f_checked (p8 cs) (by delta eG;and_intros)
def kY:=dA P w base 0 [] ["_law_word"] (gf:=aE cs) (G:=cL cs) T.f_law_number e7 (by delta cL;and_intros)
def nz:=dA P w base 1 [] ["_law_word", "_law_at"] (gf:=bf cs) (G:=dP cs _) T.f_law_part e7 (by delta dP;and_intros)
def pG:=dA P w base 30 [1] ["_law_text_here", "_law_rows", "_law_line", "_law_words", "_law_numbers"] (gf:=bQ cs) (G:=cW cs _ _ _) T.f_law_due e7 (by delta cW;nofun;intro f cdv A outer s H E nd hr;refine' bh ?_ ?_;infer_instance;refine' bh ?_ ?_;infer_instance;refine' bh ?_ ?_;infer_instance;refine' bh ?_ ?_;exact (qj (gP P w T) rfl hr (by decide) (by infer_instance) T.e_NoErrands T.clr (λea oe hr=>qS));infer_instance)
def jN:=dA P w base 0 [] ["word", "written"] (gf:=ar cs) (G:=cz cs) T.f_read_number e7 (by delta cz;and_intros)
def mx:=dA P w base 1 [] ["word", "pieces", "tool"] (gf:=bA cs) (G:=df cs _) T.f_read_part e7 (by delta df;and_intros)
def lA:=dA P w base 2 [] ["line", "words", "numbers"] (gf:=bx cs) (G:=dg cs _ _) T.f_read_line e7 (by delta dg;and_intros)
def qu:=dA P w base 30 [] ["text", "errands"] (gf:=bX cs) (G:=fM cs _ _) T.f_read e7 (by delta fM;nofun;intro f cdv A outer s H E nd hr;refine' bh ?_ ?_;infer_instance;refine' bh ?_ ?_;infer_instance;refine' kI ?_;exact (md (gP P w T) rfl hr (by decide) (by infer_instance) T.e_NoErrands T.e_NoText T.clr T.ntx fromTo))
def fT:=dA P w base 0 [] ["_law_text_here", "_law_cell", "_law_more", "_law_at", "_law_sign", "_law_way"] (gf:=aL cs) (G:=bz cs) T.f_law_spoilt_text e7 (by delta bz;and_intros)
def mI:=dA P w base 0 [6] ["_law_errands_here", "_law_text_here", "_law_every", "_law_due_here", "_law_late", "_law_parts", "_law_words", "_law_length", "_law_tool"] (gf:=bw cs) (G:=dM cs) T.f_law_text e7 (by delta dM;and_intros)
def jq:=dA P w base 0 [] ["part", "length"] (gf:=aS cs) (G:=bY cs) T.f_written_part e7 (by delta bY;and_intros)
def o8:=dA P w base 1 [] ["errand", "words"] (gf:=bZ cs) (G:=eJ cs _) T.f_line_of e7 (by delta eJ;and_intros)
def uI:=dA P w base 5 [] ["errands"] (gf:=dj cs) (G:=gx cs _ _) T.f_shown e7 (by delta gx;and_intros)
def kB:=dA P w base 2 [7] ["_law_script", "_law_at", "_law_top", "_law_tools", "_law_every", "_law_late", "_law_due_here", "_law_parts", "_law_k", "_law_cell"] T.f_law_errand (kR cs) (by delta dC;and_intros)
def jL:=dA P w base 3 [] ["_law_script", "_law_at", "_law_most", "_law_top", "_law_tools", "_law_many"] T.f_law_errands (jF cs) (by delta c5;and_intros)
theorem law_ok (T:Ty K mg cs base) (F:Fun K "law" "law" (top 36) f fd):ff P w K mg base (CXW P w K) 33 f fd ["_law_script"] (spD K 1 (c4 63)) :=
 dL (ps:=["_law_script"]) 32 [] ["_law_script", "_law_errands_here", "_law_text_here", "_law_more", "_law_answer", "e"] F (yF cs) (by delta lB;nofun;intro f cdv A outer s H E nd hr;refine' bh ?_ ?_;infer_instance;refine' bh ?_ ?_;infer_instance;refine' bh ?_ ?_;infer_instance;refine' bh ?_ ?_;infer_instance;refine' bh ?_ ?_;infer_instance;refine' bh ?_ ?_;infer_instance;refine' bh ?_ ?_;exact (m5 (i:=5) (i0:=4) (qu P w T) rfl hr (by infer_instance) T.e_NoText nd (by intro ea oe ho;exact wk (by rfl) (PW.pt (qR (oS (jo (nX m3 ho T.x_NoText (T.bs _ (by decide +kernel)) rfl (kC (v:=.ref cs.RankError) rfl T.e_RankError.m rfl) rfl T.i_NoText_RankError))) (qR (oS (jo (nX m3 ho T.x_NoText (T.bs _ (by decide +kernel)) rfl (kT (v:=.ty "ValueError") rfl (T.bs _ (by decide +kernel)) jw rfl) rfl T.i_NoText_ValueError))) (tQ (jo (nX m3 ho T.x_NoText (T.bs _ (by decide +kernel)) rfl (kC (v:=.ref cs.NoErrands) rfl T.e_NoErrands.m rfl) rfl T.i_NoText_NoErrands))))))));infer_instance)
end
end RS
set_option hygiene false
local macro_rules | `(tactic| and_intros)=>`(tactic| first|(refine' RS.td KX G (λ_ _ _ _ _ _ us hl=>by obtain⟨f,rfl⟩:=RS.tP PySem.Value.none hl;rfl) ?za ?zl ?zc ?zk;(case za=>k_is);(case zl=>k_is);(case zc=>k_is);(case zk=>k_is))|(refine' L2.meth_mk (λ_ _ _ _ _ _ us hl=>by obtain⟨f,rfl⟩:=RS.tP PySem.Value.none hl;rfl) ⟨?zm,?zf,?zp⟩ ?zl ?zc ?zq;(case zm=>k_is);(case zf=>k_is);(case zp=>k_is);(case zl=>k_is);(case zc=>k_is);(case zq=>k_is))|(refine' PySem.W.mg_of KX G ?za;(case za=>k_is))|(refine' PySem.W.mg_none_of KX G ?zz;(case zz=>k_is))|(refine' RS.uW KX G ?zz;(case zz=>k_is))|(refine' RS.gq KX G ?za ?ze;(case za=>k_is);(case ze=>k_exc))|(refine'⟨_,RS.gq KX G ?za ?ze⟩;(case za=>k_is);(case ze=>k_exc))|(refine'⟨?zp,?zh,?zo,?zs⟩;(case zp=>k_is);(case zh=>k_is);(case zo=>k_is);(case zs=>k_is))|(refine' L2.init_mk (λ_ _ _ _ _ _ us hl=>by obtain⟨f,rfl⟩:=RS.tP PySem.Value.none hl;rfl) ?za ?zi ?zl ?zc ?zk ?zm ?zx;(case za=>k_is);(case zi=>k_is);(case zl=>k_is);(case zc=>k_is);(case zk=>k_is);(case zm=>k_is);(case zx=>k_is))|exact List.forall_mem_nil _|((first|refine List.forall_mem_cons.2 ⟨?_,?_⟩|refine List.forall_mem_singleton.2 ?_) <;> (try dsimp only) <;> and_intros)|(refine' L2.jD.mk ?z1 ?z2 ?z3 ?z4 ?z5 ?z6 ?z7 ?z8;(case z1=>k_is);(case z2=>k_is);(case z3=>k_is);(case z4=>k_is);(case z5=>k_is);(case z6=>k_is);(case z7=>k_is);(case z8=>k_is))|kit_is|k_is|(delta L2.NoAttr;k_is)|(dsimp only;and_intros))
open PySem PySem.W PyProof.Rows
set_option maxRecDepth 100000 in
set_option maxHeartbeats 0 in
theorem PySem.Challenge.cw_ranksure_k24_texts_holds : PySem.Challenge.rw_ranksure_k24_texts.Holds := by
 refine RS.hdTop ?_
 k_fill
 refine RS.zM (l:=PySem.Challenge.rw_ranksure_k24_texts) (n:=63) (k:=33) (x:="_law_script") (st:=RS.top 36) rfl (by decide) rfl ⟨λ_=>rfl,by decide,by decide⟩ (λw h Y=>PySem.W.kIn_of Y) (λ_ _ _ _ _ _ us hl=>by obtain⟨f,rfl⟩:=RS.tP PySem.Value.none hl;rfl) ?F
 case F =>
  intro w mg h KX G;obtain⟨c_NoErrands,c_NoText,c_RankError,h_NoErrands,h_NoText,h_RankError,z0,z1,z2,z3,z4,z5⟩:∃c_NoErrands c_NoText c_RankError:Addr,L2.ij (L2.KOf KX) mg "NoErrands" c_NoErrands/\L2.ij (L2.KOf KX) mg "NoText" c_NoText/\L2.ij (L2.KOf KX) mg "RankError" c_RankError/\L2.jD (L2.KOf KX) c_NoText/\PySem.W.kitOne (L2.KOf KX) (.ref c_NoText) (.ref c_NoErrands)=some false/\PySem.W.kitOne (L2.KOf KX) (.ref c_NoText) (.ref c_RankError)=some true/\PySem.W.kitOne (L2.KOf KX) (.ref c_NoText) (.type "ValueError")=some true/\PySem.W.nsIn (L2.KOf KX) PySem.mainGlobals "NoText"=some (some (.ref c_NoText))/\PySem.W.kitOne (L2.KOf KX) (.ref c_NoErrands) (.ref c_NoErrands)=some true:=by
   delta L2.KOf
   refine'⟨_,_,_,RS.gq KX G ?a_NoErrands ?e_NoErrands,RS.gq KX G ?a_NoText ?e_NoText,RS.gq KX G ?a_RankError ?e_RankError,?xq0,?xq1,?xq2,?xq3,?xq4,?xq5⟩
   (case a_NoErrands=>k_is);(case e_NoErrands=>k_exc)
   (case a_NoText=>k_is);(case e_NoText=>k_exc)
   (case a_RankError=>k_is);(case e_RankError=>k_exc)
   (case xq0=>and_intros)
   (case xq1=>and_intros)
   (case xq2=>and_intros)
   (case xq3=>and_intros)
   (case xq4=>and_intros)
   (case xq5=>and_intros)
  have hclr:L2.Clr (L2.KOf KX) (.ref c_NoErrands):=λC hC e=>by cases e;rw[z4]at hC;cases hC;rw[z5]at z1;cases z1
  have T:RS.Tx (L2.KOf KX) mg ⟨c_RankError,c_NoErrands,0,0,0,0,0,c_NoText,0,0⟩:=by constructor <;> first|assumption|((try delta L2.KOf);and_intros)
  exact⟨T.f_law,λf fd F base hb hn hB=>RS.law_ok _ _ ⟨T,hB,hb⟩ F⟩
end
