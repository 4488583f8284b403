import PyProof.Rows.All
import OpenK.AllK
import PySem.Challenge.RW_ranksure_k01_errands
import KE.RegKIsAll
import PyProof.Rows.SumAny
import PyProof.WalksMore
import PyProof.Rows.TupIter
import PyProof.StationsW
import Wide.All
import OpenK.KWalk
import OpenK.KMake
import OpenK.KDescr
import OpenK.KCall
import OpenK.KOwn
import KE.KIsAll
import KE.KItem
import KE.KxBytes
import Wide.FinOn
import Lean
import PyProof.EqAt
import PyProof.EqKinds
import PyProof.TupleCall
import KE.LcSums
import PyProof.Rows.EqDataRows
import PyProof.RulesAs
import PyProof.ZipIter
import PyProof.Draws
import PyProof.Rows.TupAdd
import PyProof.ListMulRoad
import PyProof.AutoListH
import PyProof.Rows.Range3
import PyProof.ListRange
import PyProof.EnumMake
import PyProof.EnumFor
import PyProof.Rows.SetFrom
import PyProof.StrOps2
import PyProof.ExcArgsOwn
import PyProof.StrBlock2
import PyProof.Rows.MinMaxN
import PyProof.ConsumeWalk
import PyProof.Rows.SortWalk
import KE.KMinKey
import PyProof.Rows.CallKwBuiltin
import PySem.PyData
noncomputable section
set_option genSizeOf false
set_option genSizeOfSpec false
set_option genInjectivity false
set_option compiler.extract_closed false
set_option bootstrap.genMatcherCode false
set_option Elab.async false
set_option linter.all false
abbrev A1:=@PySem.Heap.get?_push_of_some
abbrev A3:=@List.size_toArray
abbrev A5:=@List.mem_append_right
abbrev A6:=@Nat.le_refl
abbrev A7:=@List.not_mem_nil
abbrev A8:=@List.getElem?_eq_getElem
abbrev A9:=@Nat.lt_of_lt_of_le
abbrev Aa:=@List.mem_append_left
abbrev Ab:=@List.mem_cons_of_mem
abbrev Ac:=@List.mem_append
abbrev Ad:=@PySem.Heap.get?_push_size
abbrev Ae:=@List.length_append
abbrev Af:=@List.length_map
abbrev Ag:=@Bool.and_eq_true
abbrev Ah:=@List.mem_map
abbrev Ai:=@List.getElem?_set_ne
abbrev Aj:=@PySem.Heap.get?_update_other
abbrev Ak:=@List.getElem?_append_left
abbrev Al:=@Bool.and_eq_false_iff
abbrev Am:=@List.mem_filter
abbrev An:=@Array.getElem?_eq_some_iff
abbrev Ao:=@List.getElem?_set_self
abbrev Ap:=@List.getElem?_map
abbrev Aq:=@List.getElem?_eq_some_iff
abbrev Ar:=@Int.emod_lt_of_pos
abbrev As:=@List.replicate_succ
abbrev Au:=@List.getElem?_append_right
abbrev Av:=@List.length_singleton
abbrev Aw:=@Array.getElem?_setIfInBounds_ne
abbrev Ax:=@Nat.le_trans
abbrev Ay:=@Int.emod_nonneg
abbrev Az:=@Nat.lt_succ_of_lt
abbrev AA:=@Nat.lt_irrefl
abbrev AB:=@List.map_cons
abbrev AD:=@List.map_map
abbrev AE:=@PySem.Heap.get?_update_self
abbrev AF:=@List.getD_eq_getElem?_getD
abbrev AG:=@List.flatten_cons
abbrev AH:=@Bool.and_eq_true_iff
abbrev AI:=@List.length_cons
abbrev AJ:=@List.length_take
abbrev AK:=@List.lookup_cons
abbrev AL:=@List.all_eq_true
abbrev AM:=@List.filterMap_cons
abbrev AN:=@List.getElem?_replicate
abbrev AO:=@List.length_eq_zero_iff
abbrev AQ:=@Bool.false_ne_true
abbrev AR:=@Int.toNat_natCast
abbrev AS:=@Bool.and_false
abbrev AU:=@Nat.lt_succ_self
abbrev AV:=@List.getElem_mem
abbrev AW:=@List.map_congr_left
abbrev AX:=@List.nodup_cons
abbrev AY:=@Bool.false_eq_true
abbrev AZ:=@List.take_of_length_le
abbrev B0:=@List.nil_append
abbrev B1:=@Array.length_toList
abbrev B2:=@Bool.false_and
abbrev B3:=@Nat.zero_le
abbrev B4:=@List.mem_filterMap
abbrev B5:=@Nat.ne_of_gt
abbrev B6:=@List.length_drop
abbrev B7:=@Nat.le_succ
variable {q P:Program} {loose N ps own:List Str} {α β:Type} {A ch fp B:List Addr} {h h' base:Heap} {a it b t L C c D ea:Addr} {l:PySem.W.OpenLaw} {i j k n:Nat} {items:Array Value} {Q:Unit->Shared->Prop} {e tg iter elt:Expr} {env:Env} {pos cpos pos' p pn:Pos} {x qual:Str} {outer:List Env} {oe:Obj} {a0 cls u cd pm ct oc:Value} {us its' bmB:List Value} {w:World} {g':Array GenState} {M:Model} {E:Value->Shared->Prop} {s' s:Shared} {pins:List (Addr×Obj)} {K:PySem.W.Frag} {es ifs:List Expr} {lo hi:Option Int} {body:List Stmt} {fd:FuncData} {mg:Str->Option Value} {scope:Scope} {f:PyData->PyData->Option PyData} {an od:Option Addr} {osl:Array (Option Value)} {ns:List Int} {YP:World->Heap->Prop} {st:Stmt} {ds:List PyData} {newId:String} {O:List Nat} {many:Int}
namespace RS
open PySem PySem.W PyProof.Rows
def kS (p:Program) (w:World) (m:Nat) (ann:Option Value):Nat->SharedT->Thread->Option SharedT
 |0,_,_=>none
 |n+1,s,t=>match through t with
  |true=>some s
  |false=>match Fast.tw6613529449190102663 m ann t with
   |false=>none
   |true=>match Fast.tw10156331382660048174 (Fast.tw11892475500146522536 Fast.tw14364793385576792824) p w s t with
    |some x=>kS p w m ann n x.1 x.2
    |none=>none
theorem jf {p:Program} {w:World} {m:Nat} {ann:Option Value}:∀{n:Nat} {s s':SharedT} {t:Thread},kS p w m ann n s t=some s'->topRun treeTable p w m ann n s.abs t=some s'.abs
 |0,_,_,_,h=>by cases h
 |n+1,s,s',t,h=>by
  unfold kS at h;rw[<-Fast.te6613529449190102663,<-Fast.te10156331382660048174,<-Fast.te11892475500146522536,<-Fast.te14364793385576792824]at h;unfold topRun;cases ht:through t with
  |true=>rw[ht]at h;cases h;rfl
  |false =>
   rw[ht]at h;cases hk:stepOk m ann t with
   |false=>rw[hk]at h;cases h
   |true =>
    rw[hk]at h;cases hs:stepT (denote treeTable) p w s t with
    |none=>rw[hs]at h;cases h
    |some x =>rw[hs]at h;rw[stepT_spec (s':=x.1) (t':=x.2) hs];exact jf h
def qM (l:List Obj):BT:=(l.foldl (λx o=>(x.1.ins x.2 o,x.2+1)) (BT.nil,0)).1
def hdS (w:World) (os:OsState):SharedT:=⟨qM (boot_heap w.params).objs.toList,11,(boot_heap w.params).life,Array.mk [],boot_drawn,boot_toks,os⟩
theorem pA (w:World):(λos=>(hdS w os).abs)=λos=>⟨boot_heap w.params,Array.mk [],boot_drawn,boot_toks,os⟩:=by kernel_rfl
theorem su (w:World):((boot_heap w.params).isNs mainGlobals&&(Array.mk []:Array GenState).size==0,(boot_heap w.params).objs.size,(boot_heap w.params).nsMap mainGlobals "__annotations__")=(true,11,some (.ref 6)):=by kernel_rfl
def mI (p q:Program) (loose:List Str) (Xt:Shared->Bool) {α:Type} (Yf:Shared->α) (h:Heap) (s:Shared) :=
 (staticsOk (importedModules p.main.body) h s.heap&&namesBound p s.heap&&gensDone s&&laidKept h s.heap,Fast.tw4187177175401517315 q loose (importedModules p.main.body) Xt true s,Yf s)
theorem sO {p:Program} {Xt:Shared->Bool} {Yf:Shared->α} {Ya:World->α} {N M:Nat}
  (e:opening p=plainProg p.main.scope.names) (a:Nat.ble 600 N=true) (f:∀s,fenceModules? p s=some s) (le:Nat.ble M N=true)
  (h:∀w,(λos=>(kS p w 11 (some (.ref 6)) M (hdS w os) (topStub p)).map λs=>mI p q loose Xt Yf (boot_heap w.params) s.abs)=λ_=>some (true,openGood q loose,Ya w)):LeftO p q loose Xt Yf Ya N:=λw=>by
 obtain⟨⟨b,gs,d,k,os⟩,e1,c⟩:=Option.map_eq_some_iff.mp (boot_open e a f w);obtain⟨rfl,rfl,rfl,rfl⟩:b=boot_heap w.params/\gs=Array.mk []/\d=boot_drawn/\k=boot_toks:=by simpa using c
 obtain⟨z1,z2,z3⟩:_/\_/\_:=by simpa only[Prod.mk.injEq] using su w
 obtain⟨s,g,i⟩:=Option.map_eq_some_iff.mp (congrFun (h w) os);obtain⟨l1,l2,l3⟩:_/\_/\_:=by simpa only[mI,<-Fast.te4187177175401517315,Prod.mk.injEq] using i
 have r:=jf g;rw[congrFun (pA w) os]at r;have r:=topRun_mono (N-M) _ _ _ _ r;rw[show M+(N-M)=N by have:=Nat.le_of_ble_eq_true le;omega]at r;unfold openEnds;rw[e1];show (topFrom treeTable p w N _).map _=_;have t:topFrom treeTable p w N ⟨boot_heap w.params,Array.mk [],boot_drawn,boot_toks,os⟩=some s.abs:=by unfold topFrom;dsimp only;rw[z1,z2,z3,r];show (match staticsOk (importedModules p.main.body) (boot_heap w.params) s.abs.heap&&namesBound p s.abs.heap&&gensDone s.abs&&laidKept (boot_heap w.params) s.abs.heap with|true=>_|false=>_)=_;rw[l1]
 rw[t];exact congrArg some (Prod.ext l2 l3)
end RS
section
open PySem PySem.W PyProof.Rows
def RS.vw:Program:=view PySem.Challenge.pw_ranksure_k01_errands [1,2,3,4,6,7,8,9,10,11,12,13,14,15,16,17,18,19,20,21,23,24,25,26,27,28,29,30]
local macro_rules | `(tactic| o_head $H)=>`(tactic| (refine holds_open (N:=2956) (Xt:=λs=>xlAt RS.vw [] s&&recOk (RowW.records (OpenRow.toRowW (OpenLaw.row PySem.Challenge.rw_ranksure_k01_errands))) s) (XP:=XL RS.vw []) (q:=RS.vw) (loose:=[]) (Yf:=Hook.obs $H) (Ya:=Hook.val $H) (YP:=Hook.says $H) ?hl (Hook.of $H) (Hook.keeps $H) (λs e=>xl_of s (AH.mp e).1) XL.keeps (by rfl) (by rfl) (by rfl) (λs e=>recFacts_of (AH.mp e).2) (by rfl) (by assumption) (by decide +kernel) ⟨rfl,rfl,rfl,rfl,rfl,by decide +kernel⟩ ?hw ?hc;(case hl=>refine RS.sO (M:=1528) (by kernel_rfl) (by rfl) (by intro s;kernel_rfl) (by rfl) λw=>?_;kernel_rfl)))
set_option maxRecDepth 100000 in
set_option maxHeartbeats 0 in
open_top RS.hdTop for PySem.Challenge.rw_ranksure_k01_errands
end
set_option maxRecDepth 100000
set_option maxHeartbeats 4000000
namespace L2
open PySem PySem.Spec PyProof.Rows
variable {A:Around} {o:Obj} {vs:Array Value} {g:Int->Int->Int}
def HdH (A:Around) (h:Heap):Prop:=A.handled=none\/∃e oe vs,A.handled=some (.ref e)/\h.get? e=some oe/\oe.data=.fields vs/\vs[2]?=some .none
theorem HdH.stay (x:HdH A h) (k:∀e o vs,A.handled=some (.ref e)->h.get? e=some o->o.data=.fields vs->h'.get? e=some o):HdH A h':=by
 rcases x with x|⟨e,oe,vs,a,c,b,f⟩
 ·exact .inl x
 ·exact .inr ⟨e,oe,vs,a,k e oe vs a c b,b,f⟩
theorem gy:entryFor table "proto.unchain"=some Builtin.«proto.unchain»:=by first|exact entryFor_of_fast (by kernel_rfl)|exact entryFor_of_tree (by kernel_rfl)
section
variable {prog:Program}
theorem fk {Q:α->Shared->Prop} (hd:HdH A s.heap) (ha:s.heap.get? a=some o) (f:o.data=.fields vs) (h2:2<vs.size) (g:∀e,A.handled=some (.ref e)->e≠a)
  (h:∀h' c,(∀b u,b≠a->s.heap.get? b=some u->h'.get? b=some u)->h'.get? a=some { o with data:=.fields c }->c[0]?=vs[0]?->c[1]?=vs[1]?->(A.handled=none->c=vs)->E (.ref a) { s with heap:=h' }) :
  wpAny (model prog w) A (raiseNew (.ref a):Sem α) Q E s:=by
 unfold raiseNew;refine wpAny_bind (wpAny_handled ?_);rcases hd with hd|⟨e,oe,ve,i,n,p,r⟩
 ·rw[hd];have:{ o with data:=.fields vs }=o:=by rw[<-f]
  exact wpAny_bind (wpAny_pure (wpAny_throw (h s.heap vs (λ_ _ _ e=>e) (by rw[this];exact ha) rfl rfl λ_=>rfl)))
 ·rw[i];have hn:=g e i;have j:(Value.ref e != Value.ref a)=true:=by simp[hn]
  dsimp only;rw[if_pos j];refine wpAny_bind (wpAny_holding (wpAny_runValue (codeAny_builtin gy ?_)));unfold Builtin.«proto.unchain»;refine wpAny_bind (wpAny_field n p r ?_);rw[if_pos (by rfl)];refine wpAny_pure ?_;show wpAny _ _ (updateField a 2 (.ref e) >>= _) _ _ _;refine wpAny_bind (m:=updateField a 2 (.ref e)) ?_;have l:=wpAny_setField (M:=model prog w) (A:=A) (E:=E) (x:=.ref e) (Q:=λ_ s'=>wpAny (model prog w) A (throw (Value.ref a):Sem α) Q E s') ha f h2 ?_
  ·unfold setField at l;exact l
  ·refine wpAny_throw ?_;have t:=Heap.SameBut.update s.heap a (Obj.mapFields (·.setIfInBounds 2 (Value.ref e)));have k:=Obj.data_mapFields f (·.setIfInBounds 2 (Value.ref e));have v:=AE (Obj.mapFields (·.setIfInBounds 2 (Value.ref e))) ha (Obj.isFreed_of_fields k);refine h _ (vs.setIfInBounds 2 (.ref e)) (λb u j q=>(t.2 b j).trans q) ?_ (Aw (by decide)) (Aw (by decide)) λz=>by rw[i]at z;cases z
   rw[v];obtain⟨oc,od,odt,osl⟩:=o;simp only at f;subst f;rfl
theorem ib {Q:α->Shared->Prop} (hd:HdH A s.heap) (h:∀h' e vs,(∀b o,s.heap.get? b=some o->h'.get? b=some o)->h'.get? e=some { cls:=.type "StopIteration",data:=.fields vs }->E (.ref e) { s with heap:=h' }) :
  wpAny (model prog w) A (newExc (.type "StopIteration") [] >>= λe=>(raiseNew e:Sem α)) Q E s:=by
 refine wpAny_bind ?_;simp only[newExc,newTuple];refine wpAny_bind (wpAny_newObj_type ?_ (by size_fits));refine wpAny_bind (m:=firstArgMember _ _) (wpAny_of_eq (a:=Value.none) (by first|rfl|(simp only[firstArgMember];rfl)) ?_);refine wpAny_newObj_type ?_ (by size_fits);refine fk (hd.stay λe o vs _ q _=>A1 _ (A1 _ q)) (Ad _ rfl) rfl (by rw[Array.size_append];show 2<6+_;omega) (λe q=>?_) λh' c k f _ _ _=>h _ _ c (λb o q=>?_) f
 ·rcases hd with hd|⟨e',oe,ve,g,i,_⟩
  ·rw[hd]at q;cases q
  ·rw[g]at q;cases q;have:=Heap.lt_size i;rw[Heap.size_push];exact Nat.ne_of_lt (Az this)
 ·exact k b o (by rw[Heap.size_push];exact Nat.ne_of_lt (Az (Heap.lt_size q))) (A1 _ (A1 _ q))
theorem eJ {l:Addr} {Q:Option Value->Shared->Prop} (h:HdH A s.heap) (hn:∀e,A.handled=some (.ref e)->e≠it) (hit:s.heap.IsListIter it l i) (hl:s.heap.IsList l items) (j:items[i]?=none)
  (m:∀h',Heap.ExtBut it s.heap h'->Q none { s with heap:=h' }):wpAny (model prog w) A (pyNext (.ref it)) Q E s:=by
 obtain⟨o,a,hc,hd⟩:=id hit;obtain⟨ol,c,_,nl,f⟩:=hl;unfold pyNext;refine wpAny_bind (wpAny_attempt (wpAny_callSpecial?_slot (name:=Str.ofString "__next__") hit.typeIs slot_listiter_next (wpAny_call_entry slot_listiter_next hit.typeIs entry_listiter_next ?_ (args_listiter_next _))));show wpAny _ _ (field (.ref it) 0 >>= _) _ _ s;refine wpAny_bind (wpAny_field a hd (x:=.ref l) rfl ?_);show wpAny _ _ (if (Value.ref l==Value.none)=true then _ else _) _ _ s;rw[if_neg (show ¬ ((Value.ref l==Value.none)=true) from AQ)];show wpAny _ _ (field (.ref it) 1 >>= _) _ _ s;refine wpAny_bind (wpAny_field a hd (x:=.int i 0) rfl ?_);show wpAny _ _ (seqItems? (.ref l) >>= _) _ _ s;refine wpAny_bind (wpAny_seqItems c f ?_);simp only[AR,j];refine wpAny_bind (wpAny_rule (wpAny_bind (wpAny_setField a hd (by simp) ?_)));have g:=Heap.SameBut.update s.heap it (Obj.mapFields (·.setIfInBounds 0 Value.none));show wpAny _ _ (newExc (.type "StopIteration") [] >>= _) _ _ _;refine ib (A:=A.in1) (h.stay λe o vs n q _=>(g.2 e (hn e n)).trans q) λh' e vs k p=>?_
 refine wpAny_bind (wpAny_isInstance (T:="StopIteration") (b:=true) ⟨_,p,rfl⟩ isSubtype_stop (wpAny_pure (m _ λb o r q=>k b o ((g.2 b r).trans q))))
theorem cK {l:Addr} {Q:Option Value->Shared->Prop} (h:HdH A s.heap) (hn:∀e,A.handled=some (.ref e)->e≠it) (hit:s.heap.IsTupleIter it l i) (hl:s.heap.IsTuple l items) (j:items[i]?=none)
  (m:∀h',Heap.ExtBut it s.heap h'->Q none { s with heap:=h' }):wpAny (model prog w) A (pyNext (.ref it)) Q E s:=by
 obtain⟨o,a,hc,hd⟩:=id hit;obtain⟨ol,c,_,nl,f⟩:=hl;unfold pyNext;refine wpAny_bind (wpAny_attempt (wpAny_callSpecial?_slot (name:=Str.ofString "__next__") hit.typeIs F.slot_tuple_iterator_next (wpAny_call_entry F.slot_tuple_iterator_next hit.typeIs F.entry_tuple_iterator_next ?_ (F.args_tuple_iterator_next_1 _))));show wpAny _ _ (field (.ref it) 0 >>= _) _ _ s;refine wpAny_bind (wpAny_field a hd (x:=.ref l) rfl ?_);show wpAny _ _ (if (Value.ref l==Value.none)=true then _ else _) _ _ s;rw[if_neg (show ¬ ((Value.ref l==Value.none)=true) from AQ)];show wpAny _ _ (field (.ref it) 1 >>= _) _ _ s;refine wpAny_bind (wpAny_field a hd (x:=.int i 0) rfl ?_);show wpAny _ _ (seqItems? (.ref l) >>= _) _ _ s;refine wpAny_bind (wpAny_seqItems c f ?_);simp only[AR,j];refine wpAny_bind (wpAny_rule (wpAny_bind (wpAny_setField a hd (by simp) ?_)));have g:=Heap.SameBut.update s.heap it (Obj.mapFields (·.setIfInBounds 0 Value.none));show wpAny _ _ (newExc (.type "StopIteration") [] >>= _) _ _ _;refine ib (A:=A.in1) (h.stay λe o vs n q _=>(g.2 e (hn e n)).trans q) λh' e vs k p=>?_
 refine wpAny_bind (wpAny_isInstance (T:="StopIteration") (b:=true) ⟨_,p,rfl⟩ isSubtype_stop (wpAny_pure (m _ λb o r q=>k b o ((g.2 b r).trans q))))
theorem gI {x left step:Int} {Q:Option Value->Shared->Prop} (f:HdH A s.heap) (hit:IsRangeIter s.heap it x left step) (a:left<=0)
  (g:∀h',Heap.ExtBut it s.heap h'->Q none { s with heap:=h' }):wpAny (model prog w) A (pyNext (.ref it)) Q E s:=by
 have c:s.TypeIs (.ref it) "range_iterator":=⟨_,hit,rfl⟩
 unfold pyNext;refine wpAny_bind (wpAny_attempt (wpAny_callSpecial?_slot (name:=Str.ofString "__next__") c F.slot_range_iterator_next (wpAny_call_entry F.slot_range_iterator_next c F.entry_range_iterator_next ?_ (F.args_range_iterator_next_1 _))));show wpAny _ _ (field (.ref it) 0 >>= _) _ _ s;refine wpAny_bind (wpAny_field hit rfl (x:=rawInt x) rfl ?_);show wpAny _ _ (field (.ref it) 1 >>= _) _ _ s;refine wpAny_bind (wpAny_field hit rfl (x:=rawInt left) rfl ?_);show wpAny _ _ (field (.ref it) 2 >>= _) _ _ s;refine wpAny_bind (wpAny_field hit rfl (x:=rawInt step) rfl ?_);show wpAny _ _ (if left<=0 then _ else _) _ _ s;rw[if_pos a];refine wpAny_bind (wpAny_rule (wpAny_bind ?_));show wpAny _ _ (newExc (.type "StopIteration") [] >>= _) _ _ _;refine ib (A:=A.in1) f λh' e vs k h=>?_
 refine wpAny_bind (wpAny_isInstance (T:="StopIteration") (b:=true) ⟨_,h,rfl⟩ isSubtype_stop (wpAny_pure (g _ λb o _ q=>k b o q)))
def hdA (A:Around):List Addr:=match A.handled with
 |some (.ref e)=>[e]
 |_=>[]
theorem kM {e:Addr} (h:A.handled=some (.ref e)):e∈hdA A:=by unfold hdA;rw[h];exact List.mem_cons_self
theorem HdH.at (x:HdH A h) (k:∀b∈hdA A,∀o,h.get? b=some o->h'.get? b=some o):HdH A h':=x.stay λe o _ a c _=>k e (kM a) o c
theorem gj (I f:Addr) (k:f≠I) (hn:∀e,A.handled=some (.ref e)->e≠I) (items:Array Value) :
  Walks prog w A I ([I,f]++hdA A) [I] items.size (λi v=>items[i]?=some v) (λi h=>(h.IsListIter I f i/\h.IsList f items)/\HdH A h) where
 sub:=λb a=>by simp at a;simp[a]
 frame:=λ_ _ _ st l=>⟨⟨st.1.1.at λo e=>l I (by simp) o e,st.1.2.at λo e=>l f (by simp) o e⟩,st.2.at λb a o e=>l b (A5 _ a) o e⟩
 item:=λi s Q E hi st g=>by
  refine wpAny_pyNext_list_item st.1.1 st.1.2 (x:=items[i]) (by simp[hi]) λh' j c=>?_
  exact g _ h' s.toks (by simp[hi]) ⟨⟨j,st.1.2.extBut c.extBut k⟩,st.2.stay λe o _ n p _=>c.extBut e o (hn e n) p⟩ λb o a e=>c.extBut b o (λh=>a (by simp[h])) e
 done:=λs Q E st g=>eJ st.2 hn st.1.1 st.1.2 (by simp) λh' m=>g h' s.toks λb o a e=>m b o (λh=>a (by simp[h])) e
 self:=λ_ _ _ _ st g=>wpAny_pyIter_listiter st.1.1 g
theorem i3 (I f:Addr) (k:f≠I) (hn:∀e,A.handled=some (.ref e)->e≠I) (items:Array Value) :
  Walks prog w A I ([I,f]++hdA A) [I] items.size (λi v=>items[i]?=some v) (λi h=>(h.IsTupleIter I f i/\h.IsTuple f items)/\HdH A h) where
 sub:=λb a=>by simp at a;simp[a]
 frame:=λ_ _ _ st l=>⟨⟨st.1.1.at λo e=>l I (by simp) o e,st.1.2.at λo e=>l f (by simp) o e⟩,st.2.at λb a o e=>l b (A5 _ a) o e⟩
 item:=λi s Q E hi st g=>by
  refine wpAny_pyNext_tuple_item st.1.1 st.1.2 (x:=items[i]) (by simp[hi]) λh' j c=>?_
  exact g _ h' s.toks (by simp[hi]) ⟨⟨j,st.1.2.extBut c.extBut k⟩,st.2.stay λe o _ n p _=>c.extBut e o (hn e n) p⟩ λb o a e=>c.extBut b o (λh=>a (by simp[h])) e
 done:=λs Q E st g=>cK st.2 hn st.1.1 st.1.2 (by simp) λh' m=>g h' s.toks λb o a e=>m b o (λh=>a (by simp[h])) e
 self:=λ_ _ _ _ st g=>wpAny_pyIter_tupleiter st.1.1 g
end
section
variable {prog:Program} {l:Addr} {xs:Array (Int×Tok)}
theorem HdH.lt (x:HdH A h):∀b∈hdA A,b<h.objs.size:=λb a=>by
 rcases x with x|⟨e,oe,vs,c,f,_⟩
 ·unfold hdA at a;rw[x]at a;cases a
 ·unfold hdA at a;rw[c]at a;cases List.mem_singleton.mp a;exact Heap.lt_size f
theorem HdH.ne (x:HdH A h) (a:h.objs.size<=b):∀e,A.handled=some (.ref e)->e≠b:=λe c=>Nat.ne_of_lt (A9 (x.lt e (kM c)) a)
theorem HdH.push (x:HdH A h) (o:Obj):HdH A (h.push o):=x.stay λe o' _ _ q _=>A1 _ q
theorem sE {Q:Value->Shared->Prop} (c:HdH A s.heap) (hl:s.heap.IsList l (intItems xs))
  (h:∀h' tk t',(∀b o,s.heap.get? b=some o->h'.get? b=some o)->Q (.int (preSum (numAt xs) xs.size) t') { s with heap:=h',toks:=tk }) :
  wpAny (model prog w) A (call (.builtin "sum") [.ref l]) Q E s:=by
 refine call_sum_walkG (iter_intList hl λs₂ e st f g=>?_);subst e;refine⟨_,_,_,_,_,_,numAt xs,rfl,gj (A:=A.in1) _ l g (λe i=>c.ne (A6 _) e i) (intItems xs),⟨st,c.push _⟩,λb a=>?_,(λ_ _=>intItems_at),λh' tk t' j=>?_⟩
 ·rcases Ac.mp a with a|a
  ·exact f b a
  ·exact (c.push _).lt b a
 ·have:=h h' tk t' (old_kept j);simpa[intItems] using this
theorem pI {a b:Int} {t u:Tok} {Q:Value->Shared->Prop} (l:HdH A s.heap)
  (h:∀h' tk,(∀c o,s.heap.get? c=some o->h'.get? c=some o)->Q (if b<a then .int b u else .int a t) { s with heap:=h',toks:=tk }) :
  wpAny (model prog w) A (call (.builtin "min") [.int a t,.int b u]) Q E s:=by
 have m:(s.heap.push { cls:=.type "tuple",data:=.seq #[.int a t,.int b u] }).IsTuple s.heap.objs.size (intItems #[(a,t),(b,u)]):=⟨_,Ad _ rfl,rfl,0,by simp[intItems]⟩
 refine call_min_two (wpAny_pyIter_tuple m ?_);have f:(s.heap.push { cls:=.type "tuple",data:=.seq #[.int a t,.int b u] }).objs.size=s.heap.objs.size+1:=Heap.size_push ..;refine⟨_,[_,s.heap.objs.size]++hdA A,[_],_,_,_,_,rfl,i3 (A:=A.in1) _ s.heap.objs.size (by rw[f];exact Nat.ne_of_lt (AU _)) (λe n=>l.ne (by rw[f];exact B7 _) e n) (intItems #[(a,t),(b,u)]),
  ⟨⟨⟨_,Ad _ rfl,rfl,rfl⟩,m.push _⟩,(l.push _).push _⟩,λc hc=>?_,by simp[intItems],CmpOf.ints_lt (numAt #[(a,t),(b,u)]) (λ_ _=>intItems_at),λv h' tk p q=>?_⟩
 ·show c<((s.heap.push _).push _).objs.size;rcases Ac.mp hc with hc|hc
  ·rw[Heap.size_push,f];rcases List.mem_cons.mp hc with rfl|hc
   ·rw[f];exact AU _
   ·cases List.mem_singleton.mp hc;exact Az (AU _)
  ·exact ((l.push _).push _).lt c hc
 ·have hold:∀c o,s.heap.get? c=some o->h'.get? c=some o:=λc o e=>by refine q c o (λhm=>?_) (A1 _ (A1 _ e));have:=Heap.lt_size e;rw[List.mem_singleton.mp hm,f]at this;exact AA _ (Nat.lt_of_succ_lt this)
  have:=h h' tk hold;have r:v=if b<a then Value.int b u else Value.int a t:=by
   have g:(intItems #[(a,t),(b,u)])[argBest (λi j=>decide (numAt #[(a,t),(b,u)] i<numAt #[(a,t),(b,u)] j)) 1]?=some v:=by
    have k:(intItems #[(a,t),(b,u)]).size-1=1:=by simp[intItems]
    rw[<-k];exact p
   by_cases hba:b<a
   ·rw[show argBest (λi j=>decide (numAt #[(a,t),(b,u)] i<numAt #[(a,t),(b,u)] j)) 1=1 by simp[argBest,numAt,hba]]at g;simpa[intItems,hba] using g.symm
   ·rw[show argBest (λi j=>decide (numAt #[(a,t),(b,u)] i<numAt #[(a,t),(b,u)] j)) 1=0 by simp[argBest,numAt,hba]]at g;simpa[intItems,hba] using g.symm
  rw[r];exact this
theorem l0 {elts:List Expr} {x1} (n:HdH A s.heap) (j:IsTup s.heap t items)
  (hn:(assignEach elts env).length=items.size) (f:(assignEach elts env).findIdx? (·.1)=none)
  (h:∀h',Heap.ExtBut s.heap.objs.size s.heap h'->wpAny (model prog w) A (assignInOrder ((assignEach elts env).map (·.2)) items.toList) Q E { s with heap:=h' }) :
  wpAny (model prog w) A (assign (.Tuple elts x1 pos) env (.ref t)) Q E s:=by
 rw[assign_Tuple];refine wpAny_bind (wpAny_standAt ?_);unfold unpack;rw[hn,f];refine wpAny_bind (wpAny_holding ?_);have k:t≠s.heap.objs.size:=by obtain⟨o,q,_⟩:=j;exact Nat.ne_of_lt (Heap.lt_size q)
 unfold unpackItems;refine wpAny_bind ?_
 ·unfold notIterableAtAll;refine wpAny_bind (wpAny_specialOf j.typeIs slot_tuple_iter.lookup (wpAny_pure ?_));simp only[AY,if_false];refine wpAny_bind (wpAny_holding (iter_tuple j ?_));refine wpAny_bind (wpAny_holding (draw_tuple k items.size 0 _ _ ⟨_,Ad _ rfl,rfl,rfl⟩ (j.push _) (by omega) λl c a=>?_));rw[show List.take items.size (List.drop 0 items.toList)=items.toList by rw[List.drop_zero];exact AZ (by simp),if_neg (by simp)];have g:IsTup l t items:=(j.push _).extBut a.extBut k;refine wpAny_bind (wpAny_holding (cK ((n.push _).stay λe o _ r u _=>a.extBut e o (n.ne (A6 _) e r) u) (λe v=>n.ne (A6 _) e v) c g (by simp) λm i=>?_));simp only[Option.isSome_none,AY,if_false];exact wpAny_pure (h m λb o p e=>i b o p (a.extBut b o p (A1 _ e)))
structure kO (A:Around) (h h':Heap) (e:Addr) (cls:Value) (args:List Value):Prop where
 keeps:∀b o,h.get? b=some o->h'.get? b=some o
 new:h.get? e=none
 there:∃t vs,h'.get? e=some { cls:=cls,data:=.fields vs }/\vs[0]?=some (.ref t)/\vs[1]?=some .none/\(A.handled=none->vs[2]?=some .none)/\h.get? t=none/\h'.get? t=some { cls:=.type "tuple",data:=.seq args.toArray }
end
section
variable {prog:Program}
variable {nm q:Str} {N:Addr} {bs bm:List Value} {hdct:Bool} {sn:List Str} {sub:List Value} {ab:Bool} {col:Option Bool} {dd:Option Addr} {k0 k1 k2 k3 k5:Option Value} {B initId:String}
theorem eu {x:Sem Value} {Q:Flow->Shared->Prop} (c:bm.contains (.type "BaseException")=true)
  (h:wpAny (model prog w) A x (λv a=>∃e t,v=.ref e/\HdH A a.heap/\(∀m,A.handled=some (.ref m)->m≠e)/\a.heap.get? C=some (excClassObj nm q C N bs bm hdct sn sub ab col dd k0 k1 k2 k3 k5 newId) /\
   a.heap.get? e=some { cls:=.ref C,data:=.fields #[.ref t,.none,.none,.none,.bool false,.none] } /\
   ∀h' vs,(∀b u,b≠e->a.heap.get? b=some u->h'.get? b=some u)->h'.get? e=some { cls:=.ref C,data:=.fields vs }->vs[0]?=some (.ref t)->vs[1]?=some .none->(A.handled=none->vs[2]?=some .none)->E (.ref e) { a with heap:=h' }) E s) :
  wpAny (model prog w) A (raiseStmt env (some x) none) Q E s:=by
 have i:(Value.ref C::bm).contains (.type "BaseException")=true:=by rw[List.contains_cons,c,Bool.or_true]
 unfold raiseStmt;refine wpAny_bind (wpAny_mono h (λv a f=>?_) λ_ _ x=>x);obtain⟨e,t,rfl,p,j,n,o,r⟩:=f;obtain⟨hp,g,d,tk,os⟩:=a
 repeat (first|with_reducible refine wpAny_loadPart_at o ?_|with_reducible refine wpAny_loadPart_at n ?_|(with_reducible refine wpAny_isSubtype_exc n ?_;rw[i])|wp_step)
 exact fk p o rfl (by show 2<6;decide) j λh' l k e1 e2 y B=>r h' l k e1 e2 y λz=>by rw[B z];rfl
theorem gE (F:ExcBaseFacts B newId initId bmB) {mN:Str->Option Value} {K:Pos} {args:List Expr} {Q:Flow->Shared->Prop}
  (j:bm.contains (.type "BaseException")=true) (p:(backTo cpos (starEach args env)).any (·.1)=false) (G:mN "__init__"=none)
  (h:wpAny (model prog w) A (eval (.Name x K) env) (λf l=>f=.ref C/\wpAny (model prog w) A (evalArgs (.ref C) true (backTo cpos (starEach args env)) [])
   (λa c=>a.kw=[]/\a.pos.length<=sizeLine/\c.heap.get? C=some (excClassObj nm q C N bs bm hdct sn sub ab col dd k0 k1 k2 k3 k5 newId)/\c.heap.Ns N mN/\OwnTail c.heap bmB bm/\HdH A c.heap /\
    ∀h' e,kO A c.heap h' e (.ref C) a.pos->E (.ref e) { c with heap:=h' }) E l) E s) :
  wpAny (model prog w) A (exec (.Raise (some (.Call (.Name x K) args [] cpos)) none pos) env) Q E s:=by
 rw[arm_exec_Raise]
 first
  |refine wpAny_bind (wpAny_standAt (eu (C:=C) (nm:=nm) (q:=q) (N:=N) (bs:=bs) (bm:=bm) (hdct:=hdct) (sn:=sn) (sub:=sub) (ab:=ab) (col:=col) (dd:=dd) (k0:=k0) (k1:=k1) (k2:=k2) (k3:=k3) (k5:=k5) (newId:=newId) j (wpAny_bind (wpAny_mono (wpAny_Call_ofName (wpAny_mono h (λf l i=>?_) λ_ _ x=>x)) (λv u m=>wpAny_bind (wpAny_standAt (wpAny_pure m))) λ_ _ x=>x))))
  |(simp only[evalOpt,Option.map];refine wpAny_bind (wpAny_standAt (eu (C:=C) (nm:=nm) (q:=q) (N:=N) (bs:=bs) (bm:=bm) (hdct:=hdct) (sn:=sn) (sub:=sub) (ab:=ab) (col:=col) (dd:=dd) (k0:=k0) (k1:=k1) (k2:=k2) (k3:=k3) (k5:=k5) (newId:=newId) j (wpAny_bind (wpAny_mono (wpAny_Call_ofName (wpAny_mono h (λf l i=>?_) λ_ _ x=>x)) (λv u m=>wpAny_bind (wpAny_standAt (wpAny_pure m))) λ_ _ x=>x)))))
 obtain⟨rfl,i⟩:=i;unfold callWith;refine wpAny_bind (wpAny_holding (wpAny_mono i (λa c n=>wpAny_bind (wpAny_standAt ?_)) λ_ _ x=>x));obtain⟨apos,H⟩:=a;obtain⟨I,hlen,J,hn,T,y,n⟩:=n;obtain rfl:H=[]:=I;obtain⟨M,g,d,tk,os⟩:=c;simp only[p];refine wpAny_bind (wpAny_keeperOf_exc J ?_);refine wpAny_bind (wpAny_call_exc_subT (hrest:=hlen) F T J hn G λh' e hm=>wpAny_bind (wpAny_holding (wpAny_point (wpAny_pure ?_))));obtain⟨t,L,O,D⟩:=hm.there;have ne:∀b o,M.get? b=some o->b≠e:=λb o q z=>by rw[z,hm.new]at q;cases q
 refine⟨e,t,rfl,y.stay λP o _ _ R _=>hm.keeps _ _ R,λP r=>?_,hm.keeps _ _ J,L,λh2 vs k S U W X=>n h2 e ⟨λb o q=>k b o (ne b o q) (hm.keeps b o q),hm.new,t,vs,S,U,W,X,O,k t _ (λz=>?_) D⟩⟩
 ·rcases y with y|⟨e1,oe,ve,Y,Z,_⟩
  ·rw[y]at r;cases r
  ·rw[Y]at r;cases r;exact ne _ _ Z
 ·rw[z]at D;rw[L]at D;cases D
end
def f7 (h:Heap) (e:Addr):Prop:=∃oe vs,h.get? e=some oe/\oe.data=.fields vs/\vs[2]?=some .none
section
variable {P:Prop}
theorem eX {e:Addr} {head:Value} {n:Bool}
  (I:A.frames=some (env::outer)) (hl:s.heap.FunFrames base (env::outer)) (Y:env.frame=some L)
  (J:s.heap.get? e=some oe) (K:base.StaysIn s.heap) (N:base.get? e=none) (hd:oe.data=.fields vs) (B:1<vs.size) (Z:vs[0]?=some a0) (hp:P->vs[2]?=some .none)
  (h:∀h',Heap.LeftW base (env::outer) e oe.cls a0 s.heap h'->(P->f7 h' e)->Q () { s with heap:=h' }) :
  wpAny M A (do let a <-frameOf env;let pl <-entryPlaceOf L n;let b <-EntryCells.newEntry head a .none (rawInt L) .none pl;setField (.ref e) 1 b) (λ_ s'=>wpAny M A (setFlight (.ref e) none) Q E s') E s:=by
 have G:e∉(env::outer).filterMap (·.frame):=λhm=>by obtain⟨_,o,H,k⟩:=hl.mem hm;rw[J]at H;injection H with H;subst H;exact k vs hd
 refine wpAny_bind (wpAny_frameOf_fun I hl Y λc i=>wpAny_bind (wpAny_entryPlaceOf λpl O=>?_));unfold EntryCells.newEntry newFields;refine wpAny_bind (wpAny_newObj_type ?_ (O.sizeOk5 _ _ _ _ _));generalize hO:({ cls:=.type "traceback",dict:=none,data:=.fields ([head,.ref L,.none,rawInt L,.none]++(if pl.isEmpty then List.replicate 6 Value.none else pl)).toArray }:Obj)=tb;have R:∃ts,tb.data=.fields ts/\3<ts.size:=⟨_,by rw[<-hO],by simp only[A3,Ae,AI,List.length_nil];omega⟩
 obtain⟨ts,C,W⟩:=R;have r:c.get? e=some oe:=(i.2.1 e G).trans J;have t:base.StaysIn c:=λb o l=>(i.2.1 b λhm=>by rw[(hl.mem hm).1]at l;cases l).trans (K b o l)
 have u:=A1 (h:=c) tb r;refine wpAny_setField u hd B ?_;have D:c.objs.size≠e:=B5 (Heap.lt_size r);have j:=Obj.data_mapFields hd (·.setIfInBounds 1 (Value.ref c.objs.size));have v:=AE (Obj.mapFields (·.setIfInBounds 1 (Value.ref c.objs.size))) u (Obj.isFreed_of_fields j);have w:=(Aj (c.push tb) (Obj.mapFields (·.setIfInBounds 1 (Value.ref c.objs.size))) (Ne.symm D)).trans (Ad c (Obj.isFreed_of_fields C));have y:=Obj.data_mapFields C (·.setIfInBounds 3 ((none:Option Addr).elim Value.none λf=>rawInt f));have F:=AE (Obj.mapFields (·.setIfInBounds 3 ((none:Option Addr).elim Value.none λf=>rawInt f))) w (Obj.isFreed_of_fields y);unfold setFlight;refine wpAny_bind (wpAny_field v j (x:=.ref c.objs.size) (by simp[B]) ?_);rw[if_pos (show (Value.ref c.objs.size != Value.none)=true from by simp)];refine wpAny_setField w C W ?_;have keep:∀b o,b≠e->c.get? b=some o->(((c.push tb).update e (Obj.mapFields (·.setIfInBounds 1 (Value.ref c.objs.size)))).update c.objs.size (Obj.mapFields (·.setIfInBounds 3 ((none:Option Addr).elim Value.none λf=>rawInt f)))).get? b=some o:=λb o S m=>by have T:c.objs.size≠b:=B5 (Heap.lt_size m);rw[Aj _ _ T,Aj _ _ (Ne.symm S)];exact A1 _ m
 have g:∀b o,s.heap.get? b=some o->(∀vs,o.data≠.fields vs)->b≠e:=λb o m k q=>by rw[q,J]at m;injection m with m;subst m;exact k vs hd
 have z:=(Aj _ (Obj.mapFields (·.setIfInBounds 3 ((none:Option Addr).elim Value.none λf=>rawInt f))) D).trans v;refine h _ ⟨λb o l=>keep b o (λq=>by rw[q,N]at l;cases l) (t b o l),hl.of_keeps λb o m k=>?_,?_,λb o m k=>?_⟩ λp=>⟨_,_,z,j,by rw[Aw (by decide)];exact hp p⟩
 ·obtain⟨X,U⟩:=i.2.2 b o m;exact⟨_,keep b _ (g b o m k) U,rfl⟩
 ·exact⟨_,_,c.objs.size,_,_,z,⟨Obj.cls_mapFields _ _,by rw[Aw (by decide)];exact Z⟩,j,by simp[B],t.fresh,D,F,y,by simp[W]⟩
 ·obtain⟨X,U⟩:=i.2.2 b o m;exact⟨X,keep b _ (g b o m k) U⟩
theorem ju {e:Addr}
  (a:A.frames=some (env::outer)) (hl:s.heap.FunFrames base (env::outer)) (f:env.frame=some L)
  (g:s.heap.get? e=some oe) (b:base.StaysIn s.heap) (c:base.get? e=none) (hd:oe.data=.fields vs) (h1:vs[1]?=some .none) (i:vs[0]?=some a0) (j:P->vs[2]?=some .none)
  (h:∀h',Heap.LeftW base (env::outer) e oe.cls a0 s.heap h'->(P->f7 h' e)->Q () { s with heap:=h' }):wpAny M A (leaving env (.ref e)) Q E s:=by
 unfold leaving noteFrame;simp only[f];refine wpAny_bind (wpAny_bind (wpAny_field g hd h1 ?_));rw[if_neg (by decide)];exact eX a hl f g b c hd (An.mp h1).1 i j h
theorem jG {e:Addr}
  (k:A.frames=some (env::outer)) (w:env.frame=some L) (l:Heap.FlyingW base (env::outer) e cls a0 s.heap) (C:P->f7 s.heap e)
  (D:∀h',Heap.FlyingW base outer e cls a0 h'->s.heap.UpToSlots h'->(P->f7 h' e)->Q () { s with heap:=h' }):wpAny M A (leaving env (.ref e)) Q E s:=by
 obtain⟨m,i,hl,oe,vs,T,oT,ts,n,⟨j,F⟩,hd,h1,r,t,u,g,x⟩:=l;subst j;unfold leaving noteFrame;simp only[w];refine wpAny_bind (wpAny_bind (wpAny_field n hd h1 ?_));rw[if_pos (show (Value.ref T != Value.none)=true from by simp)];refine wpAny_bind (wpAny_field u g x ?_);rw[if_neg (show ¬ ((Value.none==rawInt L)=true) from by simp[rawInt])];refine wpAny_bind (wpAny_setField u g (An.mp x).1 ?_);have other:∀b,b≠T->(s.heap.update T (Obj.mapFields (·.setIfInBounds 3 Value.none))).get? b=s.heap.get? b:=λb f=>Aj _ _ (Ne.symm f)
 have a:∀b o,s.heap.get? b=some o->(∀vs,o.data≠.fields vs)->b≠T:=λb o f c q=>by rw[q,u]at f;injection f with f;subst f;exact c ts g
 refine eX (P:=P) k (hl.of_keeps λb o f c=>⟨o,(other b (a b o f c)).trans f,rfl⟩) w ((other e (Ne.symm t)).trans n)
  (λb o h=>(other b λq=>by rw[q,r]at h;cases h).trans (m b o h)) i hd (An.mp h1).1 F (λp=>?_)
  λh' v y=>(by obtain⟨G,⟨_,_,H⟩,I,J⟩:=v;exact D h' ⟨G,i,H,I⟩ (λb o f c=>J b o ((other b (a b o f c)).trans f) c) y)
 obtain⟨oe',vs',z,B,K⟩:=C p;rw[n]at z;cases z;rw[hd]at B;cases B;exact K
theorem jH {e:Addr} {args:List Value}
  (g:A.frames=some (env::outer)) (i:env.frame=some L) (a:base.StaysIn h) (hl:h.FunFrames base (env::outer)) (c:kO A h s.heap e cls args)
  (j:∀h' t,Heap.FlyingW base outer e cls (.ref t) h'->s.heap.UpToSlots h'->(A.handled=none->f7 h' e)->Q () { s with heap:=h' }):wpAny M A (leaving env (.ref e)) Q E s:=by
 obtain⟨t,vs,k,l,m,n,htn,ht⟩:=c.there;have fresh:∀b,h.get? b=none->base.get? b=none:=λb f=>by
  cases hq:base.get? b with
  |none=>rfl
  |some o'=>have:=a b o' hq;rw[f]at this;cases this
 refine ju (P:=A.handled=none) (a0:=.ref t) g (hl.of_keeps λb o f _=>⟨o,c.keeps b o f,rfl⟩) i k (λb o f=>c.keeps b o (a b o f)) (fresh e c.new) rfl m l n λh' p y=>?_
 obtain⟨k1,⟨_,_,k2⟩,k3,q⟩:=p;exact j h' t ⟨k1,fresh e c.new,k2,k3⟩ q y
end
abbrev Key:=Sum Int Str
def qe:Key->Value->Bool
 |.inl k,v=>Value.isInt k v
 |.inr x,v=>Value.isStrOf x v
def vh (w:World):Key->Int
 |.inl k=>hashInt k
 |.inr x=>hashStr w x
theorem a3:∀{k:Key} {v:Value},qe k v=true->(∃i t,k=Sum.inl i/\v=Value.int i t)\/(∃x t,k=Sum.inr x/\v=Value.str x t)
 |.inl i,v,h=>by obtain⟨t,e⟩:=Value.isInt_shape (k:=i) (v:=v) h;exact .inl ⟨i,t,rfl,e⟩
 |.inr x,v,h=>by obtain⟨t,e⟩:=Value.isStrOf_shape (x:=x) (v:=v) h;exact .inr ⟨x,t,rfl,e⟩
theorem qT (a b:Int):decide ((Sum.inl a:Key)=Sum.inl b)=(a==b):=by
 by_cases e:a=b
 ·subst e;simp
 ·have h:¬ (Sum.inl a:Key)=Sum.inl b:=λq=>e (Sum.inl.inj q)
  rw[decide_eq_false h];exact (beq_eq_false_iff_ne.mpr e).symm
theorem rq (a b:Str):decide ((Sum.inr a:Key)=Sum.inr b)=decide (a=b):=by
 by_cases e:a=b
 ·subst e;simp
 ·have h:¬ (Sum.inr a:Key)=Sum.inr b:=λq=>e (Sum.inr.inj q)
  rw[decide_eq_false h,decide_eq_false e]
theorem qI (a:Int) (b:Str):decide ((Sum.inl a:Key)=Sum.inr b)=false:=decide_eq_false (λq=>nomatch q)
theorem qA (a:Str) (b:Int):decide ((Sum.inr a:Key)=Sum.inl b)=false:=decide_eq_false (λq=>nomatch q)
def kz (prog:Program) (w:World):PySem.KeyKind prog w Key where
 is:=qe
 hash:=vh w
 inj:=λv a b ha f=>by
  rcases a3 ha with⟨i,t,rfl,rfl⟩|⟨x,t,rfl,rfl⟩
  ·rcases a3 f with⟨j,u,rfl,e⟩|⟨y,u,rfl,e⟩
   ·injection e with e1 _;rw[e1]
   ·exact nomatch e
  ·rcases a3 f with⟨j,u,rfl,e⟩|⟨y,u,rfl,e⟩
   ·exact nomatch e
   ·injection e with e1 _;rw[e1]
 byValue:=λk v h=>by rcases a3 h with⟨i,t,rfl,rfl⟩|⟨x,t,rfl,rfl⟩ <;> rfl
 pyHash:=λc h=>by
  rcases a3 c with⟨i,t,rfl,rfl⟩|⟨x,t,rfl,rfl⟩
  ·exact wpAny_pyHash_int h
  ·exact wpAny_pyHash_str h
 eqBool:=λg c h=>by
  rcases a3 g with⟨i,t,rfl,rfl⟩|⟨x,t,rfl,rfl⟩
  ·rcases a3 c with⟨j,u,rfl,rfl⟩|⟨y,u,rfl,rfl⟩
   ·rw[qT]at h;exact wpAny_eqBool_int h
   ·rw[qI]at h;exact SeqAt.EqAt.int_str i t y u _ _ _ _ h
  ·rcases a3 c with⟨j,u,rfl,rfl⟩|⟨y,u,rfl,rfl⟩
   ·rw[qA]at h;exact SeqAt.EqAt.str_int x t j u _ _ _ _ h
   ·rw[rq]at h;exact wpAny_eqBool_str h
 «strs»:=λk x t v h=>by
  rcases a3 h with⟨i,u,rfl,e⟩|⟨y,u,rfl,e⟩
  ·exact nomatch e
  ·injection e with e1 _
   subst e1;cases v <;> rfl
inductive V where
 |non|bl (b:Bool)|int (i:Int)|str (x:Str)|byt (b:Array UInt8)|flt (b:UInt64)|ref (a:Addr)|ty (n:String)
 deriving DecidableEq
variable {xs:List V}
def RelV:V->Value->Prop
 |.non,u=>u=Value.none
 |.bl b,u=>u=Value.bool b
 |.int i,u=>∃t,u=Value.int i t
 |.str x,u=>∃t,u=Value.str x t
 |.byt b,u=>∃t,u=Value.bytes b t
 |.flt b,u=>∃t,u=Value.float b t
 |.ref a,u=>u=Value.ref a
 |.ty n,u=>u=Value.type n
abbrev Vals:List V->List Value->Prop:=Paired RelV
theorem Vals.length (r:Vals xs us):xs.length=us.length:=Paired.length r
theorem Vals.get:∀{xs:List V} {us:List Value} {i:Nat} {x:V},Vals xs us->xs[i]?=some x->∃u,us[i]?=some u/\RelV x u
 |_,_,_,_,.nil,e=>by simp at e
 |_,_,0,_,.cons r _,e=>by simp at e;subst e;exact⟨_,rfl,r⟩
 |_,_,i+1,x,.cons _ t,e=>by obtain⟨u,h1,h2⟩:=Vals.get (i:=i) (x:=x) t (by simpa using e);exact⟨u,by simpa using h1,h2⟩
theorem Vals.set {x:V} {u:Value} (r:RelV x u):∀{xs:List V} {us:List Value} (i:Nat),Vals xs us->Vals (xs.set i x) (us.set i u)
 |_,_,_,.nil=>.nil
 |_,_,0,.cons _ t=>.cons r t
 |_,_,i+1,.cons q t=>.cons q (Vals.set r i t)
theorem Vals.append {ys:List V} {a:List Value} (h:Vals xs us) (s:Vals ys a):Vals (xs++ys) (us++a):=by
 induction h with
 |nil=>exact s
 |cons r t ih=>exact .cons r ih
theorem Vals.take:∀{xs:List V} {us:List Value} (n:Nat),Vals xs us->Vals (xs.take n) (us.take n)
 |_,_,0,_=>.nil
 |_,_,_+1,.nil=>.nil
 |_,_,n+1,.cons r t=>.cons r (Vals.take n t)
theorem Vals.drop:∀{xs:List V} {us:List Value} (n:Nat),Vals xs us->Vals (xs.drop n) (us.drop n)
 |_,_,0,r=>r
 |_,_,_+1,.nil=>.nil
 |_,_,n+1,.cons _ t=>Vals.drop n t
def tU:Option V->Option Value->Prop
 |some v,some u=>RelV v u
 |none,none=>True
 |_,_=>False
def KV {κ:Type}:List (κ×V)->List (κ×Value)->Prop:=Paired λ(p:κ×V) (q:κ×Value)=>p.1=q.1/\RelV p.2 q.2
def kV:Key->V
 |.inl i=>.int i
 |.inr x=>.str x
inductive HO where
 |lst (xs:List V)
 |tup (xs:List V)
 |dK (kvs:List (Key×V))|dT (kvs:List (List Key×V))
 |set (S:Int->Bool) (n:Nat)
 |ins (C dx:Addr) (fs:List (Str×V))
 |own (x:Addr)
 |xd (fs:List (Str×V))
 |met (f x:Addr)
 |rng (lo hi:Int)
 |frz (o:Obj) (u:HO)
 |tbl (q:Str)
 |ext (φ:Heap->Prop)
abbrev Hp:=Addr->Option HO
variable {H:Hp} {R:V->V->Hp->Prop}
def upd (H:Hp) (a:Addr) (o:HO):Hp:=λb=>if b=a then some o else H b
theorem bH {o:HO}:upd H a o a=some o:=by unfold upd;rw[if_pos rfl]
theorem aK {o:HO} (h:b≠a):upd H a o b=H b:=by unfold upd;rw[if_neg h]
theorem aO {o:HO} (h:H a=some o) (h':H b=none):a≠b:=by intro e;subst e;rw[h]at h';cases h'
def iC (h:Heap) (a:Addr) (items:Array Value):Prop:=∃o,h.get? a=some o/\o.cls=.type "tuple"/\o.dict=none/\∃n,o.data=.seq items n
theorem iC.tup (x:iC h a items):IsTup h a items:=by obtain⟨o,e,c,_,n,d⟩:=x;exact⟨o,e,c,n,d⟩
theorem iC.new (h:Heap) (items:Array Value):iC (h.push { cls:=.type "tuple",data:=.seq items }) h.objs.size items:=⟨_,Ad _ rfl,rfl,rfl,_,rfl⟩
section
variable (P:Program) (w:World)
def cc (H:Hp) (h:Heap) (a:Addr):HO->Prop
 |.lst xs=>xs.length<=sizeLine/\∃(b:List Value) (n:Nat),Vals xs b/\h.get? a=some { cls:=.type "list",data:=.seq b.toArray n }
 |.tup xs=>xs.length<=sizeLine/\∃b:List Value,Vals xs b/\iC h a b.toArray
 |.dK kvs=>kvs.length<=sizeLine/\(a==sysModules)=false/\∃vs,KV kvs vs/\h.DictOf (kz P w) a vs
 |.dT kvs=>kvs.length<=sizeLine/\(a==sysModules)=false/\∃xs:List (List Key×Addr×Value),
  Paired (λ(p:List Key×V) (q:List Key×Addr×Value)=>p.1=q.1/\H q.2.1=some (.tup (p.1.map kV))/\RelV p.2 q.2.2) kvs xs /\
  ∃o es g,h.get? a=some o/\o.ExactDict/\o.data=.dict es g/\es.toList=xs.map (entryOfKey (tupleKind (kz P w)))/\(xs.map (·.1)).Nodup
 |.set S n=>h.SetOf (intKind P w) a S n
 |.ins C dx fs=>H dx=some (.own a)/\fs.length<=1000/\dx≠a/\h.get? a=some (PySem.W.instObj C dx) /\
  ∃mA,h.Ns1 dx mA/\(∀f,tU (fs.lookup f) (mA f))/\PySem.Within mA (fs.map (·.1))
 |.own _=>∃o,h.get? a=some o
 |.xd fs=>∃mA,h.Ns1 a mA/\∀f,tU (fs.lookup f) (mA f)
 |.rng lo hi=>∃t u v,h.get? a=some { cls:=.type "range",data:=.fields #[.int lo t,.int hi u,.int 1 v] }
 |.frz o u=>h.get? a=some o/\cc H h a u
 |.tbl q=>∃ps:Array Value,h.get? a=some { cls:=.none,data:=.fields ps }/\TriplesOk ps.toList/\∀pos e,codeAmong pos ps.toList=some e->∃c o vs t,e=.ref c/\H c=some (.frz o (.own c))/\o.data=.fields vs/\vs[1]?=some (.str q t)
 |.met f x=>h.get? a=some (PySem.W.methodObj (.ref f) (.ref x))
 |.ext φ=>φ h/\(∃o,h.get? a=some o)/\∀h1 h2:Heap,φ h1->(∀o,h1.get? a=some o->h2.get? a=some o)->φ h2
def HOk (H:Hp) (h:Heap):Prop:=∀a o,H a=some o->cc P w H h a o
end
section
variable {H':Hp} {o:HO}
theorem cc.lt (x:cc P w H h a o):a<h.objs.size:=by
 cases o with
 |lst xs=>obtain⟨_,_,_,_,e⟩:=x;exact Heap.lt_size e
 |tup xs=>obtain⟨_,_,_,p⟩:=x;exact p.tup.lt
 |dK kvs=>obtain⟨_,_,_,_,o,_,_,e,_⟩:=x;exact Heap.lt_size e
 |dT kvs=>obtain⟨_,_,_,_,o,_,_,e,_⟩:=x;exact Heap.lt_size e
 |set S n=>obtain⟨o,_,_,_,e,_⟩:=x;exact Heap.lt_size e
 |ins C dx fs=>obtain⟨_,_,_,e,_⟩:=x;exact Heap.lt_size e
 |own y=>obtain⟨_,e⟩:=x;exact Heap.lt_size e
 |xd fs=>obtain⟨_,⟨_,_,_,e,_⟩,_⟩:=x;exact Heap.lt_size e
 |rng lo hi=>obtain⟨_,_,_,e⟩:=x;exact Heap.lt_size e
 |frz ob u=>obtain⟨e,_⟩:=x;exact Heap.lt_size e
 |tbl q=>obtain⟨_,e,_⟩:=x;exact Heap.lt_size e
 |met f y=>exact Heap.lt_size (show h.get? a=some _ from x)
 |ext φ=>obtain⟨_,⟨_,e⟩,_⟩:=x;exact Heap.lt_size e
theorem Paired.mapP {F G:α->β->Prop} {c:List α} {e:List β} (h:Paired F c e) (f:∀a b,F a b->G a b):Paired G c e:=by
 induction h with
 |nil=>exact .nil
 |cons r t ih=>exact .cons (f _ _ r) ih
theorem cc.stay (x:cc P w H h a o) (k:∀b u,(b=a\/H b=some (.own a))->h.get? b=some u->h'.get? b=some u)
  (j:∀b,H b=some (.own a)->H' b=some (.own a)) (l:∀b xs,H b=some (.tup xs)->H' b=some (.tup xs)) (m:∀b o u,H b=some (.frz o u)->H' b=some (.frz o u):=by exact λ_ _ _ q=>q):cc P w H' h' a o:=by
 induction o with
 |lst xs=>obtain⟨z,i,n,r,e⟩:=x;exact⟨z,i,n,r,k _ _ (.inl rfl) e⟩
 |tup xs=>obtain⟨z,i,r,ob,e,c⟩:=x;exact⟨z,i,r,ob,k _ _ (.inl rfl) e,c⟩
 |dK kvs=>obtain⟨z,y,vs,r,ob,es,g,e,c⟩:=x;exact⟨z,y,vs,r,ob,es,g,k _ _ (.inl rfl) e,c⟩
 |dT kvs =>obtain⟨z,y,xs,r,ob,es,g,e,c⟩:=x;exact⟨z,y,xs,Paired.mapP r λp q z=>⟨z.1,l _ _ z.2.1,z.2.2⟩,ob,es,g,k _ _ (.inl rfl) e,c⟩
 |set S n=>obtain⟨ob,es,g,t,e,c⟩:=x;exact⟨ob,es,g,t,k _ _ (.inl rfl) e,c⟩
 |ins C dx fs =>obtain⟨d,z,ne,e,mA,⟨od,es,g,e2,c⟩,r⟩:=x;exact⟨j _ d,z,ne,k _ _ (.inl rfl) e,mA,⟨od,es,g,k _ _ (.inr d) e2,c⟩,r⟩
 |own y=>obtain⟨ob,e⟩:=x;exact⟨ob,k _ _ (.inl rfl) e⟩
 |xd fs=>obtain⟨mA,⟨od,es,g,e,c⟩,r⟩:=x;exact⟨mA,⟨od,es,g,k _ _ (.inl rfl) e,c⟩,r⟩
 |rng lo hi=>obtain⟨t,u,v,e⟩:=x;exact⟨t,u,v,k _ _ (.inl rfl) e⟩
 |frz ob u ih=>obtain⟨e,q⟩:=x;exact⟨k _ _ (.inl rfl) e,ih q⟩
 |tbl q =>obtain⟨ps,e,t,c⟩:=x;exact⟨ps,k a _ (.inl rfl) e,t,λpos s z=>by obtain⟨A,o,vs,t',e1,e2,B⟩:=c pos s z;exact⟨A,o,vs,t',e1,m _ _ _ e2,B⟩⟩
 |met f y =>have e:h.get? a=some (PySem.W.methodObj (.ref f) (.ref y)):=x;show h'.get? a=some (PySem.W.methodObj (.ref f) (.ref y));exact k a _ (.inl rfl) e
 |ext φ=>obtain⟨p,⟨o,e⟩,st⟩:=x;exact⟨st _ _ p λo q=>k _ _ (.inl rfl) q,⟨o,k _ _ (.inl rfl) e⟩,st⟩
theorem HOk.lt (x:HOk P w H h) (e:H a=some o):a<h.objs.size:=(x a o e).lt
theorem HOk.fresh (x:HOk P w H h) (e:h.objs.size<=a):H a=none:=by
 cases q:H a with
 |none=>rfl
 |some u=>exact absurd (A9 (x.lt q) e) (AA _)
theorem HOk.kept (x:HOk P w H h) (k:∀b u,h.get? b=some u->h'.get? b=some u):HOk P w H h':=λa o e =>
 (x a o e).stay (λb u _ q=>k b u q) (λ_ q=>q) λ_ _ q=>q
theorem HOk.laid (x:HOk P w H h) (k:∀b u,h.get? b=some u->h'.get? b=some u) (f:h.objs.size<=a) (new:cc P w (upd H a o) h' a o):HOk P w (upd H a o) h':=λb u e=>by
 have hn:=x.fresh f;by_cases hb:b=a
 ·subst hb;rw[bH]at e;cases e;exact new
 ·rw[aK hb]at e;exact (x b u e).stay (λc v _ q=>k c v q) (λc q=>by rw[aK (aO q hn)];exact q) (λc xs q=>by rw[aK (aO q hn)];exact q) λc ob w' q=>by rw[aK (aO q hn)];exact q
end
def Rd (H:Hp) (a:Addr) (u:HO):Prop:=H a=some u\/∃o,H a=some (.frz o u)
theorem Rd.ok {u:HO} (r:Rd H a u) (x:HOk P w H h):cc P w H h a u:=by
 rcases r with r|⟨o,r⟩
 ·exact x a u r
 ·obtain⟨_,q⟩:=x a _ r;exact q
def Mut:Option HO->Prop
 |some (.lst _)=>True
 |some (.dK _)=>True
 |some (.dT _)=>True
 |some (.set _ _)=>True
 |some (.ins _ _ _)=>True
 |some (.ext _)=>True
 |_=>False
section
variable {x e:Addr} {o':HO}
theorem HOk.write (ok:HOk P w H h) (f:Mut (H x)) (l:e=x\/H e=some (.own x)) (k:∀b u,b≠e->h.get? b=some u->h'.get? b=some u) (j:∃u,h'.get? e=some u)
  (new:cc P w (upd H x o') h' x o'):HOk P w (upd H x o') h':=λb u q=>by
 have a:∀c y,H c=some (.own y)->c≠x:=λc y r z=>by subst z;rw[r]at f;exact f
 have g:∀c xs,H c=some (.tup xs)->c≠x:=λc xs r z=>by subst z;rw[r]at f;exact f
 have i:∀c o u,H c=some (.frz o u)->c≠x:=λc o u r z=>by subst z;rw[r]at f;exact f
 by_cases hb:b=x
 ·subst hb;rw[bH]at q;cases q;exact new
 ·rw[aK hb]at q;by_cases hbe:b=e
  ·have m:H b=some (.own x):=by
    rcases l with z|z
    ·exact absurd (hbe.trans z) hb
    ·rw[hbe];exact z
   rw[q]at m;cases m;obtain⟨v,n⟩:=j;exact⟨v,by rw[hbe];exact n⟩
  ·refine (ok b u q).stay (λc v hc r=>k c v ?_ r) (λc r=>by rw[aK (a c b r)];exact r) (λc xs r=>by rw[aK (g c xs r)];exact r) λc o p r=>by rw[aK (i c o p r)];exact r
   rcases hc with rfl|hc
   ·exact hbe
   ·rintro rfl
    rcases l with z|z
    ·exact a c b hc z
    ·rw[hc]at z;cases z;exact hb rfl
end
structure Un (fs ex:List Addr) (H H':Hp) (h h':Heap):Prop where
 keep:∀b o,h.get? b=some o->H b=none->b∉fs->b∉ex->h'.get? b=some o
 slot:∀b o,h.get? b=some o->H b=none->b∈fs->b∉ex->∃sl,h'.get? b=some { o with slots:=sl }
 free:∀b o,h.get? b=some o->H b=none->b∉ex->H' b=none
 there:∀b o,h.get? b=some o->b∉ex->∃o',h'.get? b=some o'
 tups:∀b xs,H b=some (.tup xs)->H' b=some (.tup xs)
 frzs:∀b o u,H b=some (.frz o u)->H' b=some (.frz o u)
 tbls:∀b q,H b=some (.tbl q)->H' b=some (.tbl q)
section
variable {fs fs' ex ex':List Addr} {H1 H2:Hp} {h1 h2:Heap} {x e:Addr} {o:HO}
theorem Un.any (u:Un fs ex H H1 h h1) {ob:Obj} (q:h.get? b=some ob) (n:H b=none) (a:b∉ex):∃c,h1.get? b=some { ob with slots:=c }:=by
 by_cases hb:b∈fs
 ·exact u.slot b ob q n hb a
 ·exact⟨ob.slots,u.keep b ob q n hb a⟩
theorem Un.kept (k:∀b u,h.get? b=some u->h'.get? b=some u):Un fs ex H H h h' :=
 ⟨λb ob q _ _ _=>k b ob q,λb ob q _ _ _=>⟨ob.slots,k b ob q⟩,λ_ _ _ n _=>n,λb ob q _=>⟨ob,k b ob q⟩,λ_ _ q=>q,λ_ _ _ q=>q,λ_ _ q=>q⟩
theorem Un.refl:Un fs ex H H h h:=Un.kept λ_ _ q=>q
theorem Un.laid (k:∀b u,h.get? b=some u->h'.get? b=some u) (c:h.objs.size<=a) (hn:H a=none):Un fs ex H (upd H a o) h h' where
 keep:=λb u q _ _ _=>k b u q
 slot:=λb u q _ _ _=>⟨u.slots,k b u q⟩
 free:=λb u q n _=>by rw[aK (Nat.ne_of_lt (A9 (Heap.lt_size q) c))];exact n
 there:=λb u q _=>⟨u,k b u q⟩
 tups:=λb xs q=>by rw[aK (aO q hn)];exact q
 frzs:=λb u xs q=>by rw[aK (aO q hn)];exact q
 tbls:=λb ps q=>by rw[aK (aO q hn)];exact q
theorem Un.write (a:Mut (H x)) (i:e=x\/H e=some (.own x)) (k:∀b u,b≠e->h.get? b=some u->h'.get? b=some u) (c:∃u,h'.get? e=some u):Un fs ex H (upd H x o) h h':=by
 have f:∀b,H b=none->b≠x:=λb n z=>by subst z;rw[n]at a;exact a
 have g:∀b,H b=none->b≠e:=λb n z=>by
  subst z;rcases i with r|r
  ·exact f b n r
  ·rw[n]at r;cases r
 have hm:∀b u,H b=some u->¬ Mut (some u)->b≠x:=λb u q nm z=>by subst z;rw[q]at a;exact nm a
 refine⟨λb u q n _ _=>k b u (g b n) q,λb u q n _ _=>⟨u.slots,k b u (g b n) q⟩,λb u q n _=>by rw[aK (f b n)];exact n,λb u q _=>?_,
  λb xs q=>by rw[aK (hm b _ q λz=>z)];exact q,λb u xs q=>by rw[aK (hm b _ q λz=>z)];exact q,λb ps q=>by rw[aK (hm b _ q λz=>z)];exact q⟩
 by_cases hbe:b=e
 ·subst hbe;exact c
 ·exact⟨u,k b u hbe q⟩
end
def trk (h:Heap) (H:Hp):List Addr:=(List.range h.objs.size).filter λa=>(H a).isSome
def gB (h:Heap) (H:Hp):Heap:=PySem.W.hideAll h (trk h H)
theorem lJ (h:Heap) (H:Hp):(gB h H).objs.size=h.objs.size:=PySem.W.hideAll_size _ _
theorem mO (e:h.get? b=some o) (n:H b=none):(gB h H).get? b=some o :=
 PySem.W.hideAll_get _ e λhm=>by have q:(H b).isSome=true:=(Am.mp hm).2;rw[n]at q;simp at q
theorem pS (e:(gB h H).get? b=some o):h.get? b=some o/\H b=none:=by
 have a:h.get? b=some o:=PySem.W.of_hideAll (trk h H) e;refine⟨a,?_⟩;cases q:H b with
 |none=>rfl
 |some x =>have hm:b∈trk h H:=Am.mpr ⟨List.mem_range.mpr (Heap.lt_size a),by simp[q]⟩;have z:(gB h H).get? b=none:=PySem.W.hideAll_none (trk h H) hm;rw[z]at e;cases e
structure Mod (K:PySem.W.Frag) (mg:Str->Option Value) (base:Heap):Prop where
 kin:K.In base
 glob:base.Ns mainGlobals mg
 blt:∃mb,base.Ns builtinsNs mb/\∀x:Str,x≠"__name__"->mb x=bootBuiltins x
 nolimit:base.NoLimit
def ky:List Str:=[]
def TabOf (K:PySem.W.Frag) (P:Addr) (q:Str):Prop:=∃x∈ky,∃f oc od fd a c,PySem.W.nsIn K mainGlobals x=some (some (.ref f))/\K.lookup f=some ⟨oc,od,.func fd,a⟩/\fd.code=.ref c/\(∃o vs,K.lookup c=some o/\o.data=.fields vs/\vs[11]?=some (.ref P))/\q=x++".<locals>.<lambda>"
structure Cx where
 prog:Program
 w:World
 K:PySem.W.Frag
 mg:Str->Option Value
 base:Heap
 A:Around
 N:List Str
 s₀:Shared
 H₀:Hp
 env:Env
 outer:List Env
 stack:List Env
 ex:List Addr
 fn:Str->Bool
 calm:Bool
 pn:List (Addr×Obj)
 xe:Value->Shared->Prop
variable {X:Cx}
def frs (l:List Env):List Addr:=l.filterMap (·.frame)
abbrev Cx.fs (X:Cx):List Addr:=frs X.outer
def Vis (sc:Scope) (x:Str):Prop:=sc.names.lookup x=some .local\/sc.names.lookup x=some .cell\/sc.names.lookup x=some .free
def Loc (sc:Scope) (x:Str):Prop:=sc.names.lookup x=some .local\/sc.names.lookup x=some .cell
def Look (env:Env) (h:Heap) (m:Str->Option Value) (x:Str) (u:Value):Prop :=
 (env.kindOf x=some .local/\m x=some u)\/((env.kindOf x=some .cell\/env.kindOf x=some .free)/\∃c,env.cells.lookup x=some c/\h.IsCell c (some u))
def Cx.HdX (X:Cx):Prop:=X.A.handled=none\/∃e oe vs,X.A.handled=some (.ref e)/\(e,oe)∈X.pn/\oe.data=.fields vs/\vs[2]?=some .none
structure Cx.Ok (X:Cx):Prop where
 mod:Mod X.K X.mg X.base
 kind:X.env.scope.kind=.function
 glob:X.env.globals=mainGlobals
 blt:X.env.builtins=builtinsNs
 above:X.s₀.heap.objs.size<=X.env.locals
 inj:∀x y c,X.env.cells.lookup x=some c->X.env.cells.lookup y=some c->x=y
 has:∀x,(X.env.kindOf x=some .cell\/X.env.kindOf x=some .free)->∃c,X.env.cells.lookup x=some c
 cab:∀x c,X.fn x=true->X.env.cells.lookup x=some c->X.s₀.heap.objs.size<=c
 hd:X.calm=true->X.HdX
 frames:X.A.frames=some X.stack
 stk:X.stack=X.outer\/(X.stack=X.env::X.outer/\X.env.frame=some X.env.locals)
 exf:∀b∈X.ex,b≠X.env.locals/\∀x c,X.env.cells.lookup x=some c->c≠b
 bs:∀b o,X.base.get? b=some o->X.s₀.heap.get? b=some o/\X.H₀ b=none
 bsz:X.base.objs.size<=X.s₀.heap.objs.size
 noex:∀b o,X.base.get? b=some o->b∉X.ex
 exfs:∀b∈X.ex,b∉X.fs
 funs:X.s₀.heap.FunFrames X.base X.outer
 frf:∀b∈X.fs,X.H₀ b=none
structure Inv (X:Cx) (pins:List (Addr×Obj)) (σ:List (Option V)) (H:Hp) (s:Shared):Prop where
 ok:X.Ok
 os:s.os=X.s₀.os
 bare:AllBare s.gens
 base:Un X.fs X.ex X.H₀ H X.s₀.heap s.heap
 loc:∃m,s.heap.Ns X.env.locals m/\∀(i:Nat) (x:Str) (v:V),X.N[i]?=some x->σ[i]?=some (some v)->Vis X.env.scope x->∃u,RelV v u/\Look X.env s.heap m x u
 cell:∀x c,X.env.cells.lookup x=some c->∃v,s.heap.IsCell c v
 free:H X.env.locals=none
 freeC:∀x c,X.env.cells.lookup x=some c->H c=none
 pin:∀p∈X.pn++pins,s.heap.get? p.1=some p.2/\H p.1=none/\p.1≠X.env.locals/\p.1∉X.fs/\∀v,p.2.data≠.cell v
 hok:HOk X.prog X.w H s.heap
 len:σ.length=X.N.length
 tab:∀P q,TabOf X.K P q->H P=some (.tbl q)
section
variable {σ:List (Option V)} {H':Hp}
theorem Cx.Ok.nofr (ok:X.Ok) (e:X.base.get? b=some o):b∉X.fs:=λa=>by have:=(ok.funs.mem a).1;rw[e]at this;cases this
theorem Inv.bs (I:Inv X pins σ H s):∀b o,X.base.get? b=some o->s.heap.get? b=some o/\H b=none:=λb o e =>
 ⟨I.base.keep b o (I.ok.bs b o e).1 (I.ok.bs b o e).2 (I.ok.nofr e) (I.ok.noex b o e),I.base.free b o (I.ok.bs b o e).1 (I.ok.bs b o e).2 (I.ok.noex b o e)⟩
theorem Inv.bk (I:Inv X pins σ H s):∀b o,X.base.get? b=some o->s.heap.get? b=some o:=λb o e=>(I.bs b o e).1
theorem Inv.mod (I:Inv X pins σ H s):Mod X.K X.mg X.base:=I.ok.mod
theorem Inv.hdH (I:Inv X pins σ H s) (hc:X.calm=true):HdH X.A s.heap:=by
 rcases I.ok.hd hc with x|⟨e,oe,vs,a,b,c,f⟩
 ·exact .inl x
 ·exact .inr ⟨e,oe,vs,a,(I.pin (e,oe) (Aa _ b)).1,c,f⟩
theorem Inv.hdN (I:Inv X pins σ H s) (hc:X.calm=true) (h:∀p∈X.pn++pins,p.1≠it):∀e,X.A.handled=some (.ref e)->e≠it:=λe a=>by
 rcases I.ok.hd hc with x|⟨e',oe,vs,b,c,_⟩
 ·rw[x]at a;cases a
 ·rw[b]at a;cases a;exact h _ (Aa _ c)
theorem Inv.kIn (I:Inv X pins σ H s):X.K.In s.heap:=I.ok.mod.kin.keeps I.bk
theorem Inv.lt (I:Inv X pins σ H s):X.env.locals<s.heap.objs.size:=let ⟨_,hn,_⟩:=I.loc;hn.lt
theorem Inv.sz (I:Inv X pins σ H s):X.s₀.heap.objs.size<=s.heap.objs.size:=Ax I.ok.above (Nat.le_of_lt I.lt)
theorem Inv.nofs (I:Inv X pins σ H s) (h:s.heap.objs.size<=a):a∉X.fs:=λb=>by obtain⟨_,o,c,_⟩:=I.ok.funs.mem b;exact absurd (A9 (Heap.lt_size c) (Ax I.sz h)) (AA _)
theorem Inv.cne (I:Inv X pins σ H s):∀x c,X.env.cells.lookup x=some c->c≠X.env.locals:=λx c e z=>by obtain⟨v,o,f,hd⟩:=I.cell x c e;obtain⟨m,⟨o',es,ep,a,b,_⟩,_⟩:=I.loc;rw[z,a]at f;cases f;rw[b]at hd;cases hd
theorem Inv.funs (I:Inv X pins σ H s):s.heap.FunFrames X.base X.outer:=by
 have all:∀(l:List Env),(∀b∈frs l,b∈X.fs)->X.s₀.heap.FunFrames X.base l->s.heap.FunFrames X.base l:=by
  intro l
  induction l with
  |nil=>intro _ _;trivial
  |cons env r ih =>
   intro g hl;obtain⟨h,⟨L,o,a,hn,i,hd⟩,j⟩:=hl;have c:L∈X.fs:=g L (by unfold frs;rw[AM,a];exact List.mem_cons_self);obtain⟨sl,e⟩:=I.base.slot L o i (I.ok.frf L c) c λz=>I.ok.exfs L z c
   exact⟨h,⟨L,_,a,hn,e,hd⟩,ih (λb f=>g b (by unfold frs;rw[AM,a];exact Ab _ f)) j⟩
 exact all X.outer (λ_ f=>f) I.ok.funs
theorem Inv.stack (I:Inv X pins σ H s):s.heap.FunFrames X.base X.stack:=by
 rcases I.ok.stk with e|⟨e,a⟩
 ·rw[e];exact I.funs
 ·rw[e];obtain⟨m,hn,_⟩:=I.loc;refine .cons (by rw[I.ok.kind];decide) a hn ?_ I.funs;exact Heap.get?_none_of_le (Ax I.ok.bsz I.ok.above)
theorem Inv.stkSub (I:Inv X pins σ H s):∀b∈frs X.stack,b∈X.env.locals::X.fs:=λb a=>by
 rcases I.ok.stk with e|⟨e,c⟩
 ·rw[e]at a;exact Ab _ a
 ·rw[e]at a;unfold frs at a;rw[AM,c]at a;exact a
theorem Inv.stkFree (I:Inv X pins σ H s):∀b∈frs X.stack,H b=none:=λb a=>by
 rcases List.mem_cons.mp (I.stkSub b a) with e|a
 ·rw[e];exact I.free
 ·obtain⟨_,o,c,_⟩:=I.ok.funs.mem a;exact I.base.free b o c (I.ok.frf b a) λz=>I.ok.exfs b z a
theorem Inv.step {t':Nat} {d':Drawn} (I:Inv X pins σ H s)
  (f:∀b∈ch,(b∈X.ex\/X.s₀.heap.objs.size<=b)/\b≠X.env.locals/\(∀x c,X.env.cells.lookup x=some c->c≠b)/\∀p∈X.pn++pins,p.1≠b)
  (keep:∀b o,b≠X.env.locals->b∉X.fs->b∉ch->s.heap.get? b=some o->H b=none->h'.get? b=some o)
  (slot:∀b o,b≠X.env.locals->b∈X.fs->b∉ch->s.heap.get? b=some o->H b=none->∃B,h'.get? b=some { o with slots:=B }) (free:∀b o,b∉ch->s.heap.get? b=some o->H b=none->H' b=none)
  (there:∀b o,b∉ch->s.heap.get? b=some o->∃o',h'.get? b=some o')
  (tups:∀b xs,H b=some (.tup xs)->H' b=some (.tup xs)) (frzs:∀b o u,H b=some (.frz o u)->H' b=some (.frz o u)) (tbls:∀b q,H b=some (.tbl q)->H' b=some (.tbl q))
  (ns:∀m,s.heap.Ns X.env.locals m->h'.Ns X.env.locals m) (hok:HOk X.prog X.w H' h') (G:AllBare g') :
  Inv X pins σ H' { s with heap:=h',gens:=g',drawn:=d',toks:=t' }:=by
 have A:∀b o,X.s₀.heap.get? b=some o->b≠X.env.locals:=λb o e=>Nat.ne_of_lt (A9 (Heap.lt_size e) I.ok.above)
 have h:∀b o,X.s₀.heap.get? b=some o->b∉X.ex->b∉ch:=λb o e a j=>by
  rcases (f b j).1 with z|z
  ·exact a z
  ·exact absurd (A9 (Heap.lt_size e) z) (AA _)
 have cellK:∀x c,X.env.cells.lookup x=some c->∀v,s.heap.IsCell c v->h'.IsCell c v:=λx c e v C=>by
  obtain⟨o,y,hd⟩:=C;have g:c∉ch:=λz=>(f c z).2.2.1 x c e rfl
  by_cases hc:c∈X.fs
  ·obtain⟨B,q⟩:=slot c o (I.cne x c e) hc g y (I.freeC x c e);exact⟨_,q,hd⟩
  ·exact⟨o,keep c o (I.cne x c e) hc g y (I.freeC x c e),hd⟩
 refine⟨I.ok,I.os,G,⟨λb o e n j a=>?_,λb o e n j a=>?_,λb o e n a=>?_,λb o e a=>?_,λb xs e=>tups b xs (I.base.tups b xs e),λb o xs e=>frzs b o xs (I.base.frzs b o xs e),λb ps e=>?_⟩,?_,λx c e=>?_,?_,λx c e=>?_,λp E=>?_,hok,I.len,λP q t=>tbls P q (I.tab P q t)⟩
 ·exact keep b o (A b o e) j (h b o e a) (I.base.keep b o e n j a) (I.base.free b o e n a)
 ·obtain⟨B,e1⟩:=I.base.slot b o e n j a;obtain⟨D,e2⟩:=slot b _ (A b o e) j (h b o e a) e1 (I.base.free b o e n a);exact⟨D,e2⟩
 ·obtain⟨o',e1⟩:=I.base.there b o e a;exact free b o' (h b o e a) e1 (I.base.free b o e n a)
 ·obtain⟨o',e1⟩:=I.base.there b o e a;exact there b o' (h b o e a) e1
 ·exact tbls b _ (I.base.tbls b ps e)
 ·obtain⟨m,hn,hl⟩:=I.loc;refine⟨m,ns m hn,λi x v e1 e2 J=>?_⟩;obtain⟨u,r,l⟩:=hl i x v e1 e2 J;refine⟨u,r,?_⟩;rcases l with l|⟨k,c,e,z⟩
  ·exact .inl l
  ·exact .inr ⟨k,c,e,cellK x c e _ z⟩
 ·obtain⟨v,z⟩:=I.cell x c e;exact⟨v,cellK x c e v z⟩
 ·obtain⟨m,⟨o,_,_,y,_⟩,_⟩:=I.loc;exact free _ o (λz=>(f _ z).2.1 rfl) y I.free
 ·obtain⟨v,o,y,hd⟩:=I.cell x c e;exact free c o (λz=>(f c z).2.2.1 x c e rfl) y (I.freeC x c e)
 ·obtain⟨e,n,ne,F,d⟩:=I.pin p E;have g:p.1∉ch:=λz=>(f p.1 z).2.2.2 p E rfl
  exact⟨keep p.1 p.2 ne F g e n,free p.1 p.2 g e n,ne,F,d⟩
theorem Inv.un {t':Nat} (I:Inv X pins σ H s) (u:Un X.fs [] H H' s.heap h') (hok:HOk X.prog X.w H' h'):Inv X pins σ H' { s with heap:=h',toks:=t' }:=by obtain⟨m,⟨o,es,ep,h,r⟩,_⟩:=id I.loc;obtain⟨sl,i⟩:=u.any h I.free (by simp);exact I.step (g':=s.gens) (d':=s.drawn) (ch:=[]) (λ_ z=>nomatch z) (λb o _ c _ e n=>u.keep b o e n c (by simp)) (λb o _ c _ e n=>u.slot b o e n c (by simp)) (λb o _ e n=>u.free b o e n (by simp)) (λb o _ e=>u.there b o e (by simp)) u.tups u.frzs u.tbls (λm' hm=>by obtain⟨o',f,g,a,j⟩:=hm;rw[h]at a;cases a;exact⟨_,f,g,i,j⟩) hok I.bare
theorem Inv.call {t':Nat} {d':Drawn} (I:Inv X pins σ H s) (u:Un (frs X.stack) ch H H' s.heap h') (hok:HOk X.prog X.w H' h') (k:AllBare g')
  (a:∀b∈ch,(b∈X.ex\/X.s₀.heap.objs.size<=b)/\b≠X.env.locals/\(∀x c,X.env.cells.lookup x=some c->c≠b)/\∀p∈X.pn++pins,p.1≠b) :
  Inv X pins σ H' { s with heap:=h',gens:=g',drawn:=d',toks:=t' }:=by
 obtain⟨m,⟨o,es,ep,j,r⟩,_⟩:=id I.loc;obtain⟨sl,g⟩:=u.any j I.free λz=>(a _ z).2.1 rfl
 exact I.step (ch:=ch) a (λb o g l hc e n=>u.keep b o e n (λz=>(List.mem_cons.mp (I.stkSub b z)).elim g l) hc) (λb o _ _ hc e n=>u.any e n hc) (λb o hc e n=>u.free b o e n hc) (λb o hc e=>u.there b o e hc) u.tups u.frzs u.tbls (λm' hm=>by obtain⟨o',h,i,f,q⟩:=hm;rw[j]at f;cases f;exact⟨_,h,i,g,q⟩) hok k
theorem Inv.turned {t':Nat} (I:Inv X pins σ H s) (k:∀b o,b≠it->s.heap.get? b=some o->h'.get? b=some o) (hn:H it=none) (f:it≠X.env.locals)
  (h1:it∈X.ex\/X.s₀.heap.objs.size<=it) (h2:∀x c,X.env.cells.lookup x=some c->c≠it) (g:∀p∈X.pn++pins,p.1≠it):Inv X pins σ H { s with heap:=h',toks:=t' }:=by
 have a:∀b u,H b=some u->b≠it:=λb u e z=>by rw[z,hn]at e;cases e
 refine I.step (g':=s.gens) (d':=s.drawn) (ch:=[it]) (λb h=>?_) (λb o _ _ hc e _=>k b o (λz=>hc (by simp[z])) e) (λb o _ _ hc e _=>⟨o.slots,k b o (λz=>hc (by simp[z])) e⟩) (λ_ _ _ _ n=>n)
  (λb o hc e=>⟨o,k b o (λz=>hc (by simp[z])) e⟩) (λ_ _ e=>e) (λ_ _ _ e=>e) (λb ps e=>e) (λm hm=>?_) (λb u e=>?_) I.bare
 ·have e:b=it:=by simpa using h
  subst e;exact⟨h1,f,h2,g⟩
 ·obtain⟨o,es,i,j,r⟩:=hm;exact⟨o,es,i,k _ o (Ne.symm f) j,r⟩
 ·refine (I.hok b u e).stay (λc v hc q=>k c v ?_ q) (λ_ q=>q) λ_ _ q=>q
  rcases hc with z|z
  ·rw[z];exact a b u e
  ·exact a c _ z
theorem Inv.tok (I:Inv X pins σ H s) (t:Nat):Inv X pins σ H { s with toks:=t }:=I.un (h':=s.heap) (t':=t) Un.refl I.hok
theorem Inv.kept {t':Nat} (I:Inv X pins σ H s) (k:∀b u,s.heap.get? b=some u->h'.get? b=some u):Inv X pins σ H { s with heap:=h',toks:=t' }:=I.un (Un.kept k) (I.hok.kept k)
theorem Inv.laid {o:HO} {t':Nat} (I:Inv X pins σ H s) (k:∀b u,s.heap.get? b=some u->h'.get? b=some u) (c:s.heap.objs.size<=a) (new:cc X.prog X.w (upd H a o) h' a o) :
 Inv X pins σ (upd H a o) { s with heap:=h',toks:=t' }:=I.un (Un.laid k c (I.hok.fresh c)) (I.hok.laid k c new)
theorem Inv.write {x e:Addr} {o:HO} {t':Nat} (I:Inv X pins σ H s) (c:Mut (H x)) (f:e=x\/H e=some (.own x)) (k:∀b u,b≠e->s.heap.get? b=some u->h'.get? b=some u) (a:∃u,h'.get? e=some u)
 (new:cc X.prog X.w (upd H x o) h' x o):Inv X pins σ (upd H x o) { s with heap:=h',toks:=t' }:=I.un (Un.write c f k a) (I.hok.write c f k a new)
theorem Inv.pins_of {a:List (Addr×Obj)} (I:Inv X pins σ H s) (h:∀p∈a,s.heap.get? p.1=some p.2/\H p.1=none/\p.1≠X.env.locals/\p.1∉X.fs/\∀v,p.2.data≠.cell v):Inv X a σ H s :=
 ⟨I.ok,I.os,I.bare,I.base,I.loc,I.cell,I.free,I.freeC,λp b=>(Ac.mp b).elim (λz=>I.pin p (Aa _ z)) (h p),I.hok,I.len,I.tab⟩
theorem jo (c:N.Nodup) (a:N[i]?=some x) (b:N[j]?=some x):i=j:=by obtain⟨h1,e1⟩:=Aq.mp a;obtain⟨h2,e2⟩:=Aq.mp b;exact (List.getElem_inj c).mp (e1.trans e2.symm)
theorem lX {v:V} (I:Inv X pins σ H s) (hN:X.N.Nodup) (hi:X.N[i]?=some x) (g:Loc X.env.scope x) (r:RelV v u)
  (h:∀s',Inv X pins (σ.set i (some v)) H s'->(∃a,Heap.SameBut a s.heap s'.heap/\(a=X.env.locals\/X.env.cells.lookup x=some a))->Q () s') (hf:X.fn x=true\/X.env.scope.names.lookup x=some .local:=by first|exact .inl rfl|exact .inr rfl|assumption):wpAny M A (storeName X.env x u) Q E s:=by
 obtain⟨m,hn,hl⟩:=id I.loc;have F:(X.env.scope.kind==.class||(X.env.scope.kind==.module&&X.env.locals != X.env.globals))=false:=by rw[I.ok.kind];rfl
 have t:i<σ.length:=by rw[I.len];exact (Aq.mp hi).1
 have cne:=I.cne;have tracked:∀{a:Addr} {h':Heap},(∃o,s.heap.get? a=some o/\H a=none)->Heap.SameBut a s.heap h'->HOk X.prog X.w H h':=λ{a h'} ha f b ob e=>by
  obtain⟨_,_,l⟩:=ha;refine (I.hok b ob e).stay (λc L hc q=>(f.2 c ?_).trans q) (λ_ q=>q) λ_ _ q=>q
  rintro rfl
  rcases hc with rfl|hc
  ·rw[l]at e;cases e
  ·rw[l]at hc;cases hc
 rcases g with B|B
 ·refine wpAny_storeName_local B hn (λh' P f=>?_) F;obtain⟨oL,_,_,R,_⟩:=id hn;refine h _ ⟨I.ok,I.os,I.bare,⟨λb o e n C g=>?_,λb o e n C g=>?_,I.base.free,λb o e g=>?_,I.base.tups,I.base.frzs,I.base.tbls⟩,⟨_,P,λj y S e1 e2 T=>?_⟩,λy c e=>?_,I.free,I.freeC,λp U=>?_,tracked ⟨oL,R,I.free⟩ f,by simpa using I.len,I.tab⟩ ⟨_,f,.inl rfl⟩
  ·exact (f.2 b (Nat.ne_of_lt (A9 (Heap.lt_size e) I.ok.above))).trans (I.base.keep b o e n C g)
  ·obtain⟨W,e1⟩:=I.base.slot b o e n C g;exact⟨W,(f.2 b (Nat.ne_of_lt (A9 (Heap.lt_size e) I.ok.above))).trans e1⟩
  ·obtain⟨o',e1⟩:=I.base.there b o e g;exact⟨o',(f.2 b (Nat.ne_of_lt (A9 (Heap.lt_size e) I.ok.above))).trans e1⟩
  ·by_cases hj:j=i
   ·subst hj;rw[hi]at e1;cases e1;rw[Ao t]at e2;cases e2;exact⟨u,r,.inl ⟨B,by simp⟩⟩
   ·rw[Ai (Ne.symm hj)]at e2;obtain⟨Y,Z,q⟩:=hl j y S e1 e2 T;refine⟨Y,Z,?_⟩;rcases q with⟨k,e⟩|⟨k,c,e,z⟩
    ·refine .inl ⟨k,?_⟩;have:y≠x:=λe=>hj (jo hN e1 (e▸hi))
     simp[this,e]
    ·exact .inr ⟨k,c,e,z.sameBut f (cne y c e)⟩
  ·obtain⟨L,z⟩:=I.cell y c e;exact⟨L,z.sameBut f (cne y c e)⟩
  ·obtain⟨e,n,ne,nf,d⟩:=I.pin p U;exact⟨(f.2 p.1 ne).trans e,n,ne,nf,d⟩
 ·have D:X.fn x=true:=by
   rcases hf with z|z
   ·exact z
   ·rw[z]at B;cases B
  obtain⟨c,hc⟩:=I.ok.has x (.inl B);obtain⟨L,z⟩:=I.cell x c hc;refine wpAny_storeName_cell I.ok.kind B hc z (λh' G f=>?_);obtain⟨oc,J,K⟩:=id z;refine h { s with heap:=h' } ⟨I.ok,I.os,I.bare,⟨λb o e n C g=>?_,λb o e n C g=>?_,I.base.free,λb o e g=>?_,I.base.tups,I.base.frzs,I.base.tbls⟩,⟨m,hn.sameBut f (Ne.symm (cne x c hc)),λj y S e1 e2 T=>?_⟩,λy O e=>?_,I.free,I.freeC,λp U=>?_,tracked ⟨oc,J,I.freeC x c hc⟩ f,by simpa using I.len,I.tab⟩ ⟨c,f,.inr hc⟩
  ·exact (f.2 b (Nat.ne_of_lt (A9 (Heap.lt_size e) (I.ok.cab x c D hc)))).trans (I.base.keep b o e n C g)
  ·obtain⟨W,e1⟩:=I.base.slot b o e n C g;exact⟨W,(f.2 b (Nat.ne_of_lt (A9 (Heap.lt_size e) (I.ok.cab x c D hc)))).trans e1⟩
  ·obtain⟨o',e1⟩:=I.base.there b o e g;exact⟨o',(f.2 b (Nat.ne_of_lt (A9 (Heap.lt_size e) (I.ok.cab x c D hc)))).trans e1⟩
  ·by_cases hj:j=i
   ·subst hj;rw[hi]at e1;cases e1;rw[Ao t]at e2;cases e2;exact⟨u,r,.inr ⟨.inl B,c,hc,G⟩⟩
   ·rw[Ai (Ne.symm hj)]at e2;obtain⟨Y,Z,q⟩:=hl j y S e1 e2 T;refine⟨Y,Z,?_⟩;rcases q with q|⟨k,O,e,z'⟩
    ·exact .inl q
    ·refine .inr ⟨k,O,e,z'.sameBut f ?_⟩
     rintro rfl
     exact hj (jo hN e1 (I.ok.inj _ _ _ e hc▸hi))
  ·by_cases hcc:O=c
   ·subst hcc;exact⟨_,G⟩
   ·obtain⟨w2,z2⟩:=I.cell y O e;exact⟨w2,z2.sameBut f hcc⟩
  ·obtain⟨e,n,ne,nf,d⟩:=I.pin p U;refine⟨(f.2 p.1 ?_).trans e,n,ne,nf,d⟩;intro q;rw[q,J]at e;have q':oc=p.2:=Option.some.inj e;exact d L (by rw[<-q'];exact K)
theorem fK {v:V} (I:Inv X pins σ H s) (a:X.N.Nodup) (hi:X.N[i]?=some x) (b:Loc X.env.scope x) (r:RelV v u)
  (h:∀s',Inv X pins (σ.set i (some v)) H s'->Q () s') (c:X.fn x=true\/X.env.scope.names.lookup x=some .local:=by first|exact .inl rfl|exact .inr rfl|assumption):wpAny M A (storeName X.env x u) Q E s :=
 lX I a hi b r (λs' e _=>h s' e) c
theorem Inv.call' (I:Inv X pins σ H s) (f:s'.os=s.os) (u:Un (frs X.stack) ch H H' s.heap s'.heap) (hok:HOk X.prog X.w H' s'.heap) (g:AllBare s'.gens)
  (a:∀b∈ch,(b∈X.ex\/X.s₀.heap.objs.size<=b)/\b≠X.env.locals/\(∀x c,X.env.cells.lookup x=some c->c≠b)/\∀p∈X.pn++pins,p.1≠b):Inv X pins σ H' s':=by
 obtain⟨h',g',d',t',o'⟩:=s';have e:o'=s.os:=f;subst e;exact I.call (g':=g') (t':=t') (d':=d') u hok g a
end
abbrev XK:=Value->Option Addr->Hp->Prop
abbrev St:=List (Option V)
variable {σ:St}
abbrev VK:=V->Hp->Prop
abbrev TE:=St->Hp->VK->Prop
variable {t:TE}
abbrev TT:=St->Hp->(Bool->Hp->Prop)->Prop
abbrev TA:=St->Hp->(List V->Hp->Prop)->Prop
structure Ends where
 nx:St->Hp->Prop
 rt:VK
 bk:St->Hp->Prop:=λ_ _=>False
 ct:St->Hp->Prop:=λ_ _=>False
abbrev TS:=Ends->St->Hp->Prop
def EP (X:Cx) (pins:List (Addr×Obj)) (σ:St) (Q:VK) (u:Value) (s':Shared):Prop:=∃v H',Inv X pins σ H' s'/\RelV v u/\Q v H'
def TP (X:Cx) (pins:List (Addr×Obj)) (σ:St) (Q:Bool->Hp->Prop) (b:Bool) (s':Shared):Prop:=∃H',Inv X pins σ H' s'/\Q b H'
def AP (X:Cx) (pins:List (Addr×Obj)) (σ:St) (Q:List V->Hp->Prop) (us:List Value) (s':Shared):Prop:=∃vs H',Inv X pins σ H' s'/\Vals vs us/\Q vs H'
def SP (X:Cx) (pins:List (Addr×Obj)) (D:Ends) (f:Flow) (s':Shared):Prop :=
 match f with
 |.next=>∃a H',Inv X pins a H' s'/\D.nx a H'
 |.brk=>∃a H',Inv X pins a H' s'/\D.bk a H'
 |.cont=>∃a H',Inv X pins a H' s'/\D.ct a H'
 |.ret u=>∃v a H',Inv X pins a H' s'/\RelV v u/\D.rt v H'
def PE (X:Cx) (e:Expr) (t:TE):Prop :=
 ∀(pins:List (Addr×Obj)) (s:Shared) (σ:St) (H:Hp) (Q:VK),Inv X pins σ H s->t σ H Q->wpAny (model X.prog X.w) X.A (eval e X.env) (EP X pins σ Q) X.xe s
def PT (X:Cx) (e:Expr) (t:TT):Prop :=
 ∀(pins:List (Addr×Obj)) (s:Shared) (σ:St) (H:Hp) (Q:Bool->Hp->Prop),Inv X pins σ H s->t σ H Q->wpAny (model X.prog X.w) X.A (isTrue e X.env (eval e X.env)) (TP X pins σ Q) X.xe s
def PW (X:Cx) (e:Expr) (t:TT):Prop :=
 ∀(whole:Sem Value) (pins:List (Addr×Obj)) (s:Shared) (σ:St) (H:Hp) (Q:Bool->Hp->Prop),Inv X pins σ H s->t σ H Q->wpAny (model X.prog X.w) X.A (isTrue e X.env whole) (TP X pins σ Q) X.xe s
theorem PW.pt {t:TT} (h:PW X e t):PT X e t:=h _
def PA (X:Cx) (es:List Expr) (t:TA):Prop :=
 ∀(pos:Pos) (pins:List (Addr×Obj)) (s:Shared) (σ:St) (H:Hp) (Q:List V->Hp->Prop),Inv X pins σ H s->t σ H Q->wpAny (model X.prog X.w) X.A (spliced (backTo pos (starEach es X.env))) (AP X pins σ Q) X.xe s
def PS (X:Cx) (st:Stmt) (t:TS):Prop :=
 ∀(pins:List (Addr×Obj)) (s:Shared) (σ:St) (H:Hp) (D:Ends),Inv X pins σ H s->t D σ H->wpAny (model X.prog X.w) X.A (exec st X.env) (SP X pins D) X.xe s
def PSs (X:Cx) (st:List Stmt) (t:TS):Prop :=
 ∀(pins:List (Addr×Obj)) (s:Shared) (σ:St) (H:Hp) (D:Ends),Inv X pins σ H s->t D σ H->wpAny (model X.prog X.w) X.A (execs st X.env) (SP X pins D) X.xe s
theorem thn {t:Sem α} {Q b:α->Shared->Prop} (h:wpAny M A t Q E s) (c:∀a s,Q a s->b a s):wpAny M A t b E s:=wpAny_mono h c λ_ _ x=>x
section
theorem bin {a b:Expr} {ta tb:TE} (ha:PE X a ta) (i:PE X b tb) (I:Inv X pins σ H s) (h:ta σ H λx H1=>tb σ H1 λy H2=>R x y H2)
  {Q:α->Shared->Prop} {f:Value->Value->Sem α}
  (j:∀v u s2 x y H2,Inv X pins σ H2 s2->RelV x v->RelV y u->R x y H2->wpAny (model X.prog X.w) X.A (f v u) Q X.xe s2) :
  wpAny (model X.prog X.w) X.A (eval a X.env) (λv e=>wpAny (model X.prog X.w) X.A (eval b X.env) (λu g=>wpAny (model X.prog X.w) X.A (f v u) Q X.xe g) X.xe e) X.xe s:=by
 refine thn (ha pins s σ H _ I h) λv k c=>?_
 obtain⟨x,H1,l,m,n⟩:=c;refine thn (i pins k σ H1 _ l n) λu s2 c=>?_
 obtain⟨y,H2,o,p,q⟩:=c;exact j v u s2 x y H2 o m p q
def tH (i:Nat):TE:=λσ H Q=>∃v,σ[i]?=some (some v)/\Q v H
def tC (v:V):TE:=λ_ H Q=>Q v H
theorem eP (g:X.N[i]?=some x) (j:Vis X.env.scope x) (hd:(x==("__debug__":Str))=false:=by decide) (f:(x==("__classdict__":Str))=false:=by decide):PE X (.Name x pos) (tH i):=by
 intro pins s σ H Q I h;obtain⟨v,e,h⟩:=h;obtain⟨m,hn,hl⟩:=I.loc;obtain⟨u,r,l⟩:=hl i x v g e j;have fin:EP X pins σ Q u s:=⟨v,H,I,r,h⟩
 rcases l with⟨b,hm⟩|⟨b,c,hc,a⟩
 ·exact wpAny_Name (wpAny_loadName_local I.ok.kind b hn hm fin) hd
 ·rcases b with b|b
  ·exact wpAny_Name (wpAny_loadName_cell I.ok.kind b hc a fin) hd
  ·exact wpAny_Name (wpAny_loadName_free I.ok.kind b hc a fin f) hd
theorem c7 {i j pos}:PE X (.Constant (.int i) j pos) (tC (.int i)):=λ_ _ _ H _ I h=>wpAny_Constant_int ⟨.int i,H,I.tok _,⟨_,rfl⟩,h⟩
theorem tN {b j pos}:PE X (.Constant (.bool b) j pos) (tC (.bl b)):=λ_ _ _ H _ I h=>Constant_bool ⟨.bl b,H,I,rfl,h⟩
theorem rX {j pos}:PE X (.Constant .none j pos) (tC .non):=λ_ _ _ H _ I h=>Constant_none ⟨.non,H,I,rfl,h⟩
theorem qt {x j pos}:PE X (.Constant (.str x) j pos) (tC (.str x)):=λ_ _ _ H _ I h=>Calls.Constant_str ⟨.str x,H,I.tok _,⟨_,rfl⟩,h⟩
def Gl (X:Cx) (x:Str):Prop:=X.env.kindOf x=some .globalImplicit
theorem dW {Q:Value->Shared->Prop} (I:Inv X pins σ H s) (a:Gl X x) (hm:X.mg x=some u) (h:Q u s)
  (hd:(x==("__debug__":Str))=false:=by decide):wpAny (model X.prog X.w) X.A (eval (.Name x pos) X.env) Q E s :=
 Calls.Name_function_global I.ok.kind a (Calls.loadGlobal_global (by rw[I.ok.glob];exact I.mod.glob.keeps I.bk) hm h) hd
theorem iS {Q:Value->Shared->Prop} (I:Inv X pins σ H s) (a:Gl X x) (hm:X.mg x=none) (b:bootBuiltins x=some u) (h:Q u s)
  (hn:x≠"__name__":=by decide) (hd:(x==("__debug__":Str))=false:=by decide):wpAny (model X.prog X.w) X.A (eval (.Name x pos) X.env) Q E s:=by
 obtain⟨mb,h1,h2⟩:=I.mod.blt;exact Calls.Name_function_global I.ok.kind a (Calls.loadGlobal_builtin (by rw[I.ok.glob];exact I.mod.glob.keeps I.bk) hm (by rw[I.ok.blt];exact h1.keeps I.bk) ((h2 x hn).trans b) h) hd
theorem iK {v:V} (a:Gl X x) (hm:X.mg x=some u) (r:RelV v u) (hd:(x==("__debug__":Str))=false:=by decide):PE X (.Name x pos) (tC v) :=
 λ_ _ _ H _ I h=>dW I a hm ⟨v,H,I,r,h⟩ hd
theorem kF {v:V} (a:Gl X x) (hm:X.mg x=none) (b:bootBuiltins x=some u) (r:RelV v u) (hn:x≠"__name__":=by decide) (hd:(x==("__debug__":Str))=false:=by decide):PE X (.Name x pos) (tC v) :=
 λ_ _ _ H _ I h=>iS I a hm b ⟨v,H,I,r,h⟩ hn hd
def t2I (ta tb:TE) (k:Int->Int->Hp->Prop):St->Hp->Prop:=λσ H=>ta σ H λx H1=>tb σ H1 λy H2=>∃i j,x=.int i/\y=.int j/\k i j H2
variable {a b:Expr} {ta tb:TE}
def PC (X:Cx) (f:CmpOp) (a b:Expr) (t:TE):Prop :=
 ∀(pins:List (Addr×Obj)) (s:Shared) (σ:St) (H:Hp) (Q:VK),Inv X pins σ H s->t σ H Q ->
  wpAny (model X.prog X.w) X.A (eval a X.env) (λv c=>wpAny (model X.prog X.w) X.A (eval b X.env) (λu e=>wpAny (model X.prog X.w) X.A (compareOp f v u) (EP X pins σ Q) X.xe e) X.xe c) X.xe s
theorem jb (b:Expr) {a:CmpOp} (h:a≠.In) (h2:a≠.NotIn):behindInMarks a b=false:=by
 have e1:(a==CmpOp.In)=false:=by cases a <;> first|rfl|exact absurd rfl h
 have e2:(a==CmpOp.NotIn)=false:=by cases a <;> first|rfl|exact absurd rfl h2
 cases b <;> simp[behindInMarks,e1,e2]
def t6 (p:Int->Int->Bool) (ta tb:TE):TE:=λσ H Q=>t2I ta tb (λi j H2=>Q (.bl (p i j)) H2) σ H
abbrev tLt:TE->TE->TE:=t6 λi j=>decide (i<j)
theorem sy {c:CmpOp} {p:Int->Int->Bool} (ha:PE X a ta) (e:PE X b tb)
  (rule:∀(i j:Int) (t u:Tok) (Q:Value->Shared->Prop) (s:Shared),Q (.bool (p i j)) s->wpAny (model X.prog X.w) X.A (compareOp c (.int i t) (.int j u)) Q X.xe s):PC X c a b (t6 p ta tb):=by
 intro pins s σ H Q I h;refine bin ha e I h λv u s2 x y H2 f g k q=>?_
 obtain⟨i,j,rfl,rfl,q⟩:=q;obtain⟨t,rfl⟩:=g;obtain⟨t',rfl⟩:=k;exact rule i j t t' _ s2 ⟨.bl _,H2,f,rfl,q⟩
theorem sX (ha:PE X a ta) (c:PE X b tb):PC X .Lt a b (tLt ta tb):=sy ha c λ_ _ _ _ _ _ h=>lt_int h
def vi (ta:TE):TE:=λσ H Q=>ta σ H λx H1=>Q (.bl (decide (x=.non))) H1
theorem RelV.none_iff {x:V} {v:Value} (r:RelV x v):(v==Value.none)=decide (x=.non):=by
 cases x with
 |non=>cases r;rfl
 |bl _=>cases r;rfl
 |int _=>obtain⟨t,rfl⟩:=r;rfl
 |str _=>obtain⟨t,rfl⟩:=r;rfl
 |byt _=>obtain⟨t,rfl⟩:=r;rfl
 |flt _=>obtain⟨t,rfl⟩:=r;rfl
 |ref _=>cases r;rfl
 |ty _=>cases r;rfl
theorem qz {j pos'} (ha:PE X a ta):PC X .Is a (.Constant .none j pos') (vi ta):=by
 intro pins s σ H Q I h;refine thn (ha pins s σ H _ I h) λv s1 b=>?_
 obtain⟨x,H1,c,e,f⟩:=b;exact Constant_none (is_none_gen ⟨.bl _,H1,c,by rw[e.none_iff];rfl,f⟩)
def tB (t:TE):TT:=λσ H Q=>t σ H λx H1=>∃c,x=.bl c/\Q c H1
theorem qm {c:CmpOp} (h:PC X c a b t) (h1:behindInMarks c b=false:=by first|exact jb _ (by decide) (by decide)|rfl):PE X (.Compare a [c] [b] pos) t:=λpins s σ H Q I hw=>wpAny_Compare1 (h pins s σ H Q I hw) h1
theorem sf {e:CmpOp} (h:PC X e a b t) (h1:behindInMarks e b=false:=by first|exact jb _ (by decide) (by decide)|rfl):PT X (.Compare a [e] [b] pos) (tB t):=by intro pins s σ H Q I hw;refine wpAny_isTrue_Compare1 (thn (h pins s σ H _ I hw) λv s1 h1=>thn h1 λu s2 h2=>thn h2 λc s3 f=>?_) h1;obtain⟨x,H1,g,i,j⟩:=f;obtain⟨d,rfl,q⟩:=j;cases i;exact wpAny_truthy_bool ⟨H1,g,q⟩
theorem qS (h:PE X e t) (b:∀whole,isTrue e X.env whole=(do let v <-whole;standAt e.pos;holding [v] (truthy v)):=by intro _;rfl):PT X e (tB t):=by intro pins s σ H Q I hw;refine isTrue_plain (thn (h pins s σ H _ I hw) λv s1 a=>?_) (b _);obtain⟨x,H1,c,f,g⟩:=a;obtain⟨d,rfl,q⟩:=g;cases f;exact wpAny_truthy_bool ⟨H1,c,q⟩
variable {tA tB':TT} {rest:List Expr}
def tOr (t u:TT):TT:=λσ H Q=>t σ H λc H1=>if c=true then Q true H1 else u σ H1 Q
def uX (t:TT):TT:=λσ H Q=>t σ H λc H1=>Q (!c) H1
theorem sH (ha:PT X a tA):PW X (.BoolOp .Or [a] pos) tA:=by
 intro wh pins s σ H Q I h;refine isTrue_or (thn (ha pins s σ H Q I h) λc s1 e=>?_);cases c with
 |false=>exact isTrue_or_nil e
 |true=>exact e
theorem ug (ha:PT X a tA) (i:PW X (.BoolOp .Or (b::rest) pos) tB'):PW X (.BoolOp .Or (a::b::rest) pos) (tOr tA tB'):=by
 intro j pins s σ H Q I h;refine isTrue_or (thn (ha pins s σ H _ I h) λc k e=>?_);obtain⟨H1,f,g⟩:=e;cases c with
 |true=>exact⟨H1,f,g⟩
 |false=>exact i j pins k σ H1 Q f g
theorem qJ (ha:PT X a tA):PT X (.UnaryOp .Not a pos) (uX tA):=by intro pins s σ H Q I h;exact isTrue_not (ha pins s σ H (λc H1=>Q (!c) H1) I h)
def tL (ta tb:TE):TE:=λσ H Q=>ta σ H λx H1=>∃c,x=.bl c/\if c=true then tb σ H1 Q else Q (.bl false) H1
def uL (ta tb:TE):TE:=λσ H Q=>ta σ H λx H1=>∃c,x=.bl c/\if c=true then Q (.bl true) H1 else tb σ H1 Q
def t4 (ta:TE):TE:=λσ H Q=>ta σ H λx H1=>∃c,x=.bl c/\Q (.bl (!c)) H1
theorem nA {op} (h:PE X a t):PE X (.BoolOp op [a] pos) t:=λpins s σ H Q I hw=>BoolOp_one (h pins s σ H Q I hw)
theorem mP (ha:PE X a ta) (i:PE X (.BoolOp .And (b::rest) pos) tb):PE X (.BoolOp .And (a::b::rest) pos) (tL ta tb):=by
 intro pins s σ H Q I h;refine BoolOp_and (thn (ha pins s σ H _ I h) λv j f=>?_);obtain⟨x,H1,g,k,e⟩:=f;obtain⟨c,rfl,e⟩:=e;cases k;refine wpAny_truthy_bool ?_;cases c with
 |true=>exact i pins j σ H1 Q g e
 |false=>exact⟨.bl false,H1,g,rfl,e⟩
theorem uC (ha:PE X a ta) (i:PE X (.BoolOp .Or (b::rest) pos) tb):PE X (.BoolOp .Or (a::b::rest) pos) (uL ta tb):=by
 intro pins s σ H Q I h;refine BoolOp_or (thn (ha pins s σ H _ I h) λv j f=>?_);obtain⟨x,H1,g,k,e⟩:=f;obtain⟨c,rfl,e⟩:=e;cases k;refine wpAny_truthy_bool ?_;cases c with
 |false=>exact i pins j σ H1 Q g e
 |true=>exact⟨.bl true,H1,g,rfl,e⟩
theorem sP (ha:PE X a ta):PE X (.UnaryOp .Not a pos) (t4 ta):=by intro pins s σ H Q I h;refine UnaryOp_ (thn (ha pins s σ H _ I h) λv s1 b=>?_);obtain⟨x,H1,f,g,e⟩:=b;obtain⟨c,rfl,e⟩:=e;cases g;exact not_of (wpAny_truthy_bool ⟨.bl (!c),H1,f,rfl,e⟩)
end
def SqL (K:PySem.W.Frag) (H:Hp) (a:Addr) (xs:List V):Prop :=
 Rd H a (.lst xs) \/
  ∃(o:Obj) (b:Array Value) (n:Nat),K.lookup a=some o/\o.cls=.type "list"/\o.dict=none/\o.data=.seq b n/\b.size<=sizeLine/\Vals xs b.toList
def SqT (K:PySem.W.Frag) (H:Hp) (a:Addr) (xs:List V):Prop :=
 Rd H a (.tup xs) \/
  ∃(o:Obj) (b:Array Value) (n:Nat),K.lookup a=some o/\o.cls=.type "tuple"/\o.data=.seq b n/\b.size<=sizeLine/\Vals xs b.toList
def uT:Value->Option V
 |.none=>some .non
 |.bool b=>some (.bl b)
 |.int i _=>some (.int i)
 |.str x _=>some (.str x)
 |.bytes b _=>some (.byt b)
 |.float b _=>some (.flt b)
 |.ref a=>some (.ref a)
 |.type n=>some (.ty n)
 |_=>none
theorem RelV.abs {x:V} (r:RelV x u):uT u=some x:=by
 cases x with
 |non=>cases r;rfl
 |bl _=>cases r;rfl
 |int _=>obtain⟨t,rfl⟩:=r;rfl
 |str _=>obtain⟨t,rfl⟩:=r;rfl
 |byt _=>obtain⟨t,rfl⟩:=r;rfl
 |flt _=>obtain⟨t,rfl⟩:=r;rfl
 |ref _=>cases r;rfl
 |ty _=>cases r;rfl
theorem RelV.inj {x y:V} (r:RelV x u) (q:RelV y u):x=y:=Option.some.inj (r.abs.symm.trans q.abs)
theorem Vals.inj {ys:List V} (h:Vals xs us) (h':Vals ys us):xs=ys:=by
 induction h generalizing ys with
 |nil=>cases h';rfl
 |cons r t ih =>
  cases h' with
  |cons r' t'=>rw[r.inj r',ih t']
section
variable {ys:List V}
theorem SqL.of (h:H a=some (.lst xs)):SqL K H a xs:=.inl (.inl h)
theorem SqT.of (h:H a=some (.tup xs)):SqT K H a xs:=.inl (.inl h)
theorem Inv.list (I:Inv X pins σ H s) (h:SqL X.K H a xs):∃b:List Value,Vals xs b/\PlainL s.heap a b.toArray/\xs.length<=sizeLine:=by
 rcases h with h|⟨o,b,n,c,hc,hd,f,hz,r⟩
 ·obtain⟨z,b,n,r,e⟩:=h.ok I.hok;exact⟨b,r,⟨_,n,e,rfl,rfl,rfl⟩,z⟩
 ·refine⟨b.toList,r,⟨o,n,I.kIn a o c,hc,hd,by simpa using f⟩,?_⟩;have e:=r.length;simp only[B1]at e;omega
theorem Inv.tuple (I:Inv X pins σ H s) (h:SqT X.K H a xs):∃b:List Value,Vals xs b/\IsTup s.heap a b.toArray/\xs.length<=sizeLine:=by
 rcases h with h|⟨o,b,n,c,hc,f,hz,r⟩
 ·obtain⟨z,b,r,p⟩:=h.ok I.hok;exact⟨b,r,p.tup,z⟩
 ·refine⟨b.toList,r,⟨o,I.kIn a o c,hc,n,by simpa using f⟩,?_⟩;have e:=r.length;simp only[B1]at e;omega
theorem Inv.list_inj (I:Inv X pins σ H s) (h:SqL X.K H a xs) (h':SqL X.K H a ys):xs=ys:=by
 obtain⟨b,r,⟨o,n,e,_,_,d⟩,_⟩:=I.list h;obtain⟨its',f,⟨o',n',c,_,_,d'⟩,_⟩:=I.list h';rw[e]at c;cases c;rw[d]at d';injection d' with d1 _
 have:b=its':=by simpa using congrArg Array.toList d1
 subst this;exact r.inj f
theorem Inv.tuple_inj (I:Inv X pins σ H s) (h:SqT X.K H a xs) (h':SqT X.K H a ys):xs=ys:=by
 obtain⟨b,r,⟨o,e,_,n,d⟩,_⟩:=I.tuple h;obtain⟨its',f,⟨o',c,_,n',d'⟩,_⟩:=I.tuple h';rw[e]at c;cases c;rw[d]at d';injection d' with d1 _
 have:b=its':=by simpa using congrArg Array.toList d1
 subst this;exact r.inj f
end
abbrev Cx.wish (X:Cx) (E:Value->Shared->Prop):Cx:={ X with xe:=E }
abbrev Cx.nox (X:Cx):Cx:=X.wish λ_ _=>False
theorem Cx.Ok.wish (ok:X.Ok) (E:Value->Shared->Prop):(X.wish E).Ok :=
 ⟨ok.mod,ok.kind,ok.glob,ok.blt,ok.above,ok.inj,ok.has,ok.cab,ok.hd,ok.frames,ok.stk,ok.exf,ok.bs,ok.bsz,ok.noex,ok.exfs,ok.funs,ok.frf⟩
theorem Cx.Ok.unwish (ok:(X.wish E).Ok):X.Ok :=
 ⟨ok.mod,ok.kind,ok.glob,ok.blt,ok.above,ok.inj,ok.has,ok.cab,ok.hd,ok.frames,ok.stk,ok.exf,ok.bs,ok.bsz,ok.noex,ok.exfs,ok.funs,ok.frf⟩
section
theorem Inv.wish (I:Inv X pins σ H s) (E:Value->Shared->Prop):Inv (X.wish E) pins σ H s:=⟨I.ok.wish E,I.os,I.bare,I.base,I.loc,I.cell,I.free,I.freeC,I.pin,I.hok,I.len,I.tab⟩
theorem Inv.unwish (I:Inv (X.wish E) pins σ H s):Inv X pins σ H s:=⟨I.ok.unwish,I.os,I.bare,I.base,I.loc,I.cell,I.free,I.freeC,I.pin,I.hok,I.len,I.tab⟩
theorem SP.unwish {D:Ends} {f:Flow} (h:SP (X.wish E) pins D f s'):SP X pins D f s':=by
 cases f with
 |next=>obtain⟨a,H',I,q⟩:=h;exact⟨a,H',I.unwish,q⟩
 |brk=>obtain⟨a,H',I,q⟩:=h;exact⟨a,H',I.unwish,q⟩
 |cont=>obtain⟨a,H',I,q⟩:=h;exact⟨a,H',I.unwish,q⟩
 |ret u=>obtain⟨v,a,H',I,r,q⟩:=h;exact⟨v,a,H',I.unwish,r,q⟩
theorem PSs.nox {st:List Stmt} {t:TS} (h:PSs X.nox st t):PSs X st t:=λpins s σ H D I hw =>
 wpAny_mono (h pins s σ H D (I.wish _) hw) (λ_ _ q=>q.unwish) λ_ _ z=>False.elim z
end
section
variable {rest:List Stmt} {t u:TS} {te:TE}
def tM:TS:=λD σ H=>D.nx σ H
def vg (t u:TS):TS:=λD σ H=>t { D with nx:=u D } σ H
theorem hV:PSs X [] tM:=λ_ _ σ H _ I h=>wpAny_execs_nil ⟨σ,H,I,h⟩
theorem eL (h1:PS X st t) (h2:PSs X rest u):PSs X (st::rest) (vg t u):=by
 intro pins s σ H D I h;refine wpAny_execs_cons (thn (h1 pins s σ H { D with nx:=u D } I h) λf b q=>?_);cases f with
 |next =>obtain⟨a,H',c,q⟩:=q;exact h2 pins b a H' D c q
 |ret v=>exact q
 |brk=>exact q
 |cont=>exact q
theorem df (h1:PS X st t):PSs X [st] t:=by
 intro pins s σ H D I h;refine wpAny_execs_cons (thn (h1 pins s σ H D I h) λf s1 q=>?_);cases f with
 |next=>exact wpAny_execs_nil q
 |ret v=>exact q
 |brk=>exact q
 |cont=>exact q
theorem Inv.quiet (I:Inv X pins σ H s):interactive X.env=false:=by simp[interactive,I.ok.kind]
def uz (te:TE):TS:=λD σ H=>te σ H λ_ H1=>D.nx σ H1
theorem hW (b:PE X e te) (c:swapsWith e none pos.line X.env=pure false:=by rfl):PS X (.Expr e pos) (uz te):=by intro pins s σ H D I h;exact wpAny_Expr_any (thn (b pins s σ H _ I h) λv s1 a=>(by obtain⟨x,H1,f,r1,g⟩:=a;exact⟨σ,H1,f,g⟩)) I.quiet c
def ub (te:TE):TS:=λD σ H=>te σ H D.rt
theorem d7 (b:PE X e te):PS X (.Return (some e) pos) (ub te):=by intro pins s σ H D I h;exact wpAny_Return_some (thn (b pins s σ H _ I h) λv s1 a=>(by obtain⟨x,H1,c,f,g⟩:=a;exact⟨x,σ,H1,c,f,g⟩))
def u7 (c:TT) (t u:TS):TS:=λD σ H=>c σ H λb H1=>if b=true then t D σ H1 else u D σ H1
theorem nZ {c:Expr} {a b:List Stmt} {tc:TT} (hc:PT X c tc) (ha:PSs X a t) (j:PSs X b u):PS X (.If c a b pos) (u7 tc t u):=by
 intro pins s σ H D I h;refine wpAny_If (thn (hc pins s σ H _ I h) λd f e=>?_);obtain⟨H1,g,i⟩:=e;cases d with
 |true=>exact ha pins f σ H1 D g i
 |false=>exact j pins f σ H1 D g i
end
abbrev TG:=V->St->Hp->(St->Hp->Prop)->Prop
abbrev TGs:=List V->St->Hp->(St->Hp->Prop)->Prop
def PG (X:Cx) (target:Expr) (t:TG):Prop :=
 ∀(pins:List (Addr×Obj)) (s:Shared) (σ:St) (H:Hp) (v:V) (u:Value) (Q:St->Hp->Prop),Inv X pins σ H s->RelV v u->t v σ H Q ->
  wpAny (model X.prog X.w) X.A (assign target X.env u) (λ_ s'=>∃a H',Inv X pins a H' s'/\Q a H') X.xe s
def PGs (X:Cx) (ts:List Expr) (t:TGs):Prop :=
 ∀(pins:List (Addr×Obj)) (s:Shared) (σ:St) (H:Hp) (vs:List V) (us:List Value) (Q:St->Hp->Prop),Inv X pins σ H s->Vals vs us->t vs σ H Q ->
  wpAny (model X.prog X.w) X.A (assignInOrder ((assignEach ts X.env).map (·.2)) us) (λ_ s'=>∃a H',Inv X pins a H' s'/\Q a H') X.xe s
abbrev rH:=V->V->V->Hp->(Hp->Prop)->Prop
def t7 (X:Cx) (t:rH):Prop :=
 ∀(pins:List (Addr×Obj)) (s:Shared) (σ:St) (H:Hp) (o i v:V) (a b u:Value) (Q:Hp->Prop),Inv X pins σ H s->RelV o a->RelV i b->RelV v u->t o i v H Q ->
  wpAny (model X.prog X.w) X.A (setItem a b u) (λ_ s'=>∃H',Inv X pins σ H' s'/\Q H') X.xe s
section
def gX (i:Nat):TG:=λv σ H Q=>Q (σ.set i (some v)) H
theorem oW (a:X.N.Nodup) (hi:X.N[i]?=some x) (b:Loc X.env.scope x) (c:X.fn x=true\/X.env.scope.names.lookup x=some .local:=by first|exact .inl rfl|exact .inr rfl|assumption):PG X (.Name x pos) (gX i):=by intro pins s σ H v u Q I r h;exact wpAny_assign_Name (fK I a hi b r (λs' e=>⟨_,H,e,h⟩) c)
def ue:TGs:=λvs σ H Q=>vs=[]/\Q σ H
def p6 (t:TG) (u:TGs):TGs:=λvs σ H Q=>∃v r,vs=v::r/\t v σ H λa H'=>u r a H' Q
theorem oQ:PGs X [] ue:=by intro pins s σ H vs us Q I r h;obtain⟨e,h⟩:=h;subst e;cases r;exact assignInOrder_nil ⟨σ,H,I,h⟩
theorem mm {t:TG} {u:TGs} (h1:PG X e t) (h2:PGs X es u)
  (c:(assignEach (e::es) X.env).map (·.2)=assign e X.env::(assignEach es X.env).map (·.2):=by rfl):PGs X (e::es) (p6 t u):=by
 intro pins s σ H vs us Q I r h;obtain⟨v,vr,e1,h⟩:=h;subst e1;cases r with
 |cons r rr =>rw[c];refine assignInOrder_cons (thn (h1 pins s σ H _ _ _ I r h) λ_ f a=>?_);obtain⟨b,H1,g,i⟩:=a;exact h2 pins f b H1 _ _ Q g rr i
def tq (K:PySem.W.Frag) (n:Nat) (t:TGs):TG:=λv σ H Q=>∃a xs,v=.ref a/\SqT K H a xs/\xs.length=n/\t xs σ H Q
theorem sk {t:TGs} (hc:X.calm=true) (h:PGs X es t)
  (hn:(assignEach es X.env).length=n:=by rfl) (c:(assignEach es X.env).findIdx? (·.1)=none:=by rfl):PG X (.Tuple es k pos) (tq X.K n t):=by
 intro pins s σ H v u Q I r hw;obtain⟨a,xs,e1,g,hl,hw⟩:=hw;subst e1;cases r;obtain⟨its,f,i,hz⟩:=I.tuple g;refine l0 (I.hdH hc) i (by simp[hn,<-hl,f.length]) c λh' j=>?_
 have l:Inv X pins σ H { s with heap:=h' }:=I.kept (t':=s.toks) λb o e=>j b o (Nat.ne_of_lt (Heap.lt_size e)) e
 exact h pins _ σ H xs _ Q l (by simpa using f) hw
def vd (to a:TE) (t:rH):TG:=λv σ H Q=>to σ H λo H1=>a σ H1 λi H2=>t o i v H2 λb=>Q σ b
theorem qN {o i:Expr} {to e:TE} {t:rH} (f:PE X o to) (hi:PE X i e) (g:t7 X t)
  (ha:∀v,assign (.Subscript o i pos) X.env v=(do
   let b <-holding [v] (eval o X.env);let c <-holding [v,b] (eval i X.env)
   standAt pos
   holding [v,b,c] (setItem b c v)
   release [v,b,c] []):=by intro _;rfl):PG X (.Subscript o i pos) (vd to e t):=by
 intro pins s σ H v u Q I r h;rw[ha];refine wpAny_bind (wpAny_holding (thn (f pins s σ H _ I h) λb j a=>?_));obtain⟨x,H1,k,l,m⟩:=a;refine wpAny_bind (wpAny_holding (thn (hi pins j σ H1 _ k m) λc s2 a=>?_));obtain⟨y,H2,n,p,q⟩:=a;refine wpAny_bind (wpAny_standAt (wpAny_bind (wpAny_holding (thn (g pins s2 σ H2 x y v b c u _ n l p r q) λ_ s3 a=>?_))));obtain⟨w,z,A⟩:=a;exact wpAny_release ⟨σ,w,z,A⟩
def ud (te:TE) (g:TG):TS:=λD σ H=>te σ H λx H1=>g x σ H1 D.nx
theorem my {te:TE} {g:TG} (b:PE X e te) (c:PG X tg g) (f:swapsWithSole [tg] e pos.line X.env=pure false:=by rfl) (hw:swappedStores [tg] e X.env=pure none:=by rfl)
  (h1:(assignEach [tg] X.env).map (·.2)=[assign tg X.env]:=by rfl):PS X (.Assign [tg] e pos) (ud te g):=by
 intro pins s σ H D I h;refine wpAny_Assign_stores (thn (b pins s σ H _ I h) λv i a=>?_) f hw;obtain⟨x,H1,j,k,l⟩:=a;rw[h1];exact thn (c pins i σ H1 x v _ j k l) λ_ s2 q=>q
theorem jS {te:TE} (b:X.N.Nodup) (hi:X.N[i]?=some x) (c:Loc X.env.scope x) (f:PE X e te) (g:swapsWith e (some (.Name x pos')) pos.line X.env=pure false:=by rfl) (j:X.fn x=true\/X.env.scope.names.lookup x=some .local:=by first|exact .inl rfl|exact .inr rfl|assumption) :
  PS X (.Assign [.Name x pos'] e pos) (ud te (gX i)):=by
 intro pins s σ H D I h;refine wpAny_Assign_Name (thn (f pins s σ H _ I h) λv s1 a=>?_) g;obtain⟨y,H1,k,l,m⟩:=a;exact fK k b hi c l (λs2 n=>⟨_,H1,n,m⟩) j
end
section
end
structure It where
 go:Nat->Hp->Prop
 yld:Nat->Hp->V->Hp->Prop
 stop:Nat->Hp->Prop
def ik (X:Cx) (pins:List (Addr×Obj)) (H:Hp) (b:Addr):Prop :=
 H b=none/\b≠X.env.locals/\b∉X.fs/\(b∈X.ex\/X.s₀.heap.objs.size<=b)/\(∀x c,X.env.cells.lookup x=some c->c≠b)/\∀p∈X.pn++pins,p.1≠b
theorem Inv.fpOk {H':Hp} (I:Inv X pins σ H s) (a:s.heap.objs.size<=b) (hn:H' b=none):ik X pins H' b:=by
 refine⟨hn,B5 (A9 I.lt a),I.nofs a,.inr (Ax I.sz a),λx c e z=>?_,λp f z=>?_⟩
 ·obtain⟨v,q⟩:=I.cell x c e;exact absurd (A9 q.lt (by rw[z];exact a)) (AA _)
 ·exact absurd (A9 (Heap.lt_size (I.pin p f).1) (by rw[z];exact a)) (AA _)
structure Turn (P:Program) (w:World) (K:PySem.W.Frag) (tg:Expr) (J:It) (fp:List Addr) (it:Addr) (tn:Nat->Heap->Prop):Prop where
 mem:it∈fp
 obj:∀i h,tn i h->∀b∈fp,∃o,h.get? b=some o/\∀v,o.data≠.cell v
 keep:∀i h h',tn i h->(∀b∈fp,∀o,h.get? b=some o->h'.get? b=some o)->tn i h'
 item:∀(X:Cx),X.prog=P->X.w=w->X.K=K->X.calm=true->∀(i:Nat) (pins:List (Addr×Obj)) (s:Shared) (σ:St) (H:Hp) (E:Value->Shared->Prop),Inv X pins σ H s->(∀b∈fp,ik X pins H b)->tn i s.heap->J.go i H ->
  wpAny (model P w) X.A (pyNext (.ref it)) (λr s1=>∃u,r=some u /\
   wpAny (model P w) X.A (letOwnedTupleGo tg (.ref it) u) (λ_ s2=>∃x H',Inv X pins σ H' s2/\RelV x u/\J.yld i H x H'/\tn (i+1) s2.heap/\∀b∈fp,H' b=none) E s1) E s
 done:∀(X:Cx),X.prog=P->X.w=w->X.K=K->X.calm=true->∀(i:Nat) (pins:List (Addr×Obj)) (s:Shared) (σ:St) (H:Hp) (E:Value->Shared->Prop),Inv X pins σ H s->(∀b∈fp,ik X pins H b)->tn i s.heap->J.stop i H ->
  wpAny (model P w) X.A (pyNext (.ref it)) (λr s1=>r=none/\Inv X pins σ H s1) E s
 self:∀(A:Around) (i:Nat) (s:Shared) (Q:Value->Shared->Prop) (E:Value->Shared->Prop),tn i s.heap->Q (.ref it) s->wpAny (model P w) A (pyIter (.ref it)) Q E s
abbrev TI:=St->Hp->(It->Hp->Prop)->Prop
def PIE (X:Cx) (pins:List (Addr×Obj)) (σ:St) (tg:Expr) (R:It->Hp->Prop) (a:Value) (s2:Shared):Prop :=
 ∃(it:Addr) (fp:List Addr) (tn:Nat->Heap->Prop) (J:It) (H':Hp),a=.ref it/\Inv X pins σ H' s2/\Turn X.prog X.w X.K tg J fp it tn/\tn 0 s2.heap/\(∀b∈fp,ik X pins H' b)/\R J H'
def PI (X:Cx) (tg iter:Expr) (a:TI):Prop :=
 ∀(pins:List (Addr×Obj)) (s:Shared) (σ:St) (H:Hp) (R:It->Hp->Prop),Inv X pins σ H s->a σ H R ->
  wpAny (model X.prog X.w) X.A (eval iter X.env) (λv b=>wpAny (model X.prog X.w) X.A (pyIter v) (PIE X pins σ tg R) X.xe b) X.xe s
theorem mB {n:String} (b:s.heap.get? it=some o) (hc:o.cls=.type n) (hd:o.data=.fields vs)
    (hn:["enumerate", "zip", "dict_itemiterator", "dict_reverseitemiterator", "odict_iterator", "itertools.zip_longest", "itertools.pairwise"].contains n=false) (a:Q () s):wpAny M A (letOwnedTupleGo tg (.ref it) u) Q E s:=by
  unfold letOwnedTupleGo
  cases tg <;> first
    |exact wpAny_pure a
    | (cases u <;> first
        |exact wpAny_pure a
        | (refine wpAny_bind (wpAny_load b ?_)
           rw[hc,hd]
           show wpAny M A (if (["enumerate", "zip", "dict_itemiterator", "dict_reverseitemiterator", "odict_iterator", "itertools.zip_longest", "itertools.pairwise"].contains n&&vs[0]?==some (rawInt _))=true then _ else _) Q E s
           rw[if_neg (by intro h;rw[hn,B2]at h;cases h)]
           exact wpAny_pure a))
def Itl (K:PySem.W.Frag) (a:Addr):It :=
 ⟨λi H=>∃xs x,SqL K H a xs/\xs[i]?=some x,λi H x H'=>H'=H/\∀xs,SqL K H a xs->xs[i]?=some x,λi H=>∃xs,SqL K H a xs/\xs.length<=i⟩
def Itt (K:PySem.W.Frag) (a:Addr):It :=
 ⟨λi H=>∃xs x,SqT K H a xs/\xs[i]?=some x,λi H x H'=>H'=H/\∀xs,SqT K H a xs->xs[i]?=some x,λi H=>∃xs,SqT K H a xs/\xs.length<=i⟩
def Itr (lo:Int) (n:Nat):It:=⟨λi _=>i<n,λi H x H'=>H'=H/\x=.int (lo+i),λi _=>n<=i⟩
theorem lE (a it:Addr):Turn P w K tg (Itl K a) [it] it (λi h=>h.IsListIter it a i) where
 mem:=by simp
 obj:=λi h st b f=>by
  have e:b=it:=by simpa using f
  subst e;obtain⟨o,e,c,d⟩:=st;exact⟨o,e,λv z=>by rw[d]at z;cases z⟩
 keep:=λi h h' st k=>st.at λo e=>k it (by simp) o e
 item:=by
  intro X n hw hK hc i pins s σ H E I j st q;subst n hw hK;obtain⟨xs,x,l,r⟩:=q;obtain⟨t,y,p,D⟩:=I.list l;obtain⟨u,F,G⟩:=y.get r;obtain⟨A,f1,f2,B,C,m⟩:=j it (by simp);refine wpAny_pyNext_list_item st p.isList (x:=u) (by simpa using F) λh' g J=>?_
  have L:Inv X pins σ H { s with heap:=h' }:=I.turned (t':=s.toks) (λb o f e=>(J.2 b f).trans e) A f1 B C m;obtain⟨o,e,c,d⟩:=id g;exact⟨u,rfl,mB (s:={ s with heap:=h' }) e c d (by decide) ⟨x,H,L,G,⟨rfl,λys M=>by rw[I.list_inj M l];exact r⟩,g,λb f=>(j b f).1⟩⟩
 done:=by intro X n hw hK hc i pins s σ H E I j st q;subst n hw hK;obtain⟨xs,l,r⟩:=q;obtain⟨t,y,p,D⟩:=I.list l;obtain⟨A,f1,f2,B,C,m⟩:=j it (by simp);have hl:=y.length;exact eJ (I.hdH hc) (I.hdN hc m) st p.isList (by simp;omega) λh' N=>⟨rfl,I.turned (t':=s.toks) (λb o f e=>N b o f e) A f1 B C m⟩
 self:=λ_ _ _ _ _ st h=>wpAny_pyIter_listiter st h
theorem ke (a it:Addr):Turn P w K tg (Itt K a) [it] it (λi h=>h.IsTupleIter it a i) where
 mem:=by simp
 obj:=λi h st b f=>by
  have e:b=it:=by simpa using f
  subst e;obtain⟨o,e,c,d⟩:=st;exact⟨o,e,λv z=>by rw[d]at z;cases z⟩
 keep:=λi h h' st k=>st.at λo e=>k it (by simp) o e
 item:=by
  intro X q hw hK hc i pins s σ H E I l st r;subst q hw hK;obtain⟨xs,x,m,t⟩:=r;obtain⟨g,y,p,D⟩:=I.tuple m;obtain⟨u,F,G⟩:=y.get t;obtain⟨A,f1,f2,B,C,n⟩:=l it (by simp);refine wpAny_pyNext_tuple_item st (show s.heap.IsTuple a g.toArray from p) (x:=u) (by simpa using F) λh' j J=>?_
  have L:Inv X pins σ H { s with heap:=h' }:=I.turned (t':=s.toks) (λb o f e=>(J.2 b f).trans e) A f1 B C n;obtain⟨o,e,c,d⟩:=id j;exact⟨u,rfl,mB (s:={ s with heap:=h' }) e c d (by decide) ⟨x,H,L,G,⟨rfl,λys M=>by rw[I.tuple_inj M m];exact t⟩,j,λb f=>(l b f).1⟩⟩
 done:=by intro X q hw hK hc i pins s σ H E I l st r;subst q hw hK;obtain⟨xs,m,t⟩:=r;obtain⟨g,y,p,D⟩:=I.tuple m;obtain⟨A,f1,f2,B,C,n⟩:=l it (by simp);have hl:=y.length;exact cK (I.hdH hc) (I.hdN hc n) st (show s.heap.IsTuple a g.toArray from p) (by simp;omega) λh' N=>⟨rfl,I.turned (t':=s.toks) (λb o f e=>N b o f e) A f1 B C n⟩
 self:=λ_ _ _ _ _ st h=>wpAny_pyIter_tupleiter st h
theorem ki (it:Addr) (lo:Int) (n:Nat):Turn P w K tg (Itr lo n) [it] it (λi h=>IsRangeIter h it (lo+(i:Nat)*1) ((n:Int)-(i:Nat)) 1) where
 mem:=by simp
 obj:=λi h st b a=>by
  have e:b=it:=by simpa using a
  subst e;exact⟨_,st,λv z=>by have u:Data.fields _=Data.cell v:=z;cases u⟩
 keep:=λi h h' st k=>k it (by simp) _ st
 item:=by
  intro X j hw hK hc i pins s σ H E I g st l;subst j hw hK;obtain⟨m,f1,f2,p,q,r⟩:=g it (by simp);refine wpAny_pyNext_range_item st (by have:i<n:=l;omega) λh' c t=>?_
  have f:IsRangeIter h' it (lo+((i+1:Nat):Int)*1) ((n:Int)-((i+1:Nat):Int)) 1:=by rw[show lo+((i+1:Nat):Int)*1=lo+(i:Int)*1+1 by omega,show (n:Int)-((i+1:Nat):Int)=(n:Int)-(i:Int)-1 by omega];exact c
  refine⟨_,rfl,mB (n:="range_iterator") f rfl rfl (by decide) ⟨.int (lo+i),H,I.turned (λb o a e=>(t.2 b a).trans e) m f1 p q r,⟨s.toks,?_⟩,⟨rfl,rfl⟩,f,λb a=>(g b a).1⟩⟩;rw[Int.mul_one]
 done:=by intro X j hw hK hc i pins s σ H E I g st l;subst j hw hK;obtain⟨m,f1,f2,p,q,r⟩:=g it (by simp);exact gI (I.hdH hc) st (by have:n<=i:=l;omega) λh' x=>⟨rfl,I.turned (t':=s.toks) (λb o a e=>x b o a e) m f1 p q r⟩
 self:=λ_ _ _ _ _ st h=>wpAny_pyIter_rangeiter st h
section
def td (K:PySem.W.Frag) (tl:TE):TI:=λσ H R=>tl σ H λx H1=>∃a,x=.ref a/\(∃xs,SqL K H1 a xs)/\R (Itl K a) H1
def uU (K:PySem.W.Frag) (tl:TE):TI:=λσ H R=>tl σ H λx H1=>∃a,x=.ref a/\(∃xs,SqT K H1 a xs)/\R (Itt K a) H1
theorem oY {l:Expr} {tl:TE} (hl:PE X l tl):PI X tg l (td X.K tl):=by
 intro pins s σ H R I h;refine thn (hl pins s σ H _ I h) λv c g=>?_
 obtain⟨x,H1,f,i,j⟩:=g;obtain⟨a,e,⟨xs,k⟩,q⟩:=j;subst e;cases i;obtain⟨its,rv,p,hz⟩:=f.list k;refine wpAny_pyIter_list p.isList ?_;refine⟨c.heap.objs.size,[c.heap.objs.size],_,_,H1,rfl,f.kept (t':=c.toks) λb o e=>A1 _ e,lE a _,⟨_,Ad _ rfl,rfl,rfl⟩,λb m=>?_,q⟩;have e:b=c.heap.objs.size:=by simpa using m
 subst e;exact f.fpOk (A6 _) (f.hok.fresh (A6 _))
theorem sv {l:Expr} {tl:TE} (hl:PE X l tl):PI X tg l (uU X.K tl):=by
 intro pins s σ H R I h;refine thn (hl pins s σ H _ I h) λv c g=>?_
 obtain⟨x,H1,f,j,k⟩:=g;obtain⟨a,e,⟨xs,m⟩,q⟩:=k;subst e;cases j;obtain⟨i,rv,p,hz⟩:=f.tuple m;refine wpAny_pyIter_tuple (show c.heap.IsTuple a i.toArray from p) ?_;refine⟨c.heap.objs.size,[c.heap.objs.size],_,_,H1,rfl,f.kept (t':=c.toks) λb o e=>A1 _ e,ke a _,⟨_,Ad _ rfl,rfl,rfl⟩,λb n=>?_,q⟩;have e:b=c.heap.objs.size:=by simpa using n
 subst e;exact f.fpOk (A6 _) (f.hok.fresh (A6 _))
theorem mX {R:It->Hp->Prop} {lo hi:Int} {t u v:Tok} {tk:Nat} (I:Inv X pins σ H s) (h1:-(2 ^ 62)<=lo) (h2:lo<2 ^ 62) (c:-(2 ^ 62)<=hi) (f:hi<2 ^ 62)
  (q:R (Itr lo (hi-lo).toNat) H):wpAny (model X.prog X.w) X.A (pyIter (.ref s.heap.objs.size)) (PIE X pins σ tg R) E { s with heap:=s.heap.push { cls:=.type "range",data:=.fields #[.int lo t,.int hi u,.int 1 v] },toks:=tk }:=by
 refine wpAny_pyIter_range (IsRange.new ..) (small_one h1 h2 c f) ?_;have a:Inv X pins σ H { s with heap:=s.heap.push { cls:=.type "range",data:=.fields #[.int lo t,.int hi u,.int 1 v] },toks:=tk }:=I.kept λb o e=>A1 _ e
 refine⟨(s.heap.push { cls:=.type "range",data:=.fields #[.int lo t,.int hi u,.int 1 v] }).objs.size,[(s.heap.push { cls:=.type "range",data:=.fields #[.int lo t,.int hi u,.int 1 v] }).objs.size],_,_,H,rfl,
  a.kept (t':=tk) λb o e=>A1 _ e,ki _ lo (hi-lo).toNat,?_,λb g=>?_,q⟩
 ·have e1:lo+((0:Nat):Int)*1=lo:=by simp
  have e2:(((hi-lo).toNat:Nat):Int)-((0:Nat):Int)=Builtin.Range.rangeSize lo hi 1:=by rw[rangeSize_one];split <;> omega
  show IsRangeIter _ _ (lo+((0:Nat):Int)*1) ((((hi-lo).toNat:Nat):Int)-((0:Nat):Int)) 1;rw[e1,e2];exact Ad _ rfl
 ·have e:b=(s.heap.push { cls:=.type "range",data:=.fields #[.int lo t,.int hi u,.int 1 v] }).objs.size:=by simpa using g
  subst e;exact a.fpOk (A6 _) (a.hok.fresh (A6 _))
def tw (ta:TA):TI:=λσ H R=>ta σ H λvs H1=>∃j:Int,vs=[.int j]/\-(2 ^ 62)<=j/\j<2 ^ 62/\R (Itr 0 j.toNat) H1
theorem lr {a:Expr} {ta:TA} (f:Gl X "range") (hm:X.mg "range"=none) (ha:PA X [a] ta) (g:starEach [a] X.env=[(false,eval a X.env)]:=by rfl):PI X tg (.Call (.Name "range" p) [a] [] pos) (tw ta):=by
 intro pins s σ H R I h;refine Call_ (iS I f hm boot_range (PyProof.Rows.callWith_type1 (thn (ha pos pins s σ H _ I h) λus s1 b=>?_) g rfl));obtain⟨vs,H1,i,k,c⟩:=b;obtain⟨j,e,c,l,q⟩:=c;subst e;cases k with
 |cons r rr =>cases rr;obtain⟨t,rfl⟩:=r;exact call_range_1 (mX i (by omega) (by omega) c l (by simpa using q))
def vo (e:TI) (g:TG) (tb:TS):TS:=λD σ H=>e σ H λJ H1=>∃W:Nat->Nat->St->Hp->Prop,(∃m,W 0 m σ H1)/\∀i m σ H,W i m σ H ->
 (J.stop i H/\D.nx σ H)\/(J.go i H/\∃N:St->Hp->Prop,(∀a H',N a H'->∃c,c < m/\W (i+1) c a H')/\∀x H',J.yld i H x H'->g x σ H' λb H2=>tb { D with nx:=N,ct:=N,bk:=D.nx } b H2)
def gd (fp:List Addr) (h:Heap):List (Addr×Obj):=fp.filterMap λb=>(h.get? b).map λo=>(b,o)
theorem dj (a:b∈fp) (e:h.get? b=some o):(b,o)∈gd fp h:=B4.mpr ⟨b,a,by rw[e];rfl⟩
theorem lK {p:Addr×Obj} (a:p∈gd fp h):p.1∈fp/\h.get? p.1=some p.2:=by
 obtain⟨b,c,e⟩:=B4.mp a;cases q:h.get? b with
 |none=>rw[q]at e;cases e
 |some o =>rw[q]at e;have f:(b,o)=p:=Option.some.inj e;subst f;exact⟨c,q⟩
theorem Inv.pinned (I:Inv X pins σ H s) (f:∀b∈fp,ik X pins H b) (g:∀b∈fp,∃o,s.heap.get? b=some o/\∀v,o.data≠.cell v):Inv X (pins++gd fp s.heap) σ H s :=
 I.pins_of λp h=>(Ac.mp h).elim (λz=>I.pin p (A5 _ z)) λz=>by obtain⟨a,e⟩:=lK z;obtain⟨i,f1,f2,_⟩:=f p.1 a;obtain⟨o,c,d⟩:=g p.1 a;rw[e]at c;cases c;exact⟨e,i,f1,f2,d⟩
theorem Inv.unpinned {pl:List (Addr×Obj)} (I:Inv X (pins++pl) σ H s):Inv X pins σ H s:=I.pins_of λp a=>I.pin p (A5 _ (Aa _ a))
theorem rB {R:TI} {g:TG} {tb:TS} (B:PassesOwn (model X.prog X.w) X.A X.env X.xe) (hc:X.calm=true) (hi:PI X tg iter R) (hg:PG X tg g) (j:PSs X body tb)
  (hs:∀x,foldedSetIterable iter X.env x=pure x:=by intro _;rfl):PS X (.For tg iter body [] pos) (vo R g tb):=by
 intro pins s σ H D I h;refine wpAny_For (thn (hi pins s σ H _ I h) λv s1 h1=>thn h1 λitv s2 h2=>?_) hs;obtain⟨it,fp,tn,J,H2,e,I2,T,K,f2,W,⟨m0,w0⟩,turn⟩:=h2;subst e
 -- what stays true of the iterator's objects through the loop
 have k:∀{H':Hp},(∀b∈fp,H' b=none)->∀b∈fp,ik X pins H' b:=λhn b j=>⟨hn b j,(f2 b j).2⟩
 refine codeAny_forLoop_any (λn s'=>∃i l H',Inv X pins l H' s'/\tn i s'.heap/\(∀b∈fp,H' b=none)/\W i n l H') ?_ m0 ⟨0,σ,H2,I2,K,λb j=>(f2 b j).1,w0⟩
 rintro n S ⟨i,p,G,U,C,E,w3⟩
 rcases turn i n p G w3 with⟨stop,qn⟩|⟨go,N,hN,step⟩
 ·refine wpAny_passesOwn B (thn (T.done X rfl rfl rfl hc i pins S p G X.xe U (k E) C stop) λr s4 c=>?_);obtain⟨L,I4⟩:=c;subst L;exact wpAny_execs_nil ⟨p,G,I4,qn⟩
 ·refine wpAny_passesOwn B (thn (T.item X rfl rfl rfl hc i pins S p G X.xe U (k E) C go) λr s4 c=>?_);obtain⟨u,L,h4⟩:=c;subst L;refine wpAny_passesOwn B (thn h4 λ_ Y c=>?_);obtain⟨x,Z,I5,r5,y5,z,M⟩:=c;have O:=I5.pinned (k M) (T.obj _ _ z);refine wpAny_passesOwn B (thn (hg _ Y p Z x u _ O r5 (step x Z y5)) λ_ s6 c=>?_);obtain⟨P,H6,I6,q6⟩:=c;refine wpAny_passesOwn B (thn (j _ s6 P H6 _ I6 q6) λf Q y=>?_);have again:∀{a:St} {q:Hp},Inv X (pins++gd fp Y.heap) a q Q->N a q->∃m,m<n/\∃i l H',Inv X pins l H' Q/\tn i Q.heap/\(∀b∈fp,H' b=none)/\W i m l H':=λ{a q} t F=>by obtain⟨m',hm,w7⟩:=hN a q F;refine⟨m',hm,i+1,a,q,t.unpinned,T.keep _ _ _ z λb j o e=>(t.pin (b,o) (A5 _ (A5 _ (dj j e)))).1,λb j=>?_,w7⟩;obtain⟨o,e,d⟩:=T.obj _ _ z b j;exact (t.pin (b,o) (A5 _ (A5 _ (dj j e)))).2.1
  cases f with
  |next=>obtain⟨a,q,t,F⟩:=y;exact again t F
  |cont=>obtain⟨a,q,t,F⟩:=y;exact again t F
  |brk=>obtain⟨a,q,t,y⟩:=y;exact⟨a,q,t.unpinned,y⟩
  |ret v=>obtain⟨x7,a,q,t,r7,y⟩:=y;exact⟨x7,a,q,t.unpinned,r7,y⟩
end
abbrev R2:=V->V->Hp->VK->Prop
variable {r:R2}
def OpR (X:Cx) (f:Value->Value->Sem Value) (r:R2):Prop :=
 ∀(pins:List (Addr×Obj)) (s:Shared) (σ:St) (H:Hp) (x y:V) (v u:Value) (Q:VK),Inv X pins σ H s->RelV x v->RelV y u->r x y H Q ->
  wpAny (model X.prog X.w) X.A (f v u) (EP X pins σ Q) X.xe s
def UnR (X:Cx) (f:Value->Sem Value) (r:V->Hp->VK->Prop):Prop :=
 ∀(pins:List (Addr×Obj)) (s:Shared) (σ:St) (H:Hp) (x:V) (v:Value) (Q:VK),Inv X pins σ H s->RelV x v->r x H Q ->
  wpAny (model X.prog X.w) X.A (f v) (EP X pins σ Q) X.xe s
def dE (X:Cx) (f:Value) (r:List V->Hp->VK->Prop):Prop :=
 ∀(pins:List (Addr×Obj)) (s:Shared) (σ:St) (H:Hp) (xs:List V) (us:List Value) (Q:VK),Inv X pins σ H s->Vals xs us->r xs H Q ->
  wpAny (model X.prog X.w) X.A (call f us) (EP X pins σ Q) X.xe s
def tOp (r:R2) (ta tb:TE):TE:=λσ H Q=>ta σ H λx H1=>tb σ H1 λy H2=>r x y H2 Q
def tUn (r:V->Hp->VK->Prop) (ta:TE):TE:=λσ H Q=>ta σ H λx H1=>r x H1 Q
def rI (C:Int->Int->Prop) (g:Int->Int->V):R2:=λx y H Q=>∃i j,x=.int i/\y=.int j/\C i j/\Q (g i j) H
def rI0 (g:Int->Int->V):R2:=λx y H Q=>∃i j,x=.int i/\y=.int j/\Q (g i j) H
def rU (g:Int->V):V->Hp->VK->Prop:=λx H Q=>∃i,x=.int i/\Q (g i) H
section
variable {a b c:Expr} {ta tb tc:TE}
theorem qu (ha:PE X a ta) (i:PE X b tb) (I:Inv X pins σ H s)
  (h:ta σ H λx H1=>tb σ H1 λy H2=>R x y H2) {Q:Value->Shared->Prop} {f:Value->Value->Sem Value}
  (j:∀v u s2 x y H2,Inv X pins σ H2 s2->RelV x v->RelV y u->R x y H2->wpAny (model X.prog X.w) X.A (f v u) Q X.xe s2) :
  wpAny (model X.prog X.w) X.A (eval a X.env) (λv e=>wpAny (model X.prog X.w) X.A (eval b X.env) (λu g=>wpAny (model X.prog X.w) X.A (f v u) Q X.xe g) X.xe e) X.xe s:=by
 refine thn (ha pins s σ H _ I h) λv k c=>?_
 obtain⟨x,H1,l,m,n⟩:=c;refine thn (i pins k σ H1 _ l n) λu s2 c=>?_
 obtain⟨y,H2,o,p,q⟩:=c;exact j v u s2 x y H2 o m p q
theorem bQ {c:Operator} (e:OpR X (binaryOp c) r) (ha:PE X a ta) (f:PE X b tb):PE X (.BinOp a c b pos) (tOp r ta tb):=by intro pins s σ H Q I h;exact wpAny_BinOp (qu ha f I h λv u s2 x y H2 g i j q=>e pins s2 σ H2 x y v u Q g i j q)
theorem uf {c:UnaryOp} {r:V->Hp->VK->Prop} (e:UnR X (unaryOp c) r) (ha:PE X a ta):PE X (.UnaryOp c a pos) (tUn r ta):=by intro pins s σ H Q I h;exact UnaryOp_ (thn (ha pins s σ H _ I h) λv f b=>(by obtain⟨x,H1,g,i,j⟩:=b;exact e pins f σ H1 x v Q g i j))
theorem opI {f:Value->Value->Sem Value} {C:Int->Int->Prop}
  (rule:∀(i j:Int) (t u:Tok) (s:Shared) (Q:Value->Shared->Prop) (E:Value->Shared->Prop),C i j->Q (.int (g i j) s.toks) { s with toks:=s.toks+1 }->wpAny (model X.prog X.w) X.A (f (.int i t) (.int j u)) Q E s) :
  OpR X f (rI C λi j=>.int (g i j)):=by
 intro pins s σ H x y v u Q I a b h;obtain⟨i,j,rfl,rfl,hc,q⟩:=h;obtain⟨t,rfl⟩:=a;obtain⟨t',rfl⟩:=b;exact rule i j t t' s _ _ hc ⟨.int (g i j),H,I.tok _,⟨_,rfl⟩,q⟩
theorem tT {f:Value->Value->Sem Value}
  (rule:∀(i j:Int) (t u:Tok) (s:Shared) (Q:Value->Shared->Prop) (E:Value->Shared->Prop),Q (.int (g i j) s.toks) { s with toks:=s.toks+1 }->wpAny (model X.prog X.w) X.A (f (.int i t) (.int j u)) Q E s) :
  OpR X f (rI0 λi j=>.int (g i j)):=by
 intro pins s σ H x y v u Q I a b h;obtain⟨i,j,rfl,rfl,q⟩:=h;obtain⟨t,rfl⟩:=a;obtain⟨t',rfl⟩:=b;exact rule i j t t' s _ _ ⟨.int (g i j),H,I.tok _,⟨_,rfl⟩,q⟩
theorem uW {f:Value->Value->Sem Value} {g:Int->Int->Bool}
  (rule:∀(i j:Int) (t u:Tok) (s:Shared) (Q:Value->Shared->Prop) (E:Value->Shared->Prop),Q (.bool (g i j)) s->wpAny (model X.prog X.w) X.A (f (.int i t) (.int j u)) Q E s) :
  OpR X f (rI0 λi j=>.bl (g i j)):=by
 intro pins s σ H x y v u Q I a b h;obtain⟨i,j,rfl,rfl,q⟩:=h;obtain⟨t,rfl⟩:=a;obtain⟨t',rfl⟩:=b;exact rule i j t t' s _ _ ⟨.bl (g i j),H,I,rfl,q⟩
def tK (i j:Int):Prop:=0<j/\j<1073741824
def uo (i j:Int):Prop:=0<=j/\j<=1000000/\i.natAbs<2 ^ 64
def oa (i j:Int):Prop:=(-(2 ^ 64)<i/\i<2 ^ 64)\/(-(2 ^ 64)<j/\j<2 ^ 64)
theorem oa.ok {i j:Int} (h:oa i j):IntMulOk i j:=by
 rcases h with⟨h1,h2⟩|⟨h1,h2⟩
 ·exact .of_left (intBits_le_64 h1 h2)
 ·exact .of_right (intBits_le_64 h1 h2)
theorem e9:OpR X (binaryOp .Add) (rI0 λi j=>.int (i+j)):=tT λ_ _ _ _ _ _ _ q=>add_int q
theorem rn:OpR X (binaryOp .Sub) (rI0 λi j=>.int (i-j)):=tT λ_ _ _ _ _ _ _ q=>sub_int q
theorem e6:OpR X (binaryOp .Mult) (rI oa λi j=>.int (i*j)):=opI λ_ _ _ _ _ _ _ hc q=>mul_int q hc.ok
theorem oJ:OpR X (binaryOp .FloorDiv) (rI tK λi j=>.int (i / j)):=opI λi j _ _ _ _ _ hc q=>by have h1:(0:Int)<j:=hc.1;have h2:j<1073741824:=hc.2;exact floordiv_int (by omega) (by rw[Int.fdiv_eq_ediv_of_nonneg i (by omega)];exact q) (.inl (PyProof.noPylong_small (by omega)))
theorem f9:OpR X (binaryOp .Mod) (rI (λ_ j=>0<j) λi j=>.int (i % j)):=opI λi j _ _ _ _ _ hc q=>by have h1:(0:Int)<j:=hc;exact mod_int' (by omega) (by rw[Int.fmod_eq_emod_of_nonneg i (by omega)];exact q)
theorem sF:OpR X (binaryOp .Pow) (rI uo λi j=>.int (i ^ j.toNat)):=opI λ_ _ _ _ _ _ _ hc q=>pow_int_small hc.1 hc.2.1 hc.2.2 q
theorem unI {f:Value->Sem Value} {g:Int->Int}
  (rule:∀(i:Int) (t:Tok) (s:Shared) (Q:Value->Shared->Prop) (E:Value->Shared->Prop),Q (.int (g i) s.toks) { s with toks:=s.toks+1 }->wpAny (model X.prog X.w) X.A (f (.int i t)) Q E s) :
  UnR X f (rU λi=>.int (g i)):=by
 intro pins s σ H x v Q I a h;obtain⟨i,rfl,q⟩:=h;obtain⟨t,rfl⟩:=a;exact rule i t s _ _ ⟨.int (g i),H,I.tok _,⟨_,rfl⟩,q⟩
theorem qK:UnR X (unaryOp .USub) (rU λi=>.int (-i)):=unI λ_ _ _ _ _ q=>neg_int q
end
section
variable {a b c:Expr} {ta tb tc:TE}
theorem qf:OpR X (compareOp .LtE) (rI0 λi j=>.bl (decide (i<=j))):=uW λ_ _ _ _ _ _ _ q=>le_int q
theorem OpR.or {f:Value->Value->Sem Value} {a:R2} (h:OpR X f r) (h':OpR X f a):OpR X f (λx y H Q=>r x y H Q\/a x y H Q):=by
 intro pins s σ H x y v u Q I b c q;rcases q with q|q
 ·exact h pins s σ H x y v u Q I b c q
 ·exact h' pins s σ H x y v u Q I b c q
theorem iu (b:Expr) {a:CmpOp} (h:a≠.In:=by decide) (h2:a≠.NotIn:=by decide):behindInMarks a b=false:=by
 have e1:(a==CmpOp.In)=false:=by cases a <;> first|rfl|exact absurd rfl h
 have e2:(a==CmpOp.NotIn)=false:=by cases a <;> first|rfl|exact absurd rfl h2
 cases b <;> simp[behindInMarks,e1,e2]
theorem om {c:CmpOp} (e:OpR X (compareOp c) r) (ha:PE X a ta) (f:PE X b tb) (hm:behindInMarks c b=false):PE X (.Compare a [c] [b] pos) (tOp r ta tb):=by intro pins s σ H Q I h;exact wpAny_Compare1 (qu ha f I h λv u s2 x y H2 g i j q=>e pins s2 σ H2 x y v u Q g i j q) hm
def qi (t:TE):TT:=λσ H Q=>t σ H λx H'=>∃k,x=.bl k/\Q k H'
theorem ir {g:CmpOp} (i:OpR X (compareOp g) r) (ha:PE X a ta) (j:PE X b tb) (hm:behindInMarks g b=false):PT X (.Compare a [g] [b] pos) (qi (tOp r ta tb)):=by
 intro pins s σ H Q I h;refine wpAny_isTrue_Compare1 (thn (ha pins s σ H _ I h) λv l f=>?_) hm;obtain⟨x,H1,m,n,o⟩:=f;refine thn (j pins l σ H1 _ m o) λu s2 f=>?_
 obtain⟨y,H2,p,q,t⟩:=f;refine thn (i pins s2 σ H2 x y v u _ p n q t) λc s3 f=>?_
 obtain⟨z,w,A,B,k,e,C⟩:=f;subst e;cases B;exact wpAny_truthy_bool ⟨w,A,C⟩
def rm (r b:R2) (ta tb tc:TE):TE:=λσ H Q=>ta σ H λx H1=>tb σ H1 λy H2=>r x y H2 λz a=>∃k,z=.bl k /\
 (if k=true then tc σ a λc e=>b y c e Q else Q (.bl false) a)
theorem mr {i g:CmpOp} {m:R2} (t:OpR X (compareOp i) r) (j:OpR X (compareOp g) m) (ha:PE X a ta) (w:PE X b tb) (hc:PE X c tc)
  (hm:lastMarks [i,g] [b,c]=false:=by with_unfolding_all rfl):PE X (.Compare a [i,g] [b,c] pos) (rm r m ta tb tc):=by
 intro pins s σ H Q I h;refine Compare_chain (thn (ha pins s σ H _ I h) λv A f=>?_) hm;obtain⟨x,H1,B,C,D⟩:=f;refine chain_link (thn (w pins A σ H1 _ B D) λu s2 f=>?_);obtain⟨y,H2,E,n,F⟩:=f;refine thn (t pins s2 σ H2 x y v u _ E C n F) λd G f=>?_
 obtain⟨z,o,p,J,k,e,q⟩:=f;subst e;cases J;refine wpAny_truthy_bool ?_;cases k with
 |false=>exact ite_ff ⟨.bl false,o,p,rfl,q⟩
 |true=>exact ite_tt (chain_last (thn (hc pins G σ o _ p q) λK L l=>(by obtain⟨M,N,O,P,R⟩:=l;exact j pins L σ N y M u K Q O n P R)))
theorem iF:(sizeLine:Nat)<2 ^ 63:=by rw[sizeLine_eq];decide
theorem vals1 {x:V} (r:Vals [x] us):∃u,us=[u]/\RelV x u:=by
 cases r with
 |cons r1 r2=>cases r2;exact⟨_,rfl,r1⟩
theorem vals2 {x y:V} (r:Vals [x,y] us):∃u a,us=[u,a]/\RelV x u/\RelV y a:=by
 cases r with
 |cons r1 r2 =>
  cases r2 with
  |cons r3 r4=>cases r4;exact⟨_,_,rfl,r1,r3⟩
theorem lg (hc:X.calm=true):dE X (.builtin "min") (λxs H Q=>∃i j,xs=[.int i,.int j]/\Q (.int (if j<i then j else i)) H):=by
 intro pins s σ H xs us Q I r h;obtain⟨i,j,rfl,q⟩:=h;obtain⟨u,w',rfl,⟨t,rfl⟩,⟨t',rfl⟩⟩:=vals2 r;refine pI (I.hdH hc) λh' tk k=>⟨_,H,I.kept k,?_,q⟩
 by_cases hj:j<i
 ·rw[if_pos hj,if_pos hj];exact⟨_,rfl⟩
 ·rw[if_neg hj,if_neg hj];exact⟨_,rfl⟩
theorem lz:dE X (.type "int") (λxs H Q=>(∃i,xs=[.int i]/\Q (.int i) H)\/∃k,xs=[.bl k]/\Q (.int (if k then 1 else 0)) H):=by
 intro pins s σ H xs us Q I r h;rcases h with⟨i,rfl,q⟩|⟨k,rfl,q⟩
 ·obtain⟨u,rfl,t,rfl⟩:=vals1 r;exact call_int_int ⟨.int i,H,I,⟨_,rfl⟩,q⟩
 ·obtain⟨u,rfl,a⟩:=vals1 r;cases a;exact call_int_bool ⟨.int (if k then 1 else 0),H,I.tok _,⟨_,rfl⟩,q⟩
end
section
variable {prog:Program} {x dx f:Addr} {mA:Str->Option Value} {name:Str} {v:Value}
end
section
variable {H':Hp} {dx:Addr} {fs fs':List (Str×V)}
end
structure Cls (K:PySem.W.Frag) (C:Addr):Prop where
 pg:PySem.W.plainGet K C Str.empty=true
 hd:PySem.W.hasDictIn K C=true
 po:PySem.W.plainOver K C=true
 sa:PySem.W.findIn K (.ref C) "__setattr__"=some (some (.builtin "object.__setattr__"))
section
variable {dx:Addr} {fs:List (Str×V)} {f:Str} {v:V}
end
section
variable {o value:Expr} {f:Str} {tpos:Pos} {ta tv:TE}
end
section
variable {Q:Value->Shared->Prop} {c:Value} {b:Bool}
inductive fW (K:PySem.W.Frag) (H:Hp):V->Value->Prop where
 |non:fW K H .non (.type "NoneType")
 |bl (x:Bool):fW K H (.bl x) (.type "bool")
 |int (i:Int):fW K H (.int i) (.type "int")
 |str (x:Str):fW K H (.str x) (.type "str")
 |flt (x:UInt64):fW K H (.flt x) (.type "float")
 |lst {a:Addr} {xs:List V} (e:H a=some (.lst xs)):fW K H (.ref a) (.type "list")
 |frz {a:Addr} {o:Obj} {xs:List V} (e:H a=some (.frz o (.lst xs))):fW K H (.ref a) (.type "list")
 |tup {a:Addr} {xs:List V} (e:H a=some (.tup xs)):fW K H (.ref a) (.type "tuple")
 |dK {a:Addr} {kvs:List (Key×V)} (e:H a=some (.dK kvs)):fW K H (.ref a) (.type "dict")
 |dT {a:Addr} {kvs:List (List Key×V)} (e:H a=some (.dT kvs)):fW K H (.ref a) (.type "dict")
 |ins {a C dx:Addr} {fs:List (Str×V)} (e:H a=some (.ins C dx fs)) (cl:Cls K C) (ha:PySem.W.findIn K (.ref C) "__class__"=some (some (.builtin "object.__class__")))
  (hn:PySem.W.specialIn K (.builtin "object.__class__") "__get__"=some (some (.builtin "getset_descriptor.__get__"))) (htk:PySem.W.takesIn K (.builtin "object.__class__")=some true)
  (hm:PySem.W.mroIn K C (.type "object")=some true):fW K H (.ref a) (.ref C)
end
structure bF (k:Nat) (A:Around):Prop where
 hd:30<=k->A.handled=none
 dp:A.depth+3*k+5<recursionLimit
 un:A.units+16*k+200<cLine
theorem bF.mono (r:bF k A) (h:j<=k):bF j A:=⟨λz=>r.hd (by omega),by have:=r.dp;omega,by have:=r.un;omega⟩
theorem bF.deeper (r:bF (k+1) A) (env:Env):bF k (A.deeper env) :=
 ⟨λz=>r.hd (by omega),by have:=r.dp;show A.depth+1+3*k+5<_;omega,by have:=r.un;show A.units+3+16*k+200<_;omega⟩
theorem bF.depth (r:bF k A):A.depth<recursionLimit:=by have:=r.dp;omega
theorem bF.units (r:bF k A):A.units+64<cLine:=by have:=r.un;omega
def vf:TA:=λ_ H Q=>Q [] H
def uk (ta:TE) (a:TA):TA:=λσ H Q=>ta σ H λx H1=>a σ H1 λxs H2=>Q (x::xs) H2
section
variable {te:TE} {t:TA}
theorem dg:PA X [] vf:=λ_ _ _ _ H Q I h=>Calls.spliced_nil ⟨[],H,I,.nil,h⟩
theorem bV (ha:PE X e te) (c:PA X es t) (f:starEach (e::es) X.env=(false,eval e X.env)::starEach es X.env:=by rfl):PA X (e::es) (uk te t):=by intro pos pins s σ H Q I h;rw[f];show wpAny _ _ (spliced ((false,eval e X.env)::backTo pos (starEach es X.env))) _ _ s;refine Calls.spliced_cons (thn (ha pins s σ H _ I h) λu g a=>?_);obtain⟨x,H1,i,j,k⟩:=a;exact thn (c pos pins g σ H1 _ i k) λus s2 b=>(by obtain⟨xs,H2,l,m,n⟩:=b;exact⟨x::xs,H2,l,.cons j m,n⟩)
def vp (t:TA):TE:=λσ H Q=>t σ H λxs H1=>xs.length<=sizeLine/\∀p,H1 p=none->Q (.ref p) (upd H1 p (.tup xs))
def uY (t:TA):TE:=λσ H Q=>t σ H λxs H1=>xs.length<=sizeLine/\∀p,H1 p=none->Q (.ref p) (upd H1 p (.lst xs))
theorem qW {x1} (h:PA X es t):PE X (.Tuple es x1 pos) (vp t):=by intro pins s σ H Q I g;refine wpAny_Tuple_spliced (thn (h pos pins s σ H _ I g) λus a c=>?_);obtain⟨xs,H1,f,r,z,q⟩:=c;refine⟨by rw[<-r.length];exact z,?_⟩;have i:H1 a.heap.objs.size=none:=f.hok.fresh (A6 _);refine⟨.ref a.heap.objs.size,upd H1 a.heap.objs.size (.tup xs),f.laid (t':=a.toks) (λb u e=>A1 _ e) (A6 _) ?_,rfl,q _ i⟩;exact⟨z,us,r,⟨_,Ad _ rfl,rfl,rfl,_,rfl⟩⟩
theorem kh (h:PA X es t):PE X (.List es pos) (uY t):=by intro pins s σ H Q I g;refine wpAny_List_spliced (thn (h pos pins s σ H _ I g) λus a c=>?_);obtain⟨xs,H1,f,r,z,q⟩:=c;refine⟨by rw[<-r.length];exact z,?_⟩;have i:H1 a.heap.objs.size=none:=f.hok.fresh (A6 _);refine⟨.ref a.heap.objs.size,upd H1 a.heap.objs.size (.lst xs),f.laid (t':=a.toks) (λb u e=>A1 _ e) (A6 _) ?_,rfl,q _ i⟩;exact⟨z,us,0,r,Ad _ rfl⟩
end
abbrev Sp:=List V->Hp->VK->XK->Prop
abbrev CXT:=Option Value->List Env->Hp->Shared->XK->Value->Shared->Prop
def HdS (A:Around) (outer:List Env) (s:Shared) (H:Hp):Prop:=A.handled=none\/∃e oe vs,A.handled=some (.ref e)/\s.heap.get? e=some oe/\oe.data=.fields vs/\vs[2]?=some .none/\H e=none/\e∉frs outer
structure o3 (P:Program) (w:World) (K:PySem.W.Frag) (mg:Str->Option Value) (base:Heap) (A:Around) (outer:List Env) (s:Shared) (H:Hp):Prop where
 frames:A.frames=some outer
 mod:Mod K mg base
 bs:∀b o,base.get? b=some o->s.heap.get? b=some o/\H b=none
 bsz:base.objs.size<=s.heap.objs.size
 funs:s.heap.FunFrames base outer
 frf:∀b∈frs outer,H b=none
 hok:HOk P w H s.heap
 bare:AllBare s.gens
 tab:∀P q,TabOf K P q->H P=some (.tbl q)
 hd:HdS A outer s H
def CE (outer:List Env) (P:Program) (w:World) (H:Hp) (s:Shared) (Q:VK) (u:Value) (s':Shared):Prop :=
 ∃v H',s'.os=s.os/\AllBare s'.gens/\Un (frs outer) [] H H' s.heap s'.heap/\HOk P w H' s'.heap/\RelV v u/\Q v H'
def CR (CX:CXT) (a:Option Value) (outer:List Env) (P:Program) (w:World) (H:Hp) (s:Shared) (Q:VK) (E:XK) (r:Result) (s':Shared):Prop :=
 match r with
 |.ok (.ret u)=>CE outer P w H s Q u s'
 |.ok _=>False
 |.error e=>CX a outer H s E e s'
structure dG (P:Program) (w:World) (K:PySem.W.Frag) (mg:Str->Option Value) (base:Heap) (CX:CXT) (k:Nat) (f:Addr) (fd:FuncData) (ps:List Str) (sp:Sp):Prop where
 len:∀vs H Q E,sp vs H Q E->vs.length=ps.length
 run:∀(A:Around) (outer:List Env) (s:Shared) (H:Hp) (args:Args) (us:List Value) (vs:List V) (Q:VK) (E:XK),bF k A->o3 P w K mg base A outer s H->BindsTo s fd args (ps.zip us)->Vals vs us->sp vs H Q E ->
  codeAny (model P w) A (.call (.ref f) args) (CR CX A.handled outer P w H s Q E) s
section
theorem Inv.env0 (I:Inv X pins σ H s) (hc:X.calm=true):o3 X.prog X.w X.K X.mg X.base X.A X.stack s H:=by
 refine⟨I.ok.frames,I.ok.mod,I.bs,Ax I.ok.bsz I.sz,I.stack,I.stkFree,I.hok,I.bare,I.tab,?_⟩;rcases I.ok.hd hc with x|⟨e,oe,vs,b,c,f,g⟩
 ·exact .inl x
 ·obtain⟨p1,p2,h,a,_⟩:=I.pin (e,oe) (Aa _ c);refine .inr ⟨e,oe,vs,b,p1,f,g,p2,λz=>?_⟩;rcases I.ok.stk with q|⟨q,i⟩
  ·rw[q]at z;exact a z
  ·rw[q]at z;unfold frs at z;rw[AM,i]at z;rcases List.mem_cons.mp z with z|z
   ·exact h z
   ·exact a z
theorem Inv.after {Q:VK} (I:Inv X pins σ H s) (h:CE X.stack X.prog X.w H s Q u s'):EP X pins σ Q u s':=by obtain⟨v,H',os,bare,un,hok,r,q⟩:=h;obtain⟨c,g,d,t,a⟩:=s';obtain rfl:a=s.os:=os;exact⟨v,H',I.call (h':=c) (g':=g) (d':=d) (t':=t) (ch:=[]) un hok bare (λb z=>absurd z (by simp)),r,q⟩
end
def tR (sp:Sp) (dvs:List V) (E:XK) (t:TA):TE:=λσ H Q=>t σ H λvs H1=>sp (vs++dvs) H1 Q E
def Binds (K:PySem.W.Frag) (fd:FuncData) (ps:List Str) (ds:List Value):Prop :=
 ∀(s:Shared) (us:List Value),K.In s.heap->(us++ds).length=ps.length->BindsTo s fd ⟨us,[]⟩ (ps.zip (us++ds))
theorem Binds.all (h:∀us:List Value,us.length=ps.length->bindArgs fd ⟨us,[]⟩=pure (ps.zip us)):Binds K fd ps []:=λs us _ hl=>by rw[List.append_nil]at hl ⊢;exact .of_eq (h us hl)
def Passes (CX:CXT) (X:Cx) (E:XK):Prop:=X.calm=true/\∀(pins:List (Addr×Obj)) (σ:St) (H:Hp) (s:Shared) (e:Value) (s':Shared),Inv X pins σ H s->CX X.A.handled X.stack H s E e s'->X.xe e s'
section
variable {CX:CXT} {f:Addr} {sp:Sp} {dvs:List V} {ds:List Value} {E:XK} {m:Str} {apos:Pos} {o:Expr} {ta:TE} {t:TA}
theorem sC {Q:VK} {vs:List V} (F:dG X.prog X.w X.K X.mg X.base CX k f fd ps sp) (g:bF k X.A) (i:Binds X.K fd ps ds) (hd:Vals dvs ds) (b:Passes CX X E)
  (I:Inv X pins σ H s) (r:Vals vs us) (h:sp (vs++dvs) H Q E):wpAny (model X.prog X.w) X.A (call (.ref f) us) (EP X pins σ Q) X.xe s:=by
 have c:Vals (vs++dvs) (us++ds):=r.append hd;have hl:(us++ds).length=ps.length:=by rw[<-c.length];exact F.len _ _ _ _ h
 refine wpAny_call (codeAny_mono (F.run X.A X.stack s H ⟨us,[]⟩ (us++ds) (vs++dvs) Q E g (I.env0 b.1) (i s us I.kIn hl) c h) λr s' a=>?_);cases r with
 |error e=>exact b.2 pins σ H s e s' I a
 |ok fl =>
  cases fl with
  |ret u=>exact I.after a
  |next=>exact False.elim a
  |brk=>exact False.elim a
  |cont=>exact False.elim a
theorem kU (F:dG X.prog X.w X.K X.mg X.base CX k f fd ps sp) (i:bF k X.A) (j:Gl X x) (hm:X.mg x=some (.ref f)) (l:PySem.W.keepIn X.K (.ref f)=true) (m:Binds X.K fd ps ds) (hd:Vals dvs ds) (n:Passes CX X E)
  (ha:PA X (e::es) t) (a:(x==("__debug__":Str))=false:=by decide) (o:starEach (e::es) X.env=(false,eval e X.env)::starEach es X.env:=by rfl) (b:(backTo pos (starEach es X.env)).any (·.1)=false:=by rfl) :
  PE X (.Call (.Name x p) (e::es) [] pos) (tR sp dvs E t):=by
 intro pins s σ H Q I h;refine wpAny_Call_Name_kw (dW I j hm ?_ a);refine PySem.W.callWith_K (h₀:=X.base) I.ok.mod.kin l (thn (ha pos pins s σ H _ I h) λus s1 c=>?_) o b;obtain⟨vs,H1,g,r,q⟩:=c;refine⟨g.kIn,?_⟩;exact sC F i m hd n g r q
end
section
variable {CX:CXT} {f:Addr} {ks:List Str} {sp:Sp} {E:XK} {m:Str} {apos kpos:Pos} {o:Expr} {kws:List Keyword} {te ta:TE} {t tk:TA} {nm:Option Str}
variable {g:List Value->List Value->List Value} {gV:List V->List V->List V}
end
structure ck (N P:List Str) (sc:Scope):Prop where
 kind:sc.kind=.function
 co:sc.isCoroutine=false
 gen:sc.isGenerator=false
 nd:N.Nodup
 pre:N.take P.length=P
 par:∀x∈P,sc.names.lookup x=some .local\/sc.names.lookup x=some .cell
 nofree:∀y∈sc.names,y.2≠.free
theorem gN {kindOf:Str->Option NameKind} {x:Str}:∀{binds:List (Str×Value)} {m:Str->Option Value},(∀v,(x,v)∉binds)->bindL kindOf binds m x=m x
 |[],_,_=>rfl
 |(n,v)::r,m,h=>by
  unfold bindL;rw[gN λw hw=>h w (Ab _ hw)];split
  ·have:x≠n:=by rintro rfl;exact h v List.mem_cons_self
   simp[this]
  ·rfl
theorem gY {kindOf:Str->Option NameKind} {x:Str}:∀{binds:List (Str×Value)} {m:Str->Option Value},(∀v,(x,v)∉binds)->bindC kindOf binds m x=m x
 |[],_,_=>rfl
 |(n,v)::r,m,h=>by
  unfold bindC;rw[gY λw hw=>h w (Ab _ hw)];split
  ·rfl
  ·have:x≠n:=by rintro rfl;exact h v List.mem_cons_self
   simp[this]
theorem gZ {kindOf:Str->Option NameKind} {x:Str} {v:Value}:∀{P:List Str} {vs:List Value} {i:Nat} {m:Str->Option Value},P.Nodup->P[i]?=some x->vs[i]?=some v->kindOf x=some .local ->
  bindL kindOf (P.zip vs) m x=some v
 |[],_,_,_,_,h,_,_=>by simp at h
 |_::_,[],_,_,_,_,h,_=>by simp at h
 |p::P,w::vs,0,m,nd,h1,h2,hk=>by simp at h1 h2;subst h1;subst h2;show bindL kindOf ((p,w)::P.zip vs) m p=_;unfold bindL;rw[gN λv a=>(AX.mp nd).1 (List.of_mem_zip a).1,if_pos hk];simp
 |p::P,w::vs,i+1,m,nd,h1,h2,hk=>by show bindL kindOf ((p,w)::P.zip vs) m x=_;unfold bindL;exact gZ (i:=i) (AX.mp nd).2 (by simpa using h1) (by simpa using h2) hk
theorem gO {kindOf:Str->Option NameKind} {x:Str} {v:Value}:∀{P:List Str} {vs:List Value} {i:Nat} {m:Str->Option Value},P.Nodup->P[i]?=some x->vs[i]?=some v->kindOf x≠some .local ->
  bindC kindOf (P.zip vs) m x=some v
 |[],_,_,_,_,h,_,_=>by simp at h
 |_::_,[],_,_,_,_,h,_=>by simp at h
 |p::P,w::vs,0,m,nd,h1,h2,hk=>by simp at h1 h2;subst h1;subst h2;show bindC kindOf ((p,w)::P.zip vs) m p=_;unfold bindC;rw[gY λv a=>(AX.mp nd).1 (List.of_mem_zip a).1,if_neg hk];simp
 |p::P,w::vs,i+1,m,nd,h1,h2,hk=>by show bindC kindOf ((p,w)::P.zip vs) m x=_;unfold bindC;exact gO (i:=i) (AX.mp nd).2 (by simpa using h1) (by simpa using h2) hk
def start (N:List Str) (vs:List V):St:=vs.map some++List.replicate (N.length-vs.length) none
def mv (A:Around) (s:Shared):List (Addr×Obj):=match A.handled with
 |some (.ref e)=>(match s.heap.get? e with|some o=>[(e,o)]|none=>[])
 |_=>[]
def cI (CX:CXT) (P:Program) (w:World) (K:PySem.W.Frag) (mg:Str->Option Value) (base:Heap) (N:List Str) (qual:Str) (scope:Scope) (f:Addr) (cd:Value) (A:Around) (outer:List Env) (s:Shared) (H:Hp) (E:XK):Cx where
 prog:=P
 w:=w
 K:=K
 mg:=mg
 base:=base
 A:=A.deeper (envOfC qual scope s.heap.objs.size f cd)
 N:=N
 s₀:=s
 H₀:=H
 env:=envOfC qual scope s.heap.objs.size f cd
 outer:=outer
 stack:=envOfC qual scope s.heap.objs.size f cd::outer
 ex:=[]
 calm:=true
 fn:=λ_=>true
 pn:=mv A s
 xe:=λe s'=>wpAny (model P w) (A.deeper (envOfC qual scope s.heap.objs.size f cd)) (leaving (envOfC qual scope s.heap.objs.size f cd) e) (λ_ a=>CX A.handled outer H s E e a) (λb a=>CX A.handled outer H s E b a) s'
theorem jm {sc:Scope} (h:sc.names.lookup x=some .cell):∃c,(cellsFrom n sc.names []).lookup x=some c:=by have q:=PySem.W.cellsFrom_some sc.names n [] (.inl h);exact Option.isSome_iff_exists.mp q
theorem k7 {CX:CXT} {f:Addr} {C:Shared} {E:XK} {vs:List V}
  (S:ck N ps scope) (g:o3 P w K mg base A outer s H) (hl:vs.length=ps.length) (r:Vals vs us)
  (x:InCallC s s.heap.objs.size (bindL (envOfC qual scope s.heap.objs.size f cd).kindOf (ps.zip us) λ_=>none) (cellsFrom (s.heap.objs.size+1) scope.names []) (bindC (envOfC qual scope s.heap.objs.size f cd).kindOf (ps.zip us) λ_=>none) C) :
  Inv (cI CX P w K mg base N qual scope f cd A outer s H E) [] (start N vs) H C:=by
 have hpl:ps.length<=N.length:=by have:=congrArg List.length S.pre;rw[AJ]at this;omega
 obtain⟨h1,tk,rfl,B⟩:=x.done;have l:∀b:Addr,b∉(cI CX P w K mg base N qual scope f cd A outer s H E).ex:=λb z=>absurd (show b∈([]:List Addr) from z) (by simp)
 refine⟨⟨g.mod,S.kind,rfl,rfl,A6 _,λy z c h1 h2=>?_,λy m=>?_,λy c _ h=>?_,λ_=>?_,Around.frames_deeper g.frames,.inr ⟨rfl,rfl⟩,λb z=>absurd z (l b),g.bs,g.bsz,λb _ _=>l b,λb z=>absurd z (l b),g.funs,g.frf⟩,
  rfl,g.bare,Un.kept B,⟨_,x.toInCall.ns,λi y v h1 h2 h3=>?_⟩,λy c h=>⟨_,x.cell y c h⟩,g.hok.fresh (A6 _),λy c h=>?_,λp j=>?_,g.hok.kept B,?_,g.tab⟩
 ·exact name_of_addr x.apart (PySem.mem_of_lookup h1) (PySem.mem_of_lookup h2)
 ·have m:scope.names.lookup y=some .cell\/scope.names.lookup y=some .free:=m;rcases m with m|m
  ·exact jm m
  ·exact absurd rfl (S.nofree _ (PySem.mem_of_lookup m))
 ·exact Nat.le_of_lt (x.above y c (PySem.mem_of_lookup h))
 ·rcases g.hd with z|⟨e,oe,o,z1,z2,z3,z4,_⟩
  ·exact .inl z
  ·refine .inr ⟨e,oe,o,z1,?_,z3,z4⟩;show (e,oe)∈mv A s;unfold mv;rw[z1];dsimp only;rw[z2];exact List.mem_cons_self
 ·have hi:i<vs.length:=by
   unfold start at h2;by_cases hi:i<vs.length
   ·exact hi
   ·rw[Au (by simpa using hi)]at h2;rw[AN]at h2;split at h2 <;> cases h2
  have ha:vs[i]?=some v:=by
   unfold start at h2;rw[Ak (by simpa using hi),Ap]at h2;cases e:vs[i]? with
   |none=>rw[e]at h2;cases h2
   |some a=>rw[e]at h2;cases h2;rfl
  obtain⟨u,D,F⟩:=r.get ha;have j:ps[i]?=some y:=by rw[<-S.pre,List.getElem?_take_of_lt (by omega)];exact h1
  have t:ps.Nodup:=by rw[<-S.pre];exact S.nd.sublist (List.take_sublist _ _)
  refine⟨u,F,?_⟩;rcases S.par y (List.mem_of_getElem? j) with k|k
  ·exact .inl ⟨k,gZ t j D k⟩
  ·obtain⟨c,e⟩:=jm (n:=s.heap.objs.size+1) k;refine .inr ⟨.inl k,c,e,?_⟩;have q:=x.cell y c e;rw[gO t j D (by show scope.names.lookup y≠_;rw[k];decide)]at q;exact q
 ·exact g.hok.fresh (Nat.le_of_lt (x.above y c (PySem.mem_of_lookup h)))
 ·have j:p∈mv A s:=(Ac.mp j).resolve_right A7;unfold mv at j;rcases g.hd with z|⟨e,oe,o,z1,z2,z3,z4,z5,z6⟩
  ·rw[z]at j;cases j
  ·rw[z1]at j;dsimp only at j;rw[z2]at j;cases List.mem_singleton.mp j;exact⟨B e oe z2,z5,Nat.ne_of_lt (Heap.lt_size z2),z6,λv q=>by rw[z3]at q;cases q⟩
 ·unfold start;show _=N.length;rw[Ae,Af,List.length_replicate];omega
theorem p9 {CX:CXT} {f:Addr} {name:Str} {params:Arguments} {z kV doc cdv:Value}
  {sp:Sp} (F:K.lookup f=some ⟨oc,od,.func (PySem.W.fnOf name qual params body scope z kV doc pm an cdv ct),osl⟩) (l:PySem.W.codeIn K cdv qual=true) (S:ck N ps scope)
  (len:∀vs H Q E,sp vs H Q E->vs.length=ps.length)
  (c:∀(A:Around) (outer:List Env) (s:Shared) (H:Hp) (vs:List V) (Q:VK) (E:XK),bF k (A.deeper (envOfC qual scope s.heap.objs.size f cdv))->sp vs H Q E ->
   ∃t,PSs (cI CX P w K mg base N qual scope f cdv A outer s H E) body t/\t { nx:=λ_ H'=>Q .non H',rt:=Q } (start N vs) H) :
  dG P w K mg base CX (k+1) f (PySem.W.fnOf name qual params body scope z kV doc pm an cdv ct) ps sp:=by
 refine⟨len,λA outer s H args us vs Q E B i G r j=>?_⟩;have hl:=len _ _ _ _ j;have C:K.In s.heap:=i.mod.kin.keeps λb o e=>(i.bs b o e).1
 have lim:s.heap.NoLimit:=i.mod.nolimit.keeps λb o e=>(i.bs b o e).1
 have g:∀y∈ps.zip us,scope.names.lookup y.1=some .local\/(scope.names.lookup y.1=some .cell/\((cellsFrom (s.heap.objs.size+1) scope.names []).lookup y.1).isSome=true):=λm L=>by
  obtain⟨n,v⟩:=m;rcases S.par n (List.of_mem_zip L).1 with q|q
  ·exact .inl q
  ·exact .inr ⟨q,PySem.W.cellsFrom_some _ _ _ (.inl q)⟩
 refine codeAny_call_function B.depth (C _ _ F) rfl S.co S.gen rfl (PySem.W.codeRec_of C l) (G _ _ _ _ ?_);refine wpAny_newFunctionEnv_cells S.kind g λenv M D x=>?_
 subst M;refine⟨lim.keeps x.toInCall.keep,codeAny_func ?_⟩;obtain⟨t,O,R⟩:=c A outer s H vs Q E (B.deeper _) j;have I:Inv (cI CX P w K mg base N qual scope f cdv A outer s H E) [] (start N vs) H D:=k7 S i hl r x;refine wpAny_mono (O [] D (start N vs) H _ I R) (λT s' h=>?_) λe s' h=>h
 have fin:∀{a:St} {H':Hp} {v:V} {u:Value},Inv (cI CX P w K mg base N qual scope f cdv A outer s H E) [] a H' s'->RelV v u->Q v H'->CE outer P w H s Q u s' :=
  λ{a H' v u} J p q=>⟨v,H',J.os,J.bare,J.base,J.hok,p,q⟩
 cases T with
 |ret u =>obtain⟨v,a,H',J,p,q⟩:=h;exact fin J p q
 |next =>obtain⟨a,H',J,q⟩:=h;exact fin (v:=V.non) (u:=Value.none) J rfl q
 |brk =>obtain⟨_,_,_,q⟩:=h;exact False.elim q
 |cont =>obtain⟨_,_,_,q⟩:=h;exact False.elim q
section
variable {t:TA} {id T:String} {r:List V->Hp->VK->Prop}
def tCB (r:List V->Hp->VK->Prop) (t:TA):TE:=λσ H Q=>t σ H λvs H1=>r vs H1 Q
theorem cu (hc:dE X (.builtin id) r) (f:Gl X x) (hm:X.mg x=none) (g:bootBuiltins x=some (.builtin id)) (ha:PA X (e::es) t) (hn:x≠"__name__":=by decide) (a:(x==("__debug__":Str))=false:=by decide)
  (i:starEach (e::es) X.env=(false,eval e X.env)::starEach es X.env:=by rfl) (b:(backTo pos (starEach es X.env)).any (·.1)=false:=by rfl):PE X (.Call (.Name x p) (e::es) [] pos) (tCB r t):=by
 intro pins s σ H Q I h;refine wpAny_Call_Name_kw (iS I f hm g ?_ hn a);exact PyProof.Rows.callWith_builtin1 (thn (ha pos pins s σ H _ I h) λus j c=>(by obtain⟨vs,H1,k,l,m⟩:=c;exact hc pins j σ H1 vs us Q k l m)) i b
theorem eR (hc:dE X (.type T) r) (f:Gl X x) (hm:X.mg x=none) (g:bootBuiltins x=some (.type T)) (ha:PA X (e::es) t) (hn:x≠"__name__":=by decide) (a:(x==("__debug__":Str))=false:=by decide)
  (i:starEach (e::es) X.env=(false,eval e X.env)::starEach es X.env:=by rfl) (b:(backTo pos (starEach es X.env)).any (·.1)=false:=by rfl):PE X (.Call (.Name x p) (e::es) [] pos) (tCB r t):=by
 intro pins s σ H Q I h;refine wpAny_Call_Name_kw (iS I f hm g ?_ hn a);exact PyProof.Rows.callWith_type1 (thn (ha pos pins s σ H _ I h) λus j c=>(by obtain⟨vs,H1,k,l,m⟩:=c;exact hc pins j σ H1 vs us Q k l m)) i b
end
end L2
variable {o:L2.HO} {vs xs:List L2.V} {H H' H1 G:L2.Hp} {v:L2.V} {X:L2.Cx} {σ:L2.St} {sp:L2.Sp} {r:L2.V->Option Int->Option Int->L2.Hp->L2.VK->Prop}
namespace HT
open PySem PyProof.Rows
section
open PySem.SeqAt
open PySem.AutoSeq1 (wpAny_loadPart')
open PySem.MeetsSeq PySem.MeetsSeq2 PySem.MeetsSeq3
end
section
variable {prog:Program} {A:Around}
theorem oH {vs a:List Value} {Q:Value->Shared->Prop} (m:IsTup s.heap t vs.toArray) (o:IsTup s.heap b a.toArray) (k:vs≠[])
  (h1:a=[]->Q (.ref t) s) (h2:a≠[]->Q (.ref s.heap.objs.size) { s with heap:=s.heap.push { cls:=.type "tuple",data:=.seq (vs++a).toArray } })
  (j:vs.length+a.length<=sizeLine):wpAny (model prog w) A (binaryOp .Add (.ref t) (.ref b)) Q E s:=by
 obtain⟨⟨cls,dd,data,l⟩,i,hc,n,hd⟩:=id m;obtain⟨⟨cls2,f,data2,g⟩,c,h,n2,hd2⟩:=id o;simp only at hc hd h hd2;subst hc hd h hd2;have e:vs.toArray++a.toArray=(vs++a).toArray:=by simp
 by_cases hw:a=[]
 ·exact concat_meets ⟨_,i,rfl⟩ ⟨_,c,rfl⟩ noFill_tuple_add seq_tuple_add PySem.F.slot_tuple_add PySem.F.entry_tuple_add (PySem.F.args_tuple_add_2 _ _)
   (tuple_addW1 t b vs.toArray a.toArray n n2 dd f l g (by simpa using k) (by simp[hw])) ⟨i,c,h1 hw⟩
 ·refine concat_meets ⟨_,i,rfl⟩ ⟨_,c,rfl⟩ noFill_tuple_add seq_tuple_add PySem.F.slot_tuple_add PySem.F.entry_tuple_add (PySem.F.args_tuple_add_2 _ _)
   (tuple_addW2 t b vs.toArray a.toArray n n2 dd f l g (by simpa using k) (by simpa using hw) (by rw[A3,A3];exact j)) ⟨i,c,?_⟩
  rw[e];exact h2 hw
def sIx (n d:Nat):Option Int->Nat
 |none=>d
 |some v=>if v<0 then (v+(n:Int)).toNat else min v.toNat n
theorem kC (n d k:Nat):sIx n d (some (k:Int))=min k n:=by show (if (k:Int)<0 then ((k:Int)+(n:Int)).toNat else min (k:Int).toNat n)=min k n;rw[if_neg (by omega),AR]
theorem sx (n d:Nat) (hd:d<=n) (o:Option Int):sIx n d o<=n:=by
 cases o with
 |none=>exact hd
 |some v =>
  show (if v<0 then (v+(n:Int)).toNat else min v.toNat n)<=n;by_cases hv:v<0
  ·rw[if_pos hv];omega
  ·rw[if_neg hv];exact Nat.min_le_right _ _
theorem ku (v:Int) (n d:Nat):(if v<0 then max (v+(n:Int)) 0 else min v (n:Int))=((sIx n d (some v):Nat):Int):=by
 show (if v<0 then max (v+(n:Int)) 0 else min v (n:Int))=(((if v<0 then (v+(n:Int)).toNat else min v.toNat n):Nat):Int)
 by_cases hv:v<0
 ·simp only[if_pos hv];omega
 ·simp only[if_neg hv];omega
theorem jM (lo hi:Option Int) (n:Nat):Builtin.Slice.sliceAdjust lo hi 1 (n:Int)=(((sIx n 0 lo:Nat):Int),((sIx n n hi:Nat):Int)):=by
 have h1:¬ ((1:Int)<0):=by omega
 unfold Builtin.Slice.sliceAdjust;simp only[h1,if_false];refine Prod.ext ?_ ?_
 ·cases lo with
  |none=>rfl
  |some v=>exact ku v n 0
 ·cases hi with
  |none=>rfl
  |some v=>exact ku v n n
theorem j9 (i j:Nat):Builtin.Slice.slicePlaces (i:Int) (j:Int) 1=j-i:=by
 unfold Builtin.Slice.slicePlaces;have h1:(1:Int)>0:=by omega
 simp only[h1,if_true,Int.ediv_one];split <;> omega
theorem fP {v:Value} {o:Option Int} {Q:Option Int->Shared->Prop} (p:IsPart v o) (h:Q o s):wpAny (model prog w) A (Builtin.Slice.slicePartIndex v) Q E s:=by
 cases p with
 |none=>exact slicePart_none h
 |int i t=>exact slicePart_int h
theorem cR {f:Addr} {c e:Value} {Q:Int×Int×Nat->Shared->Prop} (g:s.heap.IsSliceOf f c e .none) (pl:IsPart c lo) (i:IsPart e hi)
  (h:Q (((sIx n 0 lo:Nat):Int),1,sIx n n hi-sIx n 0 lo) s):wpAny (model prog w) A (Builtin.Slice.sliceApplied (.ref f) (pure (n:Int))) Q E s:=by
 obtain⟨os,a,hcs,b⟩:=id g;unfold Builtin.Slice.sliceApplied Builtin.Slice.sliceFields;refine wpAny_bind (wpAny_bind (wpAny_field a b (x:=c) rfl (wpAny_bind (wpAny_field a b (x:=e) rfl (wpAny_bind (wpAny_field a b (x:=.none) rfl (wpAny_pure ?_)))))));refine wpAny_bind (slicePart_none ?_);show wpAny _ _ (if ((1:Int)==0)=true then _ else _) _ _ s;rw[if_neg (by decide)];refine wpAny_bind (fP pl (wpAny_bind (fP i (wpAny_bind (wpAny_pure ?_)))));show wpAny _ _ (match Builtin.Slice.sliceAdjust lo hi 1 (n:Int) with|(lo,hi)=>pure (lo,(1:Int),Builtin.Slice.slicePlaces lo hi 1)) _ _ s;rw[jM lo hi n];show wpAny _ _ (pure (((sIx n 0 lo:Nat):Int),(1:Int),Builtin.Slice.slicePlaces ((sIx n 0 lo:Nat):Int) ((sIx n n hi:Nat):Int) 1)) _ _ s;rw[j9];exact wpAny_pure h
theorem mL (xs:Array Value) (i k:Nat):((List.range k).filterMap λ(m:Nat)=>xs[((i:Int)+(m:Int)*1).toNat]?).toArray=((xs.toList.drop i).take k).toArray:=by
 have e:(λ(m:Nat)=>xs[((i:Int)+(m:Int)*1).toNat]?)=λm=>xs[i+m]?:=by
  funext m;have:((i:Int)+(m:Int)*1).toNat=i+m:=by omega
  rw[this]
 rw[e];have:=pick_run xs i k;rw[List.filterMap_map]at this;have e2:((λx=>xs[x]?)∘λx=>i+x)=λm=>xs[i+m]?:=rfl
 rw[e2]at this;rw[this]
theorem eI {j k:Value} {Q:Value->Shared->Prop} (b:IsTup s.heap t items) (l:s.heap.IsSliceOf c j k .none) (pl:IsPart j lo) (n:IsPart k hi)
  (hw:¬ (sIx items.size 0 lo=0/\sIx items.size items.size hi=items.size))
  (h:Q (.ref s.heap.objs.size) { s with heap:=s.heap.push { cls:=.type "tuple",data:=.seq ((items.toList.drop (sIx items.size 0 lo)).take (sIx items.size items.size hi-sIx items.size 0 lo)).toArray } })
  (hsz:items.size<=sizeLine):wpAny (model prog w) A (getItem (.ref t) (.ref c)) Q E s:=by
 have a:sizeOk (.seq ((items.toList.drop (sIx items.size 0 lo)).take (sIx items.size items.size hi-sIx items.size 0 lo)).toArray):=by show ((items.toList.drop (sIx items.size 0 lo)).take (sIx items.size items.size hi-sIx items.size 0 lo)).toArray.size<=sizeLine;rw[A3,AJ,B6,B1];omega
 have hj:sIx items.size items.size hi<=items.size:=sx _ _ (A6 _) hi;obtain⟨os,e,f,hds⟩:=id l;have g:s.TypeIs (.ref c) "slice":=⟨os,e,f⟩
 unfold getItem
 try with_reducible refine wpAny_holding ?_
 first|refine wpAny_bind (wpAny_pure ?_)|skip
 refine wpAny_bind (wpAny_sequenceKey b.typeIs (by decide) ?_);refine wpAny_bind (wpAny_callSpecial?_slot (name:=Str.ofString "__getitem__") b.typeIs PyProof.Rows.slot_tuple_getitem
  (wpAny_call_entry PyProof.Rows.slot_tuple_getitem b.typeIs entry_tuple_getitem ?_ (args_tuple_getitem _ _)))
 show wpAny _ _ (Builtin.Tuple.tupleItemsOf (.ref t) >>= _) _ _ s;refine wpAny_bind (tupleItemsOf_ b ?_);refine wpAny_bind (wpAny_typeOf g ?_);rw[if_pos (by decide)];refine wpAny_bind (cR l pl n ?_);have i:¬ ((((sIx items.size 0 lo:Nat):Int)==0&&(1:Int)==1&&(sIx items.size items.size hi-sIx items.size 0 lo)==items.size)=true):=by intro q;rw[Ag,Ag]at q;have q1:((sIx items.size 0 lo:Nat):Int)=0:=eq_of_beq q.1.1;have q2:sIx items.size items.size hi-sIx items.size 0 lo=items.size:=eq_of_beq q.2;exact hw ⟨by omega,by omega⟩
 show wpAny _ _ (if (((sIx items.size 0 lo:Nat):Int)==0&&(1:Int)==1&&(sIx items.size items.size hi-sIx items.size 0 lo)==items.size)=true then _ else _) _ _ s;rw[if_neg i,mL]
 first
  |exact wpAny_bind (m:=Builtin.Tuple.tupleExact _) (wpAny_newObj_type (wpAny_pure ⟨_,rfl,wpAny_pure h⟩) a)
  |exact wpAny_bind (m:=Builtin.Tuple.tupleExact _) (wpAny_newObj_type (wpAny_bind (wpAny_pure (wpAny_pure ⟨_,rfl,wpAny_pure h⟩))) a)
  |exact wpAny_bind (wpAny_bind (m:=Builtin.Tuple.tupleExact _) (wpAny_newObj_type (wpAny_pure (wpAny_pure ⟨_,rfl,wpAny_pure h⟩)) a))
  |exact wpAny_bind (wpAny_bind (m:=Builtin.Tuple.tupleExact _) (wpAny_newObj_type (wpAny_pure ⟨_,rfl,wpAny_pure h⟩) a))
end
end HT
namespace L2
open PySem PySem.Spec PyProof.Rows
variable {a:List Value}
abbrev TO:=St->Hp->(Option Int->Hp->Prop)->Prop
def PO (X:Cx) (e:Option Expr) (t:TO):Prop :=
 ∀(pins:List (Addr×Obj)) (s:Shared) (σ:St) (H:Hp) (Q:Option Int->Hp->Prop),Inv X pins σ H s->t σ H Q ->
  wpAny (model X.prog X.w) X.A (evalPart e X.env) (λu s'=>∃o H',Inv X pins σ H' s'/\IsPart u o/\Q o H') X.xe s
def o4:TO:=λ_ H Q=>Q none H
def tm (t:TE):TO:=λσ H Q=>t σ H λx H1=>∃i,x=.int i/\Q (some i) H1
theorem intsAre_of:∀{us:List Value},Vals (ns.map V.int) us->IntsAre us ns:=by
 induction ns with
 |nil=>intro us r;rw[List.map_nil]at r;cases r;exact .nil
 |cons n ns ih =>
  intro us r;rw[AB]at r;cases r with
  |cons r1 r2 =>obtain⟨t,e⟩:=r1;subst e;exact .cons n t (ih r2)
section
variable {te:TE} {lo hi:Option Expr} {tl th:TO} {p2:Pos}
theorem pD:PO X none o4:=by intro pins s σ H Q I h;rw[evalPart_none];exact wpAny_pure ⟨none,H,I,.none,h⟩
theorem pO (h:PE X e te):PO X (some e) (tm te):=by
 intro pins s σ H Q I hw;rw[evalPart_some];refine thn (h pins s σ H _ I hw) λu s1 a=>?_
 obtain⟨x,H1,b,c,f⟩:=a;obtain⟨i,rfl,q⟩:=f;obtain⟨t,rfl⟩:=c;exact⟨some i,H1,b,.int i t,q⟩
def SlR (X:Cx) (r:V->Option Int->Option Int->Hp->VK->Prop):Prop :=
 ∀(pins:List (Addr×Obj)) (s:Shared) (σ:St) (H:Hp) (x:V) (v a b:Value) (lo hi:Option Int) (c:Addr) (Q:VK),Inv X pins σ H s->RelV x v->s.heap.IsSliceOf c a b .none->IsPart a lo->IsPart b hi->r x lo hi H Q ->
  ∃T id,typeLookup (.type T) "__getitem__"=pure (some (.builtin id))/\s.TypeIs v T/\wpAny (model X.prog X.w) X.A (getItem v (.ref c)) (EP X pins σ Q) X.xe s
theorem SlR.or {a:V->Option Int->Option Int->Hp->VK->Prop} (h:SlR X r) (h':SlR X a):SlR X (λx lo hi H Q=>r x lo hi H Q\/a x lo hi H Q):=by
 intro pins s σ H x v b c lo hi e Q I f g pl i q;rcases q with q|q
 ·exact h pins s σ H x v b c lo hi e Q I f g pl i q
 ·exact h' pins s σ H x v b c lo hi e Q I f g pl i q
def tSl (r:V->Option Int->Option Int->Hp->VK->Prop) (te:TE) (tl th:TO):TE:=λσ H Q=>te σ H λx H1=>tl σ H1 λl H2=>th σ H2 λu a=>r x l u a Q
theorem nh (j:SlR X r) (k:PE X e te) (hl:PO X lo tl) (m:PO X hi th):PE X (.Subscript e (.Slice lo hi none p2) pos) (tSl r te tl th):=by
 intro pins s σ H Q I h;refine Subscript_ (thn (k pins s σ H _ I h) λv n a=>?_);obtain⟨x,H1,o,p,t⟩:=a;refine wpAny_Slice (thn (hl pins n σ H1 _ o t) λf s2 a=>?_);obtain⟨l,H2,y,pl,z⟩:=a;refine thn (m pins s2 σ H2 _ y z) λg c a=>?_
 obtain⟨u,i,B,C,D⟩:=a;rw[evalPart_none];refine wpAny_pure ?_;have E:Inv X pins σ i { c with heap:=c.heap.push { cls:=.type "slice",data:=.fields #[f,g,.none] } }:=B.kept (t':=c.toks) λb ob q=>A1 _ q
 obtain⟨T,id,F,G,J⟩:=j pins { c with heap:=c.heap.push { cls:=.type "slice",data:=.fields #[f,g,.none] } } σ i x v f g l u c.heap.objs.size Q E p (Heap.IsSliceOf.new ..) pl C D;show wpAny (model X.prog X.w) X.A (subscriptTail e (.Slice lo hi none p2) v (.ref c.heap.objs.size)) (EP X pins σ Q) X.xe { c with heap:=c.heap.push { cls:=.type "slice",data:=.fields #[f,g,.none] } };exact tail_any (ops:=[.ref c.heap.objs.size,v]) G F J (by with_unfolding_all rfl)
def jA (xs:List V) (lo hi:Option Int):List V:=(xs.drop (HT.sIx xs.length 0 lo)).take (HT.sIx xs.length xs.length hi-HT.sIx xs.length 0 lo)
theorem fg (xs:List V) (lo hi:Option Int):(jA xs lo hi).length<=xs.length:=by unfold jA;rw[AJ,B6];omega
def u3 (K:PySem.W.Frag):V->Option Int->Option Int->Hp->VK->Prop:=λx lo hi H Q=>∃a xs,x=.ref a/\SqT K H a xs /\
 ¬ (HT.sIx xs.length 0 lo=0/\HT.sIx xs.length xs.length hi=xs.length)/\∀p,H p=none->Q (.ref p) (upd H p (.tup (jA xs lo hi)))
theorem rF:SlR X (u3 X.K):=by
 intro pins s σ H x v vl vu lo hi sl Q I g i pl j h;obtain⟨a,xs,rfl,k,hw,q⟩:=h;cases g;obtain⟨c,r,e,f⟩:=I.tuple k;have hlen:c.toArray.size=xs.length:=by rw[A3];exact r.length.symm
 refine⟨"tuple",_,PyProof.Rows.slot_tuple_getitem.lookup,e.typeIs,?_⟩;refine HT.eI e i pl j (by rw[hlen];exact hw) ?_ (by rw[hlen];exact f);rw[hlen];refine⟨.ref s.heap.objs.size,_,I.laid (t':=s.toks) (o:=.tup (jA xs lo hi)) (λb ob q=>A1 _ q) (A6 _) ?_,rfl,q _ (I.hok.fresh (A6 _))⟩;exact⟨Ax (fg xs lo hi) f,_,(r.drop (HT.sIx xs.length 0 lo)).take (HT.sIx xs.length xs.length hi-HT.sIx xs.length 0 lo),iC.new _ _⟩
def sY (K:PySem.W.Frag):R2:=λx y H Q=>∃a b xs ys,x=.ref a/\y=.ref b/\SqT K H a xs/\SqT K H b ys/\xs≠[]/\xs.length+ys.length<=sizeLine /\
 (ys=[]->Q (.ref a) H)/\(ys≠[]->∀p,H p=none->Q (.ref p) (upd H p (.tup (xs++ys))))
theorem Vals.nil_iff (r:Vals xs us):us=[]↔xs=[]:=by
 cases r with
 |nil=>simp
 |cons _ _=>simp
theorem o5:OpR X (binaryOp .Add) (sY X.K):=by intro pins s σ H x y v u Q I g i h;obtain⟨a,b,xs,ys,rfl,rfl,ha,j,k,f,l,m⟩:=h;cases g;cases i;obtain⟨its,e,p1,_⟩:=I.tuple ha;obtain⟨its2,c,p2,_⟩:=I.tuple j;refine HT.oH p1 p2 (λz=>k (e.nil_iff.mp z)) (λz=>⟨.ref a,H,I,rfl,l (c.nil_iff.mp z)⟩) (λz=>?_) (by rw[<-e.length,<-c.length];exact f);refine⟨.ref s.heap.objs.size,_,I.laid (t':=s.toks) (o:=.tup (xs++ys)) (λb ob q=>A1 _ q) (A6 _) ?_,rfl,m (λw=>z (c.nil_iff.mpr w)) _ (I.hok.fresh (A6 _))⟩;exact⟨by rw[Ae];exact f,_,e.append c,iC.new _ _⟩
end
def ixN (n:Nat) (i:Int):Option Nat:=if 0<=i then (if i<n then some i.toNat else none) else if -(n:Int)<=i then some (i+n).toNat else none
def atI {α:Type} (xs:List α) (i:Int):Option α:=(ixN xs.length i).bind λj=>xs[j]?
theorem kQ {i:Int} (h:ixN n i=some j):seqIndex? i n=some j/\j<n/\-(n:Int)<=i/\i<n:=by
 unfold ixN at h;by_cases h0:0<=i
 ·rw[if_pos h0]at h;by_cases h1:i<n
  ·rw[if_pos h1]at h;have e:i.toNat=j:=Option.some.inj h;exact⟨by rw[seqIndex_of h0 h1,e],by omega,by omega,h1⟩
  ·rw[if_neg h1]at h;cases h
 ·rw[if_neg h0]at h;by_cases h1:-(n:Int)<=i
  ·rw[if_pos h1]at h;have e:(i+n).toNat=j:=Option.some.inj h;exact⟨by rw[seqIndex_neg (by omega) h1,e],by omega,h1,by omega⟩
  ·rw[if_neg h1]at h;cases h
theorem kr {xs:List α} {i:Int} {v:α} (h:atI xs i=some v):∃j,seqIndex? i xs.length=some j/\xs[j]?=some v/\j<xs.length/\-(xs.length:Int)<=i/\i<xs.length:=by
 unfold atI at h;cases e:ixN xs.length i with
 |none=>rw[e]at h;cases h
 |some j =>rw[e]at h;obtain⟨h1,h2,a,b⟩:=kQ e;exact⟨j,h1,h,h2,a,b⟩
theorem dR {xs:List α} {v:α} (h:xs[j]?=some v):atI xs (j:Int)=some v:=by
 have hj:j<xs.length:=(Aq.mp h).1;have e:ixN xs.length (j:Int)=some j:=by unfold ixN;rw[if_pos (by omega),if_pos (by omega)];simp
 unfold atI;rw[e];exact h
theorem jw (xs:List α) (v:α):atI (xs++[v]) (-1)=some v:=by
 have hl:(xs++[v]).length=xs.length+1:=by simp
 have e:ixN (xs++[v]).length (-1)=some xs.length:=by unfold ixN;rw[hl,if_neg (by decide),if_pos (by omega)];congr 1;omega
 unfold atI;rw[e];show (xs++[v])[xs.length]?=some v;simp
def kE (b:Expr):Prop:=∀o i,subscripted b false o i=operate [o,i] (getItem o i)
def IxR (X:Cx) (r:R2):Prop :=
 ∀(value slice:Expr) (pins:List (Addr×Obj)) (s:Shared) (σ:St) (H:Hp) (x y:V) (v u:Value) (Q:VK),Inv X pins σ H s->RelV x v->RelV y u->r x y H Q ->
  subscripted slice false v u=operate [v,u] (getItem v u)->wpAny (model X.prog X.w) X.A (subscriptTail value slice v u) (EP X pins σ Q) X.xe s
def MtR (X:Cx) (id:String) (r:V->List V->Hp->VK->Prop):Prop :=
 ∀(pins:List (Addr×Obj)) (s:Shared) (σ:St) (H:Hp) (x:V) (xs:List V) (v:Value) (us:List Value) (Q:VK),Inv X pins σ H s->RelV x v->Vals xs us->r x xs H Q ->
  wpAny (model X.prog X.w) X.A (call (.builtin id) (v::us)) (EP X pins σ Q) X.xe s
section
variable {a b:Expr} {ta tb:TE}
theorem IxR.or {r a:R2} (h:IxR X r) (h':IxR X a):IxR X (λx y H Q=>r x y H Q\/a x y H Q):=by
 intro value slice pins s σ H x y v u Q I b c q e;rcases q with q|q
 ·exact h value slice pins s σ H x y v u Q I b c q e
 ·exact h' value slice pins s σ H x y v u Q I b c q e
theorem me {r:R2} (c:IxR X r) (ha:PE X a ta) (e:PE X b tb) (f:kE b):PE X (.Subscript a b pos) (tOp r ta tb):=by intro pins s σ H Q I h;exact Subscript_ (qu ha e I h λv u s2 x y H2 g i j q=>c a b pins s2 σ H2 x y v u Q g i j q (f _ _))
def tj (K:PySem.W.Frag):R2:=λx y H Q=>∃p xs i v,x=.ref p/\y=.int i/\SqL K H p xs/\atI xs i=some v/\Q v H
def tW (K:PySem.W.Frag):R2:=λx y H Q=>∃p xs i v,x=.ref p/\y=.int i/\SqT K H p xs/\atI xs i=some v/\Q v H
theorem iy:IxR X (tj X.K):=by
 intro value slice pins s σ H x y v u Q I g k h e;obtain⟨p,xs,i,z,rfl,rfl,l,m,q⟩:=h;cases g;obtain⟨t,rfl⟩:=k;obtain⟨a,r,pl,hz⟩:=I.list l;obtain⟨j,h1,h2,h3,n,o⟩:=kr m;obtain⟨w,f,b⟩:=r.get h2;have hl:=r.length;have hn:=iF;have fin:EP X pins σ Q w s:=⟨z,H,I,b,q⟩
 by_cases h0:0<=i
 ·have c:i.toNat=j:=by rw[seqIndex_of h0 o]at h1;exact Option.some.inj h1
  exact item_listR pl.isList h0 (by omega) (by rw[c];simpa using f) fin e
 ·have c:(i+(a.toArray.size:Int)).toNat=j:=by rw[seqIndex_neg (by omega) n]at h1;rw[A3,<-hl];exact Option.some.inj h1
  exact subscriptTail_builtinR (x:=w) pl.isList.typeIs slot_list_getitem.lookup
   (wpAny_getItem_list_neg (Q:=λr s'=>r=w/\EP X pins σ Q r s') pl.isList (by omega) (by rw[A3] <;> omega) (by omega) (by rw[c];simpa using f) ⟨rfl,fin⟩) e
theorem rS:IxR X (tW X.K):=by
 intro value slice pins s σ H x y v u Q I b c h e;obtain⟨p,xs,i,z,rfl,rfl,f,g,q⟩:=h;cases b;obtain⟨t,rfl⟩:=c;obtain⟨its,r,pl,hz⟩:=I.tuple f;obtain⟨j,h1,h2,h3,h4,h5⟩:=kr g;obtain⟨w,k,a⟩:=r.get h2;have hl:=r.length;have hn:=iF;have fin:EP X pins σ Q w s:=⟨z,H,I,a,q⟩
 exact subscriptTail_builtinR (x:=w) pl.typeIs slot_tuple_getitem.lookup
  (getItem_tuple (j:=j) (Q:=λr s'=>r=w/\EP X pins σ Q r s') pl (by omega) (by omega) (by rw[A3,<-hl];exact h1) (by simpa using k) ⟨rfl,fin⟩) e
theorem j6 (a:List Value) (n j:Nat) (u:Value):Obj.mapSeq (·.setIfInBounds j u) { cls:=.type "list",data:=.seq a.toArray n }={ cls:=.type "list",data:=.seq (a.set j u).toArray n }:=by simp[Obj.mapSeq]
theorem Inv.lst {p:Addr} (I:Inv X pins σ H s) (h:H p=some (.lst xs)) :
  ∃(a:List Value) (n:Nat),Vals xs a/\s.heap.get? p=some { cls:=.type "list",data:=.seq a.toArray n }/\xs.length<=sizeLine:=by
 obtain⟨z,a,n,r,e⟩:=I.hok p _ h;exact⟨a,n,r,e,z⟩
theorem Inv.lstUpd {p:Addr} {ys:List V} {a:List Value} {n':Nat} {f:Obj->Obj} (I:Inv X pins σ H s) (h:H p=some (.lst xs))
  (g:s.heap.get? p=some { cls:=.type "list",data:=.seq a.toArray n }) (c:f { cls:=.type "list",data:=.seq a.toArray n }={ cls:=.type "list",data:=.seq its'.toArray n' }) (r:Vals ys its') (i:ys.length<=sizeLine) (t:Nat) :
  Inv X pins σ (upd H p (.lst ys)) { s with heap:=s.heap.update p f,toks:=t }:=by
 have e:(s.heap.update p f).get? p=some { cls:=.type "list",data:=.seq its'.toArray n' }:=by rw[AE f g (by rw[c] <;> rfl),c]
 refine I.write (x:=p) (e:=p) (by rw[h];trivial) (.inl rfl) (λb u j q=>(Aj _ _ (Ne.symm j)).trans q) ⟨_,e⟩ ?_;exact⟨i,its',n',r,e⟩
def tV:V->V->V->Hp->(Hp->Prop)->Prop:=λo i v H Q=>∃p xs k j,o=.ref p/\i=.int k/\H p=some (.lst xs)/\ixN xs.length k=some j/\Q (upd H p (.lst (xs.set j v)))
theorem set_list:t7 X tV:=by
 intro pins s σ H o i v ov iv u Q I m w x h;obtain⟨p,xs,k,j,rfl,rfl,e,y,q⟩:=h;cases m;obtain⟨t,rfl⟩:=w;obtain⟨a,n,r,b,z⟩:=I.lst e;obtain⟨h1,h2,f,g⟩:=kQ y;have hl:=r.length;have hn:=iF;have l:Inv X pins σ (upd H p (.lst (xs.set j v))) { s with heap:=s.heap.update p (Obj.mapSeq (·.setIfInBounds j u)) } :=
  I.lstUpd e b (j6 a n j u) (r.set x j) (by rw[List.length_set];exact z) s.toks
 by_cases h0:0<=k
 ·have c:k.toNat=j:=by rw[seqIndex_of h0 g]at h1;exact Option.some.inj h1
  exact PySem.W.ki_setAt b h0 (by omega) (by rw[A3,<-hl];exact g) (by rw[c];exact⟨_,l,q⟩)
 ·have c:(k+(a.toArray.size:Int)).toNat=j:=by rw[seqIndex_neg (by omega) f]at h1;rw[A3,<-hl];exact Option.some.inj h1
  exact PySem.W.ki_setBack b (by omega) (by rw[A3,<-hl];exact f) (by omega) (by rw[c];exact⟨_,l,q⟩)
theorem iI (lo hi:Option Int) (n:Nat):(sliceBounds lo hi none n).1=((HT.sIx n 0 lo:Nat):Int)/\(sliceBounds lo hi none n).2.1=((HT.sIx n n hi:Nat):Int)/\(sliceBounds lo hi none n).2.2=1:=by
 refine⟨?_,?_,rfl⟩
 ·cases lo with
  |none=>simp[sliceBounds,HT.sIx]
  |some i =>
   simp only[sliceBounds,HT.sIx,Option.getD_none,show (1:Int)>0 by decide,if_true];by_cases h:i<0
   ·simp only[h,if_true] <;> omega
   ·simp only[h,if_false] <;> omega
 ·cases hi with
  |none=>simp[sliceBounds,HT.sIx]
  |some i =>
   simp only[sliceBounds,HT.sIx,Option.getD_none,show (1:Int)>0 by decide,if_true];by_cases h:i<0
   ·simp only[h,if_true] <;> omega
   ·simp only[h,if_false] <;> omega
theorem gr (a:List Value) (lo hi:Option Int):slicePick a.toArray lo hi none=((a.drop (HT.sIx a.length 0 lo)).take (HT.sIx a.length a.length hi-HT.sIx a.length 0 lo)).toArray:=by obtain⟨h1,h2,b⟩:=iI lo hi a.toArray.size;unfold slicePick;rw[h1,h2,b];simp only[sliceRange_one,pick_run,A3] <;> rfl
def vm (K:PySem.W.Frag):V->Option Int->Option Int->Hp->VK->Prop:=λx lo hi H Q=>∃a xs,x=.ref a/\SqL K H a xs/\∀p,H p=none->Q (.ref p) (upd H p (.lst (jA xs lo hi)))
theorem pP:SlR X (vm X.K):=by intro pins s σ H x v vl vu lo hi sl Q I e f pl g h;obtain⟨a,xs,rfl,i,q⟩:=h;cases e;obtain⟨its,r,c,j⟩:=I.list i;have hlen:=r.length;refine⟨"list",_,slot_list_getitem.lookup,c.isList.typeIs,?_⟩;refine wpAny_getItem_list_slice c.isList f pl g .none (by simp) ?_ (by rw[A3] <;> omega);rw[gr,<-hlen];refine⟨.ref s.heap.objs.size,_,I.laid (t':=s.toks) (o:=.lst (jA xs lo hi)) (λb ob q=>A1 _ q) (A6 _) ?_,rfl,q _ (I.hok.fresh (A6 _))⟩;exact⟨Ax (fg xs lo hi) j,_,0,(r.drop (HT.sIx xs.length 0 lo)).take (HT.sIx xs.length xs.length hi-HT.sIx xs.length 0 lo),Ad _ rfl⟩
def eqV:V->V->Bool
 |.non,.non=>true
 |.bl a,.bl b=>a==b
 |.bl a,.int b=>(if a then 1 else 0)==b
 |.int a,.bl b=>a==(if b then 1 else 0)
 |.int a,.int b=>a==b
 |.str a,.str b=>a==b
 |_,_=>false
theorem c9:dE X (.builtin "len") (λxs H Q=>∃p ys,xs=[.ref p]/\(SqL X.K H p ys\/SqT X.K H p ys)/\Q (.int ys.length) H):=by
 intro pins s σ H xs us Q I r h;obtain⟨p,ys,rfl,a,q⟩:=h;obtain⟨u,rfl,e⟩:=vals1 r;cases e;have hn:=iF;rcases a with a|a
 ·obtain⟨b,c,pl,f⟩:=I.list a;have hlen:=c.length;exact Calls.call_len_list pl.isList (by simp only[A3] <;> omega) ⟨.int ys.length,H,I.tok _,⟨s.toks+1,by rw[A3,hlen]⟩,q⟩
 ·obtain⟨b,c,pl,f⟩:=I.tuple a;have hlen:=c.length;exact len_tuple pl (by simp only[A3] <;> omega) ⟨.int ys.length,H,I.tok _,⟨s.toks+1,by rw[A3,hlen]⟩,q⟩
theorem g9:dE X (.type "list") (λxs H Q=>∃p ys,xs=[.ref p]/\(SqL X.K H p ys\/SqT X.K H p ys)/\∀l,H l=none->Q (.ref l) (upd H l (.lst ys))):=by
 intro pins s σ H xs us Q I r h;obtain⟨p,ys,rfl,g,q⟩:=h;obtain⟨u,rfl,k⟩:=vals1 r;cases k;have fin:∀(a:List Value),Vals ys a->ys.length<=sizeLine->∀(h':Heap) (c:Nat),(∀b o',s.heap.get? b=some o'->h'.get? b=some o') ->
   h'.get? s.heap.objs.size=some { cls:=.type "list",dict:=none,data:=.seq a.toArray c,slots:=#[] }->EP X pins σ Q (.ref s.heap.objs.size) { s with heap:=h' }:=λa f i h' c kp e =>
  ⟨.ref s.heap.objs.size,_,I.laid (t':=s.toks) kp (A6 _) (show cc X.prog X.w _ h' _ (.lst ys) from⟨i,a,c,f,e⟩),rfl,q _ (I.hok.fresh (A6 _))⟩
 rcases g with g|g
 ·obtain⟨a,f,pl,i⟩:=I.list g;have hlen:=f.length;obtain⟨o,j,hc,n,hd⟩:=pl.isList;exact call_list_seq p (.inl rfl) j hc hd (λh' c kp e=>fin a f i h' c kp e) (by simp only[A3] <;> omega)
 ·obtain⟨a,f,pl,i⟩:=I.tuple g;have hlen:=f.length;obtain⟨o,j,hc,n,hd⟩:=pl;exact call_list_seq p (.inr rfl) j hc hd (λh' c kp e=>fin a f i h' c kp e) (by simp only[A3] <;> omega)
theorem gA:dE X (.type "tuple") (λxs H Q=>∃p ys,xs=[.ref p]/\((SqL X.K H p ys/\∀l,H l=none->Q (.ref l) (upd H l (.tup ys)))\/(SqT X.K H p ys/\Q (.ref p) H))):=by
 intro pins s σ H xs us Q I r h;obtain⟨p,ys,rfl,h⟩:=h;obtain⟨u,rfl,j⟩:=vals1 r;cases j;rcases h with⟨c,q⟩|⟨c,q⟩
 ·obtain⟨a,f,pl,g⟩:=I.list c;have hlen:=f.length;refine call_tuple_list pl.isList (λh' kp=>?_) (by simp only[A3] <;> omega);have i:Inv X pins σ H { s with heap:=h' }:=I.kept (t':=s.toks) kp;have k:Inv X pins σ (upd H h'.objs.size (.tup ys)) { s with heap:=h'.push { cls:=.type "tuple",data:=.seq a.toArray } } :=
   i.laid (t':=s.toks) (λb o e=>A1 _ e) (A6 _) (show cc X.prog X.w _ _ _ (.tup ys) from⟨g,a,f,iC.new _ _⟩)
  exact⟨.ref h'.objs.size,_,k,rfl,q _ (i.hok.fresh (A6 _))⟩
 ·obtain⟨a,f,pl,g⟩:=I.tuple c;exact call_tuple_same pl ⟨.ref p,H,I,rfl,q⟩
def tyV (K:PySem.W.Frag) (T:String) (x:V) (H:Hp):Prop:=match x with
 |.str _=>T="str"
 |.int _=>T="int"
 |.ref p=>(T="list"/\∃xs,SqL K H p xs)\/(T="tuple"/\∃o,K.lookup p=some o/\o.cls=.type "tuple"/\o.dict=none) \/
  (T="dict"/\((∃kvs,H p=some (.dK kvs))\/∃kvs,H p=some (.dT kvs)))\/(T="set"/\∃S n,H p=some (.set S n))
 |_=>False
theorem rE {T:String} {x:V} {v:Value} (I:Inv X pins σ H s) (r:RelV x v) (f:tyV X.K T x H) :
  s.TypeIs v T/\∀a,v=.ref a->∃ob,s.heap.get? a=some ob/\ob.dict=none:=by
 cases x with
 |str z =>obtain⟨t,rfl⟩:=r;cases (show T="str" from f);exact⟨typeIs_str s z t,λ_ e=>nomatch e⟩
 |int i =>obtain⟨t,rfl⟩:=r;cases (show T="int" from f);exact⟨typeIs_int s i t,λ_ e=>nomatch e⟩
 |ref p =>
  cases r;rcases f with⟨rfl,xs,g⟩|⟨rfl,o,b,hc,hd⟩|⟨rfl,b⟩|⟨rfl,S,n,b⟩
  ·obtain⟨its,_,pl,_⟩:=I.list g;refine⟨pl.isList.typeIs,λa e=>?_⟩;cases e;obtain⟨o,n,e,c,hd,_⟩:=pl;exact⟨o,e,hd⟩
  ·refine⟨⟨o,I.kIn p o b,hc⟩,λa e=>?_⟩;cases e;exact⟨o,I.kIn _ o b,hd⟩
  ·have z:∃o,s.heap.get? p=some o/\o.ExactDict:=by
    rcases b with⟨kvs,b⟩|⟨kvs,b⟩
    ·obtain⟨_,_,_,_,o,_,_,e,ex,_⟩:=I.hok p _ b;exact⟨o,e,ex⟩
    ·obtain⟨_,_,_,_,o,_,_,e,ex,_⟩:=I.hok p _ b;exact⟨o,e,ex⟩
   obtain⟨o,e,ex⟩:=z;refine⟨⟨o,e,ex.1⟩,λa e2=>?_⟩;cases e2;exact⟨o,e,ex.2.1⟩
  ·obtain⟨o,_,_,_,e,ex,_⟩:=I.hok p _ b;refine⟨⟨o,e,ex.1⟩,λa e2=>?_⟩;cases e2;exact⟨o,e,ex.2.1⟩
 |_=>exact False.elim f
def tBM (K:PySem.W.Frag) (T:String) (r:V->List V->Hp->VK->Prop) (to:TE) (t:TA):TE:=λσ H Q=>to σ H λx H1=>tyV K T x H1/\t σ H1 λxs H2=>r x xs H2 Q
variable {o:Expr} {to:TE} {t:TA} {name:Str} {apos:Pos} {T id:String} {r:V->List V->Hp->VK->Prop}
theorem p8 (n:PlainAttrs T) (slot:Slot T name id) (g:typeOf (.builtin id)=pure (.type "method_descriptor")) (hm:MtR X id r) (p:PE X o to) (ha:PA X (e::es) t)
  (b:attributeBase o name X.env (eval o X.env)=eval o X.env:=by rfl)
  (f:((backTo cpos (starEach (e::es) X.env)).all (λx=>!x.1)&&(backToKw cpos (keywordEach [] X.env)).all (λx=>x.1.isSome)
  &&decide ((e::es).length+([]:List Keyword).length+(if ([]:List Keyword).isEmpty then 0 else 1)<30))=true:=by rfl)
  (c:(apos.endLine==cpos.line)=true:=by rfl) (q:starEach (e::es) X.env=(false,eval e X.env)::starEach es X.env:=by rfl) (a:(backTo cpos (starEach es X.env)).any (·.1)=false:=by rfl) :
  PE X (.Call (.Attribute o name apos) (e::es) [] cpos) (tBM X.K T r to t):=by
 intro pins s σ H Q I h;refine wpAny_Call_method_late b f c rfl (thn (p pins s σ H _ I h) λv u i=>?_);obtain⟨x,H1,k,l,w,y⟩:=i;obtain⟨h1,h2⟩:=rE k l w;refine⟨T,id,n,slot,g,h1,h2,?_⟩;have m:=ha cpos pins u σ H1 _ k y;rw[q]at m ⊢;refine Calls.callWith_builtin (by show (false||(backTo cpos (starEach es X.env)).any (·.1))=false;rw[a] <;> rfl) (Calls.evalArgs_plain ?_);exact thn m λus s2 j=>(by obtain⟨vs,H2,z,A,B⟩:=j;exact hm pins s2 σ H2 x vs v us Q z l A B)
end
def MtM (X:Cx) (id:String) (r:V->List V->Hp->VK->Prop):Prop :=
 ∀(pins:List (Addr×Obj)) (s:Shared) (σ:St) (H:Hp) (x:V) (xs:List V) (v:Value) (us:List Value) (Q:VK),Inv X pins σ H s->RelV x v->Vals xs us->r x xs H Q ->
  wpAny (model X.prog X.w) X.A (call (.builtin id) (v::us)) (EP X pins σ Q) X.xe s
theorem Vals.one {x:V} (h:Vals [x] us):∃u,us=[u]/\RelV x u:=by
 cases h with
 |cons r t=>cases t;exact⟨_,rfl,r⟩
theorem Vals.rep {xs:List V} {us:List Value} (h:Vals xs us):∀k:Nat,Vals (List.replicate k xs).flatten (List.replicate k us).flatten
 |0=>.nil
 |k+1=>by rw[As,As,AG,AG];exact Vals.append h (Vals.rep h k)
theorem foldl_rep (a:List Value):∀(k:Nat) (acc:List Value),
  List.foldl (λb c=>b++c) acc.toArray (List.replicate k a.toArray)=(acc++(List.replicate k a).flatten).toArray
 |0,acc=>by simp
 |k+1,acc=>by
  have e:acc.toArray++a.toArray=(acc++a).toArray:=by simp
  have e2:(acc++a)++(List.replicate k a).flatten=acc++(List.replicate (k+1) a).flatten:=by rw[As,AG,List.append_assoc]
  rw[<-e2,<-foldl_rep a k (acc++a),<-e,As,List.foldl_cons]
section
variable {l:Addr} {ys zs:List V}
theorem Inv.lset {f:Array Value->Array Value} {t':Nat} (I:Inv X pins σ H s) (b:H l=some (.lst xs))
  (e:s.heap.get? l=some { cls:=.type "list",data:=.seq a.toArray n }) (c:f a.toArray=its'.toArray) (g:Vals ys its') (h:ys.length<=sizeLine) :
  Inv X pins σ (upd H l (.lst ys)) { s with heap:=s.heap.update l (Obj.mapSeq f),toks:=t' }:=by
 have q:=PySem.IsL.update e f;rw[c]at q;refine I.write (x:=l) (e:=l) (by rw[b];exact trivial) (.inl rfl) (λb' u i j=>(Aj s.heap (Obj.mapSeq f) (Ne.symm i)).trans j) ⟨_,q⟩ ?_;exact⟨h,its',_,g,q⟩
theorem Inv.lnew {t':Nat} (I:Inv X pins σ H s) (b:Vals ys a) (c:ys.length<=sizeLine) :
  Inv X pins σ (upd H s.heap.objs.size (.lst ys)) { s with heap:=s.heap.push { cls:=.type "list",data:=.seq a.toArray },toks:=t' } :=
 I.laid (λ_ _ q=>A1 _ q) (A6 _) ⟨c,a,0,b,Ad _ rfl⟩
theorem Inv.fresh (I:Inv X pins σ H s):H s.heap.objs.size=none:=I.hok.fresh (A6 _)
theorem Inv.lstM (I:Inv X pins σ H s) (b:H l=some (.lst xs)):xs.length<=sizeLine/\∃(a:List Value) (n:Nat),Vals xs a/\xs.length=a.length/\s.heap.get? l=some { cls:=.type "list",data:=.seq a.toArray n }:=by obtain⟨z,a,n,r,e⟩:=I.hok l _ b;exact⟨z,a,n,r,r.length,e⟩
theorem iU (h:n<=sizeLine):Builtin.List.listTooLong n=false:=by unfold Builtin.List.listTooLong;exact decide_eq_false (by omega)
end
section
def oX:V->List V->Hp->VK->Prop:=λx vs H Q=>∃l xs y,x=.ref l/\vs=[y]/\H l=some (.lst xs)/\xs.length<sizeLine/\Q .non (upd H l (.lst (xs++[y])))
theorem gK:MtM X "list.append" oX:=by intro pins s σ H x vs v us Q I c f h;obtain⟨l,xs,y,rfl,rfl,b,hz,q⟩:=h;cases c;obtain⟨u,rfl,g⟩:=f.one;obtain⟨z,a,n,r,hl,e⟩:=I.lstM b;refine call_meets F.slot_list_append ⟨_,e,rfl⟩ F.entry_list_append (F.args_list_append_2 _ _) (PySem.list_append l a.toArray n u (by rw[A3];omega)) ⟨e,?_⟩;refine⟨.non,_,I.lset (its':=a++[u]) b e (by simp) (r.append (.cons g .nil)) ?_,rfl,q⟩;rw[Ae,Av];omega
def o6:V->List V->Hp->VK->Prop:=λx vs H Q=>∃l b xs zs,x=.ref l/\vs=[.ref b]/\H l=some (.lst xs)/\H b=some (.lst zs)/\xs.length+zs.length<=sizeLine/\Q .non (upd H l (.lst (xs++zs)))
theorem lF:MtM X "list.extend" o6:=by
 intro pins s σ H x vs v us Q I i j h;obtain⟨l,b,xs,zs,rfl,rfl,g,hB,hz,q⟩:=h;cases i;obtain⟨u,rfl,k⟩:=j.one;cases k;obtain⟨z,its,n,r,hl,e⟩:=I.lstM g;obtain⟨z2,a,n2,m,hl2,e2⟩:=I.lstM hB;have f:its.toArray.size+a.toArray.size<=sizeLine:=by rw[A3,A3];omega
 have c:¬ (!its.toArray.isEmpty&&Builtin.List.listTooLong (its.toArray.size+a.toArray.size))=true:=by rw[iU f,AS];exact AQ
 refine call_meets F.slot_list_extend ⟨_,e,rfl⟩ F.entry_list_extend (F.args_list_extend_2 _ _)
  (AutoSeq1.list_extend_list_list_0 l its.toArray n b a.toArray n2 c (by rw[A3];omega) (by omega)) ⟨e,e2,?_⟩
 refine⟨.non,_,I.lset (its':=its++a) g e (by simp) (r.append m) ?_,rfl,q⟩;rw[Ae];omega
def t9:R2:=λx y H Q=>∃l b xs zs,x=.ref l/\y=.ref b/\H l=some (.lst xs)/\H b=some (.lst zs)/\xs.length+zs.length<=sizeLine/\∀p,H p=none->Q (.ref p) (upd H p (.lst (xs++zs)))
theorem qD:OpR X (binaryOp .Add) t9:=by
 intro pins s σ H x y v u Q I f g h;obtain⟨l,b,xs,zs,rfl,rfl,i,hB,hz,q⟩:=h;cases f;cases g;obtain⟨z,c,n,r,hl,e⟩:=I.lstM i;obtain⟨z2,a,n2,j,hl2,e2⟩:=I.lstM hB;refine PySem.P.add_list e e2 ?_ (by rw[A3,A3];omega);have ea:c.toArray++a.toArray=(c++a).toArray:=by simp
 rw[ea];exact⟨.ref _,_,I.lnew (t':=s.toks) (r.append j) (by rw[Ae];omega),rfl,q _ I.fresh⟩
def uj:R2:=λx y H Q=>∃l k xs,x=.ref l/\y=.int k/\H l=some (.lst xs)/\-(2 ^ 63)<=k/\k<2 ^ 63/\xs.length*k.toNat<=sizeLine /\
 ∀p,H p=none->Q (.ref p) (upd H p (.lst (List.replicate k.toNat xs).flatten))
theorem len_rep (xs:List α) (k:Nat):(List.replicate k xs).flatten.length=k*xs.length:=by
 induction k with
 |zero=>simp
 |succ k ih=>rw[As,AG,Ae,ih,Nat.succ_mul,Nat.add_comm]
theorem q9:OpR X (binaryOp .Mult) uj:=by
 intro pins s σ H x y v u Q I w A h;obtain⟨l,k,xs,rfl,rfl,B,h1,h2,p,q⟩:=h;cases w;obtain⟨t,rfl⟩:=A;obtain⟨z,b,n,r,hl,e⟩:=I.lstM B;have hlen:b.toArray.size*k.toNat<=sizeLine:=by rw[A3,<-hl];exact p
 have f:¬ b.toArray.size*k.toNat>(2 ^ 63-1) / 8:=by
  have:(sizeLine:Nat)<=(2 ^ 63-1) / 8:=by decide
  omega
 have g:¬ (!Builtin.List.listFitsIndex k)=true:=by rw[fitsIndex_both h1 h2];exact AQ
 have c:¬ Builtin.List.listTooLong (b.toArray.size*k.toNat)=true:=by rw[iU hlen];exact AQ
 have i:List.foldl (λj o=>j++o) #[] (List.replicate (if b.toArray.isEmpty=true then 0 else k.toNat) b.toArray)=(List.replicate k.toNat b).flatten.toArray:=by
  have C:∀m:Nat,List.foldl (λj o=>j++o) #[] (List.replicate m b.toArray)=(List.replicate m b).flatten.toArray:=λm=>by have:=foldl_rep b m [];rw[B0]at this;exact this
  rw[C];cases b with
  |nil=>simp
  |cons a r'=>rw[if_neg (by simp)]
 refine wpAny_binaryOp_repeat_ref (T:="list") (U:="int") (by decide) ⟨_,e,rfl⟩ (λs'=>typeIs_int s' k t) noFill_list_mul F.fills_int_mul F.slot_int_rmul repeat_list F.slot_int_index.lookup
  (call_meets F.slot_int_rmul (typeIs_int s k t) F.entry_int_rmul (F.args_int_rmul_2 _ _) (int___rmul___int_list k t l b.toArray n)
   ⟨e,rfl,⟨_,e,rfl⟩,call_meets F.slot_list_mul ⟨_,e,rfl⟩ F.entry_list_mul (F.args_list_mul_2 _ _) (AutoListH.list___mul___list_int_3 l b.toArray n k t g f c) ⟨e,?_⟩⟩)
 rw[i];exact⟨.ref _,_,I.lnew (t':=s.toks) (r.rep k.toNat) (by rw[len_rep,Nat.mul_comm];exact p),rfl,q _ I.fresh⟩
end
section
variable {prog:Program} {A:Around}
end
section
end
end L2
namespace Att
open PySem PySem.W PySem.Calls PyProof.Rows
theorem fv {P:Params}:∀(ns:List Int) (vs:List Value),WellAll P h vs (ns.map WData.int)->IntsAre vs ns:=by
 intro ns
 induction ns with
 |nil =>intro vs w;rw[List.map_nil]at w;cases w;exact .nil
 |cons n ns ih =>
  intro vs w;rw[AB]at w;cases w with
  |cons a b =>cases a;exact .cons _ _ (ih _ b)
theorem lW {l:OpenLaw} (hn:l.most=some n) {P:Params} {args:List WData} {vals:List Value}
  (b:l.row.toRowW.claim.pre args=true) (f:WellAll P h vals args) :
  ∃a vs ns,vals=[Value.ref a]/\args=[WData.list (ns.map WData.int)]/\h.get? a=some { cls:=.type "list",data:=.seq vs.toArray }/\IntsAre vs ns/\ns.length<=n:=by
 have g:WShape.hasAll [] args [.list .int]=true:=(pre_splitW b).1;have hc:l.pre.holds [] { args:=args }=true:=(pre_splitW b).2;obtain⟨d,r,rfl,h1,h2⟩:=hasAllW_cons g;obtain rfl:=hasAllW_nil h2;obtain⟨xs,rfl,i⟩:=hasW_list h1;obtain⟨ns,rfl⟩:=items_int i;have hlen:ns.length<=n:=by
  unfold OpenLaw.pre at hc;have c:(WTm.not (.lt (.lit (.int (n:Int))) (.len (.arg 0)))).holds [] { args:=[.list (ns.map .int)] }=true:=by have c:=(holds_andW hc).1;rw[hn]at c;exact c
  have e:=condW_of c (w_not (w_lt w_lit (w_len_list (w_arg rfl))));rw[Af]at e;refine Nat.le_of_not_lt λq=>?_
  have j:(n:Int)<((ns.length:Nat):Int):=by omega
  first
   |(rw[decide_eq_true j]at e;exact absurd e (by decide))
   |(simp at e;omega)
 cases f with
 |cons w1 w2 =>
  cases w2;cases w1 with
  |list ho hall=>exact⟨_,_,ns,rfl,rfl,ho,fv ns _ hall,hlen⟩
theorem lG (l:OpenLaw) (args:List WData):l.row.toRowW.claim.post args (.bool true) args=true :=
 postW_of (r:=l.row.toRowW) (X:=(true==true))
  (show WShape.has [] (.bool true) .bool=true by first|rfl|decide|simp[WShape.has,WShape.arms,WShape.armsAll])
  (show (WTm.eq .res (.lit (.bool true))).value [] { args:=args,res:=some (.bool true),after:=args }=some (.bool (true==true)) from w_eq_bool (w_res rfl) w_lit) rfl
theorem i0 {l:OpenLaw} {XP:(Str->Option Value)->Heap->Prop} {d:DefRec}
  (hn:l.most=some n) (h:d.params.defaults=[])
  (call:∀(w:World) (s₀ b:Shared) (mg i:Str->Option Value) (c:Addr) (o:Obj) (pm cd doc:Value) (a:Addr) (vs:List Value) (ns:List Int),
   Ground q loose [] XP w s₀ mg i b.heap->YP w b.heap ->
   b.heap.get? c=some o->o.data=.func (docDef d.name d.params d.body d.scope pm cd doc)->b.heap.CodeRec cd d.name->mg d.name=some (.ref c) ->
   b.heap.get? a=some { cls:=.type "list",data:=.seq vs.toArray }->IntsAre vs ns->ns.length<=n->b.gens=#[] ->
   codeAny (model l.prog w) callerA (.call (.ref c) ⟨[.ref a],[]⟩) (λr s'=>r=.ok (.ret (.bool true))/\OldK b.heap s'.heap/\s'.os=b.os/\AllBare s'.gens) b) :
  WalkO q loose XP YP l.row.toRowW d [] (λf vs=>PySem.call f vs):=by
 intro w s₀ b mg i G Y c o pm cd doc s kV t hd j p k u args vals as e hlay hrd m hlo;obtain rfl:s=.none:=Dflts.none p h;obtain rfl:kV=.none:=Dflts.noKw p;obtain⟨a,vs,ns,rfl,rfl,g,hints,hlen⟩:=lW hn e m;refine enter_call (codeAny_mono (call w s₀ b mg i c o pm cd doc a vs ns G Y t (fd_plain hd) j k g hints hlen u) λr s' v=>?_);obtain⟨rfl,h2,x,y⟩:=v;exact⟨.inl ⟨.bool true,.bool true,[],rfl,λ_=>rfl,.bool true,lG l _,λ_=>⟨List.Pairwise.nil,λ_ hm=>(nomatch hm)⟩⟩,h2,x,y⟩
section
variable {prog:Program} {A:Around} {K:Frag}
end
end Att
namespace L2
open PySem PySem.Spec PyProof.Rows
variable {Q:Bool->Hp->Prop} {M:List Str} {E:XK}
theorem gR:∀{vs:List Value} {ns:List Int},IntsAre vs ns->Vals (ns.map V.int) vs
 |_,_,.nil=>.nil
 |_,_,.cons n t h=>.cons ⟨t,rfl⟩ (gR h)
def rd (H:Hp):Prop:=∀b,H b=none\/(∃o xs,H b=some (.frz o (.lst xs)))\/∃q,H b=some (.tbl q)
def fR (K:PySem.W.Frag) (h:Heap):Prop:=(∀P q,TabOf K P q->h.get? P=some { cls:=.none,data:=.fields #[] }/\K.lookup P=none/\isCodeTable h P)/\∀P q a,TabOf K P q->TabOf K P a->q=a
section
open Classical
def d6 (K:PySem.W.Frag):Hp:=λb=>if h:∃q,TabOf K b q then some (.tbl h.choose) else none
theorem a8 (K:PySem.W.Frag) (b:Addr):d6 K b=none\/∃q,TabOf K b q/\d6 K b=some (.tbl q):=by
 unfold d6;split
 ·rename_i h;exact .inr ⟨_,h.choose_spec,rfl⟩
 ·exact .inl rfl
theorem g0 (a:fR K h) {P:Addr} {q:Str} (t:TabOf K P q):d6 K P=some (.tbl q):=by
 rcases a8 K P with e|⟨b,t',e⟩
 ·unfold d6 at e;rw[dif_pos ⟨q,t⟩]at e;cases e
 ·rw[e,a.2 P q b t t']
end
def g5 (mg:Str->Option Value) (base:Heap):Prop:=∃bm o,mg "__builtins__"=some (.ref bm)/\bm≠builtinsNs/\bm≠mainGlobals/\base.get? bm=some o/\o.cls=.type "module"/\o.dict=some builtinsNs/\o.data=.plain
theorem law_call {O:Str->Option Value} {CX:CXT} {Q:Addr} {c:Shared} {vs:List Value}
  (KX:K.In c.heap) (E:c.heap.Ns mainGlobals mg) (i:c.heap.Ns builtinsNs O) (R:∀x:Str,x≠"__name__"->O x=bootBuiltins x) (G:c.heap.NoLimit) (hg:c.gens=#[])
  (ha:c.heap.get? a=some { cls:=.type "list",data:=.seq vs.toArray }) (hi:IntsAre vs ns) (hl:ns.length<=sizeLine) (hr:bF k callerA)
  (S:g5 mg c.heap) (F:∀base:Heap,K.In base->base.Ns mainGlobals mg->g5 mg base->dG P w K mg base CX k Q fd [x] sp) (A:∀(s:Shared) (u:Value),BindsTo s fd ⟨[u],[]⟩ [(x,u)])
  (T:∀H:Hp,rd H->SqL K H a (ns.map V.int)->sp [.ref a] H (λv _=>v=.bl true) λ_ _ _=>False)
  (U:∀H e s',CX none [] H c (λ_ _ _=>False) e s'->False) (j:fR K c.heap) :
  codeAny (model P w) callerA (.call (.ref Q) ⟨[.ref a],[]⟩) (λr s'=>r=.ok (.ret (.bool true))/\OldK c.heap s'.heap/\s'.os=c.os/\AllBare s'.gens) c:=by
 have rv:=gR hi;have I:=hi.length
 -- from an abstract heap in which nothing but the script may be tracked
 have core:∀H:Hp,rd H->SqL K H a (ns.map V.int)->HOk P w H c.heap->(∀b,H b≠none->b=a\/∃q,TabOf K b q)->(H a≠none->K.lookup a=none)->(∀P q,TabOf K P q->H P=some (.tbl q)) ->
   codeAny (model P w) callerA (.call (.ref Q) ⟨[.ref a],[]⟩) (λr s'=>r=.ok (.ret (.bool true))/\OldK c.heap s'.heap/\s'.os=c.os/\AllBare s'.gens) c:=by
  intro H hO hS hok N hK X;have f:∀{b:Addr} {o:Obj},c.heap.get? b=some o->H b=none->(gB c.heap H).get? b=some o:=λe n=>mO e n
  have Y:∀{b:Addr} {o:Obj} {es:Array DictEntry} {J:Nat},c.heap.get? b=some o->o.data=.dict es J->H b=none:=λ{b o es J} e d=>by
   cases q:H b with
   |none=>rfl
   |some u =>
    rcases N b (by rw[q];simp) with g|⟨B,g⟩
    case inr=>rw[(j.1 b B g).1]at e;cases e;cases d
    subst g;rw[ha]at e;cases e;have d':Data.seq vs.toArray _=Data.dict es J:=d;cases d'
  have l:∀{b:Addr} {m:Str->Option Value},c.heap.Ns b m->(gB c.heap H).Ns b m:=λ{b m} qz2=>(by obtain⟨o,es,J,e,d,r⟩:=qz2;exact⟨o,es,J,f e (Y e d),d,r⟩)
  have L:K.In (gB c.heap H):=λb o e=>f (KX b o e) (by
   cases q:H b with
   |none=>rfl
   |some u =>
    rcases N b (by rw[q];simp) with g|⟨B,g⟩
    case inr=>rw[(j.1 b B g).2.1]at e;cases e
    subst g;rw[hK (by rw[q];simp)]at e;cases e)
  have hM:Mod K mg (gB c.heap H):=⟨L,l E,⟨O,l i,R⟩,let ⟨mc,h1,h2⟩:=G;⟨mc,l h1,h2⟩⟩
  have e0:o3 P w K mg (gB c.heap H) callerA [] c H:=⟨rfl,hM,λb o e=>pS e,Nat.le_of_eq (lJ _ _),trivial,λb i=>absurd (show b∈([]:List Addr) from i) (by simp),hok,.of_eq hg,X,.inl rfl⟩
  have Z:g5 mg (gB c.heap H):=by
   obtain⟨bm,ob,b1,b2,b3,M,b5,b6,b7⟩:=S;refine⟨bm,ob,b1,b2,b3,f M ?_,b5,b6,b7⟩;cases q:H bm with
   |none=>rfl
   |some u =>
    rcases N bm (by rw[q];simp) with g|⟨B,g⟩
    case inr=>rw[(j.1 bm B g).1]at M;cases M;cases b5
    subst g;rw[ha]at M;cases M;simp at b5
  refine codeAny_mono ((F _ L (l E) Z).run callerA [] c H ⟨[.ref a],[]⟩ [.ref a] [.ref a] _ _ hr e0 (A c (.ref a)) (.cons rfl .nil) (T H hO hS)) λr s' h=>?_
  cases r with
  |error e=>exact (U H e s' h).elim
  |ok fl =>
   cases fl with
   |next=>exact False.elim h
   |brk=>exact False.elim h
   |cont=>exact False.elim h
   |ret u =>
    obtain⟨v,H',os,bare,un,p,r',q⟩:=h;have q':v=.bl true:=q;subst q';obtain rfl:u=Value.bool true:=r';have old:∀b o,c.heap.get? b=some o->s'.heap.get? b=some o\/(isCodeTable c.heap b/\o.cls=.none/\∃vs more,o.data=.fields vs/\s'.heap.get? b=some { o with data:=.fields (vs++more) }):=λb o e=>?old
    case old =>
     cases q:H b with
     |none=>exact .inl <|un.keep b o e q (by intro z;exact absurd (show b∈([]:List Addr) from z) (by simp)) (by simp)
     |some u =>
      rcases hO b with z|⟨ob,xs,z⟩|⟨B,z⟩
      ·rw[q]at z;cases z
      ·have z2:=un.frzs b ob _ z;obtain⟨e1,_⟩:=hok b _ z;obtain⟨e2,_⟩:=p b _ z2;rw[e]at e1;cases e1;exact .inl e2
      ·have z2:=un.tbls b B z;obtain⟨ps,e2,_⟩:=p b _ z2;rcases N b (by rw[z];simp) with g|⟨q2,g⟩
       ·obtain⟨ps0,D,_⟩:=hok b _ z;rw[g]at D;rw[ha]at D;cases D
       ·obtain⟨D,_,e4⟩:=j.1 b q2 g;rw[e]at D;cases D;exact .inr ⟨e4,rfl,#[],ps,rfl,by simpa using e2⟩
    exact⟨rfl,⟨λb o e=>(old b o e).imp id λz=>.inl z,λb o e=>by rcases old b o e with z|⟨_,_,_,_,_,z⟩ <;> exact⟨_,z⟩⟩,os,bare⟩
 have tok:∀b q,TabOf K b q->cc P w (λ_=>none) c.heap b (.tbl q):=λb q t=>⟨#[],(j.1 b q t).1,trivial,λpos cv z=>nomatch z⟩
 have y:∀(H:Hp) b q,TabOf K b q->cc P w H c.heap b (.tbl q):=λH b q t=>⟨#[],(j.1 b q t).1,trivial,λpos cv z=>nomatch z⟩
 have na:∀q,¬ TabOf K a q:=λq t=>by have:=(j.1 a q t).1;rw[ha]at this;cases this
 cases hk:K.lookup a with
 |some o =>
  have e:=KX a o hk;rw[ha]at e;cases e;refine core (d6 K) (λb=>(a8 K b).imp id λC=>(by obtain⟨q,_,e⟩:=C;exact .inr ⟨q,e⟩)) (.inr ⟨_,vs.toArray,_,hk,rfl,rfl,rfl,by rw[A3,I];exact hl,by simpa using rv⟩) (λb u z=>?_) (λb z=>?_) (λz=>?_) λP q t=>g0 j t
  ·rcases a8 K b with e|⟨q,t,e⟩
   ·rw[z]at e;cases e
   ·rw[z]at e;cases e;exact y _ b q t
  ·rcases a8 K b with e|⟨q,t,e⟩
   ·exact absurd e z
   ·exact .inr ⟨q,t⟩
  ·rcases a8 K a with e|⟨q,t,e⟩
   ·exact absurd e z
   ·exact absurd t (na q)
 |none =>
  have eT:∀b,b≠a->(λb=>if b=a then some (HO.frz { cls:=.type "list",data:=.seq vs.toArray } (.lst (ns.map V.int))) else d6 K b) b=d6 K b:=λb h=>if_neg h
  have eA:(λb=>if b=a then some (HO.frz { cls:=.type "list",data:=.seq vs.toArray } (.lst (ns.map V.int))) else d6 K b) a=some (HO.frz { cls:=.type "list",data:=.seq vs.toArray } (.lst (ns.map V.int))):=if_pos rfl;refine core (λb=>if b=a then some (.frz { cls:=.type "list",data:=.seq vs.toArray } (.lst (ns.map V.int))) else d6 K b) (λb=>?_) (.inl (.inr ⟨{ cls:=.type "list",data:=.seq vs.toArray },if_pos rfl⟩)) (λb u z=>?_) (λb z=>?_) (λ_=>hk) λP q t=>?_
  ·by_cases i:b=a
   ·exact .inr (.inl ⟨_,_,if_pos i⟩)
   ·rw[eT b i];exact (a8 K b).imp id λC=>(by obtain⟨q,_,e⟩:=C;exact .inr ⟨q,e⟩)
  ·by_cases i:b=a
   ·subst i;rw[eA]at z;cases z;exact⟨ha,by rw[Af];exact hl,vs,_,rv,ha⟩
   ·rw[eT b i]at z;rcases a8 K b with e|⟨q,t,e⟩
    · rw[z]at e;cases e
    · rw[z]at e;cases e;exact y _ b q t
  ·by_cases i:b=a
   ·exact .inl i
   ·rcases a8 K b with e|⟨q,t,e⟩
    · exact absurd ((if_neg i).trans e) z
    · exact .inr ⟨q,t⟩
  ·exact (if_neg (λz=>na q (by rw[<-z];exact t))).trans (g0 j t)
abbrev KOf {K:PySem.W.Frag} {h:Heap} (_:K.In h):PySem.W.Frag:=K
theorem kL {XP:(Str->Option Value)->Heap->Prop} {d:DefRec} {K:Params->PySem.W.Frag} {CX:World->CXT} {sp:World->Sp}
  (hn:l.most=some n) (r:n<=sizeLine) (t:d.params.defaults=[]) (I:bF k callerA)
  (J:∀(w:World) (h:Heap),YP w h->(K w.params).In h)
  (F:∀(w:World) (mg:Str->Option Value) (p:Addr) (h:Heap),(K w.params).In h->h.Ns mainGlobals mg->mg d.name=some (.ref p) ->
   ∃fd:FuncData,(∀(s:Shared) (u:Value),BindsTo s fd ⟨[u],[]⟩ [(x,u)]) /\
    ∀base:Heap,(K w.params).In base->base.Ns mainGlobals mg->g5 mg base->dG l.prog w (K w.params) mg base (CX w) k p fd [x] (sp w))
  (y:∀(w:World) (H:Hp) (a:Addr) (ns:List Int),ns.length<=n->rd H->SqL (K w.params) H a (ns.map V.int)->sp w [.ref a] H (λv _=>v=.bl true) λ_ _ _=>False)
  (A:∀(w:World) (H:Hp) (s:Shared) (e:Value) (s':Shared),CX w none [] H s (λ_ _ _=>False) e s'->False) (B:∀(w:World) (h:Heap) (c:List Str) (i:ExcName->Option Value) (mg E:Str->Option Value),PyProof.Rows.Top q c i mg E h->(K w.params).In h->fR (K w.params) h) :
  PySem.W.WalkO q loose XP YP l.row.toRowW d [] (λf vs=>PySem.call f vs):=by
 refine Att.i0 hn t λw s₀ j mg E p o pm cd doc a vs ns G Y ho hd hcd C m hints hlen L=>?_
 have D:=J w _ Y;obtain⟨fd,N,O⟩:=F w mg p _ D G.T.g C;exact law_call D G.T.g G.T.b G.T.builtins G.T.nolimit L m hints (Ax hlen r) I (by obtain⟨bm,ob,M⟩:=PySem.W.bmod_of_top G.T;exact⟨bm,ob,M.name,M.ne,(λz=>by obtain⟨o,es,ep,e1,e2,_⟩:=M.ns;rw[<-z,M.obj]at e1;cases e1;rw[M.data]at e2;cases e2),M.obj,M.cls,M.dict,M.data⟩) O N (λH P Q=>y w H a ns hlen P Q) (λH e s'=>A w H j e s') (B w _ _ _ _ _ G.T D)
def c5 (s:Stmt):Arguments:=match s with
 |.FunctionDef _ a _ _ _ _ _ _ _ _=>a
 |_=>{ posonlyargs:=[],args:=[],vararg:=none,kwonlyargs:=[],kw_defaults:=[],kwarg:=none,defaults:=[] }
def bJ (s:Stmt):List Stmt:=match s with
 |.FunctionDef _ _ b _ _ _ _ _ _ _=>b
 |_=>[]
def aB (s:Stmt):Scope:=match s with
 |.FunctionDef _ _ _ _ _ _ sc _ _ _=>sc
 |_=>{ kind:=.function,names:=[],isGenerator:=false,isCoroutine:=false }
abbrev CX0:CXT:=λ_ _ _ _ _ _ _=>False
abbrev E0:XK:=λ_ _ _=>False
theorem uB (hc:X.calm=true):Passes CX0 X E0:=⟨hc,λ_ _ _ _ _ _ _ h=>h.elim⟩
structure Fun (K:PySem.W.Frag) (x qual:Str) (st:Stmt) (f:Addr) (fd:FuncData):Prop where
 ex:∃(oc:Value) (od:Option Addr) (kV doc pm:Value) (an:Option Addr) (cdv ct:Value) (osl:Array (Option Value)),
  fd=PySem.W.fnOf x qual (c5 st) (bJ st) (aB st) .none kV doc pm an cdv ct/\K.lookup f=some ⟨oc,od,.func fd,osl⟩/\PySem.W.codeIn K cdv qual=true
 kp:PySem.W.keepIn K (.ref f)=true
section
theorem Fun.ok {f:Addr} (F:Fun K x qual st f fd) (S:ck N ps (aB st)) (len:∀vs H Q E,sp vs H Q E->vs.length=ps.length)
  (a:∀(cdv:Value) (A:Around) (outer:List Env) (s:Shared) (H:Hp) (vs:List V) (Q:VK) (E:XK),bF k (A.deeper (envOfC qual (aB st) s.heap.objs.size f cdv))->sp vs H Q E ->
   ∃t,PSs (cI CX0 P w K mg base N qual (aB st) f cdv A outer s H E).nox (bJ st) t/\t { nx:=λ_ H'=>Q .non H',rt:=Q } (start N vs) H):dG P w K mg base CX0 (k+1) f fd ps sp:=by
 obtain⟨oc,od,kV,doc,pm,an,cdv,ct,osl,rfl,e,b⟩:=F.ex;refine p9 e b S len λA outer s H vs Q E g c=>?_
 obtain⟨t,h,q⟩:=a cdv A outer s H vs Q E g c;exact⟨t,h.nox,q⟩
theorem Fun.binds {f:Addr} (F:Fun K x qual st f fd)
  (h:∀(kV doc pm:Value) (an:Option Addr) (cdv ct:Value) (us:List Value),us.length=ps.length->bindArgs (PySem.W.fnOf x qual (c5 st) (bJ st) (aB st) .none kV doc pm an cdv ct) ⟨us,[]⟩=pure (ps.zip us)):Binds K fd ps []:=by
 obtain⟨oc,od,kV,doc,pm,an,cdv,ct,osl,rfl,lk,hcd⟩:=F.ex;exact .all (h kV doc pm an cdv ct)
theorem rk {f:Addr} {kV doc cdv:Value} (l:K.lookup f=some ⟨oc,od,.func (PySem.W.fnOf x qual (c5 st) (bJ st) (aB st) .none kV doc pm an cdv ct),osl⟩)
 (c:PySem.W.codeIn K cdv qual=true) (k:PySem.W.keepIn K (.ref f)=true):Fun K x qual st f (PySem.W.fnOf x qual (c5 st) (bJ st) (aB st) .none kV doc pm an cdv ct):=⟨⟨oc,od,kV,doc,pm,an,cdv,ct,osl,rfl,l,c⟩,k⟩
end
section
theorem pv (i:Nat) (b:X.N[i]?=some x:=by rfl) (c:Vis X.env.scope x:=by first|exact Or.inl rfl|exact Or.inr (Or.inl rfl)|exact Or.inr (Or.inr rfl)) (hd:(x==("__debug__":Str))=false:=by decide)
 (a:(x==("__classdict__":Str))=false:=by decide):PE X (.Name x pos) (tH i):=eP b c hd a
end
theorem tf {c A B:Prop} [Decidable c] (h1:c->A) (h2:¬ c->B):if c then A else B:=by
 by_cases h:c
 ·rw[if_pos h];exact h1 h
 ·rw[if_neg h];exact h2 h
def ak (H H':Hp):Prop:=∀b o,H b=some o->H' b=some o
theorem ak.refl (H:Hp):ak H H:=λ_ _ h=>h
theorem ak.trans {H2:Hp} (a:ak H H1) (b:ak H1 H2):ak H H2:=λc o h=>b c o (a c o h)
theorem ak.free (e:ak H H') {l:Addr} (h:H' l=Option.none):H l=Option.none:=by
 cases q:H l with
 |none=>rfl
 |some o =>rw[e l o q]at h;cases h
theorem ak.seq (e:ak H H') (h:SqL K H a xs):SqL K H' a xs:=by
 rcases h with (h|⟨o,h⟩)|h
 ·exact .inl (.inl (e _ _ h))
 ·exact .inl (.inr ⟨o,e _ _ h⟩)
 ·exact .inr h
def fq:List (Str×NameKind)->List (Str×Addr)->List (Str×Addr)->List (Str×Addr)
 |[],_,acc=>acc
 |(n,k)::r,cells,acc=>fq r cells (if k==.free then (match cells.lookup n with|some c=>(n,c)::acc|none=>acc) else acc)
theorem di (env:Env):∀(names:List (Str×NameKind)) (acc:List (Str×Addr)),(∀y∈names,y.2=.free->∃c,env.cells.lookup y.1=some c) ->
  (forIn names acc (λ(x:Str×NameKind) (cs:List (Str×Addr))=>match x with
   | (name,kind)=>if (kind==NameKind.free)=true then do let c <-cellOf env name;pure (ForInStep.yield ((name,c)::cs)) else pure (ForInStep.yield cs)):Sem (List (Str×Addr)))=pure (fq names env.cells acc)
 |[],acc,_=>rfl
 |(n,k)::r,acc,h=>by
  rw[List.forIn_cons];have b:∀y∈r,y.2=.free->∃c,env.cells.lookup y.1=some c:=λy g=>h y (Ab _ g)
  dsimp only[fq];by_cases hk:k=.free
  ·subst hk;obtain⟨c,hc⟩:=h (n,.free) List.mem_cons_self rfl;have a:env.cells.lookup n=some c:=hc;have e:cellOf env n=pure c:=by unfold cellOf;rw[a]
   rw[if_pos (show (NameKind.free==NameKind.free)=true by decide),if_pos (show (NameKind.free==NameKind.free)=true by decide),e,a];exact di env r ((n,c)::acc) b
  ·have f:¬ (k==NameKind.free)=true:=by simpa using hk
   rw[if_neg f,if_neg f];exact di env r acc b
theorem fx (h:∀y∈scope.names,y.2=.free->∃c,env.cells.lookup y.1=some c):closureFor scope env=pure (fq scope.names env.cells []):=by have e:=di env scope.names [] h;unfold closureFor;rw[<-bind_pure (forIn scope.names [] _)]at e;exact e
theorem i8:∀(names:List (Str×NameKind)) (cells acc:List (Str×Addr)) (x:Str) (c:Addr),(∀x c,acc.lookup x=some c->cells.lookup x=some c)->(fq names cells acc).lookup x=some c->cells.lookup x=some c
 |[],_,_,x,c,h,e=>h x c e
 |(n,k)::r,cells,acc,x,c,h,e=>by
  refine i8 r cells _ x c (λy d a=>?_) e;split at a
  ·split at a
   ·rename_i c' b;rw[AK]at a;by_cases hyn:(y==n)=true
    ·rw[hyn]at a;have f:y=n:=eq_of_beq hyn;subst f;cases a;exact b
    ·have:(y==n)=false:=by simpa using hyn
     rw[this]at a;exact h y d a
   ·exact h y d a
  ·exact h y d a
theorem gS:∀(names:List (Str×NameKind)) (cells acc:List (Str×Addr)) (x:Str),(∃c,acc.lookup x=some c)->∃c,(fq names cells acc).lookup x=some c
 |[],_,_,_,h=>h
 |(n,k)::r,cells,acc,x,h=>by
  refine gS r cells _ x ?_;split
  ·split
   ·rw[AK];cases (x==n)
    ·exact h
    ·exact⟨_,rfl⟩
   ·exact h
  ·exact h
theorem fX:∀(names:List (Str×NameKind)) (cells acc:List (Str×Addr)) (x:Str) (c:Addr),(x,NameKind.free)∈names->cells.lookup x=some c->∃c,(fq names cells acc).lookup x=some c
 |[],_,_,_,_,h,_=>by simp at h
 |(n,k)::r,cells,acc,x,c,h,e=>by
  rcases List.mem_cons.mp h with h|h
  ·injection h with h1 h2
   subst h1;subst h2;refine gS r cells _ x ?_;rw[if_pos (by decide),e];exact⟨c,by simp[AK]⟩
  ·exact fX r cells _ x c h e
def blk (X:Cx) (M:List Str) (scope:Scope) (own:List Str) (C:Addr) (s2:Shared) (H2:Hp) (fp:List Addr):Cx where
 prog:=X.prog
 w:=X.w
 K:=X.K
 mg:=X.mg
 base:=X.base
 A:=X.A
 N:=M++own
 s₀:=s2
 H₀:=H2
 env:=compEnvC scope (fq scope.names X.env.cells []) C X.env
 outer:=X.stack
 stack:=X.stack
 ex:=fp
 fn:=λ_=>false
 calm:=X.calm
 pn:=X.pn
 xe:=λ_ _=>False
structure dz (X:Cx) (M:List Str) (scope:Scope) (own:List Str):Prop where
 kind:scope.kind=.function
 nocell:∀y∈scope.names,y.2≠.cell
 names:∀y∈scope.names,y.2=.local->scope.names.lookup y.1=some .local
 free:∀y∈scope.names,y.2=.free->Vis X.env.scope y.1/\X.env.scope.names.lookup y.1≠some .local
 own:∀x∈own,scope.names.lookup x=some .local
 outer:∀p∈X.N.zip M,(p.1=p.2/\scope.names.lookup p.2≠some .local)\/scope.names.lookup p.2=none
 len:M.length=X.N.length
def jx (N M:List Str) (a scope:Scope) (own:List Str):Bool :=
 (scope.kind==.function)&&scope.names.all (λy=>y.2 != .cell)&&scope.names.all (λy=>y.2 != .local||scope.names.lookup y.1==some .local) &&
 scope.names.all (λy=>y.2 != .free||(a.names.lookup y.1==some .cell||a.names.lookup y.1==some .free)) &&
 own.all (λx=>scope.names.lookup x==some .local)&&(N.zip M).all (λp=>(p.1==p.2&&scope.names.lookup p.2 != some .local)||scope.names.lookup p.2==none)&&(M.length==N.length)
theorem dz.of (h:jx X.N M X.env.scope scope own=true):dz X M scope own:=by
 unfold jx at h;simp only[Ag,AL,Bool.or_eq_true,bne_iff_ne,beq_iff_eq,ne_eq]at h;obtain⟨⟨⟨⟨⟨⟨h1,h2⟩,b⟩,c⟩,f⟩,g⟩,i⟩:=h;refine⟨h1,h2,λy a e=>(b y a).resolve_left λz=>z e,λy a e=>?_,f,g,i⟩;rcases (c y a).resolve_left λz=>z e with q|q
 ·exact⟨.inr (.inl q),by rw[q];intro z;cases z⟩
 ·exact⟨.inr (.inr q),by rw[q];intro z;cases z⟩
theorem bt {env:Env}:∀{names:List (Str×NameKind)} {x:Str} {k:NameKind},
  (names.map λ(n,k)=>if (k==NameKind.free&&env.scope.kind==.function&&env.kindOf n==some .cell) then (n,NameKind.cell) else (n,k)).lookup x=some k->(k=.cell\/k=.free)->(∀y∈names,y.2≠.cell)->(x,NameKind.free)∈names
 |[],_,_,h,_,_=>by simp at h
 |(n,k')::r,x,k,h,a,hn=>by
  have b:∀y∈r,y.2≠NameKind.cell:=λy c=>hn y (Ab _ c)
  rw[AB,AK]at h;by_cases hc:(k'==NameKind.free&&env.scope.kind==.function&&env.kindOf n==some .cell)=true
  ·have f:k'=.free:=by have:=hc;simp only[Ag]at this;exact eq_of_beq this.1.1
   simp only[if_pos hc]at h;cases hx:x==n with
   |true =>have:x=n:=eq_of_beq hx;subst this;subst f;exact List.mem_cons_self
   |false =>rw[hx]at h;exact Ab _ (bt h a b)
  ·simp only[if_neg hc]at h;cases hx:x==n with
   |true =>
    rw[hx]at h;have e:k'=k:=Option.some.inj h;have:x=n:=eq_of_beq hx;subst this;subst e;rcases a with a|a
    ·exact absurd a (hn _ List.mem_cons_self)
    ·subst a;exact List.mem_cons_self
   |false =>rw[hx]at h;exact Ab _ (bt h a b)
theorem bu {env:Env}:∀{names:List (Str×NameKind)} {x:Str} {k:NameKind},
  (names.map λ(n,k)=>if (k==NameKind.free&&env.scope.kind==.function&&env.kindOf n==some .cell) then (n,NameKind.cell) else (n,k)).lookup x=some k->(∃k0,names.lookup x=some k0/\(k=k0\/(k=.cell/\k0=.free)))
 |[],_,_,h=>by simp at h
 |(n,k')::r,x,k,h=>by
  rw[AB,AK]at h;rw[AK];by_cases hc:(k'==NameKind.free&&env.scope.kind==.function&&env.kindOf n==some .cell)=true
  ·have a:k'=.free:=by have:=hc;simp only[Ag]at this;exact eq_of_beq this.1.1
   simp only[if_pos hc]at h;cases hx:x==n with
   |true =>rw[hx]at h;exact⟨k',rfl,.inr ⟨(Option.some.inj h).symm,a⟩⟩
   |false =>rw[hx]at h;exact bu h
  ·simp only[if_neg hc]at h;cases hx:x==n with
   |true =>rw[hx]at h;exact⟨k',rfl,.inl (Option.some.inj h).symm⟩
   |false =>rw[hx]at h;exact bu h
section
variable {H2:Hp} {s2:Shared}
theorem Inv.blk {h1:Heap} {t':Nat} (I:Inv X pins σ H2 s2) (B:dz X M scope own) (H:∀b∈fp,ik X pins H2 b) (J:∀b∈fp,b<s2.heap.objs.size)
  (w:D=s2.heap.objs.size) (E:C=s2.heap.objs.size+1) (hl:h1.get? D=some { cls:=.type "list",data:=.seq ([]:List Value).toArray 0 })
  (hn:h1.Ns C (λ_=>none)) (g:∀b o,s2.heap.get? b=some o->h1.get? b=some o) :
  Inv (L2.blk X M scope own C s2 H2 fp) [] (σ++List.replicate own.length none) (upd H2 D (.lst [])) { s2 with heap:=h1,toks:=t' }:=by
 have a:∀x c,(fq scope.names X.env.cells []).lookup x=some c->X.env.cells.lookup x=some c:=λx c e=>i8 _ _ _ _ _ (λ_ _ z=>by simp at z) e
 have K:∀x c,(fq scope.names X.env.cells []).lookup x=some c->c<s2.heap.objs.size:=λx c e=>by obtain⟨v,q⟩:=I.cell x c (a x c e);exact q.lt
 have n:H2 D=none:=I.hok.fresh (by rw[w];exact A6 _);have freeC:H2 C=none:=I.hok.fresh (by rw[E];exact B7 _);have L:C≠D:=by rw[E,w];exact Nat.succ_ne_self _
 have Z:Un (frs X.stack) fp H2 (upd H2 D (.lst [])) s2.heap h1:=Un.laid g (by rw[w];exact A6 _) n;refine⟨⟨I.ok.mod,?_,I.ok.glob,I.ok.blt,?_,?_,?_,?_,I.ok.hd,I.ok.frames,.inl rfl,?_,I.bs,Ax I.ok.bsz I.sz,?_,?_,I.stack,I.stkFree⟩,rfl,I.bare,Z,?_,?_,?_,?_,?_,?_,?_,λP q t=>Z.tbls P q (I.tab P q t)⟩
 ·exact B.kind
 ·show s2.heap.objs.size<=C;rw[E];exact B7 _
 ·intro x y c e1 e2;exact I.ok.inj x y c (a x c e1) (a y c e2)
 ·intro x h;have hm:(x,NameKind.free)∈scope.names:=by
   rcases h with h|h
   ·exact bt h (.inl rfl) B.nocell
   ·exact bt h (.inr rfl) B.nocell
  obtain⟨O,s⟩:=B.free _ hm rfl;have hh:X.env.kindOf x=some .cell\/X.env.kindOf x=some .free:=by
   rcases O with z|z|z
   ·exact absurd z s
   ·exact .inl z
   ·exact .inr z
  obtain⟨c,e⟩:=I.ok.has x hh;exact fX _ _ _ x c hm e
 ·intro x c Q _;exact absurd (show false=true from Q) (by decide)
 ·intro b A;refine⟨?_,λx c e z=>?_⟩
  ·show b≠C;rw[E];exact Nat.ne_of_lt (Az (J b A))
  ·exact (H b A).2.2.2.2.1 x c (a x c e) z
 ·intro b o e A;obtain⟨_,_,_,f3,_⟩:=H b A;rcases f3 with z|z
  ·exact I.ok.noex b o e z
  ·exact absurd (A9 (Heap.lt_size (I.ok.bs b o e).1) z) (AA _)
 ·intro b A hs;obtain⟨_,f1,f2,_⟩:=H b A;rcases List.mem_cons.mp (I.stkSub b hs) with z|z
  ·exact f1 z
  ·exact f2 z
 ·refine⟨_,hn,λi x v e1 e2 e3=>?_⟩;have hi:i<σ.length:=by
   by_cases hi:i<σ.length
   ·exact hi
   ·rw[Au (by omega),AN]at e2;split at e2 <;> cases e2
  rw[Ak hi]at e2;have F:i<X.N.length:=by rw[<-I.len];exact hi
  have R:i<M.length:=by rw[B.len];exact F
  have S:M[i]?=some x:=by
   have:(M++own)[i]?=some x:=e1
   rwa[Ak R]at this
  obtain⟨y,ey⟩:∃y,X.N[i]?=some y:=⟨_,A8 F⟩
  have hz:(y,x)∈X.N.zip M:=List.mem_of_getElem? (i:=i) (by rw[List.getElem?_zip_eq_some];exact⟨ey,S⟩);have T:∃k,scope.names.lookup x=some k:=by
   rcases e3 with z|z|z
   ·obtain⟨k0,f,_⟩:=bu (show _=some NameKind.local from z);exact⟨k0,f⟩
   ·obtain⟨k0,f,_⟩:=bu (show _=some NameKind.cell from z);exact⟨k0,f⟩
   ·obtain⟨k0,f,_⟩:=bu (show _=some NameKind.free from z);exact⟨k0,f⟩
  have j:y=x/\scope.names.lookup x≠some .local:=by
   rcases B.outer _ hz with q|q
   ·exact q
   ·obtain⟨k,g⟩:=T;rw[q]at g;cases g
  have U:X.N[i]?=some x:=by rw[<-j.1];exact ey
  have h:(relabel scope X.env).names.lookup x=some .cell\/(relabel scope X.env).names.lookup x=some .free:=by
   rcases e3 with z|z
   ·obtain⟨k0,f,g⟩:=bu (show _=some NameKind.local from z);rcases g with g|⟨g,_⟩
    ·subst g;exact absurd f j.2
    ·cases g
   ·exact z
  have hm:(x,NameKind.free)∈scope.names:=by
   rcases h with h|h
   ·exact bt h (.inl rfl) B.nocell
   ·exact bt h (.inr rfl) B.nocell
  obtain⟨O,s⟩:=B.free _ hm rfl;obtain⟨m,_,W⟩:=I.loc;obtain⟨u,r,l⟩:=W i x v U e2 O;refine⟨u,r,.inr ⟨h,?_⟩⟩;rcases l with⟨z,_⟩|⟨_,c,hc,z⟩
  ·exact absurd z s
  ·obtain⟨c',G⟩:=fX scope.names X.env.cells [] x c hm hc;have:=a x c' G;rw[hc]at this;cases this;exact⟨c,G,z.keeps g⟩
 ·intro x c e;obtain⟨v,q⟩:=I.cell x c (a x c e);exact⟨v,q.keeps g⟩
 ·show upd H2 D (.lst []) C=none;rw[aK L];exact freeC
 ·intro x c e;have h1:=K x c e;rw[aK (by rw[w];exact Nat.ne_of_lt h1)];exact I.freeC x c (a x c e)
 ·intro p Y;have Y:p∈X.pn:=(Ac.mp Y).resolve_right A7;obtain⟨p1,p2,p3,p4,p5⟩:=I.pin p (Aa _ Y);have lt:=Heap.lt_size p1;refine⟨g _ _ p1,?_,?_,λz=>?_,p5⟩
  ·rw[aK (by rw[w];exact Nat.ne_of_lt lt)];exact p2
  ·show p.1≠C;rw[E];exact Nat.ne_of_lt (Az lt)
  ·rcases List.mem_cons.mp (I.stkSub _ z) with z|z
   ·exact p3 z
   ·exact p4 z
 ·exact I.hok.laid g (by rw[w];exact A6 _) ⟨B3 _,[],0,.nil,hl⟩
 ·show (σ++List.replicate own.length none).length=(M++own).length;rw[Ae,Ae,List.length_replicate,I.len,B.len]
theorem Inv.unblk {a:St} (I:Inv X pins σ H2 s2) (i:∀b∈fp,ik X pins H2 b) (f:s2.heap.objs.size<=C)
  (J:Inv (L2.blk X M scope own C s2 H2 fp) [] a H' s') (j:Heap.SameBut C s'.heap h'):Inv X pins σ H' { s' with heap:=h' }:=by
 have h:H' C=none:=J.free;have k:∀b o,b≠C->s'.heap.get? b=some o->h'.get? b=some o:=λb o g e=>(j.2 b g).trans e
 have old:∀b o,s2.heap.get? b=some o->b≠C:=λb o e=>Nat.ne_of_lt (A9 (Heap.lt_size e) f)
 have u:Un (frs X.stack) fp H2 H' s2.heap s'.heap:=J.base;refine I.call' (s':={ s' with heap:=h' }) (ch:=fp) J.os ?_ ?_ J.bare λb g=>?_
 ·refine⟨λb o e n h1 h2=>k b o (old b o e) (u.keep b o e n h1 h2),λb o e n h1 h2=>?_,u.free,λb o e h1=>?_,u.tups,u.frzs,u.tbls⟩
  ·obtain⟨l,q⟩:=u.slot b o e n h1 h2;exact⟨l,k b _ (old b o e) q⟩
  ·obtain⟨o',q⟩:=u.there b o e h1;exact⟨o',k b o' (old b o e) q⟩
 ·intro b o e;refine (J.hok b o e).stay (λc v hc q=>k c v ?_ q) (λ_ q=>q) λ_ _ q=>q
  rintro rfl
  rcases hc with z|z
  ·subst z;rw[h]at e;cases e
  ·rw[h]at z;cases z
 ·obtain⟨f0,f1,f2,m,p,r⟩:=i b g;exact⟨m,f1,p,r⟩
end
section
variable {prog:Program} {A:Around} {R:Result->Shared->Prop}
theorem iB {target:Expr} {it acc:Value} (I:Nat->Shared->Prop)
  (turn:∀n s,I n s->wpAny (model prog w) A (pyNext it) (λr a=>match r with
   |none=>R (.ok .next) a
   |some v=>wpAny (model prog w) A (letOwnedTupleGo target it v) (λ_ k=>wpAny (model prog w) A (assign target env v) (λ_ e =>
    wpAny (model prog w) A (forIn ifs true λc r=>if r=true then do let ok <-isTrue c env (eval c env);pure (ForInStep.yield ok) else pure (ForInStep.yield r)) (λok b =>
     if ok=true then wpAny (model prog w) A (eval elt env) (λx f =>
      wpAny (model prog w) A (call (.builtin "list.append") [acc,x]) (λ_ g=>∃m,m<n/\I m g) (λ_ _=>False) f) (λ_ _=>False) b
     else ∃m,m<n/\I m b) (λ_ _=>False) e) (λ_ _=>False) k) (λ_ _=>False) a) (λ_ _=>False) s)
  (n:Nat) (h:I n s) :
  codeAny (model prog w) A (.compLoop (.ListComp elt [⟨target,iter,ifs,0⟩] scope pos) 0 it acc env) R s:=by
 refine codeAny_loop rfl I (λn s t=>?_) n h;show wpAny _ A ((compTurn (.ListComp elt [⟨target,iter,ifs,0⟩] scope pos) 0 it acc env).onRaise (λx=>do noteFrame x env;theTreesLotGoes x)) _ _ s;refine wpAny_noted ?_;rw[compTurn_list];refine wpAny_bind (wpAny_standAt (wpAny_bind (wpAny_mono (turn n s t) (λr a i=>?_) λ_ _ h'=>h'.elim)));cases r with
 |none=>exact wpAny_pure i
 |some v =>
  refine wpAny_bind (wpAny_mono i (λ_ k q=>?_) λ_ _ h'=>h'.elim);refine wpAny_bind (wpAny_mono q (λ_ e l=>wpAny_bind (wpAny_mono l (λok b j=>?_) λ_ _ h'=>h'.elim)) λ_ _ h'=>h'.elim);cases ok with
  |false=>exact wpAny_pure ⟨rfl,j⟩
  |true =>exact wpAny_bind (wpAny_bind (wpAny_mono j (λx f o=>wpAny_bind (wpAny_mono o (λ_ g p=>wpAny_pure (wpAny_pure ⟨rfl,p⟩)) λ_ _ h'=>h'.elim)) λ_ _ h'=>h'.elim))
end
def pU:TT:=λ_ H Q=>Q true H
inductive PTs (X:Cx):List Expr->TT->Prop
 |nil:PTs X [] pU
 |one {c:Expr} {t:TT} (h:PT X c t):PTs X [c] t
theorem PTs.run {t:TT} (h:PTs X ifs t) (I:Inv X pins σ H s) (q:t σ H Q) :
  wpAny (model X.prog X.w) X.A (forIn ifs true λc r=>if r=true then do let ok <-isTrue c X.env (eval c X.env);pure (ForInStep.yield ok) else pure (ForInStep.yield r)) (TP X pins σ Q) X.xe s:=by
 cases h with
 |nil=>exact wpAny_tests_nil ⟨H,I,q⟩
 |one h=>exact wpAny_tests_one (h pins s σ H Q I q)
def LCR (J:It) (n:Nat) (g:TG) (tt:TT) (te:TE) (σ:St) (H1:Hp) (Q:VK):Prop:=∀D,H1 D=none->∃W:Nat->Nat->List V->Hp->Prop,(∃m,W 0 m [] (upd H1 D (.lst []))) /\
 ∀i m ys H,W i m ys H->H D=some (.lst ys)/\((J.stop i H/\Q (.ref D) H)\/(J.go i H/\∀x H' e,e.length=n->J.yld i H x H'->g x (σ++e) H' λc H2=>tt c H2 λb h =>
  if b=true then te c h λv j=>j D=some (.lst ys)/\ys.length<sizeLine/\(∃a,c=σ++a/\a.length=n)/\∃f,f < m/\W (i+1) f (ys++[v]) (upd j D (.lst (ys++[v])))
  else (∃a,c=σ++a/\a.length=n)/\∃f,f < m/\W (i+1) f ys h))
def tLC (n:Nat) (a:TI) (g:TG) (tt:TT) (te:TE):TE:=λσ H Q=>a σ H λJ H1=>LCR J n g tt te σ H1 Q
theorem jU {wi:TI} {g:TG} {tt:TT} {te:TE} {use:Option (Value->Sem Unit)} {Qf:Value->Shared->Prop} (hc:X.calm=true) (hi:PI X tg iter wi)
  (hg:∀C s2 H2 fp,PG (blk X M scope own C s2 H2 fp) tg g) (ht:∀C s2 H2 fp,PTs (blk X M scope own C s2 H2 fp) ifs tt) (he:∀C s2 H2 fp,PE (blk X M scope own C s2 H2 fp) elt te)
  (hB:jx X.N M X.env.scope scope own=true) (hs:∀x,foldedSetIterable iter X.env x=pure x) {Q:VK} (I:Inv X pins σ H s) (h:tLC own.length wi g tt te σ H Q)
  (fin:∀(C D:Addr) (O:Shared) (L:Hp),(∀h',Heap.SameBut C O.heap h'->Inv X pins σ L { O with heap:=h' })->(∃m,O.heap.Ns C m)->L C=none->C≠X.env.locals->(∀x c,X.env.cells.lookup x=some c->c≠C)->(∀p∈X.pn++pins,p.1≠C)->X.s₀.heap.objs.size<=C->Q (.ref D) L ->
   compPost (model X.prog X.w) X.A X.xe use Qf (.ref D) C (.ok .next) O) :
  wpAny (model X.prog X.w) X.A (comprehension (.ListComp elt [⟨tg,iter,ifs,0⟩] scope pos) scope X.env cpos (newList []) false (eval iter X.env) use) Qf X.xe s:=by
 have B:dz X M scope own:=dz.of hB;have P:closureFor scope X.env=pure (fq scope.names X.env.cells []):=fx λy hy hf=>by
  obtain⟨hv,hnl⟩:=B.free y hy hf;have hh:X.env.kindOf y.1=some .cell\/X.env.kindOf y.1=some .free:=by
   rcases hv with z|z|z
   ·exact absurd z hnl
   ·exact .inl z
   ·exact .inr z
  exact I.ok.has y.1 hh
 refine wpAny_comprehension_free (use:=use) rfl hs P B.kind B.names (thn (hi pins s σ H _ I h) λv s1 h1=>thn h1 λitv s2 h2=>?_);obtain⟨it,fp,tn,J,H2,e,R,T,S,f2,hD⟩:=h2;subst e;have U:∀b∈fp,b<s2.heap.objs.size:=λb k=>by obtain⟨o,q,_⟩:=T.obj _ _ S b k;exact Heap.lt_size q
 obtain⟨W,⟨m0,w0⟩,turn⟩:=hD s2.heap.objs.size (R.hok.fresh (A6 _));refine wpAny_newObj_type (wpAny_newFunctionEnv B.nocell (by intro y hy;simp at hy) (λl j f=>?_) B.kind);dsimp only at j f ⊢;generalize hG:s2.heap.push { cls:=.type "list",dict:=none,data:=.seq ([]:List Value).toArray }=G at j f ⊢;have hC:G.objs.size=s2.heap.objs.size+1:=by rw[<-hG,Heap.size_push]
 have hk:∀b o,s2.heap.get? b=some o->l.get? b=some o:=λb o e=>f.extBut b o (by rw[hC];exact Nat.ne_of_lt (Az (Heap.lt_size e))) (A1 _ (hG▸A1 _ e))
 have hDC:s2.heap.objs.size≠G.objs.size:=by rw[hC];exact Nat.ne_of_lt (AU _)
 have hl:l.get? s2.heap.objs.size=some { cls:=.type "list",data:=.seq ([]:List Value).toArray 0 }:=f.extBut _ _ hDC (A1 _ (hG▸Ad _ rfl));have hns:l.Ns G.objs.size (λ_=>none):=by
  have e:(λx=>([]:List (Str×Value)).reverse.lookup x)=λ_=>none:=by funext x;rfl
  rw[<-e];exact j
 have I3:=λt'=>R.blk (t':=t') (C:=G.objs.size) (D:=s2.heap.objs.size) B f2 U rfl hC hl hns hk
 have t:∀{H':Hp},(∀b∈fp,H' b=none)->∀b∈fp,ik (blk X M scope own G.objs.size s2 H2 fp) [] H' b:=λhn b k=>by
  refine⟨hn b k,?_,?_,.inl k,λx c e z=>?_,λp hp=>(f2 b k).2.2.2.2.2 p (Aa _ ((Ac.mp hp).resolve_right A7))⟩
  ·show b≠G.objs.size;rw[hC];exact Nat.ne_of_lt (Az (U b k))
  ·exact (I3 0).ok.exfs b k
  ·exact ((I3 0).ok.exf b k).2 x c e z
 have loop:∀s3:Shared,(∃t',s3={ s2 with heap:=l,toks:=t' })->codeAny (model X.prog X.w) X.A (.compLoop (.ListComp elt [⟨tg,iter,ifs,0⟩] scope pos) 0 (.ref it) (.ref s2.heap.objs.size) (compEnvC scope (fq scope.names X.env.cells []) G.objs.size X.env))
   (compPost (model X.prog X.w) X.A X.xe use Qf (.ref s2.heap.objs.size) G.objs.size) s3:=by
  rintro s3 ⟨t',rfl⟩
  refine iB (λn s'=>∃i ys K H',K.length=own.length/\Inv (blk X M scope own G.objs.size s2 H2 fp) [] (σ++K) H' s'/\tn i s'.heap/\(∀b∈fp,H' b=none)/\W i n ys H') ?_ m0
   ⟨0,[],_,_,by simp,I3 t',T.keep _ _ _ S λb k o e=>hk b o e,λb k=>by rw[aK (Nat.ne_of_lt (U b k))];exact (f2 b k).1,w0⟩
  rintro n s4 ⟨i,ys,K,L,hl',I4,st4,fr4,w4⟩
  obtain⟨hDl,alt⟩:=turn i n ys L w4;rcases alt with⟨stop,qn⟩|⟨go,step⟩
  ·refine thn (T.done (blk X M scope own G.objs.size s2 H2 fp) rfl rfl rfl hc i [] s4 _ L _ I4 (t fr4) st4 stop) λr O a=>?_
   obtain⟨hr,I5⟩:=a;subst hr;obtain⟨m,hn,_⟩:=I5.loc;have cS:s2.heap.objs.size<=G.objs.size:=by rw[hC];exact B7 _
   refine fin G.objs.size s2.heap.objs.size O L (λh' hs'=>R.unblk (C:=G.objs.size) f2 cS I5 hs') ⟨m,hn⟩ I5.free ?_ (λx c e=>?_) (λp hp=>?_) (Ax R.sz cS) qn
   ·obtain⟨_,hl0,_⟩:=R.loc;exact B5 (A9 hl0.lt cS)
   ·obtain⟨_,q⟩:=R.cell x c e;exact Nat.ne_of_lt (A9 q.lt cS)
   ·exact Nat.ne_of_lt (A9 (Heap.lt_size (R.pin p hp).1) cS)
  ·refine thn (T.item (blk X M scope own G.objs.size s2 H2 fp) rfl rfl rfl hc i [] s4 _ L _ I4 (t fr4) st4 go) λr O a=>?_
   obtain⟨u,hr,h5⟩:=a;subst hr;refine thn h5 λ_ s6 a=>?_
   obtain⟨x,H6,I6,r6,y6,Y,fr6⟩:=a;have I6':=I6.pinned (t fr6) (T.obj _ _ Y);have kp:∀{E:St} {H7:Hp} {s7:Shared},Inv (blk X M scope own G.objs.size s2 H2 fp) ([]++gd fp s6.heap) E H7 s7->tn (i+1) s7.heap/\∀b∈fp,H7 b=none:=λ{E H7 s7} I7=>by refine⟨T.keep _ _ _ Y λb k o e=>(I7.pin (b,o) (A5 _ (A5 _ (dj k e)))).1,λb k=>?_⟩;obtain⟨o,e,d⟩:=T.obj _ _ Y b k;exact (I7.pin (b,o) (A5 _ (A5 _ (dj k e)))).2.1
   refine thn (hg _ _ _ _ _ s6 _ H6 x u _ I6' r6 (step x H6 K hl' y6)) λ_ s7 a=>?_
   obtain⟨E,H7,I7,q7⟩:=a;refine thn ((ht _ _ _ _).run I7 q7) λok s8 a=>?_
   obtain⟨H8,I8,q8⟩:=a;cases ok with
   |false =>
    obtain⟨⟨F,e,Z⟩,m',hm,w8⟩:=(show if false=true then _ else _ from q8)
    subst e;obtain⟨k1,k2⟩:=kp I8;exact⟨m',hm,i+1,ys,F,H8,Z,I8.unpinned,k1,k2,w8⟩
   |true =>
    have q8:te E H8 _:=q8;refine thn (he _ _ _ _ _ s8 E H8 _ I8 q8) λy s9 a=>?_
    obtain⟨v,H9,I9,r9,d9,z9,⟨F,e,Z⟩,m',hm,w9⟩:=a;subst e;refine thn (gK (X:=blk X M scope own G.objs.size s2 H2 fp) _ s9 _ H9 (.ref s2.heap.objs.size) [v] (.ref s2.heap.objs.size) [y] (λ_ H'=>H'=upd H9 s2.heap.objs.size (.lst (ys++[v]))) I9 rfl (.cons r9 .nil) ⟨_,ys,v,rfl,rfl,d9,z9,rfl⟩) λ_ s10 a=>?_
    obtain⟨_,H10,I10,_,e10⟩:=a;subst e10;obtain⟨k1,k2⟩:=kp I10;exact⟨m',hm,i+1,ys++[v],F,_,Z,I10.unpinned,k1,k2,w9⟩
 exact codeAny_compStart_list (loop _ ⟨_,rfl⟩) (T.self _ 0 _ _ _ (T.keep _ _ _ S λb k o e=>hk b o e) (loop _ ⟨_,rfl⟩))
theorem nW {c:TI} {g:TG} {tt:TT} {te:TE} (hc:X.calm=true) (hi:PI X tg iter c)
  (e:∀C s2 H2 fp,PG (blk X M scope own C s2 H2 fp) tg g) (f:∀C s2 H2 fp,PTs (blk X M scope own C s2 H2 fp) ifs tt) (i:∀C s2 H2 fp,PE (blk X M scope own C s2 H2 fp) elt te)
  (hB:jx X.N M X.env.scope scope own=true:=by rfl) (j:∀x,foldedSetIterable iter X.env x=pure x:=by intro _;rfl):PE X (.ListComp elt [⟨tg,iter,ifs,0⟩] scope pos) (tLC own.length c g tt te):=by
 intro pins s σ H Q I h;rw[eval_ListComp];refine jU hc hi e f i hB j I h λC D s5 l k a _ _ _ _ _ q=>?_
 obtain⟨m,hn⟩:=a;exact⟨m,hn,λh' b=>⟨.ref D,l,k h' b,rfl,q⟩⟩
mutual
def IsD (K:PySem.W.Frag) (H:Hp):PyData->V->Prop
 |.none,v=>v=.non
 |.bool b,v=>v=.bl b
 |.int i,v=>v=.int i
 |.str x,v=>v=.str x
 |.list ds,v=>∃a xs,v=.ref a/\SqL K H a xs/\bU K H ds xs
 |.tuple ds,v=>∃a xs,v=.ref a/\SqT K H a xs/\bU K H ds xs
 |.dict _,_=>False
def bU (K:PySem.W.Frag) (H:Hp):List PyData->List V->Prop
 |[],vs=>vs=[]
 |d::ds,vs=>∃v r,vs=v::r/\IsD K H d v/\bU K H ds r
end
theorem ak.tupS (e:ak H H') (h:SqT K H a xs):SqT K H' a xs:=by
 rcases h with (h|⟨o,h⟩)|h
 ·exact .inl (.inl (e _ _ h))
 ·exact .inl (.inr ⟨o,e _ _ h⟩)
 ·exact .inr h
mutual
theorem IsD.same {K:PySem.W.Frag} {H H':Hp} (e:ak H H'):∀{d:PyData} {v:V},IsD K H d v->IsD K H' d v
 |.none,_,h=>by unfold IsD at h ⊢;exact h
 |.bool _,_,h=>by unfold IsD at h ⊢;exact h
 |.int _,_,h=>by unfold IsD at h ⊢;exact h
 |.str _,_,h=>by unfold IsD at h ⊢;exact h
 |.list ds,_,h=>by unfold IsD at h ⊢;obtain⟨a,xs,e1,h1,h2⟩:=h;exact⟨a,xs,e1,e.seq h1,bU.same e h2⟩
 |.tuple ds,_,h=>by unfold IsD at h ⊢;obtain⟨a,xs,e1,h1,h2⟩:=h;exact⟨a,xs,e1,e.tupS h1,bU.same e h2⟩
 |.dict _,_,h=>by unfold IsD at h;exact h.elim
theorem bU.same {K:PySem.W.Frag} {H H':Hp} (e:ak H H'):∀{ds:List PyData} {vs:List V},bU K H ds vs->bU K H' ds vs
 |[],_,h=>by unfold bU at h ⊢;exact h
 |d::ds,_,h=>by unfold bU at h ⊢;obtain⟨v,r,e1,h1,h2⟩:=h;exact⟨v,r,e1,IsD.same e h1,bU.same e h2⟩
end
section
theorem ig {i:Int}:IsD K H (.int i) (.int i):=by unfold IsD;rfl
theorem nK {b:Bool}:IsD K H (.bool b) (.bl b):=by unfold IsD;rfl
theorem nO:IsD K H .none .non:=by unfold IsD;rfl
theorem pz:IsD K H (.str x) (.str x):=by unfold IsD;rfl
theorem oF (h:SqT K H a xs) (h2:bU K H ds xs):IsD K H (.tuple ds) (.ref a):=by unfold IsD;exact⟨a,xs,rfl,h,h2⟩
theorem il (h:SqL K H a xs) (h2:bU K H ds xs):IsD K H (.list ds) (.ref a):=by unfold IsD;exact⟨a,xs,rfl,h,h2⟩
theorem gm:bU K H [] []:=by unfold bU;rfl
theorem gU {d:PyData} (h:IsD K H d v) (h2:bU K H ds vs):bU K H (d::ds) (v::vs):=by unfold bU;exact⟨v,vs,rfl,h,h2⟩
theorem IsD.ofInt {i:Int} (h:IsD K H (.int i) v):v=.int i:=by unfold IsD at h;exact h
theorem IsD.ofBool {i:Bool} (h:IsD K H (.bool i) v):v=.bl i:=by unfold IsD at h;exact h
theorem IsD.ofNone (h:IsD K H .none v):v=.non:=by unfold IsD at h;exact h
theorem IsD.ofStr (h:IsD K H (.str x) v):v=.str x:=by unfold IsD at h;exact h
theorem IsD.ofTup (h:IsD K H (.tuple ds) v):∃a xs,v=.ref a/\SqT K H a xs/\bU K H ds xs:=by unfold IsD at h;exact h
theorem IsD.ofLst (h:IsD K H (.list ds) v):∃a xs,v=.ref a/\SqL K H a xs/\bU K H ds xs:=by unfold IsD at h;exact h
theorem bU.nil_of (h:bU K H [] vs):vs=[]:=by unfold bU at h;exact h
theorem bU.cons_of {d:PyData} (h:bU K H (d::ds) vs):∃v r,vs=v::r/\IsD K H d v/\bU K H ds r:=by unfold bU at h;exact h
theorem gM:∀(ns:List Int),bU K H (ns.map PyData.int) (ns.map V.int)
 |[]=>gm
 |_::r=>gU ig (gM r)
end
section
mutual
theorem Inv.reads (I:Inv X pins σ H s):∀{d:PyData} {v:V} {u:Value},IsD X.K H d v->RelV v u->∃b,Reads s.heap u d b
 |.none,_,_,h,r=>by rw[h.ofNone]at r;cases r;exact⟨_,.none⟩
 |.bool _,_,_,h,r=>by rw[h.ofBool]at r;cases r;exact⟨_,.bool _⟩
 |.int _,_,_,h,r=>by rw[h.ofInt]at r;obtain⟨t,rfl⟩:=r;exact⟨_,.int _ _⟩
 |.str _,_,_,h,r=>by rw[h.ofStr]at r;obtain⟨t,rfl⟩:=r;exact⟨_,.str _ _⟩
 |.list ds,_,_,h,r=>by obtain⟨a,xs,e,h1,h2⟩:=h.ofLst;subst e;cases r;obtain⟨f,i,⟨o,n,g,c,_,d⟩,_⟩:=I.list h1;obtain⟨b,j⟩:=Inv.readsAll I h2 i;exact⟨_,.list g c d (by simpa using j)⟩
 |.tuple ds,_,_,h,r=>by obtain⟨a,xs,e,h1,h2⟩:=h.ofTup;subst e;cases r;obtain⟨f,i,⟨o,g,c,n,d⟩,_⟩:=I.tuple h1;obtain⟨b,j⟩:=Inv.readsAll I h2 i;exact⟨_,.tuple g c d (by simpa using j)⟩
 |.dict _,_,_,h,_=>by unfold IsD at h;exact h.elim
theorem Inv.readsAll (I:Inv X pins σ H s):∀{ds:List PyData} {vs:List V} {us:List Value},bU X.K H ds vs->Vals vs us->∃a,ReadsAll s.heap us ds a
 |[],_,_,h,r=>by rw[h.nil_of]at r;cases r;exact⟨_,.nil⟩
 |d::ds,_,_,h,r=>by
  obtain⟨v,t,e,h1,h2⟩:=h.cons_of;subst e;cases r with
  |cons r1 r2 =>obtain⟨a,b⟩:=Inv.reads I h1 r1;obtain⟨bs,c⟩:=Inv.readsAll I h2 r2;exact⟨_,.cons b c⟩
end
open PySem.SeqAt in
theorem jT (a:X.A.units+64<cLine):OpR X (compareOp .Eq) (λx y H Q=>∃d e,IsD X.K H d x/\IsD X.K H e y/\shaped d=true/\shaped e=true/\Q (.bl (PyData.eqv d e)) H):=by intro pins s σ H x y v u Q I b c h;obtain⟨d,e,hd,f,g,i,q⟩:=h;obtain⟨as,j⟩:=I.reads hd b;obtain⟨bs,k⟩:=I.reads f c;exact eq_dataH j k g i a ⟨.bl _,H,I,rfl,q⟩
open PySem.SeqAt in
theorem rf (a:X.A.units+64<cLine):OpR X (compareOp .NotEq) (λx y H Q=>∃d e,IsD X.K H d x/\IsD X.K H e y/\shaped d=true/\shaped e=true/\Q (.bl (!PyData.eqv d e)) H):=by intro pins s σ H x y v u Q I b c h;obtain⟨d,e,hd,f,g,i,q⟩:=h;obtain⟨as,j⟩:=I.reads hd b;obtain⟨bs,k⟩:=I.reads f c;exact ne_dataH j k g i a ⟨.bl _,H,I,rfl,q⟩
def tyD:PyData->String
 |.none=>"NoneType"
 |.bool _=>"bool"
 |.int _=>"int"
 |.str _=>"str"
 |.list _=>"list"
 |.tuple _=>"tuple"
 |.dict _=>"dict"
def hR (d:PyData) (T:String):Bool:=tyD d==T||(T=="int"&&tyD d=="bool")
theorem oN (K:PySem.W.Frag) {a T:String} (ha:a∈["NoneType", "bool", "int", "str", "list", "tuple"]) (b:T∈["bool", "int", "list", "tuple"]) :
  PySem.W.kitOne K (.type a) (.type T)=some (a==T||(T=="int"&&a=="bool")):=by
 simp only[List.mem_cons,A7,or_false]at ha b;rcases ha with rfl|rfl|rfl|rfl|rfl|rfl <;> rcases b with rfl|rfl|rfl|rfl <;> rfl
theorem pH {d:PyData} (h:IsD K H d v):tyD d∈["NoneType", "bool", "int", "str", "list", "tuple"]:=by
 cases d with
 |dict _=>unfold IsD at h;exact h.elim
 |_=>simp[tyD]
theorem jq:dE X (.builtin "isinstance") (λxs H Q=>∃d v T,xs=[v,.ty T]/\IsD X.K H d v/\T∈["bool", "int", "list", "tuple"]/\Q (.bl (hR d T)) H):=by
 intro pins s σ H xs us Q I r h;obtain⟨d,v,T,rfl,hd,k,q⟩:=h;obtain⟨u,c,rfl,f,l⟩:=vals2 r;cases l;have e:PySem.W.kitOne X.K (.type (tyD d)) (.type T)=some (hR d T):=oN X.K (pH hd) k;have fin:∀tk,EP X pins σ Q (.bool (hR d T)) { s with toks:=tk }:=λtk=>⟨.bl _,H,I.tok tk,rfl,q⟩
 cases d with
 |none=>rw[hd.ofNone]at f;cases f;exact PySem.W.kia_one PySem.W.kitx_none I.kIn True.intro e (λz=>nomatch z) fin
 |bool b=>rw[hd.ofBool]at f;cases f;exact PySem.W.kia_one PySem.W.kitx_bool I.kIn True.intro e (λz=>nomatch z) fin
 |int i=>rw[hd.ofInt]at f;obtain⟨t,rfl⟩:=f;exact PySem.W.kia_one PySem.W.kitx_int I.kIn True.intro e (λz=>nomatch z) fin
 |str x=>rw[hd.ofStr]at f;obtain⟨t,rfl⟩:=f;exact PySem.W.kia_one PySem.W.kitx_str I.kIn True.intro e (λz=>nomatch z) fin
 |list ds =>obtain⟨a,xs,e1,h1,h2⟩:=hd.ofLst;subst e1;cases f;obtain⟨j,m,⟨o,n,g,c,_,_⟩,_⟩:=I.list h1;exact PySem.W.kia_one PySem.W.kitx_list I.kIn ⟨o,g,c⟩ e (λz=>nomatch z) fin
 |tuple ds =>obtain⟨a,xs,e1,h1,h2⟩:=hd.ofTup;subst e1;cases f;obtain⟨j,m,⟨o,g,c,n,_⟩,_⟩:=I.tuple h1;exact PySem.W.kia_one PySem.W.kitx_tuple I.kIn ⟨o,g,c⟩ e (λz=>nomatch z) fin
 |dict _=>unfold IsD at hd;exact hd.elim
theorem fL:∀{bs:List Bool} {us:List Value},Vals (bs.map V.bl) us->LSm.BoolsAre us bs
 |[],_,.nil=>.nil
 |b::r,_,.cons h t=>by cases (show _=Value.bool b from h);exact .cons b (fL t)
theorem mF (hc:X.calm=true):dE X (.builtin "all") (λxs H Q=>∃(a:Addr) (bs:List Bool),xs=[.ref a]/\SqL X.K H a (bs.map V.bl)/\Q (.bl (bs.all id)) H):=by
 intro pins s σ H xs us Q I r h;obtain⟨a,bs,rfl,k,q⟩:=h;obtain⟨u,rfl,l⟩:=vals1 r;cases l;obtain⟨c,m,p,_⟩:=I.list k;have hl:=p.isList;have g:=fL m;have f:a<s.heap.objs.size:=by obtain⟨_,e,_⟩:=hl;exact Heap.lt_size e
 refine call_all_walk (wpAny_pyIter_list hl ?_);refine⟨s.heap.objs.size,[s.heap.objs.size,a]++hdA X.A,[s.heap.objs.size],c.toArray.size,_,_,λi=>(bs[i]?).getD true,rfl,gj (A:=X.A.in1) _ a (Nat.ne_of_lt f) (λe n=>(I.hdH hc).ne (A6 _) e n) c.toArray,
  ⟨⟨⟨_,Ad _ rfl,rfl,rfl⟩,hl.push _⟩,(I.hdH hc).push _⟩,λi v s' Q' E' o j=>?_,λh' tk t=>?_⟩
 ·obtain⟨b,e,rfl⟩:=g.get i v (by simpa using o);simp only[e,Option.getD_some]at j;exact wpAny_truthy_bool j
 ·have e:((List.range c.toArray.size).all λi=>(bs[i]?).getD true)=bs.all id:=by rw[A3,g.length];exact LSm.range_all bs
  rw[e];exact⟨.bl _,H,I.kept (LSm.kept_iter t),rfl,q⟩
theorem nC (hc:X.calm=true):dE X (.builtin "sum") (λxs H Q=>∃(a:Addr) (ns:List Int),xs=[.ref a]/\SqL X.K H a (ns.map V.int)/\Q (.int ns.sum) H):=by
 intro pins s σ H xs us Q I r h;obtain⟨a,ns,rfl,f,q⟩:=h;obtain⟨u,rfl,g⟩:=vals1 r;cases g;obtain⟨b,i,p,_⟩:=I.list f;have hi:IntsAre b ns:=intsAre_of i;obtain⟨xs,e⟩:=hi.allInts.items;have c:s.heap.IsList a (intItems xs):=e▸p.isList;refine sE (I.hdH hc) c λh' tk t' j=>?_
 have e1:ns=xs.toList.map (·.1):=by rw[<-nums_intItems,<-e];exact (show numsOf b.toArray.toList=ns from hi.numsOf).symm
 have e2:preSum (numAt xs) xs.size=ns.sum:=by rw[preSum_eq,AZ (by simp),e1]
 rw[e2];exact⟨.int _,H,I.kept j,⟨_,rfl⟩,q⟩
end
structure ka (P:Program) (w:World) (outer:List Env) (H:Hp) (s:Shared) (H':Hp) (B:Heap) (ea:Addr) (cls a0:Value) (s':Shared):Prop where
 os:s'.os=s.os
 bare:AllBare s'.gens
 hok:HOk P w H' B
 keep:∀b o,s.heap.get? b=some o->H b=none->b∉frs outer->B.get? b=some o
 there:∀b o,s.heap.get? b=some o->b∉frs outer->∃o',B.get? b=some o'
 slot:∀b o,s.heap.get? b=some o->b∈frs outer->∃sl,s'.heap.get? b=some { o with slots:=sl }
 free:∀b o,s.heap.get? b=some o->H b=none->H' b=none
 tups:∀b xs,H b=some (.tup xs)->H' b=some (.tup xs)
 frzs:∀b o u,H b=some (.frz o u)->H' b=some (.frz o u)
 tbls:∀b q,H b=some (.tbl q)->H' b=some (.tbl q)
 fly:Heap.FlyingW B outer ea cls a0 s'.heap
def CXW (P:Program) (w:World):CXT:=λa outer H s E e s'=>∃ea cls a0 H' B,e=.ref ea/\E cls none H'/\ka P w outer H s H' B ea cls a0 s'/\(a=none->f7 s'.heap ea)
theorem cc.get (x:cc P w H h a o):∃ob,h.get? a=some ob:=by
 cases o with
 |lst xs=>obtain⟨_,_,_,_,e⟩:=x;exact⟨_,e⟩
 |tup xs=>obtain⟨_,_,_,ob,e,_⟩:=x;exact⟨_,e⟩
 |dK kvs=>obtain⟨_,_,_,_,o,_,_,e,_⟩:=x;exact⟨_,e⟩
 |dT kvs=>obtain⟨_,_,_,_,o,_,_,e,_⟩:=x;exact⟨_,e⟩
 |set S n=>obtain⟨o,_,_,_,e,_⟩:=x;exact⟨_,e⟩
 |ins C dx fs=>obtain⟨_,_,_,e,_⟩:=x;exact⟨_,e⟩
 |own y=>exact x
 |xd fs=>obtain⟨_,⟨_,_,_,e,_⟩,_⟩:=x;exact⟨_,e⟩
 |rng lo hi=>obtain⟨_,_,_,e⟩:=x;exact⟨_,e⟩
 |frz ob u=>obtain⟨e,_⟩:=x;exact⟨_,e⟩
 |tbl q=>obtain⟨_,e,_⟩:=x;exact⟨_,e⟩
 |met f y=>exact⟨_,show h.get? a=some _ from x⟩
 |ext φ=>obtain⟨_,e,_⟩:=x;exact e
section
variable {f:Addr} {A:Around}
theorem eH (a:env.frame=some L):frs (env::outer)=L::frs outer:=by unfold frs;rw[AM,a]
theorem jv {CX:CXT} {g:Shared} {vs:List Value}
  (I:Inv (cI (CXW P w) P w K mg base N qual scope f cd A outer s H E) pins σ H1 g) (m:kO (cI (CXW P w) P w K mg base N qual scope f cd A outer s H E).A g.heap h' ea cls vs) (p:E cls none H1) :
  (cI (CXW P w) P w K mg base N qual scope f cd A outer s H E).xe (.ref ea) { g with heap:=h' }:=by
 have i:=I.stack;have j:frs (cI (CXW P w) P w K mg base N qual scope f cd A outer s H E).stack=s.heap.objs.size::frs outer:=eH rfl;have k:∀env∈(cI (CXW P w) P w K mg base N qual scope f cd A outer s H E).stack,∀b,env.frame=some b->b∈frs (cI (CXW P w) P w K mg base N qual scope f cd A outer s H E).stack:=λenv r b c=>B4.mpr ⟨env,r,c⟩
 have out:∀b o,s.heap.get? b=some o->b∉frs outer->b∉frs (cI (CXW P w) P w K mg base N qual scope f cd A outer s H E).stack:=λb o e n z=>by
  rw[j]at z;rcases List.mem_cons.mp z with z|z
  ·rw[z]at e;exact absurd (Heap.lt_size e) (AA _)
  ·exact n z
 refine jH (base:=PySem.W.hideAll g.heap (frs (cI (CXW P w) P w K mg base N qual scope f cd A outer s H E).stack)) I.ok.frames rfl (λb o q=>PySem.W.of_hideAll _ q) (PySem.W.funFrames_hide i k) m λh2 t v x y=>?_
 refine⟨ea,cls,.ref t,H1,_,rfl,p,⟨I.os,I.bare,?_,?_,?_,?_,?_,I.base.tups,I.base.frzs,I.base.tbls,v⟩,y⟩
 ·intro a o e;refine (I.hok a o e).stay (λb u c q=>PySem.W.hideAll_get _ q λz=>?_) (λ_ q=>q) λ_ _ q=>q
  have:=I.stkFree b z;rcases c with c|c
  ·rw[c,e]at this;cases this
  ·rw[c]at this;cases this
 ·intro b o e n c;exact PySem.W.hideAll_get _ (I.base.keep b o e n c (A7)) (out b o e c)
 ·intro b o e c;obtain⟨o',q⟩:=I.base.there b o e (A7);exact⟨o',PySem.W.hideAll_get _ q (out b o e c)⟩
 ·intro b o e c;obtain⟨sl,q⟩:=I.base.slot b o e (I.ok.frf b c) c (A7);obtain⟨_,B,h,d2⟩:=I.ok.funs.mem c;have h:s.heap.get? b=some B:=h;rw[e]at h;cases h;obtain⟨l,C⟩:=x b _ (m.keeps b _ q) d2;exact⟨l,C⟩
 ·intro b o e n;exact I.base.free b o e n (A7)
theorem n8:Passes (CXW P w) (cI (CXW P w) P w K mg base N qual scope f cd A outer s H E) E:=by
 refine⟨rfl,?_⟩;intro pins σ H1 s1 e s2 I hc;obtain⟨ea,cls,a0,H2,B,rfl,i,F,j⟩:=hc;have c:frs (cI (CXW P w) P w K mg base N qual scope f cd A outer s H E).stack=s.heap.objs.size::frs outer:=eH rfl;have out:∀b o,s.heap.get? b=some o->b∉frs outer->b∉frs (cI (CXW P w) P w K mg base N qual scope f cd A outer s H E).stack:=λb o e n z=>by
  rw[c]at z;rcases List.mem_cons.mp z with z|z
  ·rw[z]at e;exact absurd (Heap.lt_size e) (AA _)
  ·exact n z
 refine jG I.ok.frames rfl F.fly j λh2 k l y=>⟨ea,cls,a0,H2,B,rfl,i,⟨F.os.trans I.os,F.bare,F.hok,?_,?_,?_,?_,?_,?_,?_,k⟩,y⟩
 ·intro b o e n a;exact F.keep b o (I.base.keep b o e n a (A7)) (I.base.free b o e n (A7)) (out b o e a)
 ·intro b o e a;obtain⟨o',q⟩:=I.base.there b o e (A7);exact F.there b o' q (out b o e a)
 ·intro b o e a;obtain⟨sl,q⟩:=I.base.slot b o e (I.ok.frf b a) a (A7);obtain⟨_,m,g,d2⟩:=I.ok.funs.mem a;have g:s.heap.get? b=some m:=g;rw[e]at g;cases g;obtain⟨sl1,p⟩:=F.slot b _ q (by rw[c];exact Ab _ a);obtain⟨h,r⟩:=l b _ p d2;exact⟨h,r⟩
 ·intro b o e n;obtain⟨o',q⟩:=I.base.there b o e (A7);exact F.free b o' q (I.base.free b o e n (A7))
 ·intro b xs e;exact F.tups b xs (I.base.tups b xs e)
 ·intro b o u e;exact F.frzs b o u (I.base.frzs b o u e)
 ·intro b ps e;exact F.tbls b ps (I.base.tbls b ps e)
end
theorem iO (X:K.In h) (q:PySem.W.excIn K C bmB newId=true) :
  ∃bm N nm o bs hdct sn sub ab col dd k0 k1 k2 k3 k5 mN,h.get? C=some (excClassObj nm o C N bs bm hdct sn sub ab col dd k0 k1 k2 k3 k5 newId)/\h.Ns N mN/\mN "__init__"=none/\OwnTail h bmB bm:=by
 unfold PySem.W.excIn at q;split at q
 ·rename_i d1 p l1 g1;split at q
  ·rename_i C2 a f g i j n2 k hm r;simp only[Ag,beq_iff_eq,Bool.not_eq_true']at q;obtain⟨⟨⟨⟨⟨s,t⟩,m⟩,u⟩,b⟩,n⟩:=q;subst s;subst t;obtain⟨z1,z2,z3,z4,z5,z6,z7,z8,v,c,z11⟩:=p;dsimp only at hm m b n;subst hm;subst m;have hl:l1=#[f,g,i,j,some (.builtin n2),k]:=by obtain⟨l⟩:=l1;have e:l=_:=r;rw[e]
   subst hl;exact⟨a,z4,z1,z5,z2,z6,z7,z8,v,c,d1,f,g,i,j,k,_,X _ _ g1,.of_isNs (PySem.W.isNs_of_in X b),PySem.W.nsMap_none_of_in X b n,PySem.W.tail_of_in X u⟩
  ·cases q
 ·cases q
def jF (X:Cx) (E:XK):Prop:=∀(pins:List (Addr×Obj)) (σ:St) (H:Hp) (s:Shared) (h':Heap) (ea:Addr) (cls:Value) (vs:List Value),Inv X pins σ H s->kO X.A s.heap h' ea cls vs->E cls none H->X.xe (.ref ea) { s with heap:=h' }
def si (C:Addr) (E:XK) (t:TA):TS:=λ_ σ H=>t σ H λvs H1=>vs.length<=sizeLine/\E (.ref C) none H1
theorem mY {B initId:String} {bm:List Value} {k:Pos} {t:TA} (hc:X.calm=true) (M:jF X E) (FB:ExcBaseFacts B newId initId bm) (l:Gl X x) (hm:X.mg x=some (.ref C)) (m:PySem.W.excIn X.K C bm newId=true)
  (ha:PA X (e::es) t) (b:(x==("__debug__":Str))=false:=by decide) (i:starEach (e::es) X.env=(false,eval e X.env)::starEach es X.env:=by rfl) (c:(backTo cpos (starEach es X.env)).any (·.1)=false:=by rfl) :
  PS X (.Raise (some (.Call (.Name x k) (e::es) [] cpos)) none pos) (si C E t):=by
 intro pins s σ H D I h;obtain⟨tl,N,nm,q,bs,hdct,sn,sub,ab,col,dd,k0,k1,k2,k3,k5,mN,f,n,g,T⟩:=iO I.mod.kin m;refine gE (C:=C) (nm:=nm) (q:=q) (N:=N) (bs:=bs) (bm:=tl) (hdct:=hdct) (sn:=sn) (sub:=sub) (ab:=ab) (col:=col) (dd:=dd) (k0:=k0) (k1:=k1) (k2:=k2) (k3:=k3) (k5:=k5)
  FB (mN:=mN) (T.hasType FB.hasBase) (by rw[i];show (false||(backTo cpos (starEach es X.env)).any (·.1))=false;rw[c];rfl) g (dW I l hm ⟨rfl,?_⟩ b)
 have j:=ha cpos pins s σ H _ I h;rw[i]at j ⊢;refine Calls.evalArgs_plain (wpAny_mono j (λus s2 h2=>?_) λ_ _ y=>y);obtain⟨vs,H2,a,o,z,p⟩:=h2;exact⟨rfl,by rw[<-o.length];exact z,a.bk _ _ f,n.keeps a.bk,T.keeps a.bk,a.hdH hc,λh' ea r=>M pins σ H2 s2 h' ea _ _ a r p⟩
def XP (X:Cx) (pins:List (Addr×Obj)) (σ:St) (a:XK) (b:Value) (s':Shared):Prop:=∃H s,Inv X pins σ H s/\CXW X.prog X.w X.A.handled X.stack H s a b s'
abbrev TX:=St->Hp->VK->XK->Prop
def PEX (X:Cx) (e:Expr) (t:TX):Prop :=
 ∀(pins:List (Addr×Obj)) (s:Shared) (σ:St) (H:Hp) (Q:VK) (a:XK),Inv X pins σ H s->t σ H Q a->wpAny (model X.prog X.w) X.A (eval e X.env) (EP X pins σ Q) (XP X pins σ a) s
def ux (sp:Sp) (dvs:List V) (t:TA):TX:=λσ H Q a=>t σ H λvs H1=>sp (vs++dvs) H1 Q a
theorem jt {f:Addr} {dvs:List V} {ds:List Value} {t:TA}
  (F:dG X.prog X.w X.K X.mg X.base (CXW X.prog X.w) k f fd ps sp) (hc:X.calm=true) (l:bF k X.A) (m:Gl X x) (hm:X.mg x=some (.ref f)) (n:PySem.W.keepIn X.K (.ref f)=true) (o:Binds X.K fd ps ds) (hd:Vals dvs ds)
  (ha:PA X.nox (e::es) t) (c:(x==("__debug__":Str))=false:=by decide) (v:starEach (e::es) X.env=(false,eval e X.env)::starEach es X.env:=by rfl) (g:(backTo pos (starEach es X.env)).any (·.1)=false:=by rfl) :
  PEX X (.Call (.Name x p) (e::es) [] pos) (ux sp dvs t):=by
 intro pins s σ H Q y I h;refine wpAny_Call_Name_kw (dW I m hm ?_ c);have B:=ha pos pins s σ H _ (I.wish _) h;refine PySem.W.callWith_K (h₀:=X.base) I.ok.mod.kin n (wpAny_mono B (λus i h1=>?_) λ_ _ z=>z.elim) v g;obtain⟨vs,H1,a,r,q⟩:=h1;have a:=a.unwish;refine⟨a.kIn,?_⟩;have j:Vals (vs++dvs) (us++ds):=r.append hd;have hl:(us++ds).length=ps.length:=by rw[<-j.length];exact F.len _ _ _ _ q
 refine wpAny_call (codeAny_mono (F.run X.A X.stack i H1 ⟨us,[]⟩ (us++ds) (vs++dvs) Q y l (a.env0 hc) (o i us a.kIn hl) j q) λr s' b=>?_);cases r with
 |error ev=>exact⟨H1,i,a,b⟩
 |ok fl =>
  cases fl with
  |ret u=>exact a.after b
  |next=>exact False.elim b
  |brk=>exact False.elim b
  |cont=>exact False.elim b
def sui (X:Cx) (ea:Addr) (oe:Obj):Cx:={ X with A:=X.A.mark (some (.ref ea)),calm:=false,pn:=X.pn++[(ea,oe)],xe:=λ_ _=>False }
theorem Inv.sui (I:Inv X pins σ H s)
  (h:s.heap.get? ea=some oe/\H ea=none/\ea≠X.env.locals/\ea∉X.fs/\∀v,oe.data≠.cell v):Inv (L2.sui X ea oe) pins σ H s :=
 ⟨⟨I.ok.mod,I.ok.kind,I.ok.glob,I.ok.blt,I.ok.above,I.ok.inj,I.ok.has,I.ok.cab,(λz=>nomatch z),I.ok.frames,I.ok.stk,I.ok.exf,I.ok.bs,I.ok.bsz,I.ok.noex,I.ok.exfs,I.ok.funs,I.ok.frf⟩,
  I.os,I.bare,I.base,I.loc,I.cell,I.free,I.freeC,λp a=>by
   rcases Ac.mp a with a|a
   ·rcases Ac.mp (show p∈X.pn++[(ea,oe)] from a) with a|a
    ·exact I.pin p (Aa _ a)
    ·cases List.mem_singleton.mp a;exact h
   ·exact I.pin p (A5 _ a),I.hok,I.len,I.tab⟩
theorem Inv.unsui (ok:X.Ok) (I:Inv (L2.sui X ea oe) pins σ H s):Inv X pins σ H s :=
 ⟨ok,I.os,I.bare,I.base,I.loc,I.cell,I.free,I.freeC,λp a=>by
  rcases Ac.mp a with a|a
  ·exact I.pin p (Aa _ (Aa _ a))
  ·exact I.pin p (A5 _ a),I.hok,I.len,I.tab⟩
theorem Inv.forget {a:Str->Option Value} {t':Nat} (I:Inv X pins σ H s) (hn:h'.Ns X.env.locals a) (f:Heap.SameBut X.env.locals s.heap h') :
  Inv X pins (List.replicate X.N.length none) H { s with heap:=h',toks:=t' }:=by
 have k:∀b o,b≠X.env.locals->s.heap.get? b=some o->h'.get? b=some o:=λb o g e=>(f.2 b g).trans e
 have old:∀b o,X.s₀.heap.get? b=some o->b≠X.env.locals:=λb o e=>Nat.ne_of_lt (A9 (Heap.lt_size e) I.ok.above)
 refine⟨I.ok,I.os,I.bare,⟨λb o e n h1 h2=>k b o (old b o e) (I.base.keep b o e n h1 h2),λb o e n h1 h2=>?_,I.base.free,λb o e h1=>?_,I.base.tups,I.base.frzs,I.base.tbls⟩,⟨a,hn,λi x v _ e2 _=>?_⟩,λx c e=>?_,I.free,I.freeC,λp h=>?_,λb o e=>?_,by simp,I.tab⟩
 ·obtain⟨j,q⟩:=I.base.slot b o e n h1 h2;exact⟨j,k b _ (old b o e) q⟩
 ·obtain⟨o',q⟩:=I.base.there b o e h1;exact⟨o',k b o' (old b o e) q⟩
 ·rw[AN]at e2;split at e2 <;> cases e2
 ·obtain⟨v,q⟩:=I.cell x c e;exact⟨v,q.sameBut f (I.cne x c e)⟩
 ·obtain⟨e,n,ne,l,d⟩:=I.pin p h;exact⟨k p.1 p.2 ne e,n,ne,l,d⟩
 ·refine (I.hok b o e).stay (λc v hc q=>k c v ?_ q) (λ_ q=>q) λ_ _ q=>q
  rintro rfl
  rcases hc with z|z
  ·subst z;rw[I.free]at e;cases e
  ·rw[I.free]at z;cases z
theorem ka.inv {B g:Heap} (I:Inv X pins σ H s) (F:ka X.prog X.w X.stack H s H' B ea cls a0 s') (hB:B.StaysIn g) (i:s'.heap.UpToSlots g) :
  Inv X pins σ H' { s' with heap:=g }:=by
 refine I.call' (s':={ s' with heap:=g }) (ch:=[]) F.os ⟨λb o e n h1 _=>hB b o (F.keep b o e n h1),λb o e n h1 _=>?_,λb o e n _=>F.free b o e n,λb o e _=>?_,F.tups,F.frzs,F.tbls⟩ (F.hok.kept hB) F.bare (λb a=>absurd a (A7))
 ·obtain⟨j,q⟩:=F.slot b o e h1;obtain⟨_,k,c,d2⟩:=I.stack.mem h1;rw[e]at c;cases c;obtain⟨f,h⟩:=i b _ q d2;exact⟨f,h⟩
 ·by_cases a:b∈frs X.stack
  ·obtain⟨j,q⟩:=F.slot b o e a;obtain⟨_,k,c,d2⟩:=I.stack.mem a;rw[e]at c;cases c;obtain⟨f,h⟩:=i b _ q d2;exact⟨_,h⟩
  ·obtain⟨o',q⟩:=F.there b o e a;exact⟨o',hB _ _ q⟩
theorem ka.apart {B f:Heap} (I:Inv X pins σ H s) (F:ka X.prog X.w X.stack H s H' B ea cls a0 s') (g:Heap.FlyingW B X.stack ea cls a0 f) (hs:s'.heap.UpToSlots f) :
  ∃oe,oe.cls=cls/\f.get? ea=some oe/\H' ea=none/\ea≠X.env.locals/\ea∉X.fs/\∀v,oe.data≠.cell v:=by
 obtain⟨f1,f2,k,oe,vs,T,oT,ts,j,hc,hd,_⟩:=g;have a:∀b,b∈frs X.stack->ea≠b:=λb l z=>by subst z;obtain⟨_,o,c,h⟩:=k.mem l;rw[j]at c;cases c;exact h _ hd
 refine⟨oe,hc.1,j,?_,?_,λz=>?_,λv z=>by rw[hd]at z;cases z⟩
 ·cases q:H' ea with
  |none=>rfl
  |some o =>obtain⟨ob,e⟩:=(F.hok ea o q).get;rw[f2]at e;cases e
 ·rcases I.ok.stk with e|⟨e,i⟩
  ·intro z;obtain⟨m,⟨o,es,ep,c,hd2,_⟩,_⟩:=I.loc;have n:ea∉frs X.stack:=λq=>a ea q rfl
   obtain⟨o',q⟩:=F.there ea o (by rw[z];exact c) n;rw[f2]at q;cases q
  ·exact a _ (by rw[e,eH i];exact List.mem_cons_self)
 ·have:ea∈frs X.stack:=by
   rcases I.ok.stk with e|⟨e,i⟩
   ·rw[e];exact z
   ·rw[e,eH i];exact Ab _ z
  exact a ea this rfl
theorem lU {B:Heap} {n:Str} {np g:Pos} {Y:Stmt} {a:List Stmt} {D:Ends} {ts:Obj->TS}
  (I:Inv X pins σ H s) (F:ka X.prog X.w X.stack H s H' B ea (.ref C) a0 s') (hf:X.env.frame=some X.env.locals) (b:∃out,X.stack=X.env::out) (hN:X.N.Nodup) (hi:X.N[i]?=some n) (hl:X.env.scope.names.lookup n=some .local)
  (hg:Gl X x) (hm:X.mg x=some (.ref C)) (hC:PySem.W.excIn X.K C bmB newId=true) (j:bmB.contains (.type "BaseException")=true)
  (hs:∀oe,oe.cls=.ref C->PSs (sui X ea oe) (Y::a) (ts oe))
  (q:∀oe,oe.cls=.ref C->ts oe { nx:=λ_ _=>False,rt:=D.rt } (σ.set i (some (.ref ea))) H')
  (E:(x==("__debug__":Str))=false:=by decide) :
  wpAny (model X.prog X.w) X.A (noteFrame (.ref ea) X.env) (λ_ s2=>wpAny (model X.prog X.w) X.A (setFlight (.ref ea) none) (λ_ s3 =>
   wpAny (model X.prog X.w) X.A (handleBy (.ref ea) X.env [.ExceptHandler (some (.Name x np)) (some n) (Y::a) g]) (SP X pins D) X.xe s3) X.xe s2) X.xe s':=by
 obtain⟨out,b⟩:=b;have G:X.A.frames=some (X.env::out):=by rw[<-b];exact I.ok.frames
 have l:Heap.FlyingW B (X.env::out) ea (.ref C) a0 s'.heap:=by rw[<-b];exact F.fly
 refine wpAny_looks_onW G hf l λh4 J c=>?_
 refine wpAny_landsW J λZ m e=>?_
 have h:Heap.FlyingW B X.stack ea (.ref C) a0 Z:=by rw[b];exact m
 have I5:Inv X pins σ H' { s' with heap:=Z }:=F.inv I m.1 (c.trans e);obtain⟨oe,hc,ap⟩:=F.apart I h (c.trans e);have J5:=Inv.sui I5 ap;refine wpAny_handleBy_cons (codeAny_handlers_test (dW (X:=sui X ea oe) J5 hg hm ?_ E)) (by intro z;cases z);obtain⟨bm,Nn,nm,qn,bs,hdct,sn,sub,ab,col,dd,k0,k1,k2,k3,k5,mN,L,hN0,hni,TL⟩:=iO I5.kIn hC;refine wpAny_excMatches_sub_self L ap.1 hc (TL.hasType j) (codeAny_handlers_suite_as ?_);refine lands_againW h λh6 o p=>?_
 have I6:Inv X pins σ H' { s' with heap:=h6 }:=F.inv I o.1 ((c.trans e).trans p);obtain⟨f,r,M⟩:=F.apart I o ((c.trans e).trans p);have J6:=Inv.sui I6 M;refine fK (X:=sui X ea f) (v:=.ref ea) J6 hN hi (.inl hl) rfl (λs7 J7=>?_) (.inr hl);refine wpAny_mono (hs f r pins s7 _ H' { nx:=λ_ _=>False,rt:=D.rt } J7 (q f r)) (λfl O y=>?_) λ_ _ z=>z.elim
 have fin:∀{v:V} {u:Value} {k:St} {t:Hp},Inv (sui X ea f) pins k t O->RelV v u->D.rt v t->wpAny (model X.prog X.w) X.A (do bindName X.env n .none;unbindBehindTheSuite X.env n g) (λ_ s9=>SP X pins D (.ret u) s9) X.xe O:=λ{v u k t} P Q R=>by have I8:=Inv.unsui I.ok P;obtain⟨m8,S,_⟩:=I8.loc;exact wpAny_nameGoes hl S (by rw[I.ok.kind];rfl) λh9 m9 T U=>⟨v,_,t,I8.forget (t':=O.toks+1) T U,Q,R⟩
 cases fl with
 |ret u =>obtain⟨v,k,t,P,Q,R⟩:=y;exact fin P Q R
 |next=>obtain⟨_,_,_,z⟩:=y;exact z.elim
 |brk=>obtain⟨_,_,_,z⟩:=y;exact z.elim
 |cont=>obtain⟨_,_,_,z⟩:=y;exact z.elim
theorem eE (h:H D=none):ak H (upd H D o):=λb u e=>by rw[aK (aO e h)];exact e
theorem ak.put (s:ak H H') (h:H D=none):ak H (upd H' D o):=λb u e=>by rw[aK (aO e h)];exact s b u e
mutual
def cG:PyData->Bool
 |.list _=>false
 |.tuple ds=>ec ds
 |.dict _=>false
 |_=>true
def ec:List PyData->Bool
 |[]=>true
 |d::ds=>cG d&&ec ds
end
theorem set_own (σ:St) (x:Option V) (v:V) (a:St) (h:a.length=1):(σ++a).set σ.length (some v)=σ++[some v]:=by obtain⟨y,rfl⟩:=List.length_eq_one_iff.mp h;simp
structure Rows (H H':Hp) (D:Addr) (qs:List Addr) (rs:List (List Int)):Prop where
 d:H' D=some (.lst (qs.map V.ref))
 len:qs.length=rs.length
 at':∀(i:Nat) q r,qs[i]?=some q->rs[i]?=some r->H' q=some (.lst (r.map V.int))
 new:∀q∈qs,H q=none
 nd:qs.Nodup
 nD:D∉qs
section
variable {prog:Program} {A:Around} {E:Value->Shared->Prop}
end
section
variable {prog:Program} {A:Around} {E:Value->Shared->Prop} {z TI TO i1 i2:Addr} {f1 f2:List Addr} {n1 n2:Nat} {P1 P2:Nat->Value->Prop} {S1 S2:Nat->Heap->Prop} {a b:Value}
end
section
variable {σ:L2.St}
end
inductive Rs (α:Type) where
 |ok (a:α)
 |rz (C:Addr)
 |no
namespace Rs
def bind {α β:Type}:Rs α->(α->Rs β)->Rs β
 |ok a,f=>f a
 |rz C,_=>rz C
 |no,_=>no
def bS {α:Type}:Option α->Rs α
 |some a=>ok a
 |none=>no
def calm {α:Type}:Rs α->Rs α
 |ok a=>ok a
 |_=>no
@[simp]theorem aj (a:α) (f:α->Rs β):(ok a).bind f=f a:=rfl
@[simp]theorem c8 (C:Addr) (f:α->Rs β):(rz C).bind f=rz C:=rfl
@[simp]theorem bc (f:α->Rs β):(no:Rs α).bind f=no:=rfl
@[simp]theorem aF (a:α):bS (some a)=ok a:=rfl
@[simp]theorem ql:bS (none:Option α)=no:=rfl
@[simp]theorem eC (a:α):(ok a).calm=ok a:=rfl
end Rs
variable {gf:List PyData->Rs PyData}
def del (H:Hp) (A:List Addr):Hp:=λb=>if b∈A then none else H b
theorem kW:del H []=H:=by funext b;simp[del]
theorem eW (h:b∈A):del H A b=none:=by simp[del,h]
theorem aQ (h:b∉A):del H A b=H b:=by simp[del,h]
theorem b8 (h:del H A b=some o):b∉A/\H b=some o:=by
 by_cases z:b∈A
 ·rw[eW z]at h;cases h
 ·rw[aQ z]at h;exact⟨z,h⟩
theorem av:ak (del H A) H:=λ_ _ e=>(b8 e).2
theorem ak.del (s:ak H H'):ak (del H A) (L2.del H' A):=λb o e=>by obtain⟨z,e⟩:=b8 e;rw[aQ z];exact s b o e
def vn:HO->Bool
 |.lst _=>true
 |.dK _=>true
 |.dT _=>true
 |_=>false
def Ls (H:Hp) (A:List Addr):Prop:=∀a∈A,∃o,H a=some o/\vn o=true
theorem Ls.same (h:Ls H A) (s:ak H H'):Ls H' A:=λa ha=>by obtain⟨o,e,q⟩:=h a ha;exact⟨o,s _ _ e,q⟩
theorem Ls.nil:Ls H []:=λ_ h=>by cases h
theorem Ls.new {p:Addr} (h:Ls H A) (a:H p=none):p∉A:=λz=>by obtain⟨xs,e,_⟩:=h p z;rw[a]at e;cases e
def ai (ns:List Int):PyData:=.dict [(.none,.list (ns.map .int))]
abbrev dtK (l:List ((Int×Int)×Int)):List (PyData×PyData):=(.bool true,.none)::l.map λp=>(.tuple [.int p.1.1,.int p.1.2],.int p.2)
abbrev dtO (l:List ((Int×Int)×Int)):HO:=.dT (l.map λp=>([.inl p.1.1,.inl p.1.2],V.int p.2))
abbrev dfK (l:List (Int×Int)):List (PyData×PyData):=(.bool false,.none)::l.map λp=>(.int p.1,.int p.2)
def sZ (kvs:List (PyData×PyData)) (o:HO):Prop:=(∃l:List (Int×Int),kvs=l.map (λp=>(PyData.int p.1,PyData.int p.2))/\o=.dK (l.map λp=>(.inl p.1,V.int p.2)))\/(∃l,kvs=dtK l/\o=dtO l)\/∃l ob,kvs=dfK l/\o=.frz ob (.dK (l.map λp=>(.inl p.1,V.int p.2)))
mutual
def Is (K:PySem.W.Frag) (H:Hp):PyData->V->Prop
 |.none,v=>v=.non
 |.bool b,v=>v=.bl b
 |.int i,v=>v=.int i
 |.str x,v=>v=.str x
 |.list ds,v=>∃a xs,v=.ref a/\H a=some (.lst xs)/\Iss K H ds xs
 |.tuple ds,v=>∃a xs,v=.ref a/\H a=some (.tup xs)/\Iss K H ds xs
 |.dict kvs,v=>((∃a ns,v=.ref a/\kvs=[(PyData.none,PyData.list (List.map PyData.int ns))]/\SqL K H a (List.map V.int ns)) \/
  ∃(a:Addr) (o:HO),v=.ref a/\sZ kvs o/\H a=some o) \/
  ∃(a C dx:Addr) (fs:List (Str×V)),v=.ref a/\H a=some (.ins C dx fs)/\fs.lookup ("@":Str)=none/\(Isk K H kvs (("",.int (C:Int))::fs)\/Isk K H kvs (("",.int (C:Int))::("@",.int (a:Int))::fs))
def Iss (K:PySem.W.Frag) (H:Hp):List PyData->List V->Prop
 |[],vs=>vs=[]
 |d::ds,vs=>∃v r,vs=v::r/\Is K H d v/\Iss K H ds r
def Isk (K:PySem.W.Frag) (H:Hp):List (PyData×PyData)->List (Str×V)->Prop
 |[],fs=>fs=[]
 |(k,d)::r,fs=>∃f v fs',fs=(f,v)::fs'/\k=.str f/\Is K H d v/\Isk K H r fs'
end
section
theorem bf {i:Int}:Is K H (.int i) (.int i):=by unfold Is;rfl
theorem is_bool {b:Bool}:Is K H (.bool b) (.bl b):=by unfold Is;rfl
theorem is_none:Is K H .none .non:=by unfold Is;rfl
theorem kn:Is K H (.str x) (.str x):=by unfold Is;rfl
theorem eZ (h:H a=some (.tup xs)) (h2:Iss K H ds xs):Is K H (.tuple ds) (.ref a):=by unfold Is;exact⟨a,xs,rfl,h,h2⟩
theorem iQ (h:H a=some (.lst xs)) (h2:Iss K H ds xs):Is K H (.list ds) (.ref a):=by unfold Is;exact⟨a,xs,rfl,h,h2⟩
theorem lB (h:SqL K H a (ns.map V.int)):Is K H (ai ns) (.ref a):=by unfold ai Is;exact .inl (.inl ⟨a,ns,rfl,rfl,h⟩)
theorem cA:Iss K H [] []:=by unfold Iss;rfl
theorem cF {d:PyData} (h:Is K H d v) (h2:Iss K H ds vs):Iss K H (d::ds) (v::vs):=by unfold Iss;exact⟨v,vs,rfl,h,h2⟩
theorem kT {d:PyData} (h:Is K H d v):Iss K H [d] [v]:=cF h cA
theorem Is.ofInt {i:Int} (h:Is K H (.int i) v):v=.int i:=by unfold Is at h;exact h
theorem Is.ofBool {i:Bool} (h:Is K H (.bool i) v):v=.bl i:=by unfold Is at h;exact h
theorem Is.ofNone (h:Is K H .none v):v=.non:=by unfold Is at h;exact h
theorem Is.ofStr (h:Is K H (.str x) v):v=.str x:=by unfold Is at h;exact h
theorem Is.ofTup (h:Is K H (.tuple ds) v):∃a xs,v=.ref a/\H a=some (.tup xs)/\Iss K H ds xs:=by unfold Is at h;exact h
theorem Is.ofLst (h:Is K H (.list ds) v):∃a xs,v=.ref a/\H a=some (.lst xs)/\Iss K H ds xs:=by unfold Is at h;exact h
theorem Is.ofScript (h:Is K H (ai ns) v):∃a,v=.ref a/\SqL K H a (ns.map V.int):=by
 unfold ai Is at h;rcases h with (h|⟨a,l,_,e,_⟩)|⟨a,C,dx,fs,_,_,_,h|h⟩
 case inl.inr=>rcases e with⟨m,e,_⟩|⟨m,e,_⟩|⟨m,_,e,_⟩ <;> first|(cases e;done)|(cases m <;> cases e)
 case inr.inl=>unfold Isk at h;obtain⟨f,_,_,_,h,_⟩:=h;cases h
 case inr.inr=>unfold Isk at h;obtain⟨f,_,_,_,h,_⟩:=h;cases h
 obtain⟨a,g,e,e2,h⟩:=h;have i:ns.map PyData.int=g.map PyData.int:=by injection e2 with e2 _;injection e2 with _ e2;injection e2
 have j:ns=g:=by
  have inj:∀(a b:List Int),a.map PyData.int=b.map PyData.int->a=b:=by
   intro a
   induction a with
   |nil=>intro b c;cases b with|nil=>rfl|cons _ _=>simp at c
   |cons x r ih =>
    intro b c;cases b with
    |nil=>simp at c
    |cons y s =>simp only[AB,List.cons.injEq,PyData.int.injEq]at c;rw[c.1,ih s c.2]
  exact inj _ _ i
 subst j;exact⟨a,e,h⟩
theorem Iss.nil_of (h:Iss K H [] vs):vs=[]:=by unfold Iss at h;exact h
theorem Iss.cons_of {d:PyData} (h:Iss K H (d::ds) vs):∃v r,vs=v::r/\Is K H d v/\Iss K H ds r:=by unfold Iss at h;exact h
theorem Iss.length:∀{ds:List PyData} {vs:List V},Iss K H ds vs->vs.length=ds.length
 |[],_,h=>by rw[h.nil_of];rfl
 |_::_,_,h=>by obtain⟨v,r,e,_,h2⟩:=h.cons_of;rw[e,AI,AI,Iss.length h2]
mutual
theorem Is.same (e:ak H H'):∀{d:PyData} {v:V},Is K H d v->Is K H' d v
 |.none,_,h=>by unfold Is at h ⊢;exact h
 |.bool _,_,h=>by unfold Is at h ⊢;exact h
 |.int _,_,h=>by unfold Is at h ⊢;exact h
 |.str _,_,h=>by unfold Is at h ⊢;exact h
 |.list ds,_,h=>by unfold Is at h ⊢;obtain⟨a,xs,e1,h1,h2⟩:=h;exact⟨a,xs,e1,e _ _ h1,Iss.same e h2⟩
 |.tuple ds,_,h=>by unfold Is at h ⊢;obtain⟨a,xs,e1,h1,h2⟩:=h;exact⟨a,xs,e1,e _ _ h1,Iss.same e h2⟩
 |.dict _,_,h=>by
  unfold Is at h ⊢;rcases h with (⟨a,ns,e1,e2,h2⟩|⟨a,l,e1,e2,h2⟩)|⟨a,C,dx,fs,e1,h1,hn,h2|h2⟩
  ·exact .inl (.inl ⟨a,ns,e1,e2,e.seq h2⟩)
  ·exact .inl (.inr ⟨a,l,e1,e2,e _ _ h2⟩)
  ·exact .inr ⟨a,C,dx,fs,e1,e _ _ h1,hn,.inl (Isk.same e h2)⟩
  ·exact .inr ⟨a,C,dx,fs,e1,e _ _ h1,hn,.inr (Isk.same e h2)⟩
theorem Iss.same (e:ak H H'):∀{ds:List PyData} {vs:List V},Iss K H ds vs->Iss K H' ds vs
 |[],_,h=>by unfold Iss at h ⊢;exact h
 |d::ds,_,h=>by unfold Iss at h ⊢;obtain⟨v,r,e1,h1,h2⟩:=h;exact⟨v,r,e1,Is.same e h1,Iss.same e h2⟩
theorem Isk.same (e:ak H H'):∀{ds:List (PyData×PyData)} {fs:List (Str×V)},Isk K H ds fs->Isk K H' ds fs
 |[],_,h=>by unfold Isk at h ⊢;exact h
 |(k,d)::ds,_,h=>by unfold Isk at h ⊢;obtain⟨f,v,r,e1,e2,h1,h2⟩:=h;exact⟨f,v,r,e1,e2,Is.same e h1,Isk.same e h2⟩
end
theorem rW (b:Ls H A) (h:H a=some (.tup xs)):del H A a=some (.tup xs):=by rw[aQ (λq=>by obtain⟨ys,e2,c⟩:=b a q;rw[h]at e2;cases e2;cases c)];exact h
mutual
theorem Is.dl {A:List Addr} (b:Ls H A):∀{d:PyData} {v:V},cG d=true->Is K H d v->Is K (del H A) d v
 |.none,_,_,h=>by unfold Is at h ⊢;exact h
 |.bool _,_,_,h=>by unfold Is at h ⊢;exact h
 |.int _,_,_,h=>by unfold Is at h ⊢;exact h
 |.str _,_,_,h=>by unfold Is at h ⊢;exact h
 |.list _,_,n,_=>by unfold cG at n;cases n
 |.dict _,_,n,_=>by unfold cG at n;cases n
 |.tuple ds,_,n,h=>by unfold cG at n;obtain⟨a,xs,e,h1,h2⟩:=h.ofTup;subst e;exact eZ (rW b h1) (Iss.dl b n h2)
theorem Iss.dl {A:List Addr} (a:Ls H A):∀{ds:List PyData} {vs:List V},ec ds=true->Iss K H ds vs->Iss K (del H A) ds vs
 |[],_,_,h=>by rw[h.nil_of];exact cA
 |d::ds,_,n,h=>by unfold ec at n;obtain⟨n1,n2⟩:=AH.mp n;obtain⟨v,r,e,h1,h2⟩:=h.cons_of;subst e;exact cF (Is.dl a n1 h1) (Iss.dl a n2 h2)
end
mutual
def aq:PyData->Bool
 |.list ds=>cL ds
 |.tuple ds=>cL ds
 |.dict _=>false
 |_=>true
def cL:List PyData->Bool
 |[]=>true
 |d::ds=>aq d&&cL ds
end
mutual
theorem Is.isd:∀{d:PyData} {v:V},aq d=true->Is K H d v->IsD K H d v
 |.none,_,_,h=>by rw[h.ofNone];exact nO
 |.bool _,_,_,h=>by rw[h.ofBool];exact nK
 |.int _,_,_,h=>by rw[h.ofInt];exact ig
 |.str _,_,_,h=>by rw[h.ofStr];exact pz
 |.list ds,_,n,h=>by unfold aq at n;obtain⟨a,xs,e,h1,h2⟩:=h.ofLst;subst e;exact il (SqL.of h1) (Iss.isd n h2)
 |.tuple ds,_,n,h=>by unfold aq at n;obtain⟨a,xs,e,h1,h2⟩:=h.ofTup;subst e;exact oF (SqT.of h1) (Iss.isd n h2)
 |.dict _,_,n,_=>by unfold aq at n;cases n
theorem Iss.isd:∀{ds:List PyData} {vs:List V},cL ds=true->Iss K H ds vs->bU K H ds vs
 |[],_,_,h=>by rw[h.nil_of];exact gm
 |d::ds,_,n,h=>by unfold cL at n;obtain⟨n1,n2⟩:=AH.mp n;obtain⟨v,r,e,h1,h2⟩:=h.cons_of;subst e;exact gU (Is.isd n1 h1) (Iss.isd n2 h2)
end
def fo:PyData->Bool
 |.none=>true
 |.bool _=>true
 |.int _=>true
 |.str _=>true
 |_=>false
theorem IsD.is {d:PyData} (n:fo d=true) (h:IsD K H d v):Is K H d v:=by
 cases d with
 |none=>rw[h.ofNone];exact is_none
 |bool _=>rw[h.ofBool];exact is_bool
 |int _=>rw[h.ofInt];exact bf
 |str _=>rw[h.ofStr];exact kn
 |_=>cases n
theorem kl {d:PyData} (n:fo d=true):cG d=true:=by
 cases d with
 |list _=>cases n
 |tuple _=>cases n
 |dict _=>cases n
 |_=>unfold cG;rfl
theorem Iss.get:∀{ds:List PyData} {vs:List V} {i:Nat} {v:V},Iss K H ds vs->vs[i]?=some v->∃d,ds[i]?=some d/\Is K H d v
 |[],_,i,v,h,e=>by rw[h.nil_of]at e;simp at e
 |d::ds,_,i,v,h,e=>by
  obtain⟨w,r,e1,h1,h2⟩:=h.cons_of;subst e1;cases i with
  |zero=>simp at e;subst e;exact⟨d,rfl,h1⟩
  |succ i=>simpa using Iss.get (i:=i) h2 (by simpa using e)
theorem Iss.getD:∀{ds:List PyData} {vs:List V} {i:Nat} {d:PyData},Iss K H ds vs->ds[i]?=some d->∃v,vs[i]?=some v/\Is K H d v
 |[],_,i,v,h,e=>by simp at e
 |d::ds,_,i,v,h,e=>by
  obtain⟨w,r,e1,h1,h2⟩:=h.cons_of;subst e1;cases i with
  |zero=>simp at e;subst e;exact⟨w,rfl,h1⟩
  |succ i=>simpa using Iss.getD (i:=i) h2 (by simpa using e)
theorem Iss.append:∀{ds es:List PyData} {vs us:List V},Iss K H ds vs->Iss K H es us->Iss K H (ds++es) (vs++us)
 |[],_,_,_,h,h'=>by rw[h.nil_of];exact h'
 |d::ds,es,_,us,h,h'=>by obtain⟨v,r,e,h1,h2⟩:=h.cons_of;subst e;exact cF h1 (Iss.append h2 h')
theorem Iss.take:∀{ds:List PyData} {vs:List V} (n:Nat),Iss K H ds vs->Iss K H (ds.take n) (vs.take n)
 |[],_,n,h=>by rw[h.nil_of];simpa using cA
 |d::ds,_,0,h=>by simpa using cA
 |d::ds,_,n+1,h=>by obtain⟨v,r,e,h1,h2⟩:=h.cons_of;subst e;exact cF h1 (Iss.take n h2)
theorem Iss.drop:∀{ds:List PyData} {vs:List V} (n:Nat),Iss K H ds vs->Iss K H (ds.drop n) (vs.drop n)
 |[],_,n,h=>by rw[h.nil_of];simpa using cA
 |d::ds,_,0,h=>h
 |d::ds,_,n+1,h=>by obtain⟨v,r,e,h1,h2⟩:=h.cons_of;subst e;exact Iss.drop n h2
theorem Iss.set {d:PyData} {v:V} (a:Is K H d v):∀{ds:List PyData} {vs:List V} (i:Nat),Iss K H ds vs->Iss K H (ds.set i d) (vs.set i v)
 |[],_,n,h=>by rw[h.nil_of];simpa using cA
 |e::ds,_,0,h=>by obtain⟨u,r,z,h1,h2⟩:=h.cons_of;subst z;exact cF a h2
 |e::ds,_,n+1,h=>by obtain⟨u,r,z,h1,h2⟩:=h.cons_of;subst z;exact cF h1 (Iss.set a n h2)
theorem Iss.rep {ds:List PyData} {vs:List V} (h:Iss K H ds vs):∀k:Nat,Iss K H (List.replicate k ds).flatten (List.replicate k vs).flatten
 |0=>cA
 |k+1=>by rw[As,As,AG,AG];exact h.append (Iss.rep h k)
theorem Iss.ofInts:∀{ns:List Int} {vs:List V},Iss K H (ns.map PyData.int) vs->vs=ns.map V.int
 |[],_,h=>h.nil_of
 |n::r,_,h=>by obtain⟨v,t,e,h1,h2⟩:=h.cons_of;rw[e,h1.ofInt,Iss.ofInts h2];rfl
theorem Iss.ofBools:∀{ns:List Bool} {vs:List V},Iss K H (ns.map PyData.bool) vs->vs=ns.map V.bl
 |[],_,h=>h.nil_of
 |n::r,_,h=>by obtain⟨v,t,e,h1,h2⟩:=h.cons_of;rw[e,h1.ofBool,Iss.ofBools h2];rfl
theorem Is.isNone {d:PyData} (h:Is K H d v):(v=.non)↔d=.none:=by
 cases d with
 |none=>simp[h.ofNone]
 |bool b=>simp[h.ofBool]
 |int i=>simp[h.ofInt]
 |str x=>simp[h.ofStr]
 |list ds=>obtain⟨a,xs,e,_⟩:=h.ofLst;simp[e]
 |tuple ds=>obtain⟨a,xs,e,_⟩:=h.ofTup;simp[e]
 |dict _=>unfold Is at h;rcases h with (⟨a,ns,e,_⟩|⟨a,l,e,_⟩)|⟨a,C,dx,fs,e,_⟩ <;> simp[e]
theorem aS {p:Addr} (h:H p=none):ak H (upd H p o):=eE h
theorem kJ {p:Addr} (h:p∈A):del (upd H p o) A=del H A:=by
 funext b;by_cases z:b∈A
 ·rw[eW z,eW z]
 ·rw[aQ z,aQ z,aK (by rintro rfl;exact z h)]
theorem eo {p:Addr} (b:Ls H A) (a:H p=none) (h:Iss K (del H A) ds xs):Is K (del (upd H p (.tup xs)) A) (.tuple ds) (.ref p) :=
 eZ (by rw[aQ (b.new a)];exact bH) (h.same (ak.del (aS a)))
theorem dS {p:Addr} (b:Ls H A) (a:H p=none) (h:Iss K (del H A) ds xs):Is K (del (upd H p (.lst xs)) A) (.list ds) (.ref p) :=
 iQ (by rw[aQ (b.new a)];exact bH) (h.same (ak.del (aS a)))
end
abbrev Ds:=List (Option PyData)
variable {tgt:PyData->Ds->Option Ds} {δ:Ds} {gs:Ds->Rs (List PyData)} {g cond:Ds->Rs Bool}
structure bT (K:PySem.W.Frag) (H:Hp) (A:List Addr) (δ:Ds) (σ:St):Prop where
 ls:Ls H A
 len:δ.length=σ.length
 get:∀(i:Nat) (d:PyData),δ[i]?=some (some d)->∃v,σ[i]?=some (some v)/\Is K (del H A) d v
theorem bT.same (R:bT K H A δ σ) (s:ak H H'):bT K H' A δ σ :=
 ⟨R.ls.same s,R.len,λi d e=>by obtain⟨v,e1,h⟩:=R.get i d e;exact⟨v,e1,h.same s.del⟩⟩
def dm (K:PySem.W.Frag) (E:XK) (A:List Addr) (H:Hp) (r:Rs PyData) (Q:VK):Prop:=match r with
 |.ok d=>∀v H',ak H H'->Is K (del H' A) d v->Q v H'
 |.rz C=>∀H',ak H H'->E (.ref C) none H'
 |.no=>False
def va (K:PySem.W.Frag) (E:XK) (A:List Addr) (H:Hp) (r:Rs (List PyData)) (Q:List V->Hp->Prop):Prop:=match r with
 |.ok d=>∀v H',ak H H'->Iss K (del H' A) d v->Q v H'
 |.rz C=>∀H',ak H H'->E (.ref C) none H'
 |.no=>False
def jC (E:XK) (H:Hp) (r:Rs Bool) (Q:Bool->Hp->Prop):Prop:=match r with
 |.ok d=>∀H',ak H H'->Q d H'
 |.rz C=>∀H',ak H H'->E (.ref C) none H'
 |.no=>False
def eD (K:PySem.W.Frag) (E:XK) (g:Ds->Rs PyData):TE:=λσ H Q=>∃A δ,bT K H A δ σ/\dm K E A H (g δ) Q
def aD (K:PySem.W.Frag) (E:XK) (g:Ds->Rs (List PyData)):TA:=λσ H Q=>∃A δ,bT K H A δ σ/\va K E A H (g δ) Q
def cD (K:PySem.W.Frag) (E:XK) (g:Ds->Rs Bool):TT:=λσ H Q=>∃A δ,bT K H A δ σ/\jC E H (g δ) Q
def PD (X:Cx) (E:XK) (e:Expr) (g:Ds->Rs PyData):Prop:=PE X e (eD X.K E g)
def PAD (X:Cx) (E:XK) (es:List Expr) (g:Ds->Rs (List PyData)):Prop:=PA X es (aD X.K E g)/\∀δ ds,g δ=.ok ds->ds.length=es.length
def PCD (X:Cx) (E:XK) (e:Expr) (g:Ds->Rs Bool):Prop:=PT X e (cD X.K E g)
def PWD (X:Cx) (E:XK) (e:Expr) (g:Ds->Rs Bool):Prop:=PW X e (cD X.K E g)
theorem PE.imp {t t':TE} (h:PE X e t) (k:∀σ H Q,t' σ H Q->t σ H Q):PE X e t':=λpins s σ H Q I q=>h pins s σ H Q I (k σ H Q q)
theorem PT.imp {t t':TT} (h:PT X e t) (k:∀σ H Q,t' σ H Q->t σ H Q):PT X e t':=λpins s σ H Q I q=>h pins s σ H Q I (k σ H Q q)
theorem PW.imp {t t':TT} (h:PW X e t) (k:∀σ H Q,t' σ H Q->t σ H Q):PW X e t':=λw pins s σ H Q I q=>h w pins s σ H Q I (k σ H Q q)
theorem PA.imp {e:List Expr} {t t':TA} (h:PA X e t) (k:∀σ H Q,t' σ H Q->t σ H Q):PA X e t':=λp pins s σ H Q I q=>h p pins s σ H Q I (k σ H Q q)
theorem PS.imp {e:Stmt} {t t':TS} (h:PS X e t) (k:∀D σ H,t' D σ H->t D σ H):PS X e t':=λpins s σ H D I q=>h pins s σ H D I (k D σ H q)
theorem PSs.imp {e:List Stmt} {t t':TS} (h:PSs X e t) (k:∀D σ H,t' D σ H->t D σ H):PSs X e t':=λpins s σ H D I q=>h pins s σ H D I (k D σ H q)
theorem dm.mono {r:Rs PyData} {Q:VK} (h:dm K E A H r Q) (s:ak H H1):dm K E A H1 r Q:=by
 cases r with
 |ok d=>exact λv H' s' q=>h v H' (s.trans s') q
 |rz C=>exact λH' s'=>h H' (s.trans s')
 |no=>exact h
theorem jC.mono {r:Rs Bool} (h:jC E H r Q) (s:ak H H1):jC E H1 r Q:=by
 cases r with
 |ok d=>exact λH' s'=>h H' (s.trans s')
 |rz C=>exact λH' s'=>h H' (s.trans s')
 |no=>exact h
theorem eD.run {g:Ds->Rs PyData} {Q:VK} (R:bT K H A δ σ)
  (ok:∀d,g δ=.ok d->∀v H',ak H H'->bT K H' A δ σ->Is K (del H' A) d v->Q v H') (rz:∀C,g δ=.rz C->∀H',ak H H'->E (.ref C) none H') (no:g δ=.no->False):eD K E g σ H Q:=by
 refine⟨A,δ,R,?_⟩;cases e:g δ with
 |ok d=>exact λv H' s q=>ok d e v H' s (R.same s) q
 |rz C=>exact λH' s=>rz C e H' s
 |no=>exact no e
theorem aD.run {g:Ds->Rs (List PyData)} {Q:List V->Hp->Prop} (R:bT K H A δ σ)
  (ok:∀d,g δ=.ok d->∀v H',ak H H'->bT K H' A δ σ->Iss K (del H' A) d v->Q v H') (rz:∀C,g δ=.rz C->∀H',ak H H'->E (.ref C) none H') (no:g δ=.no->False):aD K E g σ H Q:=by
 refine⟨A,δ,R,?_⟩;cases e:g δ with
 |ok d=>exact λv H' s q=>ok d e v H' s (R.same s) q
 |rz C=>exact λH' s=>rz C e H' s
 |no=>exact no e
theorem cD.run (R:bT K H A δ σ)
  (ok:∀d,g δ=.ok d->∀H',ak H H'->bT K H' A δ σ->Q d H') (rz:∀C,g δ=.rz C->∀H',ak H H'->E (.ref C) none H') (no:g δ=.no->False):cD K E g σ H Q:=by
 refine⟨A,δ,R,?_⟩;cases e:g δ with
 |ok d=>exact λH' s=>ok d e H' s (R.same s)
 |rz C=>exact λH' s=>rz C e H' s
 |no=>exact no e
def ae (i:Nat):Ds->Rs PyData:=λδ=>match δ[i]? with
 |some (some d)=>.ok d
 |_=>.no
def gC (d:PyData):Ds->Rs PyData:=λ_=>.ok d
def g1 (f:PyData->Option PyData) (a:Ds->Rs PyData):Ds->Rs PyData:=λδ=>(a δ).bind λx=>Rs.bS (f x)
def g2 (f:PyData->PyData->Option PyData) (a b:Ds->Rs PyData):Ds->Rs PyData:=λδ=>(a δ).bind λx=>(b δ).bind λy=>Rs.bS (f x y)
def gF (f:List PyData->Option PyData) (a:Ds->Rs (List PyData)):Ds->Rs PyData:=λδ=>(a δ).bind λds=>Rs.bS (f ds)
def af:Ds->Rs (List PyData):=λ_=>.ok []
def aa (a:Ds->Rs PyData) (r:Ds->Rs (List PyData)):Ds->Rs (List PyData):=λδ=>(a δ).bind λx=>(r δ).bind λxs=>.ok (x::xs)
def ay (a:Ds->Rs (List PyData)):Ds->Rs PyData:=λδ=>(a δ).bind λds=>.ok (.tuple ds)
def cQ (a:Ds->Rs (List PyData)):Ds->Rs PyData:=λδ=>(a δ).bind λds=>.ok (.list ds)
def au (gf:List PyData->Rs PyData) (a:Ds->Rs (List PyData)):Ds->Rs PyData:=λδ=>(a δ).bind gf
def truth:PyData->Rs Bool
 |.bool b=>.ok b
 |_=>.no
def gT (a:Ds->Rs PyData):Ds->Rs Bool:=λδ=>(a δ).bind truth
def dY (a:Ds->Rs Bool):Ds->Rs Bool:=λδ=>(a δ).bind λb=>.ok (!b)
def vc (a b:Ds->Rs Bool):Ds->Rs Bool:=λδ=>(a δ).bind λx=>if x=true then b δ else .ok false
def cOr (a b:Ds->Rs Bool):Ds->Rs Bool:=λδ=>(a δ).bind λx=>if x=true then .ok true else b δ
def o1 (a b:Ds->Rs PyData):Ds->Rs PyData:=λδ=>(a δ).bind λx=>(truth x).bind λt=>if t=true then b δ else .ok (.bool false)
def gOr (a b:Ds->Rs PyData):Ds->Rs PyData:=λδ=>(a δ).bind λx=>(truth x).bind λt=>if t=true then .ok (.bool true) else b δ
def u5 (a:Ds->Rs PyData):Ds->Rs PyData:=λδ=>(a δ).bind λx=>(truth x).bind λt=>.ok (.bool (!t))
section
variable {a b c:Expr} {ga gb gc:Ds->Rs PyData}
theorem rY (i:Nat) (c:X.N[i]?=some x) (f:Vis X.env.scope x) (hd:(x==("__debug__":Str))=false)
  (a:(x==("__classdict__":Str))=false):PD X E (.Name x pos) (ae i) :=
 (eP c f hd a).imp λσ H Q b=>by
  obtain⟨A,δ,R,o⟩:=b;unfold ae at o;split at o
  ·rename_i d e;obtain⟨v,e1,h⟩:=R.get i d e;exact⟨v,e1,o v H (ak.refl H) h⟩
  ·exact o.elim
theorem nL {d:PyData} (h:PE X e (tC v)) (hi:∀K H,Is K H d v):PD X E e (gC d):=h.imp λσ H Q a=>(by obtain⟨A,δ,R,o⟩:=a;exact o v H (ak.refl H) (hi _ _))
theorem rj {i j pos}:PD X E (.Constant (.int i) j pos) (gC (.int i)):=nL c7 λ_ _=>bf
theorem tX {i j pos}:PD X E (.Constant (.bool i) j pos) (gC (.bool i)):=nL tN λ_ _=>is_bool
theorem qE {j pos}:PD X E (.Constant .none j pos) (gC .none):=nL rX λ_ _=>is_none
theorem sq {i j pos}:PD X E (.Constant (.str i) j pos) (gC (.str i)):=nL qt λ_ _=>kn
theorem oI {i:Int} (hm:∃t,X.mg x=some (.int i t)) (a:Gl X x) (hd:(x==("__debug__":Str))=false):PD X E (.Name x pos) (gC (.int i)):=by obtain⟨t,hm⟩:=hm;exact nL (iK (v:=.int i) a hm ⟨_,rfl⟩ hd) λ_ _=>bf
def OpD (K:PySem.W.Frag) (f:PyData->PyData->Option PyData) (r:R2):Prop :=
 ∀(d1 d2 d:PyData) (x y:V) (H:Hp) (A:List Addr) (Q:VK),f d1 d2=some d->Ls H A->Is K (del H A) d1 x->Is K (del H A) d2 y->(∀v H',ak H H'->Is K (del H' A) d v->Q v H')->r x y H Q
theorem g2.read {r:R2} {Q:VK} (b:OpD K f r) (R:bT K H A δ σ) (o:dm K E A H (g2 f ga gb δ) Q) :
  tOp r (eD K E ga) (eD K E gb) σ H Q:=by
 unfold g2 at o;refine eD.run R (λd1 e1 v H1 a c h1=>?_) (λC e1 H' s'=>?_) (λe1=>?_)
 ·rw[e1]at o;refine eD.run c (λd2 e2 u H2 s2 R2 h2=>?_) (λC e2 H' s'=>?_) (λe2=>?_)
  ·simp only[Rs.aj,e2]at o;cases e3:f d1 d2 with
   |none=>rw[e3]at o;exact o.elim
   |some d =>rw[e3]at o;exact b d1 d2 d v u H2 A Q e3 R2.ls (h1.same s2.del) h2 λw H' s q=>o w H' (a.trans (s2.trans s)) q
  ·simp only[Rs.aj,e2,Rs.c8]at o;exact o H' (a.trans s')
  ·simp only[Rs.aj,e2,Rs.bc]at o;exact o
 ·rw[e1]at o;exact o H' s'
 ·rw[e1]at o;exact o
theorem dN {r:R2} (g:OpD X.K f r) (ha:PD X E a ga) (h:PD X E b gb) (mk:∀{ta tb:TE},PE X a ta->PE X b tb->PE X e (tOp r ta tb)):PD X E e (g2 f ga gb) :=
 (mk ha h).imp λσ H Q c=>(by obtain⟨A,δ,R,o⟩:=c;exact g2.read g R o)
theorem kR {r:R2} (g:OpD X.K f r) (ha:PD X E a ga) (i:PD X E b gb) (mk:∀{ta tb:TE},PE X a ta->PE X b tb->PT X e (qi (tOp r ta tb))):PCD X E e (gT (g2 f ga gb)) :=
 (mk ha i).imp λσ H Q c=>by
  obtain⟨A,δ,R,o⟩:=c;refine g2.read (Q:=λx H'=>∃k,x=.bl k/\Q k H') g R ?_;unfold gT at o;cases q:g2 f ga gb δ with
  |no=>rw[q]at o;exact o
  |rz C=>rw[q]at o;exact o
  |ok d =>
   rw[q]at o;cases d with
   |bool k=>exact λv H' s h=>⟨k,h.ofBool,o H' s⟩
   |_=>exact o.elim
def dI (f:Int->Int->Option PyData):PyData->PyData->Option PyData
 |.int i,.int j=>f i j
 |_,_=>none
theorem kB {f:Int->Int->Option PyData} {d1 d2 d:PyData} (h:dI f d1 d2=some d):∃i j,d1=.int i/\d2=.int j/\f i j=some d:=by
 unfold dI at h;split at h
 ·exact⟨_,_,rfl,rfl,h⟩
 ·cases h
def en:=dI λi j=>some (.int (i-j))
def cB:=dI λi j=>if 0<j then some (.int (i % j)) else none
def eB:=dI λi j=>if 0<j/\j<1073741824 then some (.int (i / j)) else none
def k6:=dI λi j=>if 0<=j/\j<=1000000/\i.natAbs<2 ^ 64 then some (.int (i ^ j.toNat)) else none
def dLt:=dI λi j=>some (.bool (decide (i<j)))
def dLe:=dI λi j=>some (.bool (decide (i<=j)))
def dGt:=dI λi j=>some (.bool (decide (j<i)))
def dGe:=dI λi j=>some (.bool (decide (j<=i)))
theorem j4 {f:Int->Int->PyData} {v:Int->Int->V} (a:∀i j K H,Is K H (f i j) (v i j)):OpD K (dI λi j=>some (f i j)) (rI0 v):=λd1 d2 d x y H A Q e hA h1 h2 k=>by obtain⟨i,j,rfl,rfl,e⟩:=kB e;cases e;exact⟨i,j,h1.ofInt,h2.ofInt,k _ H (ak.refl H) (a _ _ _ _)⟩
theorem mH {C a:Int->Int->Prop} [∀i j,Decidable (a i j)] {f:Int->Int->PyData} {v:Int->Int->V} (hc:∀i j,a i j->C i j) (b:∀i j K H,Is K H (f i j) (v i j)):OpD K (dI λi j=>if a i j then some (f i j) else none) (rI C v):=λd1 d2 d x y H A Q e hA h1 h2 k=>by
 obtain⟨i,j,rfl,rfl,e2⟩:=kB e;by_cases z:a i j
 ·simp only[if_pos z]at e2;cases e2;exact⟨i,j,h1.ofInt,h2.ofInt,hc i j z,k _ H (ak.refl H) (b _ _ _ _)⟩
 ·simp only[if_neg z]at e2;cases e2
theorem sL (ha:PD X E a ga) (c:PD X E b gb):PD X E (.BinOp a .Sub b pos) (g2 en ga gb):=dN (j4 λ_ _ _ _=>bf) ha c (bQ rn)
theorem qR (ha:PD X E a ga) (c:PD X E b gb):PD X E (.BinOp a .Mod b pos) (g2 cB ga gb):=dN (mH (λ_ _ h=>h) λ_ _ _ _=>bf) ha c (bQ f9)
theorem qk (ha:PD X E a ga) (c:PD X E b gb):PD X E (.BinOp a .FloorDiv b pos) (g2 eB ga gb):=dN (mH (C:=tK) (λ_ _ h=>h) λ_ _ _ _=>bf) ha c (bQ oJ)
theorem rT (ha:PD X E a ga) (c:PD X E b gb):PD X E (.BinOp a .Pow b pos) (g2 k6 ga gb):=dN (mH (C:=uo) (λ_ _ h=>h) λ_ _ _ _=>bf) ha c (bQ sF)
open PySem.SeqAt in
def dEq (x y:PyData):Option PyData:=if aq x&&aq y&&shaped x&&shaped y then some (.bool (PyData.eqv x y)) else none
open PySem.SeqAt in
def dNe (x y:PyData):Option PyData:=if aq x&&aq y&&shaped x&&shaped y then some (.bool (!PyData.eqv x y)) else none
open PySem.SeqAt in
theorem nM:OpD K dEq (λx y H Q=>∃d e,IsD K H d x/\IsD K H e y/\shaped d=true/\shaped e=true/\Q (.bl (PyData.eqv d e)) H):=λd1 d2 d x y H A Q e hA h1 h2 k=>by
 unfold dEq at e;split at e
 ·rename_i z;simp only[Ag]at z;cases e;exact⟨d1,d2,(h1.same av).isd z.1.1.1,(h2.same av).isd z.1.1.2,z.1.2,z.2,k _ H (ak.refl H) is_bool⟩
 ·cases e
open PySem.SeqAt in
theorem sr:OpD K dNe (λx y H Q=>∃d e,IsD K H d x/\IsD K H e y/\shaped d=true/\shaped e=true/\Q (.bl (!PyData.eqv d e)) H):=λd1 d2 d x y H A Q e hA h1 h2 k=>by
 unfold dNe at e;split at e
 ·rename_i z;simp only[Ag]at z;cases e;exact⟨d1,d2,(h1.same av).isd z.1.1.1,(h2.same av).isd z.1.1.2,z.1.2,z.2,k _ H (ak.refl H) is_bool⟩
 ·cases e
theorem sW (c:X.A.units+64<cLine) (ha:PD X E a ga) (e:PD X E b gb):PD X E (.Compare a [.Eq] [b] pos) (g2 dEq ga gb):=dN nM ha e λh1 h2=>om (jT c) h1 h2 (iu _)
theorem rJ (c:X.A.units+64<cLine) (ha:PD X E a ga) (e:PD X E b gb):PCD X E (.Compare a [.Eq] [b] pos) (gT (g2 dEq ga gb)):=kR nM ha e λh1 h2=>ir (jT c) h1 h2 (iu _)
theorem qX (c:X.A.units+64<cLine) (ha:PD X E a ga) (e:PD X E b gb):PCD X E (.Compare a [.NotEq] [b] pos) (gT (g2 dNe ga gb)):=kR sr ha e λh1 h2=>ir (rf c) h1 h2 (iu _)
def cC:PyData->Bool
 |.none=>true
 |_=>false
def pR (x:PyData):Option PyData:=some (.bool (cC x))
def tG (x:PyData):Option PyData:=some (.bool (!cC x))
theorem g1.read {tt:(VK)->VK} {f:PyData->Option PyData} {Q:VK} (R:bT K H A δ σ) (o:dm K E A H (g1 f ga δ) Q)
  (b:∀d1 d x H',f d1=some d->Ls H' A->ak H H'->Is K (del H' A) d1 x->(∀v H2,ak H' H2->Is K (del H2 A) d v->Q v H2)->tt Q x H'):eD K E ga σ H (tt Q):=by
 unfold g1 at o;refine eD.run R (λd1 e1 v H1 a c h1=>?_) (λC e1 H' s'=>?_) (λe1=>?_)
 ·simp only[e1,Rs.aj]at o;cases e3:f d1 with
  |none=>rw[e3]at o;exact o.elim
  |some d=>rw[e3]at o;exact b d1 d v H1 e3 c.ls a h1 λw H' s q=>o w H' (a.trans s) q
 ·rw[e1]at o;exact o H' s'
 ·rw[e1]at o;exact o
theorem sg {d:PyData} (h:Is K H d v):decide (v=.non)=cC d:=by
 by_cases z:v=.non
 ·rw[decide_eq_true z,h.isNone.mp z];rfl
 ·rw[decide_eq_false z];have:d≠.none:=λq=>z (h.isNone.mpr q)
  cases d <;> first|(exact absurd rfl this)|rfl
theorem rO {j pos'} (ha:PD X E a ga):PD X E (.Compare a [.Is] [.Constant .none j pos'] pos) (g1 pR ga) :=
 (qm (qz ha)).imp λσ H Q ⟨A,δ,R,o⟩=>g1.read (tt:=λQ x H1=>Q (.bl (decide (x=.non))) H1) R o λd1 d x H' e _ _ h k=>by cases e;rw[sg h];exact k _ H' (ak.refl _) is_bool
theorem qV {t:TE} (h:PT X e (tB t)) (k:∀σ H Q,eD X.K E ga σ H Q->t σ H Q):PCD X E e (gT ga):=h.imp λσ H Q ⟨A,δ,R,o⟩=>k σ H _ ⟨A,δ,R,by
 unfold gT at o;cases q:ga δ with
 |no=>rw[q]at o;exact o
 |rz C=>rw[q]at o;exact o
 |ok d =>
  rw[q]at o;cases d with
  |bool c=>exact λv H' s h=>⟨c,h.ofBool,o H' s⟩
  |_=>exact o.elim⟩
theorem px (h:PD X E e ga) (a:∀whole,isTrue e X.env whole=(do let v <-whole;standAt e.pos;holding [v] (truthy v))):PCD X E e (gT ga):=qV (qS h a) λ_ _ _ h=>h
theorem qd {ca:Ds->Rs Bool} {f:Bool->Rs Bool} {t:Bool->Hp->Prop} (R:bT K H A δ σ) (o:jC E H ((ca δ).bind f) Q)
  (k:∀b H1,ak H H1->bT K H1 A δ σ->jC E H1 (f b) Q->t b H1):cD K E ca σ H t:=by
 refine cD.run R (λb e H1 a c=>?_) (λC e H' s'=>?_) (λe=>?_)
 ·rw[e]at o;exact k b H1 a c (jC.mono (show jC E H (f b) Q from o) a)
 ·rw[e]at o;exact o H' s'
 ·rw[e]at o;exact o
variable {ca cb:Ds->Rs Bool} {rest:List Expr}
theorem pj (ha:PCD X E a ca):PCD X E (.UnaryOp .Not a pos) (dY ca):=(qJ ha).imp λσ H Q c=>(by obtain⟨A,δ,R,o⟩:=c;exact qd R o λb H1 s1 R1 o=>o H1 (ak.refl _))
theorem pq (ha:PCD X E a ca):PWD X E (.BoolOp .Or [a] pos) ca:=sH ha
theorem mi (ha:PCD X E a ca) (c:PWD X E (.BoolOp .Or (b::rest) pos) cb):PWD X E (.BoolOp .Or (a::b::rest) pos) (cOr ca cb):=PW.imp (ug ha c) λσ H Q ⟨A,δ,R,o⟩=>qd R o λb H1 s1 e o=>by
 cases b with
 |false=>exact⟨A,δ,e,o⟩
 |true=>exact o H1 (ak.refl _)
theorem qh (h:PWD X E e ca):PCD X E e ca:=PW.pt h
theorem p0 {f:PyData->Rs PyData} {Q:VK} {t:VK} (R:bT K H A δ σ) (o:dm K E A H ((ga δ).bind f) Q)
  (k:∀d v H1,ak H H1->bT K H1 A δ σ->Is K (del H1 A) d v->dm K E A H1 (f d) Q->t v H1):eD K E ga σ H t:=by
 refine eD.run R (λd e v H1 a b h1=>?_) (λC e H' s'=>?_) (λe=>?_)
 ·rw[e]at o;exact k d v H1 a b h1 (dm.mono (show dm K E A H (f d) Q from o) a)
 ·rw[e]at o;exact o H' s'
 ·rw[e]at o;exact o
theorem gg {d:PyData} {f:Bool->Rs PyData} {Q:VK} (o:dm K E A H ((truth d).bind f) Q):∃t,d=.bool t/\dm K E A H (f t) Q:=by
 cases d with
 |bool t=>exact⟨t,rfl,o⟩
 |_=>exact o.elim
theorem rA {op} (ha:PD X E a ga):PD X E (.BoolOp op [a] pos) ga:=nA ha
theorem rZ (ha:PD X E a ga) (c:PD X E (.BoolOp .And (b::rest) pos) gb):PD X E (.BoolOp .And (a::b::rest) pos) (o1 ga gb):=(mP ha c).imp λσ H Q ⟨A,δ,R,o⟩=>p0 R o λd v H1 s1 e h1 o=>by
 obtain⟨t,rfl,o⟩:=gg o;refine⟨t,h1.ofBool,?_⟩;cases t with
 |true=>exact⟨A,δ,e,o⟩
 |false=>exact o _ H1 (ak.refl _) is_bool
theorem uc (ha:PD X E a ga) (c:PD X E (.BoolOp .Or (b::rest) pos) gb):PD X E (.BoolOp .Or (a::b::rest) pos) (gOr ga gb):=(uC ha c).imp λσ H Q ⟨A,δ,R,o⟩=>p0 R o λd v H1 s1 e h1 o=>by
 obtain⟨t,rfl,o⟩:=gg o;refine⟨t,h1.ofBool,?_⟩;cases t with
 |false=>exact⟨A,δ,e,o⟩
 |true=>exact o _ H1 (ak.refl _) is_bool
def dq:PyData->Option PyData
 |.int i=>some (.int (-i))
 |_=>none
theorem qB (ha:PD X E a ga):PD X E (.UnaryOp .USub a pos) (g1 dq ga):=(uf qK ha).imp λσ H Q ⟨A,δ,R,o⟩=>g1.read (tt:=λQ x H1=>∃i,x=.int i/\Q (.int (-i)) H1) R o λd1 d x H' e _ _ h k=>by
 cases d1 with
 |int i=>cases e;exact⟨i,h.ofInt,k _ H' (ak.refl _) bf⟩
 |_=>cases e
theorem ph:PAD X E [] af:=⟨dg.imp λσ H Q a=>(by obtain⟨A,δ,R,o⟩:=a;exact o [] H (ak.refl _) cA),λδ ds e=>by cases e;rfl⟩
theorem mj (ha:PD X E a ga) (b:PAD X E es gs) (f:starEach (a::es) X.env=(false,eval a X.env)::starEach es X.env):PAD X E (a::es) (aa ga gs):=by
 refine⟨(bV ha b.1 f).imp λσ H Q ⟨A,δ,R,o⟩=>?_,λδ ds e=>?_⟩
 ·unfold aa at o;refine eD.run R (λd e v H1 c g h1=>?_) (λC e H' s'=>?_) (λe=>?_)
  ·simp only[e,Rs.aj]at o;refine aD.run g (λds e2 vs H2 s2 R2 h2=>?_) (λC e2 H' s'=>?_) (λe2=>?_)
   ·simp only[e2,Rs.aj]at o;exact o _ H2 (c.trans s2) (cF (h1.same s2.del) h2)
   ·simp only[e2,Rs.c8]at o;exact o H' (c.trans s')
   ·simp only[e2,Rs.bc]at o;exact o
  ·simp only[e,Rs.c8]at o;exact o H' s'
  ·simp only[e,Rs.bc]at o;exact o
 ·unfold aa at e;cases q:ga δ with
  |ok d =>
   cases q2:gs δ with
   |ok l =>simp only[q,q2,Rs.aj]at e;cases e;simp[b.2 δ l q2]
   |rz C=>simp only[q,q2,Rs.aj,Rs.c8]at e;cases e
   |no=>simp only[q,q2,Rs.aj,Rs.bc]at e;cases e
  |rz C=>simp only[q,Rs.c8]at e;cases e
  |no=>simp only[q,Rs.bc]at e;cases e
theorem kH {f:List PyData->Rs PyData} {Q:VK} {t:List V->Hp->Prop} (R:bT K H A δ σ) (o:dm K E A H ((gs δ).bind f) Q)
  (k:∀ds vs H1,gs δ=.ok ds->ak H H1->bT K H1 A δ σ->Iss K (del H1 A) ds vs->dm K E A H1 (f ds) Q->t vs H1):aD K E gs σ H t:=by
 refine aD.run R (λd e v H1 a b h1=>?_) (λC e H' s'=>?_) (λe=>?_)
 ·rw[e]at o;exact k d v H1 e a b h1 (dm.mono (show dm K E A H (f d) Q from o) a)
 ·rw[e]at o;exact o H' s'
 ·rw[e]at o;exact o
theorem rD {x1} (h:PAD X E es gs) (hl:es.length<=1000):PD X E (.Tuple es x1 pos) (ay gs):=(qW h.1).imp λσ H Q ⟨A,δ,R,o⟩=>kH R o λds vs H1 e s1 b h1 o=>by have n:=h.2 δ ds e;have m:=h1.length;exact⟨by rw[sizeLine_eq];omega,λp a=>o _ _ (aS a) (eo b.ls a h1)⟩
theorem qp (h:PAD X E es gs) (hl:es.length<=1000):PD X E (.List es pos) (cQ gs):=(kh h.1).imp λσ H Q ⟨A,δ,R,o⟩=>kH R o λds vs H1 e s1 b h1 o=>by have n:=h.2 δ ds e;have m:=h1.length;exact⟨by rw[sizeLine_eq];omega,λp a=>o _ _ (aS a) (dS b.ls a h1)⟩
def spD (K:PySem.W.Frag) (n:Nat) (gf:List PyData->Rs PyData):Sp:=λvs H Q E=>∃A ds,Ls H A/\Iss K (del H A) ds vs/\ds.length=n/\dm K E A H (gf ds) Q
structure dX (P:Program) (w:World) (K:PySem.W.Frag) (mg:Str->Option Value) (base:Heap) (k:Nat) (x:Str) (n:Nat) (gf:List PyData->Rs PyData):Prop where
 ex:∃f fd ps,dG P w K mg base (CXW P w) k f fd ps (spD K n gf)/\mg x=some (.ref f)/\PySem.W.keepIn K (.ref f)=true/\Binds K fd ps []
theorem nY (hc:X.calm=true):Passes (CXW X.prog X.w) X E0:=⟨hc,λ_ _ _ _ _ _ _ a=>(by obtain⟨_,_,_,_,_,_,h,_⟩:=a;exact h.elim)⟩
theorem og (D:dX X.prog X.w X.K X.mg X.base k x (e::es).length gf) (h:bF j X.A) (i:Passes (CXW X.prog X.w) X E) (ha:PAD X E (e::es) gs) (l:k<=j) (m:Gl X x)
  (a:(x==("__debug__":Str))=false) (n:starEach (e::es) X.env=(false,eval e X.env)::starEach es X.env) (b:(backTo pos (starEach es X.env)).any (·.1)=false) :
  PD X E (.Call (.Name x p) (e::es) [] pos) (au gf gs):=by
 obtain⟨f,fd,ps,F,hm,c,q⟩:=D.ex;refine (kU F (h.mono l) m hm c q .nil i ha.1 a n b).imp λσ H Q g=>?_
 obtain⟨A,δ,R,o⟩:=g;refine kH R o λds vs H1 e s1 r h1 o=>?_
 refine⟨A,ds,r.ls,by simpa using h1,ha.2 δ ds e,o⟩
def FnD (K:PySem.W.Frag) (f:List PyData->Option PyData) (r:List V->Hp->VK->Prop):Prop :=
 ∀(ds:List PyData) (d:PyData) (vs:List V) (H:Hp) (A:List Addr) (Q:VK),f ds=some d->Ls H A->Iss K (del H A) ds vs->(∀v H',ak H H'->Is K (del H' A) d v->Q v H')->r vs H Q
theorem cH {r:List V->Hp->VK->Prop} {f:List PyData->Option PyData} (a:FnD X.K f r) (ha:PAD X E es gs) (mk:∀{t:TA},PA X es t->PE X e (tCB r t)):PD X E e (gF f gs) :=
 (mk ha.1).imp λσ H Q ⟨A,δ,R,o⟩=>kH R o λds vs H1 e s1 b h1 o=>by
  cases q:f ds with
  |none=>rw[q]at o;exact o.elim
  |some d=>rw[q]at o;exact a ds d vs H1 A Q q b.ls h1 o
end
section
variable {a b c:Expr} {ga gb gc:Ds->Rs PyData}
def qc (K:PySem.W.Frag):R2:=λx y H Q=>∃a b xs ys,x=.ref a/\y=.ref b/\SqT K H a xs/\SqT K H b ys/\xs.length+ys.length<=sizeLine /\
 (xs=[]->Q (.ref b) H)/\(xs≠[]->ys=[]->Q (.ref a) H)/\(xs≠[]->ys≠[]->∀p,H p=none->Q (.ref p) (upd H p (.tup (xs++ys))))
theorem oM:OpR X (binaryOp .Add) (qc X.K):=by
 intro pins s σ H x y v u Q I i j h;obtain⟨a,b,xs,ys,rfl,rfl,ha,k,m,o,p,q⟩:=h;by_cases hx:xs=[]
 ·cases i;cases j;obtain⟨vs,r,p1,_⟩:=I.tuple ha;obtain⟨t,r2,p2,_⟩:=I.tuple k;obtain⟨⟨cls,dd,data,w⟩,l,hc,n,hd⟩:=id p1;obtain⟨⟨cls2,f,data2,g⟩,c,e,n2,hd2⟩:=id p2;simp only at hc hd e hd2;subst hc hd e hd2;have z:vs=[]:=r.nil_iff.mpr hx;exact concat_meets ⟨_,l,rfl⟩ ⟨_,c,rfl⟩ noFill_tuple_add seq_tuple_add PySem.F.slot_tuple_add PySem.F.entry_tuple_add (PySem.F.args_tuple_add_2 _ _)
   (tuple_addW0 a b vs.toArray t.toArray n n2 dd f w g (by simp[z])) ⟨l,c,⟨.ref b,H,I,rfl,o hx⟩⟩
 ·exact o5 pins s σ H _ _ v u Q I i j ⟨a,b,xs,ys,rfl,rfl,ha,k,hx,m,p hx,q hx⟩
def aW:PyData->PyData->Option PyData
 |.int i,.int j=>some (.int (i+j))
 |.list x,.list y=>if x.length+y.length<=1000000 then some (.list (x++y)) else none
 |.tuple x,.tuple y=>if x.length+y.length<=1000000 then some (.tuple (x++y)) else none
 |_,_=>none
theorem oO:OpD K aW (λx y H Q=>rI0 (λi j=>.int (i+j)) x y H Q\/t9 x y H Q\/qc K x y H Q):=λd1 d2 d x y H A Q e h h1 h2 k=>by
 unfold aW at e;split at e
 ·cases e;exact .inl ⟨_,_,h1.ofInt,h2.ofInt,k _ H (ak.refl _) bf⟩
 ·rename_i l1 l2;split at e
  ·rename_i l;cases e;obtain⟨p,xs,rfl,f,a⟩:=h1.ofLst;obtain⟨q,ys,rfl,g,b⟩:=h2.ofLst;refine .inr (.inl ⟨p,q,xs,ys,rfl,rfl,av _ _ f,av _ _ g,by rw[a.length,b.length,sizeLine_eq];omega,λr c=>k _ _ (aS c) (dS h c (a.append b))⟩)
  ·cases e
 ·rename_i l1 l2;split at e
  ·rename_i l;cases e;obtain⟨p,xs,rfl,f,a⟩:=h1.ofTup;obtain⟨q,ys,rfl,g,b⟩:=h2.ofTup;refine .inr (.inr ⟨p,q,xs,ys,rfl,rfl,SqT.of (av _ _ f),SqT.of (av _ _ g),by rw[a.length,b.length,sizeLine_eq];omega,λz=>?_,λ_ z=>?_,λ_ _ r c=>k _ _ (aS c) (eo h c (a.append b))⟩)
   ·subst z;have:l1=[]:=AO.mp (by rw[<-a.length];rfl);subst this;exact k _ H (ak.refl _) (eZ g b)
   ·subst z;have:l2=[]:=AO.mp (by rw[<-b.length];rfl);subst this;rw[List.append_nil]at k;exact k _ H (ak.refl _) (eZ f a)
  ·cases e
 ·cases e
theorem qG (ha:PD X E a ga) (c:PD X E b gb):PD X E (.BinOp a .Add b pos) (g2 aW ga gb):=dN oO ha c (bQ (e9.or (qD.or oM)))
def dIx:PyData->PyData->Option PyData
 |.list x,.int i=>atI x i
 |.tuple x,.int i=>atI x i
 |_,_=>none
theorem kP {i:Int} {d:PyData} (h:Iss K H ds vs) (e:atI ds i=some d):∃v,atI vs i=some v/\Is K H d v:=by
 unfold atI at e ⊢;rw[h.length];cases q:ixN ds.length i with
 |none=>rw[q]at e;cases e
 |some j=>rw[q]at e;exact h.getD e
theorem rP:OpD K dIx (λx y H Q=>tj K x y H Q\/tW K x y H Q):=λd1 d2 d x y H A Q e hA h1 h2 k=>by
 unfold dIx at e;split at e
 ·obtain⟨p,xs,rfl,a,b⟩:=h1.ofLst;obtain⟨v,c,f⟩:=kP b e;exact .inl ⟨p,xs,_,v,rfl,h2.ofInt,SqL.of (av _ _ a),c,k _ H (ak.refl _) f⟩
 ·obtain⟨p,xs,rfl,a,b⟩:=h1.ofTup;obtain⟨v,c,f⟩:=kP b e;exact .inr ⟨p,xs,_,v,rfl,h2.ofInt,SqT.of (av _ _ a),c,k _ H (ak.refl _) f⟩
 ·cases e
theorem tu (ha:PD X E a ga) (c:PD X E b gb) (e:kE b):PD X E (.Subscript a b pos) (g2 dIx ga gb):=dN rP ha c λh1 h2=>me (iy.or rS) h1 h2 e
def cX:List PyData->Option PyData
 |[.list x]=>some (.int x.length)
 |[.tuple x]=>some (.int x.length)
 |_=>none
theorem ft {d:PyData} (h:Iss K H [d] vs):∃v,vs=[v]/\Is K H d v:=by obtain⟨v,r,rfl,h1,h2⟩:=h.cons_of;rw[h2.nil_of];exact⟨v,rfl,h1⟩
theorem uV {d e:PyData} (h:Iss K H [d,e] vs):∃v u,vs=[v,u]/\Is K H d v/\Is K H e u:=by obtain⟨v,r,rfl,h1,h2⟩:=h.cons_of;obtain⟨u,rfl,a⟩:=ft h2;exact⟨v,u,rfl,h1,a⟩
theorem oE:FnD K cX (λxs H Q=>∃p ys,xs=[.ref p]/\(SqL K H p ys\/SqT K H p ys)/\Q (.int ys.length) H):=λds d vs H A Q e hA h k=>by
 unfold cX at e;split at e
 ·cases e;obtain⟨v,rfl,a⟩:=ft h;obtain⟨p,xs,rfl,b,c⟩:=a.ofLst;exact⟨p,xs,rfl,.inl (SqL.of (av _ _ b)),k _ H (ak.refl _) (by rw[c.length];exact bf)⟩
 ·cases e;obtain⟨v,rfl,a⟩:=ft h;obtain⟨p,xs,rfl,b,c⟩:=a.ofTup;exact⟨p,xs,rfl,.inr (SqT.of (av _ _ b)),k _ H (ak.refl _) (by rw[c.length];exact bf)⟩
 ·cases e
theorem sM (hm:X.mg "len"=none) (ha:PAD X E (a::es) gs) (c:Gl X "len") (e:starEach (a::es) X.env=(false,eval a X.env)::starEach es X.env) (b:(backTo pos (starEach es X.env)).any (·.1)=false) :
 PD X E (.Call (.Name "len" p) (a::es) [] pos) (gF cX gs):=cH oE ha λh=>cu c9 c hm PySem.boot_len h (by decide) (by decide) e b
theorem ni:bootBuiltins "int"=some (.type "int"):=by decide +kernel
theorem jr:bootBuiltins "tuple"=some (.type "tuple"):=by decide +kernel
theorem kX:bootBuiltins "list"=some (.type "list"):=by decide +kernel
theorem gW:bootBuiltins "isinstance"=some (.builtin "isinstance"):=by decide +kernel
theorem sA:bootBuiltins "all"=some (.builtin "all"):=by decide +kernel
theorem sj:bootBuiltins "sum"=some (.builtin "sum"):=by decide +kernel
theorem sJ:bootBuiltins "min"=some (.builtin "min"):=by decide +kernel
def dB:List PyData->Option (List Int)
 |[]=>some []
 |.int i::r=>(dB r).map (i::·)
 |_::_=>none
theorem dk:∀{ds:List PyData} {ns:List Int},dB ds=some ns->ds=ns.map PyData.int
 |[],_,h=>by cases h;rfl
 |.int i::r,ns,h=>by
  unfold dB at h;cases q:dB r with
  |none=>rw[q]at h;cases h
  |some l=>rw[q]at h;cases h;rw[dk q];rfl
 |.none::_,_,h=>by cases h
 |.bool _::_,_,h=>by cases h
 |.str _::_,_,h=>by cases h
 |.list _::_,_,h=>by cases h
 |.tuple _::_,_,h=>by cases h
 |.dict _::_,_,h=>by cases h
theorem eN:∀(ns:List Int),dB (ns.map PyData.int)=some ns
 |[]=>rfl
 |n::r=>by rw[AB];unfold dB;rw[eN r];rfl
def cM:List PyData->Option (List Bool)
 |[]=>some []
 |.bool i::r=>(cM r).map (i::·)
 |_::_=>none
theorem fi:∀{ds:List PyData} {ns:List Bool},cM ds=some ns->ds=ns.map PyData.bool
 |[],_,h=>by cases h;rfl
 |.bool i::r,ns,h=>by
  unfold cM at h;cases q:cM r with
  |none=>rw[q]at h;cases h
  |some l=>rw[q]at h;cases h;rw[fi q];rfl
 |.none::_,_,h=>by cases h
 |.int _::_,_,h=>by cases h
 |.str _::_,_,h=>by cases h
 |.list _::_,_,h=>by cases h
 |.tuple _::_,_,h=>by cases h
 |.dict _::_,_,h=>by cases h
theorem fI:∀(ns:List Bool),cM (ns.map PyData.bool)=some ns
 |[]=>rfl
 |n::r=>by rw[AB];unfold cM;rw[fI r];rfl
def fM:List PyData->Option PyData
 |[.list x]=>(dB x).map λns=>.int ns.sum
 |_=>none
def lY:List PyData->Option PyData
 |[.list x]=>(cM x).map λns=>.bool (ns.all id)
 |_=>none
theorem ou:FnD K fM (λxs H Q=>∃(a:Addr) (ns:List Int),xs=[.ref a]/\SqL K H a (ns.map V.int)/\Q (.int ns.sum) H):=λds d vs H A Q e hA h k=>by
 unfold fM at e;split at e
 ·rename_i x;cases q:dB x with
  |none=>rw[q]at e;cases e
  |some ns =>rw[q]at e;cases e;obtain⟨v,rfl,f⟩:=ft h;obtain⟨p,xs,rfl,b,c⟩:=f.ofLst;rw[dk q]at c;rw[c.ofInts]at b;exact⟨p,ns,rfl,SqL.of (av _ _ b),k _ H (ak.refl _) bf⟩
 ·cases e
theorem pN:FnD K lY (λxs H Q=>∃(a:Addr) (ns:List Bool),xs=[.ref a]/\SqL K H a (ns.map V.bl)/\Q (.bl (ns.all id)) H):=λds d vs H A Q e hA h k=>by
 unfold lY at e;split at e
 ·rename_i x;cases q:cM x with
  |none=>rw[q]at e;cases e
  |some ns =>rw[q]at e;cases e;obtain⟨v,rfl,f⟩:=ft h;obtain⟨p,xs,rfl,b,c⟩:=f.ofLst;rw[fi q]at c;rw[c.ofBools]at b;exact⟨p,ns,rfl,SqL.of (av _ _ b),k _ H (ak.refl _) is_bool⟩
 ·cases e
theorem rR (hc:X.calm=true) (hm:X.mg "sum"=none) (ha:PAD X E (a::es) gs) (c:Gl X "sum") (e:starEach (a::es) X.env=(false,eval a X.env)::starEach es X.env) (b:(backTo pos (starEach es X.env)).any (·.1)=false) :
 PD X E (.Call (.Name "sum" p) (a::es) [] pos) (gF fM gs):=cH ou ha λh=>cu (nC hc) c hm sj h (by decide) (by decide) e b
theorem qC (hc:X.calm=true) (hm:X.mg "all"=none) (ha:PAD X E (a::es) gs) (c:Gl X "all") (e:starEach (a::es) X.env=(false,eval a X.env)::starEach es X.env) (b:(backTo pos (starEach es X.env)).any (·.1)=false) :
 PD X E (.Call (.Name "all" p) (a::es) [] pos) (gF lY gs):=cH pN ha λh=>cu (mF hc) c hm sA h (by decide) (by decide) e b
def fN:List PyData->Option PyData
 |[.int i,.int j]=>some (.int (if j<i then j else i))
 |_=>none
def tQ:List PyData->Option PyData
 |[.int i,.int j]=>some (.int (if j>i then j else i))
 |_=>none
theorem mJ:FnD K fN (λxs H Q=>∃i j,xs=[.int i,.int j]/\Q (.int (if j<i then j else i)) H):=λds d vs H A Q e hA h k=>by
 unfold fN at e;split at e
 ·cases e;obtain⟨v,u,rfl,h1,h2⟩:=uV h;rw[h1.ofInt,h2.ofInt];exact⟨_,_,rfl,k _ H (ak.refl _) bf⟩
 ·cases e
theorem oP (hc:X.calm=true) (hm:X.mg "min"=none) (ha:PAD X E (a::es) gs) (c:Gl X "min") (e:starEach (a::es) X.env=(false,eval a X.env)::starEach es X.env) (b:(backTo pos (starEach es X.env)).any (·.1)=false) :
 PD X E (.Call (.Name "min" p) (a::es) [] pos) (gF fN gs):=cH mJ ha λh=>cu (lg hc) c hm sJ h (by decide) (by decide) e b
def lH:List PyData->Option PyData
 |[.int i]=>some (.int i)
 |[.bool k]=>some (.int (if k then 1 else 0))
 |_=>none
theorem pf:FnD K lH (λxs H Q=>(∃i,xs=[.int i]/\Q (.int i) H)\/∃k,xs=[.bl k]/\Q (.int (if k then 1 else 0)) H):=λds d vs H A Q e hA h k=>by
 unfold lH at e;split at e
 ·cases e;obtain⟨v,rfl,h1⟩:=ft h;rw[h1.ofInt];exact .inl ⟨_,rfl,k _ H (ak.refl _) bf⟩
 ·cases e;obtain⟨v,rfl,h1⟩:=ft h;rw[h1.ofBool];exact .inr ⟨_,rfl,k _ H (ak.refl _) bf⟩
 ·cases e
theorem nV (hm:X.mg "int"=none) (ha:PAD X E (a::es) gs) (c:Gl X "int") (e:starEach (a::es) X.env=(false,eval a X.env)::starEach es X.env) (b:(backTo pos (starEach es X.env)).any (·.1)=false) :
 PD X E (.Call (.Name "int" p) (a::es) [] pos) (gF lH gs):=cH pf ha λh=>eR lz c hm ni h (by decide) (by decide) e b
def ej:List PyData->Option PyData
 |[.list x]=>some (.tuple x)
 |[.tuple x]=>some (.tuple x)
 |_=>none
def ff:List PyData->Option PyData
 |[.list x]=>some (.list x)
 |[.tuple x]=>some (.list x)
 |_=>none
theorem lS:FnD K ej (λxs H Q=>∃p ys,xs=[.ref p]/\((SqL K H p ys/\∀l,H l=none->Q (.ref l) (upd H l (.tup ys)))\/(SqT K H p ys/\Q (.ref p) H))):=λds d vs H A Q e f h k=>by
 unfold ej at e;split at e
 ·cases e;obtain⟨v,rfl,b⟩:=ft h;obtain⟨p,xs,rfl,a,c⟩:=b.ofLst;exact⟨p,xs,rfl,.inl ⟨SqL.of (av _ _ a),λl hl=>k _ _ (aS hl) (eo f hl c)⟩⟩
 ·cases e;obtain⟨v,rfl,b⟩:=ft h;obtain⟨p,xs,rfl,a,c⟩:=b.ofTup;exact⟨p,xs,rfl,.inr ⟨SqT.of (av _ _ a),k _ H (ak.refl _) (eZ a c)⟩⟩
 ·cases e
theorem mW:FnD K ff (λxs H Q=>∃p ys,xs=[.ref p]/\(SqL K H p ys\/SqT K H p ys)/\∀l,H l=none->Q (.ref l) (upd H l (.lst ys))):=λds d vs H A Q e f h k=>by
 unfold ff at e;split at e
 ·cases e;obtain⟨v,rfl,a⟩:=ft h;obtain⟨p,xs,rfl,b,c⟩:=a.ofLst;exact⟨p,xs,rfl,.inl (SqL.of (av _ _ b)),λl hl=>k _ _ (aS hl) (dS f hl c)⟩
 ·cases e;obtain⟨v,rfl,a⟩:=ft h;obtain⟨p,xs,rfl,b,c⟩:=a.ofTup;exact⟨p,xs,rfl,.inr (SqT.of (av _ _ b)),λl hl=>k _ _ (aS hl) (dS f hl c)⟩
 ·cases e
theorem jI (hm:X.mg "tuple"=none) (ha:PAD X E (a::es) gs) (c:Gl X "tuple") (e:starEach (a::es) X.env=(false,eval a X.env)::starEach es X.env) (b:(backTo pos (starEach es X.env)).any (·.1)=false) :
 PD X E (.Call (.Name "tuple" p) (a::es) [] pos) (gF ej gs):=cH lS ha λh=>eR gA c hm jr h (by decide) (by decide) e b
theorem lR (hm:X.mg "list"=none) (ha:PAD X E (a::es) gs) (c:Gl X "list") (e:starEach (a::es) X.env=(false,eval a X.env)::starEach es X.env) (b:(backTo pos (starEach es X.env)).any (·.1)=false) :
 PD X E (.Call (.Name "list" p) (a::es) [] pos) (gF ff gs):=cH mW ha λh=>eR g9 c hm kX h (by decide) (by decide) e b
def ic (T:String) (d:PyData):Option PyData:=if aq d then some (.bool (hR d T)) else none
theorem ll {T:Str} {b:String} {c:Pos} (hm:X.mg "isinstance"=none) (f:X.mg T=none) (q:bootBuiltins T=some (.type b)) (r:b∈["bool", "int", "list", "tuple"]) (ha:PD X E a ga)
  (s:Gl X "isinstance") (g:Gl X T) (hn:T≠"__name__") (i:(T==("__debug__":Str))=false) (n:starEach [a,.Name T c] X.env=(false,eval a X.env)::starEach [.Name T c] X.env)
  (j:starEach [.Name T c] X.env=(false,eval (.Name T c) X.env)::starEach [] X.env) (l:(backTo pos (starEach [.Name T c] X.env)).any (·.1)=false) :
  PD X E (.Call (.Name "isinstance" p) [a,.Name T c] [] pos) (g1 (ic b) ga):=by
 refine (cu jq s hm gW (bV ha (bV (kF (v:=.ty b) g f q rfl hn i) dg j) n) (by decide) (by decide) n l).imp λσ H Q m=>?_
 obtain⟨A,δ,R,o⟩:=m;refine g1.read (tt:=λQ x H1=>∃d v T,[x,V.ty b]=[v,.ty T]/\IsD X.K H1 d v/\T∈["bool", "int", "list", "tuple"]/\Q (.bl (hR d T)) H1) R o λd1 d x H' e _ _ h k=>?_
 unfold ic at e;split at e
 ·rename_i z;cases e;exact⟨d1,x,b,rfl,(h.same av).isd z,r,k _ H' (ak.refl _) is_bool⟩
 ·cases e
end
def oA (K:PySem.W.Frag) (J:It) (ds:List PyData) (G:Hp):Prop:=∀(H1:Hp) (B:List Addr),ak G H1->Ls H1 B->(∀b∈B,G b=none) ->
 (∀i,i<ds.length->J.go i H1)/\J.stop ds.length H1/\∀i x H2,i<ds.length->J.yld i H1 x H2->ak H1 H2/\∃d,ds[i]?=some d/\Is K (del H2 B) d x
def outI (K:PySem.W.Frag) (E:XK) (A:List Addr) (H:Hp) (r:Rs (List PyData)) (R:It->Hp->Prop):Prop:=match r with
 |.ok ds=>∀J H',ak H H'->oA K J ds (del H' A)->R J H'
 |.rz C=>∀H',ak H H'->E (.ref C) none H'
 |.no=>False
def iD (K:PySem.W.Frag) (E:XK) (g:Ds->Rs (List PyData)):TI:=λσ H R=>∃A δ,bT K H A δ σ/\outI K E A H (g δ) R
def PID (X:Cx) (E:XK) (tg iter:Expr) (g:Ds->Rs (List PyData)):Prop:=PI X tg iter (iD X.K E g)
theorem PI.imp {it:Expr} {t t':TI} (h:PI X tg it t) (k:∀σ H R,t' σ H R->t σ H R):PI X tg it t':=λpins s σ H R I q=>h pins s σ H R I (k σ H R q)
theorem PI.or {it:Expr} {t t':TI} (h:PI X tg it t) (h':PI X tg it t'):PI X tg it (λσ H R=>t σ H R\/t' σ H R):=λpins s σ H R I q=>q.elim (h pins s σ H R I) (h' pins s σ H R I)
section
variable {a:Expr} {ga:Ds->Rs PyData}
def kI:PyData->Rs (List PyData)
 |.list ds=>.ok ds
 |.tuple ds=>.ok ds
 |_=>.no
theorem ij (s:ak G H1) (hB:∀b∈B,G b=none):ak G (del H1 B):=λb o e=>by rw[aQ (λz=>by rw[hB b z]at e;cases e)];exact s b o e
theorem lP {p:Addr} (b:G p=some (.lst xs)) (h:Iss K G ds xs):oA K (Itl K p) ds G:=λH1 B s _ hB=>by have hl:=h.length;have a:SqL K H1 p xs:=SqL.of (s _ _ b);refine⟨λi hi=>⟨xs,xs[i]'(by omega),a,A8 _⟩,⟨xs,a,by omega⟩,λi x H2 hi y=>?_⟩;obtain⟨rfl,y⟩:=y;obtain⟨d,e,hd⟩:=h.get (y xs a);exact⟨ak.refl _,d,e,hd.same (ij s hB)⟩
theorem mM {p:Addr} (b:G p=some (.tup xs)) (h:Iss K G ds xs):oA K (Itt K p) ds G:=λH1 B s _ hB=>by have hl:=h.length;have a:SqT K H1 p xs:=SqT.of (s _ _ b);refine⟨λi hi=>⟨xs,xs[i]'(by omega),a,A8 _⟩,⟨xs,a,by omega⟩,λi x H2 hi y=>?_⟩;obtain⟨rfl,y⟩:=y;obtain⟨d,e,hd⟩:=h.get (y xs a);exact⟨ak.refl _,d,e,hd.same (ij s hB)⟩
def dh (g:Ds->Rs PyData):Ds->Rs (List PyData):=λδ=>(g δ).bind kI
theorem pM (h:PD X E a ga):PID X E tg a (dh ga):=(PI.or (oY h) (sv h)).imp λσ H R c=>by
 obtain⟨A,δ,f,o⟩:=c;unfold dh at o;cases q:ga δ with
 |no=>rw[q]at o;exact o.elim
 |rz C=>rw[q]at o;exact .inl (eD.run f (λd e=>by rw[q]at e;cases e) (λj e H' s=>by rw[q]at e;cases e;exact o H' s) (λe=>by rw[q]at e;cases e))
 |ok d =>
  rw[q]at o;cases d with
  |list ds =>refine .inl (eD.run f (λd e v H1 g k h1=>?_) (λj e=>by rw[q]at e;cases e) (λe=>by rw[q]at e;cases e));rw[q]at e;cases e;obtain⟨p,xs,rfl,b,i⟩:=h1.ofLst;exact⟨p,rfl,⟨xs,SqL.of (av _ _ b)⟩,o _ H1 g (lP b i)⟩
  |tuple ds =>refine .inr (eD.run f (λd e v H1 g k h1=>?_) (λj e=>by rw[q]at e;cases e) (λe=>by rw[q]at e;cases e));rw[q]at e;cases e;obtain⟨p,xs,rfl,b,i⟩:=h1.ofTup;exact⟨p,rfl,⟨xs,SqT.of (av _ _ b)⟩,o _ H1 g (mM b i)⟩
  |_=>exact o.elim
def bB (lo:Int) (n:Nat):List PyData:=(List.range n).map λ(i:Nat)=>PyData.int (lo+(i:Int))
theorem cj (lo:Int) (n:Nat):(bB lo n).length=n:=by simp[bB]
theorem jV {lo:Int}:oA K (Itr lo n) (bB lo n) G:=λH1 B s _ hB=>by refine⟨λi hi=>by rw[cj]at hi;exact hi,by rw[cj];exact A6 _,λi x H2 hi y=>?_⟩;obtain⟨rfl,rfl⟩:=y;rw[cj]at hi;exact⟨ak.refl _,_,by simp[bB,hi],bf⟩
def oh:List PyData->Rs (List PyData)
 |[.int j]=>if -(2 ^ 62)<=j/\j<2 ^ 62 then .ok (bB 0 j.toNat) else .no
 |_=>.no
def ua:List PyData->Rs (List PyData)
 |[.int i,.int j]=>if -(2 ^ 62)<=i/\i<2 ^ 62/\-(2 ^ 62)<=j/\j<2 ^ 62 then .ok (bB i (j-i).toNat) else .no
 |_=>.no
def eF (g:Ds->Rs (List PyData)):Ds->Rs (List PyData):=λδ=>(g δ).bind oh
def uA (g:Ds->Rs (List PyData)):Ds->Rs (List PyData):=λδ=>(g δ).bind ua
theorem qU {f:List PyData->Rs (List PyData)} {R:It->Hp->Prop} {t:List V->Hp->Prop} (b:bT K H A δ σ) (o:outI K E A H ((gs δ).bind f) R)
  (k:∀ds vs H1,gs δ=.ok ds->ak H H1->bT K H1 A δ σ->Iss K (del H1 A) ds vs->outI K E A H1 (f ds) R->t vs H1):aD K E gs σ H t:=by
 refine aD.run b (λd e v H1 a c h1=>?_) (λC e H' s'=>?_) (λe=>?_)
 ·rw[e]at o;refine k d v H1 e a c h1 ?_;have o:outI K E A H (f d) R:=o;cases q:f d with
  |ok ds=>rw[q]at o;exact λJ H' s j=>o J H' (a.trans s) j
  |rz C=>rw[q]at o;exact λH' s=>o H' (a.trans s)
  |no=>rw[q]at o;exact o
 ·rw[e]at o;exact o H' s'
 ·rw[e]at o;exact o
theorem jE (hm:X.mg "range"=none) (ha:PAD X E [a] gs) (b:Gl X "range") (c:starEach [a] X.env=[(false,eval a X.env)]) :
  PID X E tg (.Call (.Name "range" p) [a] [] pos) (eF gs):=(lr b hm ha.1 c).imp λσ H R ⟨A,δ,Rp,o⟩=>qU Rp o λds vs H1 e s1 R1 h1 o=>by
 unfold oh at o;split at o
 ·split at o
  ·rename_i z;obtain⟨v,rfl,h⟩:=ft h1;rw[h.ofInt];exact⟨_,rfl,z.1,z.2,o _ H1 (ak.refl _) jV⟩
  ·exact o.elim
 ·exact o.elim
def TgD (K:PySem.W.Frag) (b n:Nat) (tgt:PyData->Option Ds) (g:TG):Prop:=∀(d:PyData) (v:V) (σ a:St) (H:Hp) (A:List Addr) (Q:St->Hp->Prop) (own:Ds),σ.length=b->a.length=n->Ls H A->Is K (del H A) d v->tgt d=some own ->
 own.length=n/\((∀vs:St,vs.length=n->(∀(i:Nat) e,own[i]?=some (some e)->∃u,vs[i]?=some (some u)/\Is K (del H A) e u)->Q (σ++vs) H)->g v (σ++a) H Q)
def aY:PyData->Option Ds:=λd=>some [some d]
theorem mq {b:Nat}:TgD K b 1 aY (gX b):=λd v σ a H A Q own h1 h2 hA hd e=>by
 cases e;refine⟨rfl,λk=>?_⟩;unfold gX;subst h1;rw[set_own σ none v a h2];refine k _ rfl λi e z=>?_
 match i,z with
 |0,z=>cases z;exact⟨v,rfl,hd⟩
def cW (cond:Ds->Rs Bool) (elt:Ds->Rs PyData) (tgt:PyData->Option Ds) (δ:Ds):List PyData->Rs (List PyData)
 |[]=>.ok []
 |d::r=>match tgt d with
  |none=>.no
  |some own=>(cond (δ++own)).calm.bind λb=>if b=true then (elt (δ++own)).calm.bind λx=>(cW cond elt tgt δ r).bind λxs=>.ok (x::xs) else cW cond elt tgt δ r
def bh (a:Nat) (src:Ds->Rs (List PyData)) (cond:Ds->Rs Bool) (elt:Ds->Rs PyData) (tgt:PyData->Option Ds):Ds->Rs (List PyData):=λδ=>if δ.length=a then (src δ).bind λds=>if ds.length<=1000000 then cW cond elt tgt δ ds else .no else .no
def bA:Ds->Rs Bool:=λ_=>.ok true
def uy (K:PySem.W.Frag) (E:XK) (A:List Addr) (H:Hp) (r:Rs (List PyData)) (Q:VK):Prop:=match r with
 |.ok ds=>∀a xs H',H a=none->ak H H'->H' a=some (.lst xs)->Iss K (del H' (a::A)) ds xs->Q (.ref a) H'
 |.rz C=>∀H',ak H H'->E (.ref C) none H'
 |.no=>False
def lD (K:PySem.W.Frag) (E:XK) (g:Ds->Rs (List PyData)):TE:=λσ H Q=>∃A δ,bT K H A δ σ/\uy K E A H (g δ) Q
def PLD (X:Cx) (E:XK) (e:Expr) (g:Ds->Rs (List PyData)):Prop:=PE X e (lD X.K E g)
def gL (g:Ds->Rs (List PyData)):Ds->Rs PyData:=λδ=>(g δ).bind λds=>.ok (.list ds)
theorem ly {a:Addr}:ak (del H (a::A)) (del H A):=λb o e=>by obtain⟨z,e⟩:=b8 e;rw[aQ (λq=>z (Ab _ q))];exact e
theorem r8 {g:Ds->Rs (List PyData)} (h:PLD X E e g):PD X E e (gL g):=PE.imp h λσ H Q ⟨A,δ,R,o⟩=>⟨A,δ,R,by
 unfold gL at o;cases q:g δ with
 |no=>rw[q]at o;exact o
 |rz C=>rw[q]at o;exact o
 |ok ds =>rw[q]at o;intro a xs H' hn s hl hi;exact o _ H' s (iQ (by rw[aQ (R.ls.new hn)];exact hl) (hi.same ly))⟩
theorem oq (h:PAD X E es gs) (hl:es.length<=1000):PLD X E (.List es pos) gs:=(kh h.1).imp λσ H Q a=>by
 obtain⟨A,δ,R,o⟩:=a;refine aD.run R (λds e vs H1 f R1 h1=>?_) (λC e H' s'=>by rw[e]at o;exact o H' s') (λe=>by rw[e]at o;exact o);rw[e]at o;have n:=h.2 δ ds e;have m:=h1.length;refine⟨by rw[sizeLine_eq];omega,λp c=>o p vs _ (f.free c) (f.trans (aS c)) bH (h1.same ?_)⟩;refine λb o e=>?_
 obtain⟨z,e⟩:=b8 e;have:b≠p:=aO e c;rw[aQ (by simp[this,z]),aK this];exact e
theorem qZ {Y:Ds->Rs (List PyData)} {g:TG} {tt:TT} {f:Ds->Rs PyData} {tgt:PyData->Option Ds} {T:Nat} (hT:TgD K T own.length tgt g) (Z:∀σ H Q,cD K E0 cond σ H Q->tt σ H Q) :
  ∀σ H Q,lD K E (bh T Y cond f tgt) σ H Q->tLC own.length (iD K E Y) g tt (eD K E0 f) σ H Q:=by
 intro σ H Q ⟨A,δ,R,o⟩;unfold bh at o;by_cases hn0:δ.length=T
 case neg=>rw[if_neg hn0]at o;exact o.elim
 rw[if_pos hn0]at o;have hσ:σ.length=T:=by rw[<-R.len];exact hn0
 refine⟨A,δ,R,?_⟩;cases q:Y δ with
 |no=>rw[q]at o;exact o
 |rz C=>rw[q]at o;exact o
 |ok ds =>
  rw[q]at o;have o:uy K E A H (if ds.length<=1000000 then cW cond f tgt δ ds else .no) Q:=o;by_cases hz:ds.length<=1000000
  case neg=>rw[if_neg hz]at o;exact o.elim
  rw[if_pos hz]at o;intro J H1 s1 hJ D t;have U:=R.same s1;have nD:D∉A:=U.ls.new t;cases qo:cW cond f tgt δ ds with
  |rz C =>
   exfalso;have:∀l,cW cond f tgt δ l≠.rz C:=by
    intro l
    induction l with
    |nil=>intro z;cases z
    |cons d r ih =>
     intro z;unfold cW at z;split at z
     ·cases z
     ·rename_i j _;cases a:cond (δ++j) with
      |ok b =>
       simp only[a,Rs.eC,Rs.aj]at z;split at z
       ·cases n:f (δ++j) with
        |ok x =>
         simp only[n,Rs.eC,Rs.aj]at z;cases p:cW cond f tgt δ r with
         |ok l=>simp only[p,Rs.aj]at z;cases z
         |rz C'=>simp only[p,Rs.c8]at z;cases z;exact ih p
         |no=>simp only[p,Rs.bc]at z;cases z
        |rz C'=>simp only[n,Rs.calm,Rs.bc]at z;cases z
        |no=>simp only[n,Rs.calm,Rs.bc]at z;cases z
       ·exact ih z
      |rz C'=>simp only[a,Rs.calm,Rs.bc]at z;cases z
      |no=>simp only[a,Rs.calm,Rs.bc]at z;cases z
   exact this ds qo
  |no=>rw[qo]at o;exact o.elim
  |ok out =>
   rw[qo]at o;have base:ak (del H1 A) (del (upd H1 D (.lst [])) (D::A)):=λb o e=>by obtain⟨z,e⟩:=b8 e;have nb:b≠D:=aO e t;rw[aQ (by simp[nb,z]),aK nb];exact e
   refine⟨λi m ys H'=>m=ds.length-i/\i<=ds.length/\ak H1 H'/\H' D=some (.lst ys)/\ys.length<=i/\∃F rest,cW cond f tgt δ (ds.drop i)=.ok rest/\out=F++rest/\Iss K (del H' (D::A)) F ys,
    ⟨ds.length,by simp,B3 _,aS t,bH,A6 _,[],out,qo,rfl,cA⟩,?_⟩
   rintro i m ys H' ⟨rfl,hi,w,hl,hy,F,rest,a,n,p⟩
   refine⟨hl,?_⟩;have sG:ak (del H1 A) H':=av.trans w;have G:∀b∈D::A,(del H1 A) b=none:=λb I=>by
    rcases List.mem_cons.mp I with z|z
    ·rw[z,aQ nD];exact t
    ·exact eW z
   obtain⟨jg,js,jy⟩:=hJ H' (D::A) sG (λb I=>by
    rcases List.mem_cons.mp I with z|z
    ·exact⟨_,by rw[z];exact hl,rfl⟩
    ·exact (U.ls.same w) b z) G
   by_cases hlt:i<ds.length
   ·refine .inr ⟨jg i hlt,λx H2 σ' L y=>?_⟩;obtain⟨s2,d,ed,hd⟩:=jy i x H2 hlt y;have edr:ds.drop i=d::ds.drop (i+1):=by
     rw[List.drop_eq_getElem_cons hlt];have:ds[i]=d:=by have:=A8 hlt;rw[this]at ed;exact Option.some.inj ed
     rw[this]
    rw[edr]at a;unfold cW at a;cases et:tgt d with
    |none=>rw[et]at a;cases a
    |some ow =>
     rw[et]at a;have l2:H2 D=some (.lst ys):=s2 _ _ hl;have M:Ls H2 (D::A):=λb I=>by
      rcases List.mem_cons.mp I with z|z
      ·exact⟨_,by rw[z];exact l2,rfl⟩
      ·exact (U.ls.same (w.trans s2)) b z
     obtain⟨hol,hgo⟩:=hT d x σ σ' H2 (D::A) (λh H2=>tt h H2 λb H3 =>
      if b=true then eD K E0 f h H3 λv N=>N D=some (.lst ys)/\ys.length<sizeLine/\(∃c,h=σ++c/\c.length=own.length)/\∃m',m' < ds.length-i/\_
      else (∃c,h=σ++c/\c.length=own.length)/\∃m',m' < ds.length-i/\_) ow hσ L M hd et
     refine hgo λvs s O=>?_
     have P:ak (del H1 A) (del H2 (D::A)):=ij (sG.trans s2) G;have RE:bT K H2 (D::A) (δ++ow) (σ++vs):=by
      refine⟨M,by rw[Ae,Ae,R.len,s,hol],λk e X=>?_⟩;by_cases hk:k<δ.length
      ·rw[Ak hk]at X;obtain⟨u,e1,hu⟩:=U.get k e X;exact⟨u,by rw[Ak (by rw[<-R.len];exact hk)];exact e1,hu.same P⟩
      ·rw[Au (by omega)]at X;obtain⟨u,e1,hu⟩:=O _ e X;exact⟨u,by rw[Au (by rw[<-R.len];omega),<-R.len];exact e1,hu⟩
     have bad:∀r:Rs Bool,r=.rz 0->r.calm=.no:=λr e=>by rw[e];rfl
     refine Z _ _ _ (cD.run RE (λb S H3 B R3=>?_) (λC S=>?_) (λS=>?_))
     ·simp only[S,Rs.eC,Rs.aj]at a;cases b with
      |true =>
       simp only[if_true]at a;refine eD.run R3 (λxd ex v N s4 R4 hv=>?_) (λC ex=>?_) (λex=>?_)
       ·simp only[ex,Rs.eC,Rs.aj]at a;cases cr:cW cond f tgt δ (ds.drop (i+1)) with
        |ok rs =>
         simp only[cr,Rs.aj]at a;cases a;have l4:N D=some (.lst ys):=s4 _ _ (B _ _ l2);have dU:del (upd N D (.lst (ys++[v]))) (D::A)=del N (D::A):=kJ (List.mem_cons_self);refine⟨l4,by rw[sizeLine_eq];omega,⟨vs,rfl,s⟩,ds.length-(i+1),by omega,rfl,hlt,?_,bH,by simp;omega,F++[xd],rs,cr,by rw[n];simp,?_⟩
         ·exact ak.put (((w.trans s2).trans B).trans s4) t
         ·rw[dU];exact (p.same (ak.del (s2.trans (B.trans s4)))).append (kT hv)
        |rz C=>simp only[cr,Rs.c8]at a;cases a
        |no=>simp only[cr,Rs.bc]at a;cases a
       ·simp only[ex,Rs.calm,Rs.bc]at a;cases a
       ·simp only[ex,Rs.calm,Rs.bc]at a;cases a
      |false =>simp only[AY,if_false]at a;exact⟨⟨vs,rfl,s⟩,ds.length-(i+1),by omega,rfl,hlt,(w.trans s2).trans B,B _ _ l2,by omega,F,rest,a,n,p.same (ak.del (s2.trans B))⟩
     ·simp only[S,Rs.calm,Rs.bc]at a;cases a
     ·simp only[S,Rs.calm,Rs.bc]at a;cases a
   ·have e:i=ds.length:=by omega
    subst e;rw[List.drop_length]at a;cases a;rw[List.append_nil]at n;subst n;exact .inl ⟨js,o D ys H' (s1.free t) (s1.trans w) hl p⟩
def dP:Expr->List Str
 |.Name x _=>[x]
 |.Tuple [.Name x _,.Name y _] _ _=>[x,y]
 |_=>[]
def pZ (own N:List Str):List Str:=N.map λx=>bif own.elem x then x++"__" else x
abbrev bk (X:Cx) (tg:Expr) (scope:Scope):=blk X (pZ (dP tg) X.N) scope (dP tg)
abbrev uP (X:Cx) (tg:Expr) (scope:Scope):Bool:=jx X.N (pZ (dP tg) X.N) X.env.scope scope (dP tg)
inductive PIf (X:Cx):List Expr->(Ds->Rs Bool)->Prop
 |nil:PIf X [] bA
 |one {c:Expr} {g:Ds->Rs Bool} (h:PCD X E0 c g):PIf X [c] g
def tx (K:PySem.W.Frag) (ifs:List Expr) (g:Ds->Rs Bool):TT:=match ifs with
 |[]=>pU
 |_=>cD K E0 g
theorem PIf.pts (h:PIf X ifs g):PTs X ifs (tx X.K ifs g):=by
 cases h with
 |nil=>exact .nil
 |one h=>exact .one h
theorem PIf.tt (h:PIf X ifs g):∀σ H Q,cD K E0 g σ H Q->tx K ifs g σ H Q:=by
 cases h with
 |nil=>exact λσ H Q a=>(by obtain⟨A,δ,R,o⟩:=a;exact o H (ak.refl _))
 |one h=>exact λ_ _ _ h=>h
theorem m6 {b:Ds->Rs (List PyData)} {g:TG} {a:Ds->Rs PyData} {tgt:PyData->Option Ds} {c:Nat} (hc:X.calm=true) (hi:PID X E tg iter b)
  (f:TgD X.K c (dP tg).length tgt g) (h:∀C s2 H2 fp,PG (bk X tg scope C s2 H2 fp) tg g) (e:∀C s2 H2 fp,PIf (bk X tg scope C s2 H2 fp) ifs cond) (i:∀C s2 H2 fp,PD (bk X tg scope C s2 H2 fp) E0 elt a)
  (hB:uP X tg scope=true) (j:∀x,foldedSetIterable iter X.env x=pure x):PLD X E (.ListComp elt [⟨tg,iter,ifs,0⟩] scope pos) (bh c b cond a tgt) :=
 (nW (own:=dP tg) (te:=eD X.K E0 a) hc hi h (λC s2 H2 fp=>(e C s2 H2 fp).pts) (λC s2 H2 fp=>i C s2 H2 fp) hB j).imp (qZ f (PIf.tt (e 0 X.s₀ X.H₀ [])))
end
inductive Sr where
 |nx (δ:Ds)
 |rt (d:PyData)
 |rz (C:Addr)
 |bk (δ:Ds)
 |ct (δ:Ds)
 |no
def dt (K:PySem.W.Frag) (G:Hp):PyData->HO->Prop
 |.list ds,.lst xs=>Iss K G ds xs
 |.dict kvs,o=>sZ kvs o
 |_,_=>False
theorem dt.same {G':Hp} {d:PyData} (h:dt K G d o) (s:ak G G'):dt K G' d o:=by
 unfold dt at h ⊢;split at h
 ·exact Iss.same s h
 ·exact h
 ·exact h.elim
theorem dt.is {d:PyData} (h:dt K G d o) (ha:G a=some o):Is K G d (.ref a):=by
 unfold dt at h;split at h
 ·exact iQ ha h
 ·unfold Is;exact .inl (.inr ⟨a,_,rfl,h,ha⟩)
 ·exact h.elim
theorem dt.lst (h:dt K G (.list ds) o):∃xs,o=.lst xs/\Iss K G ds xs:=by
 unfold dt at h;split at h
 ·rename_i e;cases e;exact⟨_,rfl,h⟩
 ·rename_i e;cases e
 ·exact h.elim
structure aX (K:PySem.W.Frag) (H0:Hp) (A0:List Addr) (H:Hp) (A:List Addr) (O:List Nat) (δ:Ds) (σ:St):Prop where
 same:ak H0 H
 ls0:Ls H0 A0
 new:∀a∈A,H0 a=none
 ls:Ls H A
 len:δ.length=σ.length
 pl:∀(i:Nat) d,i∉O->δ[i]?=some (some d)->∃v,σ[i]?=some (some v)/\Is K (del H (A++A0)) d v
 own:∀(i:Nat) d,i∈O->δ[i]?=some (some d)->∃a o d',σ[i]?=some (some (.ref a))/\a∈A/\H a=some o/\d=d'/\dt K (del H (A++A0)) d' o
 inj:∀(i j:Nat) d e a,i∈O->j∈O->δ[i]?=some (some d)->δ[j]?=some (some e)->σ[i]?=some (some (.ref a))->σ[j]?=some (some (.ref a))->i=j
def mask (O:List Nat) (δ:Ds):Ds:=if O=[] then δ else δ.mapIdx λi d=>if i∈O then none else d
theorem fG (δ:Ds):mask [] δ=δ:=by simp[mask]
theorem ml {d:PyData} (h:(mask O δ)[i]?=some (some d)):i∉O/\δ[i]?=some (some d):=by
 unfold mask at h;split at h
 ·rename_i z;subst z;exact⟨by simp,h⟩
 ·rw[List.getElem?_mapIdx]at h;cases q:δ[i]? with
  |none=>rw[q]at h;cases h
  |some x =>
   rw[q]at h;simp only[Option.map_some,Option.some.injEq]at h;by_cases z:i∈O
   ·rw[if_pos z]at h;cases h
   ·rw[if_neg z]at h;exact⟨z,by rw[h]⟩
theorem mz:(mask O δ).length=δ.length:=by unfold mask;split <;> simp
theorem i5:ak (del H (A++B)) (del H B):=λb o e=>by obtain⟨z,e⟩:=b8 e;rw[aQ (λq=>z (A5 _ q))];exact e
section
variable {H0:Hp} {A0:List Addr}
theorem aX.lsA (R:aX K H0 A0 H A O δ σ):Ls H (A++A0):=λa h=>(Ac.mp h).elim (R.ls a) λz=>(R.ls0.same R.same) a z
theorem aX.step (R:aX K H0 A0 H A O δ σ) (s:ak H H1):aX K H0 A0 H1 A O δ σ where
 same:=R.same.trans s
 ls0:=R.ls0
 new:=R.new
 ls:=R.ls.same s
 len:=R.len
 pl:=λi d h e=>by obtain⟨v,e1,h1⟩:=R.pl i d h e;exact⟨v,e1,h1.same s.del⟩
 own:=λi d h e=>by obtain⟨a,xs,ds,e1,h1,h2,b,c⟩:=R.own i d h e;exact⟨a,xs,ds,e1,h1,s _ _ h2,b,c.same s.del⟩
 inj:=R.inj
theorem aX.apart (R:aX K H0 A0 H A O δ σ) (h:a∈A):a∉A0:=λz=>by obtain⟨xs,e,_⟩:=R.ls0 a z;rw[R.new a h]at e;cases e
theorem aX.ownL (R:aX K H0 A0 H A O δ σ) (h:i∈O) (e:δ[i]?=some (some (.list ds))):∃a xs b,σ[i]?=some (some (.ref a))/\a∈A/\H a=some (.lst xs)/\PyData.list ds=.list b/\Iss K (del H (A++A0)) b xs:=by obtain⟨a,o,d',e1,h1,h2,c,f⟩:=R.own i _ h e;subst c;obtain⟨xs,rfl,g⟩:=f.lst;exact⟨a,xs,ds,e1,h1,h2,rfl,g⟩
theorem aX.full (R:aX K H0 A0 H A O δ σ):bT K H A0 δ σ where
 ls:=R.ls0.same R.same
 len:=R.len
 get:=λi d e=>by
  by_cases h:i∈O
  ·obtain⟨a,xs,ds,e1,h1,h2,b,c⟩:=R.own i d h e;subst b;exact⟨_,e1,(c.same i5).is (by rw[aQ (R.apart h1)];exact h2)⟩
  ·obtain⟨v,e1,h1⟩:=R.pl i d h e;exact⟨v,e1,h1.same i5⟩
theorem aX.part (R:aX K H0 A0 H A O δ σ):bT K H (A++A0) (mask O δ) σ where
 ls:=R.lsA
 len:=by rw[mz];exact R.len
 get:=λi d e=>by obtain⟨h,e⟩:=ml e;exact R.pl i d h e
theorem get_set {l:List α} {x y:α} (h:(l.set i x)[j]?=some y):(i=j/\y=x)\/(i≠j/\l[j]?=some y):=by
 by_cases z:i=j
 ·subst z;rw[List.getElem?_set_self']at h;cases q:l[i]? with
  |none=>rw[q]at h;cases h
  |some w=>rw[q]at h;simp at h;exact .inl ⟨rfl,h.symm⟩
 ·rw[Ai z]at h;exact .inr ⟨z,h⟩
theorem fF {l:List α} {x y:α} (hn:i≠j) (h:l[j]?=some y):(l.set i x)[j]?=some y:=by rw[Ai hn];exact h
theorem aX.set {d:PyData} (R:aX K H0 A0 H A O δ σ) (hi:i∉O) (hl:i<δ.length) (h:Is K (del H (A++A0)) d v):aX K H0 A0 H A O (δ.set i (some d)) (σ.set i (some v)) where
 same:=R.same
 ls0:=R.ls0
 new:=R.new
 ls:=R.ls
 len:=by simp[R.len]
 pl:=λj e b q=>by
  rcases get_set q with⟨z,q⟩|⟨z,q⟩
  ·cases q;subst z;exact⟨v,by rw[Ao (by rw[<-R.len];exact hl)],h⟩
  ·obtain⟨u,e1,h1⟩:=R.pl j e b q;exact⟨u,fF z e1,h1⟩
 own:=λj e b q=>by
  rcases get_set q with⟨z,q⟩|⟨z,q⟩
  ·subst z;exact absurd b hi
  ·obtain⟨a,xs,ds,e1,h1⟩:=R.own j e b q;exact⟨a,xs,ds,fF z e1,h1⟩
 inj:=λj k d' e a b c f g p1 p2=>by
  have n1:i≠j:=λz=>hi (z▸b)
  have n2:i≠k:=λz=>hi (z▸c)
  rw[Ai n1]at f p1;rw[Ai n2]at g p2;exact R.inj j k d' e a b c f g p1 p2
theorem aX.setOwn (R:aX K H0 A0 H A O δ σ) (hi:i∈O) (hl:i<δ.length) (hn:H a=none) (s:ak H H1) (ha:H1 a=some (.lst xs)) (h:Iss K (del H1 (a::(A++A0))) ds xs) :
  aX K H0 A0 H1 (a::A) O (δ.set i (some (.list ds))) (σ.set i (some (.ref a))) where
 same:=R.same.trans s
 ls0:=R.ls0
 new:=λb m=>by
  rcases List.mem_cons.mp m with z|z
  ·rw[z];exact R.same.free hn
  ·exact R.new b z
 ls:=λb m=>by
  rcases List.mem_cons.mp m with z|z
  ·exact⟨_,by rw[z];exact ha,rfl⟩
  ·exact (R.ls.same s) b z
 len:=by simp[R.len]
 pl:=λj e c q=>by
  rcases get_set q with⟨z,q⟩|⟨z,q⟩
  ·subst z;exact absurd hi c
  ·obtain⟨u,e1,h1⟩:=R.pl j e c q;refine⟨u,fF z e1,h1.same λb o e=>?_⟩;obtain⟨y,e⟩:=b8 e;have n:b≠a:=aO e hn;rw[aQ (by simpa[n] using y)];exact s _ _ e
 own:=λj e c q=>by
  have r:∀b o,del H (A++A0) b=some o->del H1 (a::A++A0) b=some o:=λb o e=>by obtain⟨y,e⟩:=b8 e;have n:b≠a:=aO e hn;rw[aQ (by simpa[n] using y)];exact s _ _ e
  rcases get_set q with⟨z,q⟩|⟨z,q⟩
  ·cases q;subst z;exact⟨a,_,_,by rw[Ao (by rw[<-R.len];exact hl)],List.mem_cons_self,ha,rfl,h⟩
  ·obtain⟨b,ys,es,e1,h1,h2,t,v⟩:=R.own j e c q;exact⟨b,ys,es,fF z e1,Ab _ h1,s _ _ h2,t,v.same r⟩
 inj:=λj k d' e b c f g l p1 p2=>by
  have old:∀k,k∈O->i≠k->∀e,δ[k]?=some (some e)->σ[k]?=some (some (.ref a))->False:=λk f _ e q p=>by obtain⟨b,ys,es,e1,h1,h2,_⟩:=R.own k e f q;rw[p]at e1;cases e1;rw[hn]at h2;cases h2
  by_cases z1:i=j
  ·by_cases z2:i=k
   ·rw[<-z1,z2]
   ·subst z1;rw[Ao (by rw[<-R.len];exact hl)]at p1;cases p1;rw[Ai z2]at l p2;exact (old k f z2 e l p2).elim
  ·by_cases z2:i=k
   ·subst z2;rw[Ao (by rw[<-R.len];exact hl)]at p2;cases p2;rw[Ai z1]at g p1;exact (old j c z1 d' g p1).elim
   ·rw[Ai z1]at g p1;rw[Ai z2]at l p2;exact R.inj j k d' e b c f g l p1 p2
theorem aX.put {ys:List V} {l:PyData} (R:aX K H0 A0 H A O δ σ) (hi:i∈O) (hd:δ[i]?=some (some l)) (p:σ[i]?=some (some (.ref a))) (ha:a∈A) (h:Iss K (del H (A++A0)) ds ys) :
  aX K H0 A0 (upd H a (.lst ys)) A O (δ.set i (some (.list ds))) σ:=by
 have m:del (upd H a (.lst ys)) (A++A0)=del H (A++A0):=kJ (Aa _ ha);have hl:i<δ.length:=(Aq.mp hd).1;refine⟨λb o e=>?_,R.ls0,R.new,λb s=>?_,by simp[R.len],λj e c q=>?_,λj e c q=>?_,λj k d' e b c r f g p1 p2=>?_⟩
 ·have n:b≠a:=λz=>by rw[z,R.new a ha]at e;cases e
  rw[aK n];exact R.same b o e
 ·by_cases z:b=a
  ·exact⟨_,by rw[z,bH],rfl⟩
  ·rw[aK z];exact R.ls b s
 ·rcases get_set q with⟨z,q⟩|⟨z,q⟩
  ·subst z;exact absurd hi c
  ·rw[m];exact R.pl j e c q
 ·rcases get_set q with⟨z,q⟩|⟨z,q⟩
  ·cases q;subst z;exact⟨a,_,_,p,ha,bH,rfl,by rw[m];exact h⟩
  ·obtain⟨b,zs,es,e1,h1,h2,t,u⟩:=R.own j e c q;have n:b≠a:=λw=>z (R.inj i j _ _ a hi c hd q p (by rw[<-w];exact e1))
   exact⟨b,zs,es,e1,h1,by rw[aK n];exact h2,t,by rw[m];exact u⟩
 ·rcases get_set f with⟨z1,f⟩|⟨z1,f⟩ <;> rcases get_set g with⟨z2,g⟩|⟨z2,g⟩
  ·rw[<-z1,z2]
  ·subst z1;exact R.inj i k l e b hi r hd g p1 p2
  ·subst z2;exact R.inj j i d' l b c hi f hd p1 p2
  ·exact R.inj j k d' e b c r f g p1 p2
def un (H0 G:Hp):Hp:=λb=>match H0 b with|some o=>some o|none=>G b
theorem nX {H0:Hp}:ak H0 (un H0 G):=λb o e=>by unfold un;rw[e]
theorem vk {H0:Hp} (a:ak H0 H) (c:ak G H):ak G (un H0 G):=λb o e=>by
 unfold un;cases q:H0 b with
 |none=>exact e
 |some o2=>have h2:=a b o2 q;rw[c b o e]at h2;exact h2.symm
theorem ur {H0:Hp} (a:ak H0 H) (c:ak G H):ak (un H0 G) H:=λb o e=>by
 unfold un at e;cases q:H0 b with
 |none=>rw[q]at e;exact c b o e
 |some o2=>rw[q]at e;rw[<-Option.some.inj e];exact a b o2 q
theorem aX.more (R:aX K H0 A0 H A O δ σ):aX K (un H0 (del H (A++A0))) A0 H A O δ σ :=
 ⟨ur R.same av,R.ls0.same nX,λa h=>by unfold un;rw[R.new a h];exact eW (Aa _ h),R.ls,R.len,R.pl,R.own,R.inj⟩
theorem aX.less {b:Hp} (R:aX K b A0 H A O δ σ) (s:ak H0 b) (l:Ls H0 A0):aX K H0 A0 H A O δ σ:=⟨s.trans R.same,l,λa h=>s.free (R.new a h),R.ls,R.len,R.pl,R.own,R.inj⟩
end
def mT (K:PySem.W.Frag) (E:XK) (H0:Hp) (A0:List Addr) (O:List Nat) (r:Sr) (D:Ends):Prop:=match r with
 |.nx δ=>∀A σ H,aX K H0 A0 H A O δ σ->D.nx σ H
 |.rt d=>∀v H,ak H0 H->Is K (del H A0) d v->D.rt v H
 |.rz C=>∀H,ak H0 H->E (.ref C) none H
 |.bk δ=>∀A σ H,aX K H0 A0 H A O δ σ->D.bk σ H
 |.ct δ=>∀A σ H,aX K H0 A0 H A O δ σ->D.ct σ H
 |.no=>False
def sD (K:PySem.W.Frag) (E:XK) (O:List Nat) (G:Ds->Sr):TS:=λD σ H=>∃H0 A0 A δ,aX K H0 A0 H A O δ σ/\mT K E H0 A0 O (G δ) D
def PSD (X:Cx) (E:XK) (O:List Nat) (s:Stmt) (G:Ds->Sr):Prop:=PS X s (sD X.K E O G)
def PBD (X:Cx) (E:XK) (O:List Nat) (ss:List Stmt) (G:Ds->Sr):Prop:=PSs X ss (sD X.K E O G)
def bq:Ds->Sr:=λδ=>.nx δ
def aR (a b:Ds->Sr):Ds->Sr:=λδ=>match a δ with
 |.nx δ'=>b δ'
 |r=>r
def ofR {α:Type} (r:Rs α) (k:α->Sr):Sr:=match r with
 |.ok a=>k a
 |.rz C=>.rz C
 |.no=>.no
@[simp]theorem aH (a:α) (k:α->Sr):ofR (.ok a) k=k a:=rfl
@[simp]theorem hU (C:Addr) (k:α->Sr):ofR (.rz C) k=.rz C:=rfl
@[simp]theorem ix (k:α->Sr):ofR (.no:Rs α) k=.no:=rfl
def sIf (c:Ds->Rs Bool) (a b:Ds->Sr):Ds->Sr:=λδ=>ofR (c δ) λt=>if t=true then a δ else b δ
def bj (g:Ds->Rs PyData):Ds->Sr:=λδ=>ofR (g δ) .rt
def i7 (g:Ds->Rs PyData):Ds->Sr:=λδ=>ofR (g δ) λ_=>.nx δ
def bD (O:List Nat) (i:Nat) (g:Ds->Rs PyData):Ds->Sr:=λδ=>if i<δ.length then ofR (g (mask O δ)) λd=>.nx (δ.set i (some d)) else .no
def gv (O:List Nat) (i:Nat) (g:Ds->Rs (List PyData)):Ds->Sr:=λδ=>if i<δ.length then ofR (g (mask O δ)) λds=>.nx (δ.set i (some (.list ds))) else .no
def kj (O:List Nat) (i:Nat) (g:Ds->Rs PyData):Ds->Sr:=λδ=>match δ[i]? with
 |some (some (.list ds))=>ofR (g (mask O δ)) λd=>if ds.length<1000000 then .nx (δ.set i (some (.list (ds++[d])))) else .no
 |_=>.no
section
variable {ss:List Stmt} {G G':Ds->Sr} {a b c:Expr} {ga gb:Ds->Rs PyData} {ca:Ds->Rs Bool}
theorem oo:PBD X E O [] bq:=hV.imp λD σ H a=>(by obtain⟨H0,A0,A,δ,R,o⟩:=a;exact o A σ H R)
theorem aP (h1:PSD X E O st G) (h2:PBD X E O ss G'):PBD X E O (st::ss) (aR G G'):=(eL h1 h2).imp λD σ H ⟨H0,A0,A,δ,R,o⟩=>⟨H0,A0,A,δ,R,by
 unfold aR at o;cases q:G δ with
 |nx δ'=>rw[q]at o;exact λa σ' H' b=>⟨H0,A0,a,δ',b,o⟩
 |rt d=>rw[q]at o;exact o
 |rz C=>rw[q]at o;exact o
 |bk d=>rw[q]at o;exact o
 |ct d=>rw[q]at o;exact o
 |no=>rw[q]at o;exact o⟩
theorem kx (h1:PSD X E O st G):PBD X E O [st] G:=(df h1).imp λD σ H h=>h
theorem qr {a:List Stmt} (hc:PCD X E c ca) (h1:PBD X E O ss G) (h2:PBD X E O a G'):PSD X E O (.If c ss a pos) (sIf ca G G'):=(nZ hc h1 h2).imp λD σ H e=>by
 obtain⟨H0,A0,A,δ,R,o⟩:=e;unfold sIf at o;refine cD.run R.full (λt b H1 f R1=>?_) (λC b H' s'=>?_) (λb=>?_)
 ·rw[b]at o;cases t with
  |true=>exact⟨H0,A0,A,δ,R.step f,o⟩
  |false=>exact⟨H0,A0,A,δ,R.step f,o⟩
 ·rw[b]at o;exact o H' (R.same.trans s')
 ·rw[b]at o;exact o
theorem oU (h:PD X E e ga):PSD X E O (.Return (some e) pos) (bj ga):=(d7 h).imp λD σ H a=>by
 obtain⟨H0,A0,A,δ,R,o⟩:=a;unfold bj at o;refine eD.run R.full (λd c v H1 f R1 g=>?_) (λC b H' s'=>?_) (λb=>?_)
 ·rw[c]at o;exact o v H1 (R.same.trans f) g
 ·rw[b]at o;exact o H' (R.same.trans s')
 ·rw[b]at o;exact o
theorem nF (h:PD X E e ga) (c:swapsWith e none pos.line X.env=pure false):PSD X E O (.Expr e pos) (i7 ga):=(hW h c).imp λD σ H a=>by
 obtain⟨H0,A0,A,δ,R,o⟩:=a;unfold i7 at o;refine eD.run R.full (λd f v H1 g R1 hv=>?_) (λC b H' s'=>?_) (λb=>?_)
 ·rw[f]at o;exact o A σ H1 (R.step g)
 ·rw[b]at o;exact o H' (R.same.trans s')
 ·rw[b]at o;exact o
theorem oG (h:PD X E e ga) (c:X.N.Nodup) (f:i∉O) (hi:X.N[i]?=some x) (g:Loc X.env.scope x) (j:swapsWith e (some (.Name x pos')) pos.line X.env=pure false)
  (k:X.fn x=true\/X.env.scope.names.lookup x=some .local):PSD X E O (.Assign [.Name x pos'] e pos) (bD O i ga):=(jS c hi g h j k).imp λD σ H a=>by
 obtain⟨H0,A0,A,δ,R,o⟩:=a;unfold bD at o;split at o
 ·rename_i hl;refine eD.run R.part (λd l v H1 m R1 n=>?_) (λC b H' s'=>?_) (λb=>?_)
  ·rw[l]at o;exact o A _ H1 ((R.step m).set f hl n)
  ·rw[b]at o;exact o H' (R.same.trans s')
  ·rw[b]at o;exact o
 ·exact o.elim
theorem pG {a:Ds->Rs (List PyData)} (h:PLD X E e a) (f:X.N.Nodup) (g:i∈O) (hi:X.N[i]?=some x) (j:Loc X.env.scope x) (k:swapsWith e (some (.Name x pos')) pos.line X.env=pure false)
  (l:X.fn x=true\/X.env.scope.names.lookup x=some .local):PSD X E O (.Assign [.Name x pos'] e pos) (gv O i a):=(jS f hi j h k l).imp λD σ H b=>by
 obtain⟨H0,A0,A,δ,R,o⟩:=b;unfold gv at o;split at o
 ·rename_i hl;refine⟨A++A0,mask O δ,R.part,?_⟩;cases q:a (mask O δ) with
  |ok ds =>rw[q]at o;exact λp xs H' hn s m c=>o (p::A) _ H' (R.setOwn g hl hn s m c)
  |rz C=>rw[q]at o;exact λH' s'=>o H' (R.same.trans s')
  |no=>rw[q]at o;exact o
 ·exact o.elim
theorem tyL {p:Addr} (h:H p=some (.lst xs)):tyV K "list" (.ref p) H:=.inl ⟨rfl,xs,SqL.of h⟩
theorem pE {j c:Pos} (h:PD X E e ga) (s:i∈O) (hi:X.N[i]?=some x) (k:Vis X.env.scope x)
  (hd:(x==("__debug__":Str))=false) (l:(x==("__classdict__":Str))=false) (f:starEach [e] X.env=(false,eval e X.env)::starEach [] X.env)
  (a:attributeBase (.Name x pn) "append" X.env (eval (.Name x pn) X.env)=eval (.Name x pn) X.env)
  (g:((backTo c (starEach [e] X.env)).all (λx=>!x.1)&&(backToKw c (keywordEach [] X.env)).all (λx=>x.1.isSome)&&decide (([e]:List Expr).length+([]:List Keyword).length+(if ([]:List Keyword).isEmpty then 0 else 1)<30))=true)
  (b:(j.endLine==c.line)=true) (u:swapsWith (.Call (.Attribute (.Name x pn) "append" j) [e] [] c) none pos.line X.env=pure false) :
  PSD X E O (.Expr (.Call (.Attribute (.Name x pn) "append" j) [e] [] c) pos) (kj O i ga) :=
 (hW (p8 PySem.F.plainAttrs_list PySem.F.slot_list_append PySem.F.type_list_append gK (eP hi k hd l) (bV h dg f) a g b f rfl) u).imp λD σ H m=>by
  obtain⟨H0,A0,A,δ,R,o⟩:=m;unfold kj at o;split at o
  ·rename_i ds q;obtain⟨p,xs,ds',e1,w,hl,e2,t⟩:=R.ownL s q;cases e2;refine⟨_,e1,tyL hl,?_⟩;refine eD.run R.part (λd y v H1 n R1 k=>?_) (λC r H' s'=>?_) (λr=>?_)
   ·rw[y]at o;have o:mT X.K E H0 A0 O (if ds.length<1000000 then .nx (δ.set i (some (.list (ds++[d])))) else .no) D:=o;split at o
    ·rename_i hz;refine⟨p,xs,v,rfl,rfl,n _ _ hl,by rw[t.length,sizeLine_eq];omega,?_⟩;exact o A _ _ ((R.step n).put s q e1 w ((t.same n.del).append (kT k)))
    ·exact o.elim
   ·rw[r]at o;exact o H' (R.same.trans s')
   ·rw[r]at o;exact o
  ·exact o.elim
def TgS (K:PySem.W.Frag) (O:List Nat) (tgt:PyData->Ds->Option Ds) (g:TG):Prop:=∀(d:PyData) (v:V) (H0:Hp) (A0:List Addr) (H:Hp) (A:List Addr) (δ δ':Ds) (σ:St) (Q:St->Hp->Prop),aX K H0 A0 H A O δ σ->Is K (del H (A++A0)) d v->tgt d δ=some δ' ->
 (∀a,aX K H0 A0 H A O δ' a->Q a H)->g v σ H Q
def dw (i:Nat):PyData->Ds->Option Ds:=λd δ=>if i<δ.length then some (δ.set i (some d)) else none
theorem nT (hi:i∉O):TgS K O (dw i) (gX i):=λd v H0 A0 H A δ δ' σ Q R h e k=>by
 unfold dw at e;split at e
 ·rename_i hl;cases e;exact k _ (R.set hi hl h)
 ·cases e
def eO:List Nat->List PyData->Ds->Option Ds
 |[],[],δ=>some δ
 |i::is,d::ds,δ=>if i<δ.length then eO is ds (δ.set i (some d)) else none
 |_,_,_=>none
def kD (is:List Nat):PyData->Ds->Option Ds
 |.tuple ds,δ=>eO is ds δ
 |_,_=>none
def j7:List Nat->TGs
 |[]=>L2.ue
 |i::is=>L2.p6 (gX i) (j7 is)
theorem fm {K:PySem.W.Frag}:∀(is:List Nat) (ds:List PyData) (vs:List V) (H0:Hp) (A0:List Addr) (H:Hp) (A:List Addr) (δ δ':Ds) (σ:St) (Q:St->Hp->Prop),(∀i∈is,i∉O)->aX K H0 A0 H A O δ σ->Iss K (del H (A++A0)) ds vs->eO is ds δ=some δ' ->
  (∀a,aX K H0 A0 H A O δ' a->Q a H)->j7 is vs σ H Q
 |[],[],vs,H0,A0,H,A,δ,δ',σ,Q,_,R,h,e,k=>by cases e;exact⟨h.nil_of,k σ R⟩
 |i::is,d::ds,vs,H0,A0,H,A,δ,δ',σ,Q,hO,R,h,e,k=>by
  obtain⟨v,r,rfl,h1,h2⟩:=h.cons_of;unfold eO at e;split at e
  ·rename_i hl;exact⟨v,r,rfl,fm is ds r H0 A0 H A _ δ' _ Q (λj b=>hO j (Ab _ b)) (R.set (hO i List.mem_cons_self) hl h1) h2 e k⟩
  ·cases e
 |[],_::_,_,_,_,_,_,_,_,_,_,_,_,_,e,_=>by cases e
 |_::_,[],_,_,_,_,_,_,_,_,_,_,_,_,e,_=>by cases e
theorem gn:∀{is:List Nat} {ds:List PyData} {δ δ':Ds},eO is ds δ=some δ'->ds.length=is.length
 |[],[],_,_,_=>rfl
 |_::is,_::ds,δ,δ',e=>by
  unfold eO at e;split at e
  ·simp[gn e]
  ·cases e
 |[],_::_,_,_,e=>by cases e
 |_::_,[],_,_,e=>by cases e
theorem n6 {is:List Nat} (hi:∀i∈is,i∉O):TgS K O (kD is) (L2.tq K is.length (j7 is)):=λd v H0 A0 H A δ δ' σ Q R h e k=>by
 unfold kD at e;split at e
 ·obtain⟨p,xs,rfl,b,a⟩:=h.ofTup;exact⟨p,xs,rfl,SqT.of (av _ _ b),by rw[a.length,gn e],fm is _ xs H0 A0 H A δ δ' σ Q hi R a e k⟩
 ·cases e
def forL (tgt:PyData->Ds->Option Ds) (body:Ds->Sr):List PyData->Ds->Sr
 |[],δ=>.nx δ
 |d::r,δ=>match tgt d δ with
  |none=>.no
  |some δ1=>match body δ1 with
   |.nx δ2=>forL tgt body r δ2
   |.ct δ2=>forL tgt body r δ2
   |.bk δ2=>.nx δ2
   |.rt v=>.rt v
   |.rz C=>.rz C
   |.no=>.no
def jh (O:List Nat) (src:Ds->Rs (List PyData)) (tgt:PyData->Ds->Option Ds) (body:Ds->Sr):Ds->Sr:=λδ=>ofR (src (mask O δ)) λds=>forL tgt body ds δ
theorem pT {r:Ds->Rs (List PyData)} {g:TG} (N:PassesOwn (model X.prog X.w) X.A X.env X.xe) (hc:X.calm=true) (hi:PID X E tg iter r) (P:TgS X.K O tgt g) (Q:PG X tg g) (s:PBD X E O ss G)
  (S:∀x,foldedSetIterable iter X.env x=pure x):PSD X E O (.For tg iter ss [] pos) (jh O r tgt G):=(rB N hc hi Q s S).imp λD σ H t=>by
 obtain⟨H0,A0,A,δ,R,o⟩:=t;unfold jh at o;refine⟨A++A0,mask O δ,R.part,?_⟩;cases q:r (mask O δ) with
 |no=>rw[q]at o;exact o
 |rz C=>rw[q]at o;exact λH' s'=>o H' (R.same.trans s')
 |ok ds =>
  rw[q]at o;intro J H1 I T;have U:=(R.step I).more;have o:mT X.K E H0 A0 O (forL tgt G ds δ) D:=o;refine⟨λi m c H'=>m=ds.length-i/\i<=ds.length/\∃j δ',aX X.K (un H0 (del H1 (A++A0))) A0 H' j O δ' c/\mT X.K E H0 A0 O (forL tgt G (ds.drop i) δ') D,⟨ds.length,by simp,B3 _,A,δ,U,o⟩,?_⟩
  rintro i m c H' ⟨rfl,hi',j,δ',k,o'⟩
  have L:ak (del H1 (A++A0)) (un H0 (del H1 (A++A0))):=vk (R.same.trans I) av;have hB:∀b∈j++A0,(del H1 (A++A0)) b=none:=λb s=>by
   rcases Ac.mp s with z|z
   ·exact L.free (k.new b z)
   ·exact eW (A5 _ z)
  obtain⟨W,Y,Z⟩:=T H' (j++A0) (L.trans k.same) k.lsA hB;by_cases hlt:i<ds.length
  ·refine .inr ⟨W i hlt,?_⟩;have u:ds.drop i=ds[i]::ds.drop (i+1):=List.drop_eq_getElem_cons hlt;rw[u]at o';unfold forL at o';refine⟨λl H2=>∃B a,aX X.K (un H0 (del H1 (A++A0))) A0 H2 B O a l/\mT X.K E H0 A0 O (forL tgt G (ds.drop (i+1)) a) D,λl H2 ⟨B,a,R2,o2⟩=>⟨ds.length-(i+1),by omega,rfl,hlt,B,a,R2,o2⟩,λx H2 y=>?_⟩;obtain⟨s2,d,M,hd⟩:=Z i x H2 hlt y;have:ds[i]=d:=by have:=A8 hlt;rw[this]at M;exact Option.some.inj M
   rw[this]at o';cases et:tgt d δ' with
   |none=>rw[et]at o';exact o'.elim
   |some δ1 =>
    simp only[et]at o';refine P d x _ _ _ _ _ _ _ _ (k.step s2) hd et λσ3 R3=>⟨_,_,_,_,R3,?_⟩
    cases eb:G δ1 with
    |nx a=>rw[eb]at o';exact λn f h p=>⟨n,a,p,o'⟩
    |ct a=>rw[eb]at o';exact λn f h p=>⟨n,a,p,o'⟩
    |bk a=>rw[eb]at o';exact λn f h p=>o' n f h (p.less nX R.ls0)
    |rt v=>rw[eb]at o';exact λv4 h F h4=>o' v4 h (nX.trans F) h4
    |rz C=>rw[eb]at o';exact λh F=>o' h (nX.trans F)
    |no=>rw[eb]at o';exact o'
  ·have e:i=ds.length:=by omega
   subst e;rw[List.drop_length]at o';exact .inl ⟨Y,o' j c H' (k.less nX R.ls0)⟩
end
section
variable {ss:List Stmt} {G G':Ds->Sr} {a b c:Expr} {ga gb gk:Ds->Rs PyData} {ca:Ds->Rs Bool}
def mn (O:List Nat) (tgt:PyData->Ds->Option Ds) (g:Ds->Rs PyData):Ds->Sr:=λδ=>ofR (g (mask O δ)) λd=>match tgt d δ with
 |some δ'=>.nx δ'
 |none=>.no
theorem pC {g:TG} (h:PD X E e ga) (f:TgS X.K O tgt g) (i:PG X tg g) (j:swapsWithSole [tg] e pos.line X.env=pure false) (hw:swappedStores [tg] e X.env=pure none)
  (h1:(assignEach [tg] X.env).map (·.2)=[assign tg X.env]):PSD X E O (.Assign [tg] e pos) (mn O tgt ga):=(my h i j hw h1).imp λD σ H a=>by
 obtain⟨H0,A0,A,δ,R,o⟩:=a;unfold mn at o;refine eD.run R.part (λd k v H1 l R1 m=>?_) (λC b H' s'=>?_) (λb=>?_)
 ·simp only[k,aH]at o;cases q:tgt d δ with
  |none=>rw[q]at o;exact o.elim
  |some δ'=>rw[q]at o;exact f d v H0 A0 H1 A δ δ' σ _ (R.step l) m q λc n=>o A c H1 n
 ·rw[b]at o;exact o H' (R.same.trans s')
 ·rw[b]at o;exact o
def lA (i:Nat) (gk a:Ds->Rs PyData):Ds->Sr:=λδ=>match δ[i]? with
 |some (some (.list ds))=>ofR (a δ) λd=>ofR (gk δ) λk=>match k with
  |.int k=>match ixN ds.length k with
   |some j=>if cG d then .nx (δ.set i (some (.list (ds.set j d)))) else .no
   |none=>.no
  |_=>.no
 |_=>.no
theorem pe {k:Expr} {ps:Pos} (h:PD X E e ga) (r:PD X E k gk) (l:i∈O) (hi:X.N[i]?=some x) (c:Vis X.env.scope x)
  (hd:(x==("__debug__":Str))=false) (f:(x==("__classdict__":Str))=false)
  (ha:∀v,assign (.Subscript (.Name x pn) k ps) X.env v=(do
   let ov <-holding [v] (eval (.Name x pn) X.env);let iv <-holding [v,ov] (eval k X.env)
   standAt ps
   holding [v,ov,iv] (setItem ov iv v)
   release [v,ov,iv] []))
  (s:swapsWithSole [.Subscript (.Name x pn) k ps] e pos.line X.env=pure false) (hw:swappedStores [.Subscript (.Name x pn) k ps] e X.env=pure none)
  (h1:(assignEach [.Subscript (.Name x pn) k ps] X.env).map (·.2)=[assign (.Subscript (.Name x pn) k ps) X.env]):PSD X E O (.Assign [.Subscript (.Name x pn) k ps] e pos) (lA i gk ga) :=
 (my h (qN (eP hi c hd f) r set_list ha) s hw h1).imp λD σ H g=>by
  obtain⟨H0,A0,A,δ,R,o⟩:=g;unfold lA at o;split at o
  ·rename_i ds q;obtain⟨p,xs,ds',e1,t,hl,e2,m⟩:=R.ownL l q;cases e2;refine eD.run R.full (λd w v H1 n y c=>?_) (λC b H' s'=>?_) (λb=>?_)
   ·simp only[w,aH]at o;refine⟨_,e1,?_⟩;refine eD.run y (λkd z u H2 s2 R2 B=>?_) (λC b H' s'=>?_) (λb=>?_)
    ·simp only[z,aH]at o;split at o
     ·rename_i F;split at o
      ·rename_i j G;split at o
       ·rename_i hn;have a:=n.trans s2;refine⟨p,xs,F,j,rfl,B.ofInt,a _ _ hl,by rw[m.length];exact G,?_⟩;exact o A _ _ ((R.step a).put l q e1 t (Iss.set (((c.same s2.del).same av).dl (R.step a).lsA hn) j (m.same a.del)))
       ·exact o.elim
      ·exact o.elim
     ·exact o.elim
    ·simp only[b,hU]at o;exact o H' (R.same.trans (n.trans s'))
    ·simp only[b,ix]at o;exact o
   ·simp only[b,hU]at o;exact o H' (R.same.trans s')
   ·simp only[b,ix]at o;exact o
  ·exact o.elim
def eQ (O:List Nat) (i:Nat) (g:Ds->Rs PyData):Ds->Sr:=λδ=>match δ[i]? with
 |some (some (.list ds))=>ofR (g (mask O δ)) λd=>match d with
  |.list es=>if ds.length+es.length<=1000000 then .nx (δ.set i (some (.list (ds++es)))) else .no
  |_=>.no
 |_=>.no
theorem pB {l f:Pos} (h:PD X E e ga) (u:i∈O) (hi:X.N[i]?=some x) (m:Vis X.env.scope x)
  (hd:(x==("__debug__":Str))=false) (n:(x==("__classdict__":Str))=false) (g:starEach [e] X.env=(false,eval e X.env)::starEach [] X.env)
  (a:attributeBase (.Name x pn) "extend" X.env (eval (.Name x pn) X.env)=eval (.Name x pn) X.env)
  (j:((backTo f (starEach [e] X.env)).all (λx=>!x.1)&&(backToKw f (keywordEach [] X.env)).all (λx=>x.1.isSome)&&decide (([e]:List Expr).length+([]:List Keyword).length+(if ([]:List Keyword).isEmpty then 0 else 1)<30))=true)
  (c:(l.endLine==f.line)=true) (y:swapsWith (.Call (.Attribute (.Name x pn) "extend" l) [e] [] f) none pos.line X.env=pure false) :
  PSD X E O (.Expr (.Call (.Attribute (.Name x pn) "extend" l) [e] [] f) pos) (eQ O i ga) :=
 (hW (p8 PySem.F.plainAttrs_list PySem.F.slot_list_extend PySem.F.type_list_extend lF (eP hi m hd n) (bV h dg g) a j c g rfl) y).imp λD σ H r=>by
  obtain⟨H0,A0,A,δ,R,o⟩:=r;unfold eQ at o;split at o
  ·rename_i ds q;obtain⟨p,xs,ds',e1,z,hl,e2,w⟩:=R.ownL u q;cases e2;refine⟨_,e1,tyL hl,?_⟩;refine eD.run R.part (λd B v H1 s R1 m=>?_) (λC t H' s'=>?_) (λt=>?_)
   ·simp only[B,aH]at o;split at o
    ·rename_i es;split at o
     ·rename_i hz;obtain⟨b,zs,rfl,G,k⟩:=m.ofLst;refine⟨p,b,xs,zs,rfl,rfl,s _ _ hl,av _ _ G,by rw[w.length,k.length,sizeLine_eq];omega,?_⟩;exact o A _ _ ((R.step s).put u q e1 z ((w.same s.del).append k))
     ·exact o.elim
    ·exact o.elim
   ·simp only[t,hU]at o;exact o H' (R.same.trans s')
   ·simp only[t,ix]at o;exact o
  ·exact o.elim
structure fz (K:PySem.W.Frag) (mg:Str->Option Value) (x:Str) (C:Addr):Prop where
 m:mg x=some (.ref C)
 e:PySem.W.excIn K C [.type "ValueError",.type "Exception",.type "BaseException",.type "object"] "ValueError.__new__"=true
def fQ (C:Addr) (gs:Ds->Rs (List PyData)):Ds->Sr:=λδ=>ofR (gs δ) λ_=>.rz C
theorem lO {i:Pos} (hc:X.calm=true) (M:jF X E) (g:fz X.K X.mg x C) (ha:PAD X E (e::es) gs) (hl:(e::es).length<=1000) (j:Gl X x)
  (a:(x==("__debug__":Str))=false) (k:starEach (e::es) X.env=(false,eval e X.env)::starEach es X.env) (b:(backTo cpos (starEach es X.env)).any (·.1)=false) :
  PSD X E O (.Raise (some (.Call (.Name x i) (e::es) [] cpos)) none pos) (fQ C gs) :=
 (mY hc M PySem.F.excBase_ValueError j g.m g.e ha.1 a k b).imp λD σ H c=>by
  obtain⟨H0,A0,A,δ,R,o⟩:=c;unfold fQ at o;refine aD.run R.full (λds h vs H1 l R1 n=>?_) (λC f H' s'=>?_) (λf=>?_)
  ·simp only[h,aH]at o;exact⟨by rw[n.length,ha.2 δ ds h,sizeLine_eq];omega,o H1 (R.same.trans l)⟩
  ·simp only[f,hU]at o;exact o H' (R.same.trans s')
  ·simp only[f,ix]at o;exact o
end
section
theorem kv {f:Addr} {CX:CXT} (F:Fun K x qual st f fd) (S:ck N ps (aB st)) (len:∀vs H Q E,sp vs H Q E->vs.length=ps.length)
  (a:∀(cdv:Value) (A:Around) (outer:List Env) (s:Shared) (H:Hp) (vs:List V) (Q:VK) (E:XK),bF k (A.deeper (envOfC qual (aB st) s.heap.objs.size f cdv))->sp vs H Q E ->
   ∃t,PSs (cI CX P w K mg base N qual (aB st) f cdv A outer s H E) (bJ st) t/\t { nx:=λ_ H'=>Q .non H',rt:=Q } (start N vs) H):dG P w K mg base CX (k+1) f fd ps sp:=by
 obtain⟨oc,od,kV,doc,pm,an,cdv,ct,osl,rfl,e,b⟩:=F.ex;exact p9 e b S len λA outer s H vs Q E g c=>a cdv A outer s H vs Q E g c
def bK:Sr->Rs PyData
 |.rt d=>.ok d
 |.nx _=>.ok .none
 |.rz C=>.rz C
 |_=>.no
theorem qY {f:Addr} {A:Around}:jF (cI (CXW P w) P w K mg base N qual scope f cd A outer s H E) E :=
 λ_ _ _ _ _ _ _ _ I a b=>jv (CX:=CX0) I a b
theorem aX.start {A0:List Addr} (f:Ls H A0) (hi:Iss K (del H A0) ds vs) (hl:ds.length=ps.length) (c:∀i∈O,ps.length<=i) :
  aX K H A0 H [] O (ds.map some++List.replicate (N.length-ps.length) none) (L2.start N vs):=by
 have g:=hi.length;have at':∀(i:Nat) d,(ds.map some++List.replicate (N.length-ps.length) none)[i]?=some (some d)->i<ds.length/\ds[i]?=some d:=λi d e=>by
  by_cases h:i<ds.length
  ·rw[Ak (by simpa using h),Ap]at e;refine⟨h,?_⟩;cases q:ds[i]? with
   |none=>rw[q]at e;cases e
   |some z=>rw[q]at e;simp at e;rw[e]
  ·rw[Au (by simpa using h),AN]at e;split at e <;> cases e
 refine⟨ak.refl _,f,(λa h=>by cases h),(λa h=>by cases h),?_,λi d _ e=>?_,λi d h e=>?_,λi j d e a h _ q _ _ _=>?_⟩
 ·unfold L2.start;simp[g,hl]
 ·obtain⟨b,e⟩:=at' i d e;obtain⟨v,k,hd⟩:=hi.getD e;refine⟨v,?_,hd⟩;unfold L2.start;rw[Ak (by simp;omega),Ap,k];rfl
 ·obtain⟨b,_⟩:=at' i d e;exact absurd (c i h) (by omega)
 ·obtain⟨b,_⟩:=at' i d q;exact absurd (c i h) (by omega)
theorem dX.of {f:Addr} {G:Ds->Sr} (F:Fun K x qual st f fd) (S:ck N ps (aB st)) (b:Binds K fd ps []) (m:mg x=some (.ref f)) (e:∀i∈O,ps.length<=i)
  (body:∀(cdv:Value) (A:Around) (outer:List Env) (s:Shared) (H:Hp) (E:XK),bF k (A.deeper (envOfC qual (aB st) s.heap.objs.size f cdv))->PBD (cI (CXW P w) P w K mg base N qual (aB st) f cdv A outer s H E) E O (bJ st) G)
  (g:∀ds,ds.length=ps.length->gf ds≠.no->bK (G (ds.map some++List.replicate (N.length-ps.length) none))=gf ds):dX P w K mg base (k+1) x ps.length gf:=by
 refine⟨f,fd,ps,kv F S (λvs H Q E h=>?_) (λcdv A outer s H vs Q E j h=>?_),m,F.kp,b⟩
 ·obtain⟨A,ds,c,hi,hl,o⟩:=h;rw[hi.length,hl]
 ·obtain⟨A0,ds,c,hi,hl,o⟩:=h;refine⟨_,body cdv A outer s H E j,H,A0,[],_,aX.start c hi hl e,?_⟩;have a:=g ds hl (λz=>by rw[z]at o;exact o);cases q:G (ds.map some++List.replicate (N.length-ps.length) none) with
  |rt d=>rw[q]at a;rw[<-a]at o;exact λv H' s' l=>o v H' s' l
  |nx δ=>rw[q]at a;rw[<-a]at o;exact λA' σ H' n=>o .non H' n.same is_none
  |rz C=>rw[q]at a;rw[<-a]at o;exact λH' s'=>o H' s'
  |bk δ=>rw[q]at a;rw[<-a]at o;exact o.elim
  |ct δ=>rw[q]at a;rw[<-a]at o;exact o.elim
  |no=>rw[q]at a;rw[<-a]at o;exact o.elim
theorem dX.old {f:Addr} (F:dG P w K mg base CX0 k f fd ps sp) (m:mg x=some (.ref f)) (kp:PySem.W.keepIn K (.ref f)=true) (b:Binds K fd ps [])
  (h:∀ds,ds.length=ps.length->gf ds≠.no->∃d,gf ds=.ok d/\fo d=true/\∀vs H Q,Iss K H ds vs->(∀v H',ak H H'->IsD K H' d v->Q v H')->sp vs H Q E0):dX P w K mg base k x ps.length gf:=by
 refine⟨f,fd,ps,⟨λvs H Q E h'=>?_,λA outer s H args us vs Q E j l n p h'=>?_⟩,m,kp,b⟩
 ·obtain⟨A,ds,g,hi,hl,o⟩:=h';rw[hi.length,hl]
 ·obtain⟨A0,ds,g,hi,hl,o⟩:=h';obtain⟨d,e,i,c⟩:=h ds hl (λz=>by rw[z]at o;exact o);rw[e]at o;refine codeAny_mono (F.run A outer s H args us vs Q E0 j l n p (c vs H Q (hi.same av) λv H' s' hd=>o v H' s' ((hd.is i).dl (g.same s') (kl i)))) λr s' a=>?_
  cases r with
  |error ev=>exact False.elim a
  |ok fl =>
   cases fl with
   |ret u=>exact a
   |next=>exact False.elim a
   |brk=>exact False.elim a
   |cont=>exact False.elim a
end
open AutoSeq1 (wpAny_loadPart')
theorem fb:fillsNumberSlot (.type "tuple") "mul"=pure false :=
 PySem.fillsNumberSlot_seq (id:="tuple.__mul__") (r:=some (.builtin "tuple.__rmul__")) PySem.F.slot_tuple_mul.lookup (by decide +kernel) PySem.F.slot_tuple_rmul.lookup (by decide +kernel)
theorem g8:seqRepeat? (.type "tuple")=pure (some (.builtin "tuple.__mul__")):=by unfold seqRepeat?;rw[PySem.seqSlot_of (T:="tuple") (name:="__mul__") (id:="tuple.__mul__") PySem.F.slot_tuple_mul.lookup (by decide +kernel),PySem.seqSlot_of (T:="tuple") (name:="__rmul__") (id:="tuple.__rmul__") PySem.F.slot_tuple_rmul.lookup (by decide +kernel)];rfl
theorem iw (a:Int) (t:Tok) (l:Addr) (items:Array Value) (n:Nat) (dd:Option Addr) (b:Array (Option Value)) :
  Meets (Builtin.«int.__rmul__» ⟨[.int a t,.ref l],[]⟩) (λ_ R s=>s.heap.get? l=some { cls:=.type "tuple",dict:=dd,data:=.seq items n,slots:=b }/\R (.ok (.ret Value.notImplemented)) s) :=
 .of_wp λprog w A R s h=>by obtain⟨hp,g,d,tk,os⟩:=s;obtain⟨hl,h⟩:=h;wp_walk;exact⟨_,rfl,h⟩
theorem l8 (l:Addr) (items:Array Value) (n:Nat) (x:Int) (u:Tok) (dd:Option Addr) (c:Array (Option Value)) (h1:(decide (x < -(2 ^ 63))||decide (x≥2 ^ 63))=false) (h2:(items.isEmpty||x==1)=false) (h3:(decide (x<=0)||items.isEmpty)=false)
  (e:decide ((items.size:Int)*x>(2 ^ 63-1) / 8)=false) (h5:Builtin.Tuple.tupleTooMany ((items.size:Int)*x)=false) (hsz:(List.foldl (λa b=>a++b) #[] (List.replicate x.toNat items)).size<=sizeLine) :
  Meets (Builtin.«tuple.__mul__» ⟨[.ref l,.int x u],[]⟩) (λ_ R s=>s.heap.get? l=some { cls:=.type "tuple",dict:=dd,data:=.seq items n,slots:=c }/\R (.ok (.ret (Value.ref s.heap.objs.size))) { s with heap:=s.heap.push { cls:=Value.type "tuple",data:=Data.seq (List.foldl (λa b=>a++b) #[] (List.replicate x.toNat items)) } }) :=
 .of_wp λprog w A R s h=>by
  obtain⟨hp,g,d,tk,os⟩:=s;obtain⟨hl,h⟩:=h;have f1:=AutoSeq1.idx_int;have f2:=AutoSeq1.sub_tuple_tuple
  wp_walk using wpAny_loadPart' hl
  refine wpAny_ite_false (by rw[h1];rfl) ?_
  wp_walk using wpAny_loadPart' hl
  refine wpAny_ite_false e ?_
  wp_walk using wpAny_loadPart' hl
  exact⟨_,rfl,h⟩
section
variable {a b c:Expr} {ga gb gc:Ds->Rs PyData}
def pV (K:PySem.W.Frag):R2:=λx y H Q=>∃l k xs,x=.ref l/\y=.int k/\SqT K H l xs/\xs≠[]/\2<=k/\k<1000000/\xs.length*k.toNat<=1000000/\∀p,H p=none->Q (.ref p) (upd H p (.tup (List.replicate k.toNat xs).flatten))
theorem pw:OpR X (binaryOp .Mult) (pV X.K):=by
 intro pins s σ H x y v u Q I m p h;obtain⟨l,k,xs,rfl,rfl,hl,i,hk1,hk2,w,q⟩:=h;cases m;obtain⟨t,rfl⟩:=p;obtain⟨a,r,p1,_⟩:=I.tuple hl;obtain⟨⟨cls,dd,data,j⟩,g,hc,n,hd⟩:=id p1;simp only at hc hd;subst hc hd;have hlen:=r.length;have e:a≠[]:=λz=>i (r.nil_iff.mp z)
 have hpos:0<a.length:=List.length_pos_iff.mpr e;have c:List.foldl (λA B=>A++B) #[] (List.replicate k.toNat a.toArray)=(List.replicate k.toNat a).flatten.toArray:=by have:=foldl_rep a k.toNat [];rw[B0]at this;exact this
 have f:a.toArray.isEmpty=false:=by simp[e]
 have hmul:(a.length:Int)*k<=1000000:=by
  have e1:((a.length*k.toNat:Nat):Int)=(a.length:Int)*k:=by rw[Int.natCast_mul,Int.toNat_of_nonneg (by omega)]
  rw[<-e1,<-hlen];omega
 have hsz2:(List.replicate k.toNat a).flatten.length<=1000000:=by rw[len_rep,Nat.mul_comm,<-hlen];exact w
 refine wpAny_binaryOp_repeat_ref (T:="tuple") (U:="int") (by decide) ⟨_,g,rfl⟩ (λs'=>typeIs_int s' k t) fb PySem.F.fills_int_mul PySem.F.slot_int_rmul g8 PySem.F.slot_int_index.lookup
  (call_meets PySem.F.slot_int_rmul (typeIs_int s k t) PySem.F.entry_int_rmul (PySem.F.args_int_rmul_2 _ _) (iw k t l a.toArray n dd j)
   ⟨g,rfl,⟨_,g,rfl⟩,call_meets PySem.F.slot_tuple_mul ⟨_,g,rfl⟩ PySem.F.entry_tuple_mul (PySem.F.args_tuple_mul_2 _ _) (l8 l a.toArray n k t dd j ?_ ?_ ?_ ?_ ?_ ?_) ⟨g,?_⟩⟩)
 ·rw[decide_eq_false (by omega),decide_eq_false (by omega)];rfl
 ·rw[f,Bool.false_or];simp;omega
 ·rw[f,Bool.or_false];exact decide_eq_false (by omega)
 ·rw[A3];exact decide_eq_false (by omega)
 ·rw[A3];unfold Builtin.Tuple.tupleTooMany;rw[sizeLine_eq];exact decide_eq_false (by omega)
 ·rw[c,A3,sizeLine_eq];omega
 ·rw[c];refine⟨.ref s.heap.objs.size,_,I.laid (t':=s.toks) (o:=.tup (List.replicate k.toNat xs).flatten) (λb ob q=>A1 _ q) (A6 _) ?_,rfl,q _ (I.hok.fresh (A6 _))⟩;exact⟨by rw[len_rep,Nat.mul_comm,sizeLine_eq];omega,_,r.rep k.toNat,iC.new _ _⟩
def cO:PyData->PyData->Option PyData
 |.int i,.int j=>if (-(2 ^ 64)<i/\i<2 ^ 64)\/(-(2 ^ 64)<j/\j<2 ^ 64) then some (.int (i*j)) else none
 |.list x,.int k=>if 0<=k/\k<1000000/\x.length*k.toNat<=1000000 then some (.list (List.replicate k.toNat x).flatten) else none
 |.tuple x,.int k=>if x≠[]/\2<=k/\k<1000000/\x.length*k.toNat<=1000000 then some (.tuple (List.replicate k.toNat x).flatten) else none
 |_,_=>none
theorem oK:OpD K cO (λx y H Q=>rI oa (λi j=>.int (i*j)) x y H Q\/uj x y H Q\/pV K x y H Q):=λd1 d2 d x y H A Q e f h1 h2 k=>by
 unfold cO at e;split at e
 ·split at e
  ·rename_i z;cases e;exact .inl ⟨_,_,h1.ofInt,h2.ofInt,z,k _ H (ak.refl _) bf⟩
  ·cases e
 ·split at e
  ·rename_i z;cases e;obtain⟨p,xs,rfl,c,a⟩:=h1.ofLst;exact .inr (.inl ⟨p,_,xs,rfl,h2.ofInt,av _ _ c,by omega,by omega,by rw[a.length,sizeLine_eq];omega,λr b=>k _ _ (aS b) (dS f b (a.rep _))⟩)
  ·cases e
 ·split at e
  ·rename_i z;cases e;obtain⟨p,xs,rfl,c,a⟩:=h1.ofTup;refine .inr (.inr ⟨p,_,xs,rfl,h2.ofInt,SqT.of (av _ _ c),λq=>z.1 ?_,z.2.1,z.2.2.1,by rw[a.length];exact z.2.2.2,λr b=>k _ _ (aS b) (eo f b (a.rep _))⟩);exact AO.mp (by rw[<-a.length,q];rfl)
  ·cases e
 ·cases e
theorem rL (ha:PD X E a ga) (c:PD X E b gb):PD X E (.BinOp a .Mult b pos) (g2 cO ga gb):=dN oK ha c (bQ (e6.or (q9.or pw)))
end
section
variable {prog:Program} {A:Around} {E:Value->Shared->Prop}
theorem dZ {i j:Value} {Q:Value->Shared->Prop} (a:IsTup s.heap t items) (k:s.heap.IsSliceOf c i j .none) (pl:IsPart i lo) (l:IsPart j hi)
  (hw:HT.sIx items.size 0 lo=0/\HT.sIx items.size items.size hi=items.size) (h:Q (.ref t) s):wpAny (model prog w) A (getItem (.ref t) (.ref c)) Q E s:=by
 obtain⟨os,e,f,hds⟩:=id k;have g:s.TypeIs (.ref c) "slice":=⟨os,e,f⟩
 unfold getItem
 try with_reducible refine wpAny_holding ?_
 first|refine wpAny_bind (wpAny_pure ?_)|skip
 refine wpAny_bind (wpAny_sequenceKey a.typeIs (by decide) ?_);refine wpAny_bind (wpAny_callSpecial?_slot (name:=Str.ofString "__getitem__") a.typeIs PyProof.Rows.slot_tuple_getitem
  (wpAny_call_entry PyProof.Rows.slot_tuple_getitem a.typeIs entry_tuple_getitem ?_ (args_tuple_getitem _ _)))
 show wpAny _ _ (Builtin.Tuple.tupleItemsOf (.ref t) >>= _) _ _ s;refine wpAny_bind (tupleItemsOf_ a ?_);refine wpAny_bind (wpAny_typeOf g ?_);rw[if_pos (by decide)];refine wpAny_bind (HT.cR k pl l ?_);have b:(((HT.sIx items.size 0 lo:Nat):Int)==0&&(1:Int)==1&&(HT.sIx items.size items.size hi-HT.sIx items.size 0 lo)==items.size)=true:=by rw[hw.1,hw.2];simp
 show wpAny _ _ (if (((HT.sIx items.size 0 lo:Nat):Int)==0&&(1:Int)==1&&(HT.sIx items.size items.size hi-HT.sIx items.size 0 lo)==items.size)=true then _ else _) _ _ s;rw[if_pos b];refine wpAny_bind (m:=Builtin.Tuple.tupleIsExact (.ref t)) (wpAny_bind (wpAny_typeOf a.typeIs (wpAny_pure ?_)));rw[if_pos (by decide)]
 first
  |exact wpAny_bind (wpAny_rule (wpAny_pure ⟨_,rfl,wpAny_pure h⟩))
  |(refine wpAny_bind (wpAny_rule ?_);trace_state;exact wpAny_pure ⟨_,rfl,wpAny_pure h⟩)
end
end L2
variable {g:L2.Ds->L2.Rs PyData} {δ:L2.Ds} {gf:List PyData->L2.Rs PyData} {gs src:L2.Ds->L2.Rs (List PyData)}
namespace L2
open PySem PySem.Spec PyProof.Rows
section
variable {E:XK} {a b c:Expr} {ga gb gc:Ds->Rs PyData}
def t8 (K:PySem.W.Frag):V->Option Int->Option Int->Hp->VK->Prop:=λx lo hi H Q=>∃a xs,x=.ref a/\SqT K H a xs/\(HT.sIx xs.length 0 lo=0/\HT.sIx xs.length xs.length hi=xs.length)/\Q (.ref a) H
theorem oR:SlR X (t8 X.K):=by
 intro pins s σ H x v vl vu lo hi sl Q I e f pl g h;obtain⟨a,xs,rfl,i,hw,q⟩:=h;cases e;obtain⟨b,r,c,hz⟩:=I.tuple i;have hlen:b.toArray.size=xs.length:=by rw[A3,r.length]
 refine⟨"tuple",_,PyProof.Rows.slot_tuple_getitem.lookup,c.typeIs,?_⟩;exact dZ c f pl g (by rw[hlen];exact hw) ⟨.ref a,H,I,rfl,q⟩
def cutD (xs:List PyData) (lo hi:Option Int):List PyData:=(xs.drop (HT.sIx xs.length 0 lo)).take (HT.sIx xs.length xs.length hi-HT.sIx xs.length 0 lo)
def pd:PyData->Option Int->Option Int->Option PyData
 |.list x,lo,hi=>some (.list (cutD x lo hi))
 |.tuple x,lo,hi=>some (.tuple (cutD x lo hi))
 |_,_,_=>none
def nc:PyData->Rs (Option Int)
 |.int i=>.ok (some i)
 |_=>.no
def bI:Ds->Rs (Option Int):=λ_=>.ok none
def cY (g:Ds->Rs PyData):Ds->Rs (Option Int):=λδ=>(g δ).bind nc
def uM (E:XK) (H:Hp) (r:Rs (Option Int)) (Q:Option Int->Hp->Prop):Prop:=match r with
 |.ok o=>∀H',ak H H'->Q o H'
 |.rz C=>∀H',ak H H'->E (.ref C) none H'
 |.no=>False
def oD (K:PySem.W.Frag) (E:XK) (g:Ds->Rs (Option Int)):TO:=λσ H Q=>∃A δ,bT K H A δ σ/\uM E H (g δ) Q
def POD (X:Cx) (E:XK) (e:Option Expr) (g:Ds->Rs (Option Int)):Prop:=PO X e (oD X.K E g)
theorem PO.imp {e:Option Expr} {t t':TO} (h:PO X e t) (k:∀σ H Q,t' σ H Q->t σ H Q):PO X e t':=λpins s σ H Q I q=>h pins s σ H Q I (k σ H Q q)
theorem md:POD X E none bI:=pD.imp λσ H Q a=>(by obtain⟨A,δ,R,o⟩:=a;exact o H (ak.refl _))
theorem nu (h:PD X E e ga):POD X E (some e) (cY ga):=(pO h).imp λσ H Q ⟨A,δ,R,o⟩=>⟨A,δ,R,by
 unfold cY at o;cases q:ga δ with
 |no=>rw[q]at o;exact o
 |rz C=>rw[q]at o;exact o
 |ok d =>
  rw[q]at o;cases d with
  |int i=>exact λv H' s h=>⟨i,h.ofInt,o H' s⟩
  |_=>exact o.elim⟩
theorem oD.run {g:Ds->Rs (Option Int)} {Q:Option Int->Hp->Prop} (R:bT K H A δ σ)
  (ok:∀d,g δ=.ok d->∀H',ak H H'->bT K H' A δ σ->Q d H') (rz:∀C,g δ=.rz C->∀H',ak H H'->E (.ref C) none H') (no:g δ=.no->False):oD K E g σ H Q:=by
 refine⟨A,δ,R,?_⟩;cases e:g δ with
 |ok d=>exact λH' s=>ok d e H' s (R.same s)
 |rz C=>exact λH' s=>rz C e H' s
 |no=>exact no e
def bX (g:Ds->Rs PyData) (lo hi:Ds->Rs (Option Int)):Ds->Rs PyData:=λδ=>(g δ).bind λd=>(lo δ).bind λl=>(hi δ).bind λh=>Rs.bS (pd d l h)
theorem Iss.cut (h:Iss K H ds vs) (lo hi:Option Int):Iss K H (cutD ds lo hi) (jA vs lo hi):=by unfold cutD jA;rw[h.length];exact (h.drop _).take _
theorem ma {lo hi:Option Expr} {m n:Ds->Rs (Option Int)} {p2:Pos} (t:PD X E e ga) (hl:POD X E lo m) (u:POD X E hi n):PD X E (.Subscript e (.Slice lo hi none p2) pos) (bX ga m n) :=
 (nh (pP.or (rF.or oR)) t hl u).imp λσ H Q j=>by
  obtain⟨A,δ,R,o⟩:=j;unfold bX at o;refine eD.run R (λd w v H1 k x y=>?_) (λC a H' s'=>by rw[a]at o;exact o H' s') (λa=>by rw[a]at o;exact o);simp only[w,Rs.aj]at o;refine oD.run x (λl z H2 s2 R2=>?_) (λC a H' s'=>by rw[a]at o;exact o H' (k.trans s')) (λa=>by rw[a]at o;exact o);simp only[z,Rs.aj]at o;refine oD.run R2 (λh B H3 r s=>?_) (λC a H' s'=>by rw[a]at o;exact o H' (k.trans (s2.trans s'))) (λa=>by rw[a]at o;exact o);simp only[B,Rs.aj]at o;have f:=y.same (s2.trans r).del;have b:=k.trans (s2.trans r);cases d with
  |list ds =>obtain⟨p,xs,rfl,g,c⟩:=f.ofLst;exact .inl ⟨p,xs,rfl,SqL.of (av _ _ g),λq i=>o _ _ (b.trans (aS i)) (dS s.ls i (c.cut l h))⟩
  |tuple ds =>
   obtain⟨p,xs,rfl,g,c⟩:=f.ofTup;by_cases hw:HT.sIx xs.length 0 l=0/\HT.sIx xs.length xs.length h=xs.length
   ·refine .inr (.inr ⟨p,xs,rfl,SqT.of (av _ _ g),hw,o _ _ b ?_⟩);have e:cutD ds l h=ds:=by unfold cutD;rw[<-c.length,hw.1,hw.2];simp[c.length]
    show Is X.K _ (.tuple (cutD ds l h)) _;rw[e];exact eZ g c
   ·exact .inr (.inl ⟨p,xs,rfl,SqT.of (av _ _ g),hw,λq i=>o _ _ (b.trans (aS i)) (eo s.ls i (c.cut l h))⟩)
  |_=>exact o.elim
def toV:PyData->V
 |.none=>.non
 |.bool b=>.bl b
 |.int i=>.int i
 |.str x=>.str x
 |_=>.non
def eV (f e:PyData->PyData->Option PyData) (a b c:Ds->Rs PyData):Ds->Rs PyData:=λδ=>(a δ).bind λx=>(b δ).bind λy=>(Rs.bS (f x y)).bind λz=>(truth z).bind λt=>if t=true then (c δ).bind λw=>Rs.bS (e y w) else .ok (.bool false)
theorem nj {k g:CmpOp} {r p:R2} {i:PyData->PyData->Option PyData} (y:OpR X (compareOp k) r) (l:OpR X (compareOp g) p) (B:OpD X.K f r) (m:OpD X.K i p) (ha:PD X E a ga) (D:PD X E b gb) (hc:PD X E c gc)
  (hm:lastMarks [k,g] [b,c]=false:=by with_unfolding_all rfl):PD X E (.Compare a [k,g] [b,c] pos) (eV f i ga gb gc):=(mr y l ha D hc hm).imp λσ H Q n=>by
 obtain⟨A,δ,R,o⟩:=n;unfold eV at o;refine eD.run R (λd1 e1 v H1 j F h1=>?_) (λC e H' s'=>by rw[e]at o;exact o H' s') (λe=>by rw[e]at o;exact o);simp only[e1,Rs.aj]at o;refine eD.run F (λd2 e2 u H2 s2 R2 h2=>?_) (λC e H' s'=>by rw[e]at o;exact o H' (j.trans s')) (λe=>by rw[e]at o;exact o);simp only[e2,Rs.aj]at o;cases e3:f d1 d2 with
 |none=>rw[e3]at o;exact o.elim
 |some z =>
  simp only[e3,Rs.aF,Rs.aj]at o;refine B d1 d2 z v u H2 A _ e3 R2.ls (h1.same s2.del) h2 λw G h I=>?_
  obtain⟨t,rfl,o⟩:=gg o;refine⟨t,I.ofBool,?_⟩;cases t with
  |false=>exact o _ G (j.trans (s2.trans h)) is_bool
  |true =>
   have o:dm X.K E A H ((gc δ).bind λw=>Rs.bS (i d2 w)) Q:=o;refine eD.run (R2.same h) (λq J L M s N O=>?_) (λC e H' s'=>by rw[e]at o;exact o H' (j.trans (s2.trans (h.trans s')))) (λe=>by rw[e]at o;exact o);simp only[J,Rs.aj]at o;cases e5:i d2 q with
   |none=>rw[e5]at o;exact o.elim
   |some d=>rw[e5]at o;exact m d2 q d u L M A Q e5 N.ls (h2.same (h.trans s).del) O λx P S T=>o x P (j.trans (s2.trans (h.trans (s.trans S)))) T
theorem oy (ha:PD X E a ga) (e:PD X E b gb) (hc:PD X E c gc) (hm:lastMarks [.LtE,.LtE] [b,c]=false):PD X E (.Compare a [.LtE,.LtE] [b,c] pos) (eV dLe dLe ga gb gc):=nj qf qf (j4 λ_ _ _ _=>is_bool) (j4 λ_ _ _ _=>is_bool) ha e hc hm
end
section
variable {E:XK} {a b c:Expr}
def u9 (i j c:Int):Nat:=(Builtin.Range.rangeSize i j c).toNat
def qL (i j c:Int):Bool:=decide (-(1000000)<=i/\i<=1000000/\-(1000000)<=j/\j<=1000000/\-(1000000)<=c/\c<=1000000/\c≠0)&&Builtin.Range.small i j c
def rl (lo c:Int) (n:Nat):List PyData:=(List.range n).map λ(i:Nat)=>PyData.int (lo+(i:Int)*c)
def tD:List PyData->Rs (List PyData)
 |[.int i,.int j,.int c]=>if qL i j c then .ok (rl i c (u9 i j c)) else .no
 |_=>.no
def uw (g:Ds->Rs (List PyData)):Ds->Rs (List PyData):=λδ=>(g δ).bind tD
def nz:List PyData->Rs (List PyData)
 |[.int j]=>if 0<=j/\j<=1000000 then .ok (bB 0 j.toNat) else .no
 |_=>.no
def gLR (g:Ds->Rs (List PyData)):Ds->Rs (List PyData):=λδ=>(g δ).bind nz
end
def kK (ds:List PyData):List PyData:=ds.mapIdx λi d=>.tuple [.int i,d]
section
variable {E:XK} {a b c k:Expr} {ga gb gk:Ds->Rs PyData}
def iT:List PyData->Rs (List PyData)
 |[.list ds]=>.ok (kK ds)
 |[.tuple ds]=>.ok (kK ds)
 |_=>.no
def uu (g:Ds->Rs (List PyData)):Ds->Rs (List PyData):=λδ=>(g δ).bind iT
end
section
variable {prog:Program} {A:Around}
end
section
variable {E:XK} {a b c:Expr} {ga gb gc:Ds->Rs PyData}
end
open AutoSeq1 (wpAny_loadPart')
open SeqAt (EqAt)
section
variable {E:XK} {a o:Expr} {ga go:Ds->Rs PyData}
def ng (xs:List PyData) (y:PyData):Option PyData:=if fo y&&xs.all fo then ((xs.map toV).findIdx? λz=>eqV z (toV y)).map λj=>.int j else none
def vb (go ga:Ds->Rs PyData):Ds->Rs PyData:=λδ=>(go δ).bind λd=>match d with
 |.tuple xs=>(ga δ).bind λy=>Rs.bS (ng xs y)
 |_=>.no
end
end L2
namespace L2
open PySem PySem.Spec PySem.Calls PyProof.Rows PySem.W PySem.Builtin PySem.Builtin.ObjectAttr PySem.Builtin.Getset_descriptor
section
variable {prog:Program} {A:Around} {K:Frag} {x:Addr} {ox:Obj}
structure f6 (h:Heap) (x:Addr) (D:Addr):Prop where
 ex:∃o,h.get? x=some o/\o.cls=.ref D
theorem f6.type (I:f6 h x D):Looks M h (typeOf (.ref x)) (.ref D):=by obtain⟨o,h1,h2⟩:=I.ex;exact h2▸(Looks.ld h1).andThen .now
theorem jN {R:Result->Shared->Prop} {a:Value} (X:K.In s.heap) (I:f6 s.heap x D) (hm:mroIn K D (.type "object")=some true)
  (h:R (.ok (.ret (.ref D))) s):codeAny (model prog w) A (.call (.builtin "getset_descriptor.__get__") ⟨[.builtin "object.__class__",.ref x,a],[]⟩) R s:=by
 obtain⟨hh,g,dr,t,os⟩:=s;have L0:=I.type (M:=model prog w);have L1:=looks_mroIn (M:=model prog w) X hm;refine codeAny_call_builtin KF.slot_gs.plain KF.entry_gs (KF.slot_gs.check _ _ _ _ _ _ _ _ KF.type_class (KF.args_gs _ _ _) ?_);unfold Builtin.«getset_descriptor.__get__» descrGet;rw[dga_obj];refine wpAny_bind (wpAny_pure ?_);unfold descrGetter descrCheckInstance descrNameAndClass isInstance;simp only[KF.owner_class]
 repeat lk
 refine⟨Code.quiet_builtin _ (by decide +kernel),codeAny_builtin KF.entry_class ?_⟩;unfold Builtin.«object.__class__» shownTypeOf
 repeat lk
 exact h
structure gq (K:Frag) (D:Addr):Prop where
 ga:findIn K (.ref D) "__getattribute__"=some (some (.builtin "BaseException.__getattribute__"))
 gt:findIn K (.ref D) "__getattr__"=some none
 cl:hasDictIn K D=true
 ca:findIn K (.ref D) "__class__"=some (some (.builtin "object.__class__"))
 gs:specialIn K (.builtin "object.__class__") "__get__"=some (some (.builtin "getset_descriptor.__get__"))
 tk:takesIn K (.builtin "object.__class__")=some true
 ob:mroIn K D (.type "object")=some true
 be:mroIn K D (.type "BaseException")=some true
theorem nH (X:K.In h) (Z:gq K D):Looks M h (find (.ref x) (.ref D) "__class__") (.bind (.builtin "getset_descriptor.__get__") (.builtin "object.__class__")):=by have a:=looks_findIn (M:=M) X Z.ca;have L2:Looks M h (getOf (some (.builtin "object.__class__"))) _:=looks_specialIn X Z.gs;have b:=looks_takesIn (M:=M) X Z.tk;unfold find;refine a.andThen (L2.andThen ?_);refine (show Looks M h (dataDescriptor? (some (.builtin "object.__class__")) (some (.builtin "getset_descriptor.__get__"))) _ from b.andThen .now).andThen ?_;exact Looks.tag .now
theorem l5 {tk:Tok} {Q:Fin->Shared->Prop} (X:K.In s.heap) (Z:gq K D) (I:f6 s.heap x D) (a:Q (.done (.ret (.ref D))) s) :
  wpAny (model prog w) A (Builtin.«object.__getattribute__» ⟨[.ref x,.str "__class__" tk],[]⟩) Q E s:=by
 obtain⟨hh,g,d,t,os⟩:=s;have b:=I.type (M:=model prog w);have c:=nH (x:=x) (M:=model prog w) X Z;refine wpAny_bind (wpAny_pure (wpAny_bind (wpAny_pure (wpAny_bind (b.at (wpAny_bind (c.at ?_)))))));show wpAny _ _ (holding [Value.builtin "object.__class__"] (call (.builtin "getset_descriptor.__get__") [.builtin "object.__class__",.ref x,.ref D]) >>= ret) _ _ _;exact wpAny_bind (wpAny_holding (wpAny_call (jN X I Z.ob (wpAny_pure a))))
theorem lq {a:Value} (X:K.In s.heap) (Z:gq K D) (I:f6 s.heap x D) (hq:Q () s):wpAny M A (checkBuiltinCall "BaseException.__getattribute__" ⟨[.ref x,a],[]⟩) Q E s:=by
 obtain⟨hh,g,d,t,os⟩:=s;have c:builtinKind "BaseException.__getattribute__"=some .slot:=by decide +kernel
 have b:splitId "BaseException.__getattribute__"=some ("BaseException", "__getattribute__"):=by decide +kernel
 have L0:=I.type (M:=M);have L1:=looks_mroIn (M:=M) X Z.be;have ha:=F.args_bexc_ga (.ref x) a;simp only[checkBuiltinCall,c,b];unfold isInstance
 repeat lk
 repeat (any_goals (first|assumption|wp_step))
theorem lu {Q:Option Value->Shared->Prop} (X:K.In s.heap) (Z:gq K D) (I:f6 s.heap x D) (h:Q (some (.ref D)) { s with toks:=s.toks+1 }):wpAny (model prog w) A (getAttr? (.ref x) "__class__") Q E s:=by obtain⟨a,g,d,t,os⟩:=s;have b:=I.type (M:=model prog w);have c:=looks_findIn (M:=model prog w) X Z.ga;have L2:=looks_findIn (M:=model prog w) X Z.gt;unfold getAttr? getAttrBy? getAttrBy;refine wpAny_bind (wpAny_mkText (wpAny_bind (wpAny_attempt (wpAny_holding (wpAny_bind (b.at (wpAny_bind (c.at ?_))))))));show wpAny _ _ (getAttrByItsOwn _ _ _ _ _ _) _ _ _;unfold getAttrByItsOwn;refine wpAny_bind (show wpAny _ _ (typeLookup (.ref D) "__getattr__") _ _ _ from L2.at ?_);refine wpAny_bind (wpAny_attempt (wpAny_holding ?_));show wpAny _ _ (boundAndCalled _ _ _) _ _ _;unfold boundAndCalled;rw[F.excAttr_ValueError.ga.bind (.ref x)];refine wpAny_bind (wpAny_pure ?_);refine wpAny_call (codeAny_call_builtin F.excAttr_ValueError.ga.plain F.entry_bexc_ga (lq (s:=⟨a,g,d,t+1,os⟩) X Z I (l5 (s:=⟨a,g,d,t+1,os⟩) X Z I ?_)));exact wpAny_pure (wpAny_pure h)
end
end L2
namespace L2
open PySem PySem.Spec PyProof.Rows
variable {a:Expr}
theorem nv {x:Addr} (Z:gq K D):PySem.W.KitX K (.ref x) (.ref D) (λh=>f6 h x D) where
 ty:=λ_ _ _ I=>I.type
 it:=λM h X _=>by
  obtain⟨cd,hc,_⟩:=PySem.W.any_some Z.cl;unfold PySem.W.clsIn at hc;split at hc
  ·rename_i a;intro A' Q' E' s' k q;unfold isType loadHead;exact wpAny_bind (wpAny_loadPart (k _ _ (X _ _ a)) (wpAny_pure q))
  ·cases hc
 ne:=λh c dd its n sl X b=>by
  obtain⟨cd,hc,_⟩:=PySem.W.any_some Z.cl;refine Bool.eq_false_iff.mpr λq=>?_
  obtain rfl:D=c:=Value.ref.inj (beq_iff_eq.mp q);unfold PySem.W.clsIn at hc;split at hc
  ·rename_i a;have z:=(X _ _ a).symm.trans b;cases z
  ·cases hc
 ca:=λX I k=>lu X Z I k
def qP:V->Value
 |.ref a=>.ref a
 |.ty T=>.type T
 |_=>.none
def jL:V->Bool
 |.ref _=>true
 |.ty _=>true
 |_=>false
theorem n9 {c:V} (h:jL c=true) (r:RelV c u):u=qP c:=by cases c <;> first|exact r|cases h
section
variable {E:XK}
theorem km (a:(ea,oe)∈X.pn) (f:oe.cls=.ref C) (Z:gq X.K C):dE X (.builtin "isinstance") (λxs H Q=>∃c b,xs=[.ref ea,c]/\jL c=true/\PySem.W.kitOne X.K (.ref C) (qP c)=some b/\Q (.bl b) H):=by intro pins s σ H xs us Q I r h;obtain⟨c,b,rfl,hc,e,q⟩:=h;obtain⟨u,u2,rfl,g,i⟩:=vals2 r;cases g;rw[n9 hc i];exact PySem.W.kia_one (nv Z) I.kIn ⟨oe,(I.pin (ea,oe) (Aa _ a)).1,f⟩ e (λz=>nomatch z) λtk=>⟨.bl b,H,I.tok tk,rfl,q⟩
def tXe (i:Nat) (ea:Addr) (v:V):TE:=λσ H Q=>σ[i]?=some (some (.ref ea))/\Q v H
theorem jQ {n:Str} {c:V} {b:Bool} {p1 p2:Pos} (l:(ea,oe)∈X.pn) (m:oe.cls=.ref C) (Z:gq X.K C) (hm:X.mg "isinstance"=none) (hi:X.N[i]?=some n) (hc:PE X (.Name x p2) (tC c)) (a:jL c=true) (e:PySem.W.kitOne X.K (.ref C) (qP c)=some b)
  (o:Vis X.env.scope n:=by first|exact Or.inl rfl|exact Or.inr (Or.inl rfl)|exact Or.inr (Or.inr rfl)) (hd:(n==("__debug__":Str))=false:=by decide) (f:(n==("__classdict__":Str))=false:=by decide) (r:Gl X "isinstance":=by rfl)
  (k:starEach [.Name n p1,.Name x p2] X.env=(false,eval (.Name n p1) X.env)::starEach [.Name x p2] X.env:=by rfl)
  (g:starEach [.Name x p2] X.env=(false,eval (.Name x p2) X.env)::starEach [] X.env:=by rfl) (h:(backTo pos (starEach [.Name x p2] X.env)).any (·.1)=false:=by rfl) :
  PE X (.Call (.Name "isinstance" p) [.Name n p1,.Name x p2] [] pos) (tXe i ea (.bl b)) :=
 (cu (km l m Z) r hm gW (bV (eP hi o hd f) (bV hc dg g) k) (by decide) (by decide) k h).imp λσ H Q j=>(by obtain⟨e1,q⟩:=j;exact⟨_,e1,c,b,rfl,a,e,q⟩)
theorem pb {b:BoolOp} (h:PE X a (tXe i ea v)):PE X (.BoolOp b [a] pos) (tXe i ea v):=nA h
theorem kA {b:Expr} {rest:List Expr} {x y:Bool} (ha:PE X a (tXe i ea (.bl x))) (c:PE X (.BoolOp .And (b::rest) pos) (tXe i ea (.bl y))):PE X (.BoolOp .And (a::b::rest) pos) (tXe i ea (.bl (x&&y))) :=
 (mP ha c).imp λσ H Q ⟨e1,q⟩=>⟨e1,x,rfl,by cases x with|true=>exact⟨e1,q⟩|false=>exact q⟩
theorem pQ {x:Bool} (ha:PE X a (tXe i ea (.bl x))):PE X (.UnaryOp .Not a pos) (tXe i ea (.bl (!x))):=(sP ha).imp λσ H Q b=>(by obtain⟨e1,q⟩:=b;exact⟨e1,x,rfl,q⟩)
theorem pK {d:PyData} (h:fo d=true):Is K H d (toV d):=by
 cases d with
 |none=>exact is_none
 |bool b=>exact is_bool
 |int i=>exact bf
 |str x=>exact kn
 |_=>cases h
theorem jY {Y:Cx}:(ea,oe)∈(sui Y ea oe).pn:=A5 _ (List.mem_singleton.mpr rfl)
theorem gG:bootBuiltins "ValueError"=some (.type "ValueError"):=by decide +kernel
end
def nE (te:TX) (C:Addr) (i:Nat) (ts:Addr->Obj->TS):TS:=λD σ H=>te σ H (λ_ H1=>D.nx σ H1) λcls _ H1=>cls=.ref C/\∀ea oe,H1 ea=none->oe.cls=.ref C->ts ea oe { nx:=λ_ _=>False,rt:=D.rt } (σ.set i (some (.ref ea))) H1
theorem jz {te:TX} {n:Str} {f b:Pos} {m:Stmt} {a:List Stmt} {ts:Addr->Obj->TS} (r:PEX X e te)
  (t:X.env.frame=some X.env.locals) (g:∃out,X.stack=X.env::out) (u:X.N.Nodup) (hi:X.N[i]?=some n) (hl:X.env.scope.names.lookup n=some .local)
  (w:Gl X x) (hm:X.mg x=some (.ref C)) (A:PySem.W.excIn X.K C bmB newId=true) (c:bmB.contains (.type "BaseException")=true) (E:∀ea oe,oe.cls=.ref C->PSs (sui X ea oe) (m::a) (ts ea oe)) (j:(x==("__debug__":Str))=false:=by decide)
  (k:swapsWith e none b.line X.env=pure false:=by rfl) :
  PS X (.Try [.Expr e b] [.ExceptHandler (some (.Name x p)) (some n) (m::a) f] [] [] pos) (nE te C i ts):=by
 intro pins s σ H D I h;refine wpAny_Try_except (wpAny_execs_cons (wpAny_Expr_any (wpAny_mono (r pins s σ H _ _ I h) (λv G h1=>?_) λev G h1=>?_) I.quiet k))
 ·obtain⟨y,H1,J,r1,L⟩:=h1;exact wpAny_execs_nil (wpAny_execs_nil ⟨σ,H1,J,L⟩)
 ·obtain⟨H1,s0,M,ea,cls,a0,H2,B,rfl,⟨rfl,qs⟩,F,_⟩:=h1;have hn:H2 ea=none:=by
   cases q:H2 ea with
   |none=>rfl
   |some o =>obtain⟨ob,z⟩:=(F.hok ea o q).get;rw[F.fly.2.1]at z;cases z
  exact lU (D:=D) (ts:=ts ea) M F t g u hi hl w hm A c (λoe l=>E ea oe l) (λoe l=>qs ea oe hn l) j
section
variable {E:XK}
theorem m4 {x:Bool} (a:x=true) (h:PE X e (tXe i ea (.bl x))):PE X e (tXe i ea (.bl true)):=by subst a;exact h
def iZ (C:Addr) (i:Nat) (gf:List PyData->Rs PyData) (gs:Ds->Rs (List PyData)) (d:PyData):Ds->Sr:=λδ=>if i<δ.length then (match gs δ with
 |.ok ds=>(match gf ds with
  |.ok _=>.nx δ
  |.rz C'=>if C'=C then .rt d else .no
  |.no=>.no)
 |_=>.no) else .no
theorem jc {f n:Str} {b:List Expr} {ex:Expr} {d:PyData} {U c M g W:Pos} (D:dX X.prog X.w X.K X.mg X.base k f (a::b).length gf) (hc:X.calm=true) (Y:bF j X.A)
  (ha:PAD X.nox E (a::b) gs) (P:fz X.K X.mg x C) (Z:X.N.Nodup) (h:fo d=true) (hx:∀ea oe,oe.cls=.ref C->PE (sui X ea oe) ex (tXe i ea (toV d))) (hk:k<=j:=by decide)
  (hf:X.env.frame=some X.env.locals:=by rfl) (l:∃out,X.stack=X.env::out:=by exact⟨_,rfl⟩) (hi:X.N[i]?=some n:=by rfl) (hl:X.env.scope.names.lookup n=some .local:=by rfl) (hg:Gl X x:=by rfl) (r:Gl X f:=by rfl)
  (s:(f==("__debug__":Str))=false:=by decide) (t:(x==("__debug__":Str))=false:=by decide) (he:starEach (a::b) X.env=(false,eval a X.env)::starEach b X.env:=by rfl) (y:(backTo c (starEach b X.env)).any (·.1)=false:=by rfl)
  (B:swapsWith (.Call (.Name f p) (a::b) [] c) none M.line X.env=pure false:=by rfl) :
  PSD X E O (.Try [.Expr (.Call (.Name f p) (a::b) [] c) M] [.ExceptHandler (some (.Name x U)) (some n) [.Return (some ex) g] W] [] [] pos) (iZ C i gf gs d):=by
 obtain⟨fa,fd,ps,F,hm,G,hb⟩:=D.ex;refine (jz (jt F hc (Y.mono hk) r hm G hb .nil ha.1 s he y) hf l Z hi hl hg P.m P.e (by decide) (λea oe Q=>df (d7 (hx ea oe Q))) t B).imp λDn σ H I=>?_
 obtain⟨H0,A0,A,δ,R,o⟩:=I;unfold iZ at o;split at o
 ·rename_i J;refine aD.run R.full (λds S vs H1 T R1 hv=>?_) (λC' L H' s'=>?_) (λL=>?_)
  ·simp only[S]at o;refine⟨A0,ds,R1.ls,by simpa using hv,ha.2 δ ds S,?_⟩;cases q:gf ds with
   |ok v=>rw[q]at o;exact λu H' s' hu=>o A σ H' (R.step (T.trans s'))
   |rz C' =>
    rw[q]at o;intro H' s';simp only at o;split at o
    ·rename_i z;subst z;refine⟨rfl,λea oe hn Q=>⟨?_,?_⟩⟩
     ·rw[Ao (by rw[<-R.len];exact J)]
     ·exact o _ H' (R.same.trans (T.trans s')) (pK h)
    ·exact o.elim
   |no=>rw[q]at o;exact o.elim
  ·simp only[L]at o;exact o.elim
  ·simp only[L]at o;exact o
 ·exact o.elim
end
section
variable {A:Around} {P:Prop}
theorem lM {e:Addr}
  (k:A.frames=some (env::outer)) (w:env.frame=some L) (l:Heap.FlyingW base (env::outer) e cls a0 s.heap) (C:P->f7 s.heap e)
  (D:∀h',Heap.FlyingW base (env::outer) e cls a0 h'->s.heap.UpToSlots h'->(P->f7 h' e)->Q () { s with heap:=h' }):wpAny M A (noteFrame (.ref e) env) (λ_ s'=>wpAny M A (setFlight (.ref e) none) Q E s') E s:=by
 obtain⟨m,i,hl,oe,vs,T,oT,ts,n,⟨j,F⟩,hd,h1,r,t,u,g,x⟩:=l;subst j;unfold noteFrame;simp only[w];refine wpAny_bind (wpAny_field n hd h1 ?_);rw[if_pos (show (Value.ref T != Value.none)=true from by simp)];refine wpAny_bind (wpAny_field u g x ?_);rw[if_neg (show ¬ ((Value.none==rawInt L)=true) from by simp[rawInt])];refine wpAny_bind (wpAny_setField u g (An.mp x).1 ?_);have other:∀b,b≠T->(s.heap.update T (Obj.mapFields (·.setIfInBounds 3 Value.none))).get? b=s.heap.get? b:=λb f=>Aj _ _ (Ne.symm f)
 have a:∀b o,s.heap.get? b=some o->(∀vs,o.data≠.fields vs)->b≠T:=λb o f c q=>by rw[q,u]at f;injection f with f;subst f;exact c ts g
 refine eX (P:=P) k (hl.of_keeps λb o f c=>⟨o,(other b (a b o f c)).trans f,rfl⟩) w ((other e (Ne.symm t)).trans n)
  (λb o h=>(other b λq=>by rw[q,r]at h;cases h).trans (m b o h)) i hd (An.mp h1).1 F (λp=>?_)
  λh' v y=>(by obtain⟨G,H,I,J⟩:=v;exact D h' ⟨G,i,H,I⟩ (λb o f c=>J b o ((other b (a b o f c)).trans f) c) y)
 obtain⟨oe',vs',z,B,K⟩:=C p;rw[n]at z;cases z;rw[hd]at B;cases B;exact K
theorem nG {l:List Env} {e:Addr} (y:Heap.FlyingW base l e cls a0 s.heap) (z:P->f7 s.heap e)
  (B:∀h',Heap.FlyingW base l e cls a0 h'->s.heap.UpToSlots h'->(P->f7 h' e)->Q () { s with heap:=h' }):wpAny M A (setFlight (.ref e) none) Q E s:=by
 obtain⟨r,t,hl,oe,vs,T,oT,ts,x,m,hd,h1,n,j,u,h,C⟩:=y;have i:3<ts.size:=(An.mp C).1;have other:∀b,b≠T->(s.heap.update T (Obj.mapFields (·.setIfInBounds 3 ((none:Option Addr).elim Value.none λf=>rawInt f)))).get? b=s.heap.get? b :=
  λb c=>Aj _ _ (Ne.symm c)
 have a:∀b o,s.heap.get? b=some o->(∀vs,o.data≠.fields vs)->b≠T:=λb o c g q=>by rw[q,u]at c;injection c with c;subst c;exact g ts h
 unfold setFlight;refine wpAny_bind (wpAny_field x hd h1 ?_);rw[if_pos (show (Value.ref T != Value.none)=true from by simp)];refine wpAny_setField u h i (B _ ⟨λb o k=>(other b λq=>by rw[q,n]at k;cases k).trans (r b o k),t,
  hl.of_keeps λb o c g=>⟨o,(other b (a b o c g)).trans c,rfl⟩,?_⟩ (λb o c g=>⟨o.slots,(other b (a b o c g)).trans c⟩) λp=>?_)
 ·exact⟨oe,vs,T,_,_,(other e (Ne.symm j)).trans x,m,hd,h1,n,j,AE _ u (Obj.isFreed_of_fields (Obj.data_mapFields h _)),Obj.data_mapFields h _,by simp[i]⟩
 ·obtain⟨v,w,D,F,G⟩:=z p;exact⟨v,w,(other e (Ne.symm j)).trans D,F,G⟩
end
def gz (X:Cx) (ea:Addr) (oe:Obj):Cx:={ X with A:=X.A.mark (some (.ref ea)),pn:=X.pn++[(ea,oe)],xe:=λ_ _=>False }
theorem Inv.gz (I:Inv X pins σ H s) (e:∃vs,oe.data=.fields vs/\vs[2]?=some .none)
  (h:s.heap.get? ea=some oe/\H ea=none/\ea≠X.env.locals/\ea∉X.fs/\∀v,oe.data≠.cell v):Inv (L2.gz X ea oe) pins σ H s :=
 ⟨⟨I.ok.mod,I.ok.kind,I.ok.glob,I.ok.blt,I.ok.above,I.ok.inj,I.ok.has,I.ok.cab,(λ_=>let ⟨vs,a,b⟩:=e;.inr ⟨ea,oe,vs,rfl,A5 _ (List.mem_singleton.mpr rfl),a,b⟩),I.ok.frames,I.ok.stk,I.ok.exf,I.ok.bs,I.ok.bsz,I.ok.noex,I.ok.exfs,I.ok.funs,I.ok.frf⟩,
  I.os,I.bare,I.base,I.loc,I.cell,I.free,I.freeC,λp c=>by
   rcases Ac.mp c with c|c
   ·rcases Ac.mp (show p∈X.pn++[(ea,oe)] from c) with c|c
    ·exact I.pin p (Aa _ c)
    ·cases List.mem_singleton.mp c;exact h
   ·exact I.pin p (A5 _ c),I.hok,I.len,I.tab⟩
theorem Inv.unsuiC (ok:X.Ok) (I:Inv (L2.gz X ea oe) pins σ H s):Inv X pins σ H s :=
 ⟨ok,I.os,I.bare,I.base,I.loc,I.cell,I.free,I.freeC,λp a=>by
  rcases Ac.mp a with a|a
  ·exact I.pin p (Aa _ (Aa _ a))
  ·exact I.pin p (A5 _ a),I.hok,I.len,I.tab⟩
theorem k9 {B:Heap} {N g:Pos} {G:Stmt} {a:List Stmt} {D:Ends} {ts:TS}
  (I:Inv X pins σ H s) (F:ka X.prog X.w X.stack H s H' B ea (.ref C) a0 s') (O:f7 s'.heap ea) (Q:X.env.frame=some X.env.locals) (b:∃out,X.stack=X.env::out)
  (R:Gl X x) (hm:X.mg x=some (.ref C)) (S:PySem.W.excIn X.K C bmB newId=true) (f:bmB.contains (.type "BaseException")=true)
  (T:∀oe,PSs (gz X ea oe) (G::a) ts)
  (q:ts { nx:=λ_ _=>False,rt:=D.rt } σ H')
  (o:(x==("__debug__":Str))=false:=by decide) :
  wpAny (model X.prog X.w) X.A (noteFrame (.ref ea) X.env) (λ_ s2=>wpAny (model X.prog X.w) X.A (setFlight (.ref ea) none) (λ_ U =>
   wpAny (model X.prog X.w) X.A (handleBy (.ref ea) X.env [.ExceptHandler (some (.Name x N)) none (G::a) g]) (SP X pins D) X.xe U) X.xe s2) X.xe s':=by
 obtain⟨out,b⟩:=b;have p:X.A.frames=some (X.env::out):=by rw[<-b];exact I.ok.frames
 have h:Heap.FlyingW B (X.env::out) ea (.ref C) a0 s'.heap:=by rw[<-b];exact F.fly
 refine lM (P:=True) p Q h (λ_=>O) λJ i c r=>?_
 have e:Heap.FlyingW B X.stack ea (.ref C) a0 J:=by rw[b];exact i
 have L:Inv X pins σ H' { s' with heap:=J }:=F.inv I i.1 c;obtain⟨oe,hc,M⟩:=F.apart I e c;have Y:=Inv.sui L M;refine wpAny_handleBy_cons (codeAny_handlers_test (dW (X:=sui X ea oe) Y R hm ?_ o)) (by intro z;cases z);obtain⟨bm,Nn,nm,qn,bs,hdct,sn,sub,ab,col,dd,k0,k1,k2,k3,k5,mN,t,hN0,hni,Z⟩:=iO L.kIn S;refine wpAny_excMatches_sub_self t M.1 hc (Z.hasType f) (codeAny_handlers_suite ?_);refine nG (P:=True) e r λh6 j k y=>?_
 have I6:Inv X pins σ H' { s' with heap:=h6 }:=F.inv I j.1 (c.trans k);obtain⟨l,hc6,m⟩:=F.apart I j (c.trans k);have cn:∃vs,l.data=.fields vs/\vs[2]?=some .none:=by obtain⟨oe',vs',q1,q2,q3⟩:=y trivial;have:=m.1;rw[q1]at this;cases this;exact⟨_,q2,q3⟩
 have J6:=Inv.gz I6 cn m;refine wpAny_mono (T l pins _ _ H' { nx:=λ_ _=>False,rt:=D.rt } J6 q) (λfl s8 n=>?_) λ_ _ z=>z.elim
 cases fl with
 |ret u =>obtain⟨v,E,H8,J8,rv,qv⟩:=n;exact⟨v,E,H8,Inv.unsuiC I.ok J8,rv,qv⟩
 |next=>obtain⟨_,_,_,z⟩:=n;exact z.elim
 |brk=>obtain⟨_,_,_,z⟩:=n;exact z.elim
 |cont=>obtain⟨_,_,_,z⟩:=n;exact z.elim
def qQ (te:TX) (C:Addr) (ts:TS):TS:=λD σ H=>te σ H (λ_ H1=>D.nx σ H1) λcls _ H1=>cls=.ref C/\ts { nx:=λ_ _=>False,rt:=D.rt } σ H1
theorem kZ {te:TX} {l f b:Pos} {k:Stmt} {a:List Stmt} {ts:TS} (m:PEX X e te) (hn:∀pins σ H s,Inv X pins σ H s->X.A.handled=none)
  (n:X.env.frame=some X.env.locals) (g:∃out,X.stack=X.env::out)
  (o:Gl X x) (hm:X.mg x=some (.ref C)) (p:PySem.W.excIn X.K C bmB newId=true) (c:bmB.contains (.type "BaseException")=true) (q:∀ea oe,PSs (gz X ea oe) (k::a) ts) (i:(x==("__debug__":Str))=false:=by decide)
  (j:swapsWith e none b.line X.env=pure false:=by rfl) :
  PS X (.Try [.Expr e b] [.ExceptHandler (some (.Name x l)) none (k::a) f] [] [] pos) (qQ te C ts):=by
 intro pins s σ H D I h;have hn:=hn _ _ _ _ I;refine wpAny_Try_except (wpAny_execs_cons (wpAny_Expr_any (wpAny_mono (m pins s σ H _ _ I h) (λv r h1=>?_) λev r h1=>?_) I.quiet j))
 ·obtain⟨y,H1,t,r1,u⟩:=h1;exact wpAny_execs_nil (wpAny_execs_nil ⟨σ,H1,t,u⟩)
 ·obtain⟨H1,s0,w,ea,cls,a0,H2,B,rfl,⟨rfl,qs⟩,F,z⟩:=h1;exact k9 (D:=D) (ts:=ts) w F (z hn) n g o hm p c (λoe=>q ea oe) qs i
theorem bF.sui (r:bF k X.A) (h:29<=k):bF 29 (gz X ea oe).A :=
 ⟨λz=>absurd z (by decide),by have:=r.dp;show X.A.depth+3*29+5<_;omega,by have:=r.un;show X.A.units+16*29+200<_;omega⟩
section
variable {E:XK}
def fT (C:Addr) (gf:List PyData->Rs PyData) (gs:Ds->Rs (List PyData)) (g:Ds->Rs PyData):Ds->Sr:=λδ=>match gs δ with
 |.ok ds=>(match gf ds with
  |.ok _=>.nx δ
  |.rz C'=>if C'=C then (match g δ with
   |.ok d=>.rt d
   |_=>.no) else .no
  |.no=>.no)
 |_=>.no
theorem lI {f:Str} {b:List Expr} {ex:Expr} {T c L h U:Pos} (D:dX X.prog X.w X.K X.mg X.base k f (a::b).length gf) (hc:X.calm=true) (i:bF j X.A) (M:30<=j)
  (ha:PAD X.nox E0 (a::b) gs) (N:fz X.K X.mg x C) (W:∀ea oe,bF 29 (gz X ea oe).A->PD (gz X ea oe) E0 ex g) (Y:k<=j:=by decide)
  (Z:X.env.frame=some X.env.locals:=by rfl) (l:∃out,X.stack=X.env::out:=by exact⟨_,rfl⟩) (hg:Gl X x:=by rfl) (n:Gl X f:=by rfl)
  (r:(f==("__debug__":Str))=false:=by decide) (s:(x==("__debug__":Str))=false:=by decide) (he:starEach (a::b) X.env=(false,eval a X.env)::starEach b X.env:=by rfl) (t:(backTo c (starEach b X.env)).any (·.1)=false:=by rfl)
  (y:swapsWith (.Call (.Name f p) (a::b) [] c) none L.line X.env=pure false:=by rfl) :
  PSD X E O (.Try [.Expr (.Call (.Name f p) (a::b) [] c) L] [.ExceptHandler (some (.Name x T)) none [.Return (some ex) h] U] [] [] pos) (fT C gf gs g):=by
 obtain⟨fa,fd,ps,F,hm,B,hb⟩:=D.ex;refine (kZ (ts:=ub (eD X.K E0 g)) (jt F hc (i.mono Y) n hm B hb .nil ha.1 r he t) (λ_ _ _ _ _=>i.hd M) Z l hg N.m N.e (by decide) (λea oe=>df (d7 (show PE (gz X ea oe) ex (eD X.K E0 g) from W ea oe (i.sui (Nat.le_of_succ_le M))))) s y).imp λDn σ H G=>?_
 obtain⟨H0,A0,A,δ,R,o⟩:=G;unfold fT at o;refine aD.run R.full (λds P vs H1 Q S hv=>?_) (λC' I H' s'=>?_) (λI=>?_)
 ·simp only[P]at o;refine⟨A0,ds,S.ls,by simpa using hv,ha.2 δ ds P,?_⟩;cases q:gf ds with
  |ok v=>rw[q]at o;exact λu H' s' hu=>o A σ H' (R.step (Q.trans s'))
  |rz C' =>
   rw[q]at o;intro H' s';simp only at o;split at o
   ·rename_i z;subst z;refine⟨rfl,A0,δ,S.same s',?_⟩;cases qg:g δ with
    |ok d =>rw[qg]at o;exact λv H2 s2 J=>o v H2 (R.same.trans (Q.trans (s'.trans s2))) J
    |rz C2=>rw[qg]at o;exact o.elim
    |no=>rw[qg]at o;exact o.elim
   ·exact o.elim
  |no=>rw[q]at o;exact o.elim
 ·simp only[I]at o;exact o.elim
 ·simp only[I]at o;exact o
end
section
variable {E:XK}
end
section
variable {E:XK} {H0:Hp} {A0:List Addr}
theorem eM {C:List Addr} (h:∀a∈C,a∈B):ak (del H B) (del H C):=λb o e=>by obtain⟨h1,h2⟩:=b8 e;rw[aQ λz=>h1 (h b z)];exact h2
theorem aX.release (R:aX K H0 A0 H A O δ σ) (hi:i∈O) (e:δ[i]?=some (some (.list ds))):∃o,aX K H0 A0 H o (O.filter (·≠i)) δ σ:=by
 obtain⟨a,xs,ds',e1,h1,h2,p,r⟩:=R.ownL hi e;cases p;have sub:∀b∈A.filter (·≠a)++A0,b∈A++A0:=λb c=>by
  rcases Ac.mp c with z|z
  ·exact Aa _ (Am.mp z).1
  ·exact A5 _ z
 have s:a∉A.filter (·≠a)++A0:=λz=>by
  rcases Ac.mp z with z|z
  ·have:=(Am.mp z).2;simp at this
  ·exact R.apart h1 z
 refine⟨A.filter (·≠a),?_⟩;exact {
  same:=R.same
  ls0:=R.ls0
  new:=λb c=>R.new b (Am.mp c).1
  ls:=λb c=>R.ls b (Am.mp c).1
  len:=R.len
  pl:=λj d f q=>by
   by_cases z:j=i
   ·subst z;rw[e]at q;cases q;exact⟨.ref a,e1,iQ (xs:=xs) (by rw[aQ s];exact h2) (r.same (eM sub))⟩
   ·have h:j∉O:=λw=>f (Am.mpr ⟨w,by simpa using z⟩)
    obtain⟨v,g,l⟩:=R.pl j d h q;exact⟨v,g,l.same (eM sub)⟩
  own:=λj d f q=>by
   obtain⟨n,m⟩:=Am.mp f;have m:j≠i:=by simpa using m
   obtain⟨b,ys,es,g,l,t,u,x⟩:=R.own j d n q;refine⟨b,ys,es,g,Am.mpr ⟨l,?_⟩,t,u,x.same (eM sub)⟩;have:b≠a:=λw=>by subst w;exact m (R.inj j i d _ b n hi q e g e1)
   simpa using this
  inj:=λj k d e a f y=>R.inj j k d e a (Am.mp f).1 (Am.mp y).1 }
def gJ (i:Nat) (G:Ds->Sr):Ds->Sr:=λδ=>match δ[i]? with
 |some (some (.list _))=>(match G δ with
  |.rt d=>.rt d
  |.rz C=>.rz C
  |_=>.no)
 |_=>.no
theorem kq {O':List Nat} {ss:List Stmt} {G:Ds->Sr} (h:PBD X E O' ss G) (hi:i∈O:=by decide) (b:O.filter (·≠i)=O':=by decide):PBD X E O ss (gJ i G):=by
 subst b;exact h.imp λD σ H a=>by
  obtain⟨H0,A0,A,δ,R,o⟩:=a;unfold gJ at o;split at o
  ·rename_i ds q;obtain⟨c,e⟩:=R.release hi q;refine⟨H0,A0,c,δ,e,?_⟩;cases g:G δ with
   |rt d=>rw[g]at o;exact o
   |rz C=>rw[g]at o;exact o
   |nx _=>rw[g]at o;exact o.elim
   |bk _=>rw[g]at o;exact o.elim
   |ct _=>rw[g]at o;exact o.elim
   |no=>rw[g]at o;exact o.elim
  ·exact o.elim
end
section
variable {E:XK} {b c:Expr} {ga gb gc:Ds->Rs PyData}
end
section
variable {E:XK}
end
section
variable {E:XK}
end
end L2
namespace PyProof.Rows
open PySem
section
variable {prog:Program} {A:Around}
end
end PyProof.Rows
namespace L2
open PySem PySem.Spec PyProof.Rows
section
variable {E:XK} {a:Expr}
end
section
variable {E:XK} {a b:Expr} {ga gb:Ds->Rs PyData}
end
section
variable {prog:Program} {A:Around} {R:Result->Shared->Prop} {I:Addr} {wr:List Addr} {T:Nat->Value->Prop} {St:Nat->Heap->Prop} {dv:Value}
variable {l:Addr} {xs:Array (Int×Tok)}
end
section
variable {E:XK} {a b:Expr} {ga gb:Ds->Rs PyData}
end
end L2
namespace RS
open PySem
set_option genInjectivity true in
structure Er where
 every:Int
 due:Int
 late:Int
 parts:List (Int×Option Int)
def fu:Option Int->PyData
 |none=>.none
 |some i=>.int i
def ag (p:Int×Option Int):PyData:=.tuple [.int p.1,fu p.2]
def Er.d (e:Er):PyData:=.tuple [.int e.every,.int e.due,.int e.late,.tuple (e.parts.map ag)]
def ar (es:List Er):PyData:=.tuple (es.map Er.d)
def isWhole (d:PyData) (lo hi:Int):Bool:=match d with
 |.int i=>decide (lo<=i)&&decide (i<=hi)
 |_=>false
def aV (d:PyData) (lo hi:Int):Bool:=match d with
 |.tuple ds=>decide (lo<=(ds.length:Int))&&decide ((ds.length:Int)<=hi)
 |_=>false
def aU (d:PyData):Bool:=match d with
 |.tuple [a,b]=>isWhole a 1 20&&(match b with|.none=>true|b=>isWhole b 0 3)
 |_=>false
def cU (ds:List PyData):Bool:=match ds.getLast? with
 |some (.tuple [_,.none])=>true
 |_=>false
def a4 (d:PyData):Bool:=match d with
 |.tuple ds=>decide (1<=ds.length)&&decide (ds.length<=4)&&ds.all aU&&cU ds
 |_=>false
def aC (d:PyData):Bool:=match d with
 |.tuple [.int e,du,.int l,ps]=>decide (2<=e)&&decide (e<=60)&&(decide (0<=l)&&decide (l<=(if e-1<20 then e-1 else 20)))&&isWhole du 1 (e-l)&&a4 ps
 |_=>false
def aN (d:PyData):Bool:=match d with
 |.tuple ds=>decide (1<=ds.length)&&decide (ds.length<=6)&&ds.all aC
 |_=>false
structure Er.Ok (e:Er):Prop where
 e1:2<=e.every
 e2:e.every<=60
 l1:0<=e.late
 l2:e.late<=20
 l3:e.late<e.every
 d1:1<=e.due
 d2:e.due<=e.every-e.late
 p1:e.parts≠[]
 p2:e.parts.length<=4
 pl:∀p∈e.parts,1<=p.1/\p.1<=20/\∀t,p.2=some t->0<=t/\t<=3
 la:∀p,e.parts.getLast?=some p->p.2=none
theorem lh {p:Int×Option Int} (h1:1<=p.1) (h2:p.1<=20) (c:∀t,p.2=some t->0<=t/\t<=3):aU (ag p)=true:=by
 obtain⟨l,t⟩:=p;cases t with
 |none=>simp[aU,ag,fu,isWhole,h1,h2]
 |some t =>obtain⟨a,b⟩:=c t rfl;simp[aU,ag,fu,isWhole,h1,h2,a,b]
theorem iW {e:Er} (h:e.Ok):aC e.d=true:=by
 have f:(e.parts.map ag).all aU=true:=by rw[AL];intro d hd;obtain⟨p,f,rfl⟩:=Ah.mp hd;obtain⟨a,b,c⟩:=h.pl p f;exact lh a b c
 have hl:cU (e.parts.map ag)=true:=by
  unfold cU;rw[List.getLast?_map];cases q:e.parts.getLast? with
  |none=>exact absurd (List.getLast?_eq_none_iff.mp q) h.p1
  |some p =>obtain⟨l,t⟩:=p;have:t=none:=h.la _ q;subst this;rfl
 have hn:1<=e.parts.length:=by
  cases q:e.parts with
  |nil=>exact absurd q h.p1
  |cons _ _=>simp
 have h1:=h.e1;have h2:=h.e2;have i:=h.l1;have h4:=h.l2;have h5:=h.l3;have j:=h.d1;have k:=h.d2;have m:=h.p2;have g:e.late<=if e.every-1<20 then e.every-1 else 20:=by split <;> omega
 show (decide (2<=e.every)&&decide (e.every<=60)&&(decide (0<=e.late)&&decide (e.late<=(if e.every-1<20 then e.every-1 else 20)))&&(decide (1<=e.due)&&decide (e.due<=e.every-e.late))&&(decide (1<=(e.parts.map ag).length)&&decide ((e.parts.map ag).length<=4)&&(e.parts.map ag).all aU&&cU (e.parts.map ag)))=true;rw[Af,f,hl,decide_eq_true h1,decide_eq_true h2,decide_eq_true i,decide_eq_true g,decide_eq_true j,decide_eq_true k,decide_eq_true hn,decide_eq_true m];rfl
theorem iH {es:List Er} (h1:1<=es.length) (h2:es.length<=6) (h:∀e∈es,e.Ok):aN (ar es)=true:=by
 have a:(es.map Er.d).all aC=true:=by rw[AL];intro d hd;obtain⟨e,b,rfl⟩:=Ah.mp hd;exact iW (h e b)
 simp[aN,ar,h1,h2,a]
def cellAt (ns:List Int) (k:Int):Int :=
 if k<(ns.length:Int) then ns.getD k.toNat 0 else if ns=[] then 0 else ns.getD (k % (ns.length:Int)).toNat 0*31+k
def lp (ns:List Int) (k:Int):Int:=(cellAt ns k+7919*k+1)*48271 % 2147483647
def mixed (ns:List Int) (k many:Int):Int:=(lp ns k*lp ns k+7*lp ns k+k) % 2147483629 % many
theorem oZ (ns:List Int) (k:Int):0<=lp ns k:=Ay _ (by decide)
theorem pL (ns:List Int) (k:Int):lp ns k<2147483647:=Ar _ (by decide)
theorem aT (ns:List Int) (k:Int) (h:0<many):0<=mixed ns k many:=Ay _ (by omega)
theorem a7 (ns:List Int) (k:Int) (h:0<many):mixed ns k many<many:=Ar _ h
def d5 (i:Int):Option Int:=if i=0 then some 0 else if i=1 then some 1 else if i=2 then some 1 else if i=3 then some 0 else none
def bM (ns:List Int) (j:Int) (a:Bool):Int×Option Int:=(1+mixed ns j 40 % 4,if a then d5 (mixed ns j 40 / 4 % 5) else none)
def cN (ns:List Int) (at' a:Int):Int :=
 if a-1<mixed ns (at' + 1) 4*(if mixed ns (at' + 2) 3=0 then 1 else 0) then a-1 else mixed ns (at' + 1) 4*(if mixed ns (at' + 2) 3=0 then 1 else 0)
def fh (ns:List Int) (at' a:Int):Int:=if mixed ns (at' + 1) 3=0 then a-mixed ns (at' + 2) a else a
def mkE (ns:List Int) (at' top:Int) (a:Bool):Er where
 every:=3+mixed ns at' top
 late:=cN ns at' (3+mixed ns at' top)
 due:=fh ns at' (3+mixed ns at' top-cN ns at' (3+mixed ns at' top))
 parts:=((List.range (mixed ns (at' + 3) 3).toNat).map λ(k:Nat)=>bM ns (at' + 4+(k:Int)) a)++[(1+mixed ns (at' + 6) 3,none)]
def fy (ns:List Int) (at' most top:Int) (a:Bool):List Er:=(List.range (1+mixed ns at' most).toNat).map λ(k:Nat)=>mkE ns (at' + 1+7*(k:Int)) top a
theorem i6 (ns:List Int) (at' a:Int) (h:3<=a):0<=cN ns at' a/\cN ns at' a<=3/\cN ns at' a<a:=by
 have h1:=aT ns (at' + 1) (many:=4) (by decide);have h2:=a7 ns (at' + 1) (many:=4) (by decide);unfold cN;generalize mixed ns (at' + 1) 4=x at *;by_cases hc:mixed ns (at' + 2) 3=0
 ·simp only[hc,if_true,Int.mul_one];split <;> omega
 ·simp only[hc,if_false,Int.mul_zero];split <;> omega
theorem n5 (ns:List Int) (at' a:Int) (h:1<=a):1<=fh ns at' a/\fh ns at' a<=a:=by have h1:=aT ns (at' + 2) (many:=a) (by omega);have h2:=a7 ns (at' + 2) (many:=a) (by omega);unfold fh;split <;> omega
theorem pk (i t:Int) (h:d5 i=some t):0<=t/\t<=1:=by
 unfold d5 at h
 repeat' split at h
 all_goals (first|(cases h;decide)|cases h)
theorem mE (ns:List Int) (j:Int) (a:Bool):1<=(bM ns j a).1/\(bM ns j a).1<=4/\∀t,(bM ns j a).2=some t->0<=t/\t<=1:=by
 have h1:0<=mixed ns j 40 % 4:=Ay _ (by decide);have h2:mixed ns j 40 % 4<4:=Ar _ (by decide);refine⟨by unfold bM;simp only;omega,by unfold bM;simp only;omega,λt h=>?_⟩;unfold bM at h;simp only at h;cases a with
 |false=>simp at h
 |true=>simp at h;exact pk _ _ h
theorem rG (ns:List Int) (at' top:Int) (a:Bool) (h1:0<top) (h2:top<=58):(mkE ns at' top a).Ok:=by
 have a1:=aT ns at' h1;have a2:=a7 ns at' h1;have l:=i6 ns at' (3+mixed ns at' top) (by omega);have d:=n5 ns at' (3+mixed ns at' top-cN ns at' (3+mixed ns at' top)) (by omega);have n1:=aT ns (at' + 3) (many:=3) (by decide);have n2:=a7 ns (at' + 3) (many:=3) (by decide);have n3:=aT ns (at' + 6) (many:=3) (by decide);have n4:=a7 ns (at' + 6) (many:=3) (by decide);refine⟨?_,?_,l.1,?_,l.2.2,d.1,d.2,?_,?_,?_,?_⟩
 ·show 2<=3+mixed ns at' top;omega
 ·show 3+mixed ns at' top<=60;omega
 ·have:=l.2.1;show cN ns at' (3+mixed ns at' top)<=20;omega
 ·simp[mkE]
 ·simp only[mkE,Ae,Af,List.length_range,Av];omega
 ·intro p b;simp only[mkE,Ac,Ah,List.mem_singleton]at b;rcases b with⟨k,_,rfl⟩|rfl
  ·have:=mE ns (at' + 4+(k:Int)) a;refine⟨this.1,by omega,λt c=>?_⟩;have:=this.2.2 t c;omega
  ·exact⟨by simp only;omega,by simp only;omega,λt c=>by cases c⟩
 ·intro p b;simp only[mkE,List.getLast?_append,List.getLast?_singleton,Option.some_or]at b;cases b;rfl
theorem nU (ns:List Int) (at' most top:Int) (a:Bool) (h:0<most):1<=(fy ns at' most top a).length/\((fy ns at' most top a).length:Int)<=most:=by have h1:=aT ns at' h;have h2:=a7 ns at' h;simp only[fy,Af,List.length_range];omega
theorem oB (ns:List Int) (at' most top:Int) (a:Bool) (h1:0<top) (h2:top<=58):∀e∈fy ns at' most top a,e.Ok:=by intro e b;simp only[fy,Ah]at b;obtain⟨k,_,rfl⟩:=b;exact rG _ _ _ _ h1 h2
end RS
namespace RS
open PySem L2
structure Cs where
 RankError:Addr
 NoErrands:Addr
 NoRanks:Addr
 NoComings:Addr
 NoErrand:Addr
 NoNumber:Addr
 TooLong:Addr
 NoText:Addr
 Holding:Addr
 Jobs:Addr
abbrev Gf:=List PyData->Rs PyData
def bO (K:PySem.W.Frag) (mg:Str->Option Value) (x:Str) (st:Stmt) (ps:List Str):Prop:=∃f fd,Fun K x x st f fd/\Binds K fd ps []/\mg x=some (.ref f)
def de (cs:Cs):Ds->Sr :=
 (aR (sIf (cOr (dY (gT (g1 (ic "int") (ae 0)))) (gT (g1 (ic "bool") (ae 0)))) (bj (gC (.bool false))) bq)
  (bj (eV dLe dLe (ae 1) (ae 0) (ae 2))))
def c6 (cs:Cs):Ds->Sr :=
 (bj (o1 (g1 (ic "tuple") (ae 0)) (eV dLe dLe (ae 1) (gF cX (aa (ae 0) af)) (ae 2))))
def cE (cs:Cs) (aA az:Gf):Ds->Sr :=
 (aR (sIf (cOr (dY (gT (au az (aa (ae 0) (aa (gC (.int 2)) (aa (gC (.int 2)) af)))))) (dY (gT (au aA (aa (g2 dIx (ae 0) (gC (.int 0))) (aa (gC (.int 1)) (aa (gC (.int 20)) af))))))) (bj (gC (.bool false))) bq)
  (bj (gOr (g1 pR (g2 dIx (ae 0) (gC (.int 1)))) (au aA (aa (g2 dIx (ae 0) (gC (.int 1))) (aa (gC (.int 0)) (aa (g2 en (gC (.int 4)) (gC (.int 1))) af)))))))
def cw (cs:Cs) (az a:Gf):Ds->Sr :=
 (aR (sIf (cOr (dY (gT (au az (aa (ae 0) (aa (gC (.int 1)) (aa (gC (.int 4)) af)))))) (dY (gT (gF lY (aa (gL (bh 1 (dh (ae 0)) bA (au a (aa (ae 1) af)) aY)) af))))) (bj (gC (.bool false))) bq)
  (bj (g1 pR (g2 dIx (g2 dIx (ae 0) (g1 dq (gC (.int 1)))) (gC (.int 1))))))
def bp (cs:Cs) (aA a az:Gf):Ds->Sr :=
 (aR (sIf (dY (gT (au az (aa (ae 0) (aa (gC (.int 4)) (aa (gC (.int 4)) af)))))) (bj (gC (.bool false))) bq)
  (aR (bD [] 1 (g2 dIx (ae 0) (gC (.int 0))))
  (aR (bD [] 2 (g2 dIx (ae 0) (gC (.int 1))))
  (aR (bD [] 3 (g2 dIx (ae 0) (gC (.int 2))))
  (aR (sIf (dY (gT (au aA (aa (ae 1) (aa (gC (.int 2)) (aa (gC (.int 60)) af)))))) (bj (gC (.bool false))) bq)
  (aR (sIf (dY (gT (au aA (aa (ae 3) (aa (gC (.int 0)) (aa (gF fN (aa (gC (.int 20)) (aa (g2 en (ae 1) (gC (.int 1))) af))) af)))))) (bj (gC (.bool false))) bq)
  (bj (o1 (au aA (aa (ae 2) (aa (gC (.int 1)) (aa (g2 en (ae 1) (ae 3)) af)))) (au a (aa (g2 dIx (ae 0) (gC (.int 3))) af))))))))))
def cZ (cs:Cs) (az a:Gf):Ds->Sr :=
 (aR (sIf (cOr (dY (gT (au az (aa (ae 0) (aa (gC (.int 1)) (aa (gC (.int 6)) af)))))) (dY (gT (gF lY (aa (gL (bh 1 (dh (ae 0)) bA (au a (aa (ae 1) af)) aY)) af))))) (fQ cs.NoErrands (aa (gC (.str "errands are a tuple of 1 to 6 errands (every, due, late, parts)")) af)) bq)
  (bj (ae 0)))
def br (cs:Cs) (aA:Gf):Ds->Sr :=
 (aR (sIf (dY (gT (au aA (aa (ae 1) (aa (gC (.int 0)) (aa (g2 en (gF cX (aa (ae 0) af)) (gC (.int 1))) af)))))) (fQ cs.NoErrand (aa (gC (.str "no errand has this number")) af)) bq)
  (bj (ae 1)))
def g6 (cs:Cs):Ds->Sr :=
 (bj (gF fM (aa (gL (bh 1 (dh (g2 dIx (ae 0) (gC (.int 3)))) bA (g2 dIx (ae 1) (gC (.int 0))) aY)) af)))
def cz (cs:Cs) (ah:Gf):Ds->Sr :=
 (aR (bD [7] 4 (g2 aW (gC (.int 3)) (au ah (aa (ae 0) (aa (ae 1) (aa (ae 2) af))))))
  (aR (bD [7] 5 (g2 cO (au ah (aa (ae 0) (aa (g2 aW (ae 1) (gC (.int 1))) (aa (gC (.int 4)) af)))) (gF lH (aa (g2 dEq (au ah (aa (ae 0) (aa (g2 aW (ae 1) (gC (.int 2))) (aa (gC (.int 3)) af)))) (gC (.int 0))) af))))
  (aR (bD [7] 5 (gF fN (aa (ae 5) (aa (g2 en (ae 4) (gC (.int 1))) af))))
  (aR (bD [7] 6 (g2 en (ae 4) (ae 5)))
  (aR (sIf (gT (g2 dEq (au ah (aa (ae 0) (aa (g2 aW (ae 1) (gC (.int 1))) (aa (gC (.int 3)) af)))) (gC (.int 0)))) (bD [7] 6 (g2 en (ae 6) (au ah (aa (ae 0) (aa (g2 aW (ae 1) (gC (.int 2))) (aa (ae 6) af)))))) bq)
  (aR (gv [7] 7 af)
  (aR (jh [7] (eF (aa (au ah (aa (ae 0) (aa (g2 aW (ae 1) (gC (.int 3))) (aa (gC (.int 3)) af)))) af)) (dw 8) (aR (bD [7] 9 (au ah (aa (ae 0) (aa (g2 aW (g2 aW (ae 1) (gC (.int 4))) (ae 8)) (aa (gC (.int 40)) af)))))
  (aR (kj [7] 7 (ay (aa (g2 aW (gC (.int 1)) (g2 cB (ae 9) (gC (.int 4)))) (aa (g2 dIx (cQ (aa (gC (.int 0)) (aa (gC (.int 1)) (aa (gC (.int 1)) (aa (gC (.int 0)) (aa (gC .none) af)))))) (g2 cB (g2 eB (ae 9) (gC (.int 4))) (gC (.int 5)))) af))))
  (sIf (dY (gT (ae 3))) (lA 7 (g1 dq (gC (.int 1))) (ay (aa (g2 dIx (g2 dIx (ae 7) (g1 dq (gC (.int 1)))) (gC (.int 0))) (aa (gC .none) af)))) bq))))
  (bj (ay (aa (ae 4) (aa (ae 6) (aa (ae 5) (aa (gF ej (aa (g2 aW (ae 7) (cQ (aa (ay (aa (g2 aW (gC (.int 1)) (au ah (aa (ae 0) (aa (g2 aW (ae 1) (gC (.int 6))) (aa (gC (.int 3)) af))))) (aa (gC .none) af))) af))) af)) af)))))))))))))
def cm (cs:Cs) (aM ah:Gf):Ds->Sr :=
 (aR (bD [] 5 (g2 aW (gC (.int 1)) (au ah (aa (ae 0) (aa (ae 1) (aa (ae 2) af))))))
  (bj (gF ej (aa (gL (bh 6 (eF (aa (ae 5) af)) bA (au aM (aa (ae 0) (aa (g2 aW (g2 aW (ae 1) (gC (.int 1))) (g2 cO (gC (.int 7)) (ae 6))) (aa (ae 3) (aa (ae 4) af))))) aY)) af))))
def fS (cs:Cs):Ds->Sr :=
 (bj (gF fM (aa (gL (bh 1 (dh (g2 dIx (ae 0) (gC (.int 3)))) bA (g2 dIx (ae 1) (gC (.int 0))) aY)) af)))
def ef (cs:Cs) (a aw ao:Gf):Ds->Sr :=
 (aR (i7 (au ao (aa (ae 0) af)))
  (aR (i7 (au aw (aa (ae 0) (aa (ae 1) af))))
  (bj (au a (aa (g2 dIx (ae 0) (ae 1)) af)))))
def cT (cs:Cs):Ds->Sr :=
 (aR (mn [7,8] (kD [2,3,4,5]) (ae 0))
  (aR (bD [7,8] 6 (g2 dIx (ae 5) (g1 dq (gC (.int 1)))))
  (aR (gv [7,8] 7 (aa (g2 aW (ae 0) (ay (aa (gC (.int 1)) af))) (aa (bX (ae 0) bI (cY (gC (.int 3)))) (aa (gF ff (aa (ae 0) af)) (aa (gC .none) (aa (gC (.int 5)) (aa (ay (aa (gC (.int 1)) (aa (gC (.int 1)) (aa (gC (.int 0)) (aa (ae 5) af))))) (aa (ay (aa (gC (.int 61)) (aa (ae 3) (aa (ae 4) (aa (ae 5) af))))) af))))))))
  (aR (eQ [7,8] 7 (cQ (aa (ay (aa (gC (.bool true)) (aa (gC (.int 1)) (aa (gC (.int 0)) (aa (ae 5) af))))) (aa (ay (aa (ae 2) (aa (gC (.int 0)) (aa (ae 4) (aa (ae 5) af))))) (aa (ay (aa (ae 2) (aa (g2 aW (g2 en (ae 2) (ae 4)) (gC (.int 1))) (aa (ae 4) (aa (ae 5) af))))) af)))))
  (aR (eQ [7,8] 7 (cQ (aa (ay (aa (ae 2) (aa (ae 3) (aa (ae 2) (aa (ae 5) af))))) (aa (ay (aa (gC (.int 60)) (aa (gC (.int 1)) (aa (gC (.int 21)) (aa (ae 5) af))))) (aa (ay (aa (ae 2) (aa (ae 3) (aa (g1 dq (gC (.int 1))) (aa (ae 5) af))))) (aa (ay (aa (ae 2) (aa (gC (.str "1")) (aa (ae 4) (aa (ae 5) af))))) af))))))
  (aR (gv [7,8] 8 (aa (ay af) (aa (g2 cO (ay (aa (ae 6) af)) (gC (.int 5))) (aa (cQ (aa (ae 6) af)) (aa (ay (aa (ay (aa (gC (.int 0)) (aa (gC .none) af))) af)) (aa (ay (aa (ay (aa (gC (.int 21)) (aa (gC .none) af))) af)) (aa (ay (aa (ay (aa (gC (.str "1")) (aa (gC .none) af))) af)) (aa (ay (aa (ay (aa (gC (.int 1)) (aa (gC (.int 4)) af))) (aa (ae 6) af))) (aa (ay (aa (ay (aa (gC (.int 1)) (aa (g1 dq (gC (.int 1))) af))) (aa (ae 6) af))) af)))))))))
  (aR (eQ [7,8] 8 (cQ (aa (ay (aa (ay (aa (gC (.int 1)) (aa (gC (.int 0)) af))) af)) (aa (ay (aa (ay (aa (gC (.int 1)) (aa (gC (.bool true)) af))) (aa (ae 6) af))) (aa (ay (aa (ay (aa (gC (.int 1)) af)) (aa (ae 6) af))) (aa (gC .none) af))))))
  (gJ 8 (aR (eQ [7] 7 (gL (bh 9 (dh (ae 8)) bA (ay (aa (ae 2) (aa (ae 3) (aa (ae 4) (aa (ae 9) af))))) aY)))
  (gJ 7 (bj (g2 dIx (ae 7) (g2 cB (ae 1) (gC (.int 26)))))))))))))))
def bW (cs:Cs) (bN:Gf):Ds->Sr :=
 (aR (sIf (gT (g2 dEq (g2 cB (ae 1) (gC (.int 6))) (gC (.int 0)))) (bj (g2 dIx (cQ (aa (gF ff (aa (ae 0) af)) (aa (ay af) (aa (bX (g2 cO (ae 0) (gC (.int 7))) bI (cY (gC (.int 7)))) (aa (gC .none) (aa (g2 dIx (ae 0) (gC (.int 0))) (aa (gC (.str "errands")) af))))))) (g2 cB (g2 eB (ae 1) (gC (.int 6))) (gC (.int 6))))) bq)
  (aR (bD [] 2 (g2 cB (g2 eB (ae 1) (gC (.int 6))) (gF cX (aa (ae 0) af))))
  (bj (g2 aW (g2 aW (bX (ae 0) bI (cY (ae 2))) (ay (aa (au bN (aa (g2 dIx (ae 0) (ae 2)) (aa (g2 eB (ae 1) (gC (.int 31))) af))) af))) (bX (ae 0) (cY (g2 aW (ae 2) (gC (.int 1)))) bI)))))
def bG (cs:Cs) (ao:Gf):Ds->Sr :=
 (aR (iZ cs.NoErrands 1 ao (aa (ae 0) af) (.bool true))
  (bj (gC (.bool false))))
def ji (cs:Cs) (bx ah aI aJ ao aE:Gf):Ds->Sr :=
 (aR (bD [] 1 (au aE (aa (ae 0) (aa (gC (.int 2)) (aa (gC (.int 4)) (aa (gC (.int 28)) (aa (gC (.bool true)) af)))))))
  (aR (bD [] 2 (g2 cO (ay (aa (ay (aa (gC (.int 60)) (aa (gC (.int 40)) (aa (gC (.int 20)) (aa (ay (aa (ay (aa (gC (.int 20)) (aa (gC (.int 3)) af))) (aa (ay (aa (gC (.int 20)) (aa (gC (.int 0)) af))) (aa (ay (aa (gC (.int 1)) (aa (gC .none) af))) (aa (ay (aa (gC (.int 20)) (aa (gC .none) af))) af))))) af))))) (aa (ay (aa (gC (.int 2)) (aa (gC (.int 1)) (aa (gC (.int 1)) (aa (ay (aa (ay (aa (gC (.int 1)) (aa (gC .none) af))) af)) af))))) af))) (gC (.int 3))))
  (aR (sIf (cOr (gT (g2 dNe (au ao (aa (ae 1) af)) (ae 1))) (gT (g2 dNe (au ao (aa (ae 2) af)) (ae 2)))) (bj (gC (.bool false))) bq)
  (aR (jh [] (eF (aa (gF cX (aa (ae 1) af)) af)) (dw 3) (sIf (gT (g2 dNe (au bx (aa (ae 1) (aa (ae 3) af))) (gF fM (aa (gL (bh 4 (dh (g2 dIx (g2 dIx (ae 1) (ae 3)) (gC (.int 3)))) bA (g2 dIx (ae 4) (gC (.int 0))) aY)) af)))) (bj (gC (.bool false))) bq))
  (aR (fT cs.NoErrand bx (aa (ae 1) (aa (g2 dIx (cQ (aa (gF cX (aa (ae 1) af)) (aa (g1 dq (gC (.int 1))) (aa (gC (.bool true)) (aa (gC .none) af))))) (au ah (aa (ae 0) (aa (gC (.int 0)) (aa (gC (.int 4)) af))))) af)) (au aJ (aa (au aI (aa (ae 1) (aa (au ah (aa (ae 0) (aa (gC (.int 1)) (aa (g2 k6 (gC (.int 10)) (gC (.int 6))) af)))) af))) af)))
  (bj (gC (.bool false))))))))
end RS
set_option maxHeartbeats 1000000
variable {cs:RS.Cs}
namespace RS
open PySem L2
variable {a b:Int} {xs:List PyData} {e:PyData} {g:PyData->Bool}
theorem oS (h:i∉O):(mask O δ)[i]?=δ[i]?:=by
 unfold mask;by_cases z:O=[]
 ·rw[if_pos z]
 ·rw[if_neg z,List.getElem?_mapIdx];cases δ[i]? with
  |none=>rfl
  |some d=>simp[h]
theorem aG (h:i∉O):ae i (mask O δ)=ae i δ:=by unfold ae;rw[oS h]
@[simp]theorem bb (d:PyData) (δ:Ds):ae 0 (some d::δ)=.ok d:=rfl
@[simp]theorem a9 (i:Nat) (x:Option PyData) (δ:Ds):ae (i+1) (x::δ)=ae i δ:=rfl
@[simp]theorem fA (d:PyData) (δ:Ds):gC d δ=.ok d:=rfl
@[simp]theorem uN (f:PyData->Option PyData) (a:Ds->Rs PyData) (δ:Ds):g1 f a δ=(a δ).bind λx=>Rs.bS (f x):=rfl
@[simp]theorem eG (f:PyData->PyData->Option PyData) (a b:Ds->Rs PyData) (δ:Ds):g2 f a b δ=(a δ).bind λx=>(b δ).bind λy=>Rs.bS (f x y):=rfl
@[simp]theorem ja (f:List PyData->Option PyData) (a:Ds->Rs (List PyData)) (δ:Ds):gF f a δ=(a δ).bind λx=>Rs.bS (f x):=rfl
@[simp]theorem cf (δ:Ds):af δ=.ok []:=rfl
@[simp]theorem bg (a:Ds->Rs PyData) (r:Ds->Rs (List PyData)) (δ:Ds):aa a r δ=(a δ).bind λx=>(r δ).bind λxs=>.ok (x::xs):=rfl
@[simp]theorem iJ (a:Ds->Rs (List PyData)) (δ:Ds):ay a δ=(a δ).bind λds=>.ok (.tuple ds):=rfl
@[simp]theorem hZ (a:Ds->Rs (List PyData)) (δ:Ds):cQ a δ=(a δ).bind λds=>.ok (.list ds):=rfl
@[simp]theorem b9 (f:Gf) (a:Ds->Rs (List PyData)) (δ:Ds):au f a δ=(a δ).bind f:=rfl
@[simp]theorem lj (a:Ds->Rs PyData) (δ:Ds):gT a δ=(a δ).bind truth:=rfl
@[simp]theorem dO (b:Bool):truth (.bool b)=.ok b:=rfl
@[simp]theorem so (a:Ds->Rs Bool) (δ:Ds):dY a δ=(a δ).bind λb=>.ok (!b):=rfl
@[simp]theorem uR (a b:Ds->Rs Bool) (δ:Ds):vc a b δ=(a δ).bind λx=>if x=true then b δ else .ok false:=rfl
@[simp]theorem uv (a b:Ds->Rs Bool) (δ:Ds):cOr a b δ=(a δ).bind λx=>if x=true then .ok true else b δ:=rfl
@[simp]theorem uO (a b:Ds->Rs PyData) (δ:Ds):o1 a b δ=(a δ).bind λx=>(truth x).bind λt=>if t=true then b δ else .ok (.bool false):=rfl
@[simp]theorem vy (a b:Ds->Rs PyData) (δ:Ds):gOr a b δ=(a δ).bind λx=>(truth x).bind λt=>if t=true then .ok (.bool true) else b δ:=rfl
@[simp]theorem u4 (a:Ds->Rs PyData) (δ:Ds):u5 a δ=(a δ).bind λx=>(truth x).bind λt=>.ok (.bool (!t)):=rfl
@[simp]theorem uq (a:Ds->Rs (List PyData)) (δ:Ds):gL a δ=(a δ).bind λds=>.ok (.list ds):=rfl
@[simp]theorem rC (a:Ds->Rs PyData) (δ:Ds):dh a δ=(a δ).bind kI:=rfl
@[simp]theorem uQ (ds:List PyData):kI (.list ds)=.ok ds:=rfl
@[simp]theorem qF (ds:List PyData):kI (.tuple ds)=.ok ds:=rfl
@[simp]theorem iP (a:Ds->Rs (List PyData)) (δ:Ds):eF a δ=(a δ).bind oh:=rfl
@[simp]theorem uE (a:Ds->Rs (List PyData)) (δ:Ds):uA a δ=(a δ).bind ua:=rfl
@[simp]theorem uJ (a:Ds->Rs (List PyData)) (δ:Ds):uw a δ=(a δ).bind tD:=rfl
@[simp]theorem vv (a:Ds->Rs (List PyData)) (δ:Ds):gLR a δ=(a δ).bind nz:=rfl
@[simp]theorem uF (a:Ds->Rs (List PyData)) (δ:Ds):uu a δ=(a δ).bind iT:=rfl
@[simp]theorem uG (ds:List PyData):iT [.list ds]=.ok (kK ds):=rfl
@[simp]theorem uI (ds:List PyData):iT [.tuple ds]=.ok (kK ds):=rfl
@[simp]theorem tF (f f':PyData->PyData->Option PyData) (a b c:Ds->Rs PyData) (δ:Ds):eV f f' a b c δ=(a δ).bind λx=>(b δ).bind λy=>(Rs.bS (f x y)).bind λz=>(truth z).bind λt=>if t=true then (c δ).bind λw=>Rs.bS (f' y w) else .ok (.bool false):=rfl
@[simp]theorem sQ (δ:Ds):bI δ=.ok none:=rfl
@[simp]theorem uK (g:Ds->Rs PyData) (δ:Ds):cY g δ=(g δ).bind nc:=rfl
@[simp]theorem uH (i:Int):nc (.int i)=.ok (some i):=rfl
@[simp]theorem m3 (g:Ds->Rs PyData) (lo hi:Ds->Rs (Option Int)) (δ:Ds):bX g lo hi δ=(g δ).bind λd=>(lo δ).bind λl=>(hi δ).bind λh=>Rs.bS (pd d l h):=rfl
@[simp]theorem vq (x:List PyData) (lo hi:Option Int):pd (.list x) lo hi=some (.list (cutD x lo hi)):=rfl
@[simp]theorem rg (x:List PyData) (lo hi:Option Int):pd (.tuple x) lo hi=some (.tuple (cutD x lo hi)):=rfl
@[simp]theorem bL (a b:Ds->Sr) (δ:Ds):aR a b δ=match a δ with|.nx δ'=>b δ'|r=>r:=rfl
@[simp]theorem uD (δ:Ds):bq δ=.nx δ:=rfl
@[simp]theorem gP (c:Ds->Rs Bool) (a b:Ds->Sr) (δ:Ds):sIf c a b δ=ofR (c δ) λt=>if t=true then a δ else b δ:=rfl
@[simp]theorem eU (g:Ds->Rs PyData) (δ:Ds):bj g δ=ofR (g δ) .rt:=rfl
@[simp]theorem fB (g:Ds->Rs PyData) (δ:Ds):i7 g δ=ofR (g δ) λ_=>.nx δ:=rfl
@[simp]theorem pF (i:Nat) (g:Ds->Rs PyData) (δ:Ds):bD [] i g δ=if i<δ.length then ofR (g δ) λd=>.nx (δ.set i (some d)) else .no:=by unfold bD;rw[fG]
@[simp]theorem tZ (C:Addr) (gs:Ds->Rs (List PyData)) (δ:Ds):fQ C gs δ=ofR (gs δ) λ_=>.rz C:=rfl
theorem mw (O:List Nat) (src:Ds->Rs (List PyData)) (tgt:PyData->Ds->Option Ds) (body:Ds->Sr) (δ:Ds):jh O src tgt body δ=ofR (src (mask O δ)) λds=>forL tgt body ds δ:=rfl
@[simp]theorem lL (d:PyData):bK (.rt d)=.ok d:=rfl
@[simp]theorem sT (δ:Ds):bK (.nx δ)=.ok .none:=rfl
@[simp]theorem sU (C:Addr):bK (.rz C)=.rz C:=rfl
@[simp]theorem sR:bK .no=.no:=rfl
@[simp]theorem dH (a b:Int):aW (.int a) (.int b)=some (.int (a+b)):=rfl
@[simp]theorem mZ (a b:Int):en (.int a) (.int b)=some (.int (a-b)):=rfl
@[simp]theorem pW (a b:Int):cB (.int a) (.int b)=if 0<b then some (.int (a % b)) else none:=rfl
@[simp]theorem qa (a b:Int):eB (.int a) (.int b)=if 0<b/\b<1073741824 then some (.int (a / b)) else none:=rfl
@[simp]theorem vG (a b:Int):dLt (.int a) (.int b)=some (.bool (decide (a<b))):=rfl
@[simp]theorem vD (a b:Int):dLe (.int a) (.int b)=some (.bool (decide (a<=b))):=rfl
@[simp]theorem vF (a b:Int):dGt (.int a) (.int b)=some (.bool (decide (b<a))):=rfl
@[simp]theorem vE (a b:Int):dGe (.int a) (.int b)=some (.bool (decide (b<=a))):=rfl
@[simp]theorem um (a:Int):dq (.int a)=some (.int (-a)):=rfl
@[simp]theorem vx (d:PyData):pR d=some (.bool (cC d)):=rfl
@[simp]theorem u6 (d:PyData):tG d=some (.bool (!cC d)):=rfl
@[simp]theorem tI:cC .none=true:=rfl
@[simp]theorem sS (i:Int):cC (.int i)=false:=rfl
@[simp]theorem vt (x:List PyData) (i:Int):dIx (.tuple x) (.int i)=atI x i:=rfl
@[simp]theorem qb (x:List PyData) (i:Int):dIx (.list x) (.int i)=atI x i:=rfl
@[simp]theorem sI (x:List PyData):cX [.tuple x]=some (.int x.length):=rfl
@[simp]theorem u0 (x:List PyData):cX [.list x]=some (.int x.length):=rfl
@[simp]theorem rQ (a b:Int):fN [.int a,.int b]=some (.int (if b<a then b else a)):=rfl
@[simp]theorem uS (a b:Int):tQ [.int a,.int b]=some (.int (if b>a then b else a)):=rfl
@[simp]theorem rN (b:Bool):lH [.bool b]=some (.int (if b then 1 else 0)):=rfl
@[simp]theorem rM (x:List PyData):ej [.list x]=some (.tuple x):=rfl
@[simp]theorem vj (x:List PyData):ej [.tuple x]=some (.tuple x):=rfl
@[simp]theorem nq (a b:Int):dEq (.int a) (.int b)=some (.bool (a==b)):=by
 have h:∀i:Int,PySem.SeqAt.shaped (.int i)=true:=λi=>by simp[PySem.SeqAt.shaped,PyData.canLay0,PyData.depth]
 unfold dEq;rw[h,h];simp[aq,PyData.eqv]
@[simp]theorem ui (a b:Int):dNe (.int a) (.int b)=some (.bool (!(a==b))):=by
 have h:∀i:Int,PySem.SeqAt.shaped (.int i)=true:=λi=>by simp[PySem.SeqAt.shaped,PyData.canLay0,PyData.depth]
 unfold dNe;rw[h,h];simp[aq,PyData.eqv]
theorem iE {xs:List α} {i:Int} (h:i=j):atI xs i=xs[j]?:=by
 subst h;unfold atI ixN;by_cases z:(j:Int)<xs.length
 ·rw[if_pos (by omega),if_pos z];simp
 ·rw[if_pos (by omega),if_neg z];simp;omega
@[simp]theorem vB (xs:List α):atI xs 0=xs[0]?:=iE (j:=0) rfl
@[simp]theorem vA (xs:List α):atI xs 1=xs[1]?:=iE (j:=1) rfl
@[simp]theorem vz (xs:List α):atI xs 2=xs[2]?:=iE (j:=2) rfl
@[simp]theorem vC (xs:List α):atI xs 3=xs[3]?:=iE (j:=3) rfl
theorem g4 (xs:List α):atI xs (-1)=xs.getLast?:=by
 unfold atI ixN;rw[if_neg (by decide)];by_cases z:xs=[]
 ·subst z;rfl
 ·have:0<xs.length:=List.length_pos_iff.mpr z;rw[if_pos (by omega),List.getLast?_eq_getElem?];simp only[Option.bind_some];congr 1;omega
theorem jk (g:α->Bool) (xs:List α):lY [.list (xs.map λd=>.bool (g d))]=some (.bool (xs.all g)):=by
 have a:cM (xs.map λd=>PyData.bool (g d))=some (xs.map g):=by rw[show (xs.map λd=>PyData.bool (g d))=(xs.map g).map PyData.bool by rw[AD];rfl];exact fI _
 show (cM (xs.map λd=>PyData.bool (g d))).map (λns=>PyData.bool (ns.all id))=_;rw[a,Option.map_some,List.all_map];rfl
theorem iV (g:α->Int) (xs:List α):fM [.list (xs.map λd=>.int (g d))]=some (.int (xs.map g).sum):=by
 have a:dB (xs.map λd=>PyData.int (g d))=some (xs.map g):=by rw[show (xs.map λd=>PyData.int (g d))=(xs.map g).map PyData.int by rw[AD];rfl];exact eN _
 show (dB (xs.map λd=>PyData.int (g d))).map (λns=>PyData.int ns.sum)=_;rw[a,Option.map_some]
theorem comp_map {elt:Ds->Rs PyData} {δ:Ds} {f:PyData->PyData}:∀(ds:List PyData),(∀d∈ds,elt (δ++[some d])=.ok (f d))->cW bA elt aY δ ds=.ok (ds.map f)
 |[],_=>rfl
 |d::r,h=>by unfold cW;simp only[aY,bA,Rs.eC,Rs.aj,if_true,h d List.mem_cons_self,comp_map r λe a=>h e (Ab _ a),AB]
theorem c0 {a:Nat} {elt:Ds->Rs PyData} {f:PyData->PyData} (hn:δ.length=a) (b:src δ=.ok ds) (hl:ds.length<=1000000) (h:∀d∈ds,elt (δ++[some d])=.ok (f d)) :
  bh a src bA elt aY δ=.ok (ds.map f):=by
 unfold bh;rw[if_pos hn,b];simp only[Rs.aj,if_pos hl];exact comp_map ds h
theorem gp:∀{ds:List PyData},cL ds=true->∀d∈ds,aq d=true
 |[],_,d,hd=>by cases hd
 |e::r,h,d,hd=>by
  unfold cL at h;obtain⟨h1,h2⟩:=AH.mp h;rcases List.mem_cons.mp hd with z|z
  ·rw[z];exact h1
  ·exact gp h2 d z
theorem bR (h:aq (.tuple ds)=true):∀d∈ds,aq d=true:=by unfold aq at h;exact gp h
def aA:Gf
 |[d,.int a,.int b]=>if aq d then .ok (.bool (isWhole d a b)) else .no
 |_=>.no
theorem iR {f:PyData->Int->Int->Rs PyData} (h:(match ds with|[c,.int a,.int b]=>f c a b|_=>.no)≠.no):∃c a b,ds=[c,.int a,.int b]/\f c a b≠.no:=by
 rcases ds with _|⟨c,_|⟨a,_|⟨b,_|⟨y,ys⟩⟩⟩⟩
 ·exact absurd rfl h
 ·exact absurd rfl h
 ·first|exact absurd rfl h|(cases a <;> exact absurd rfl h)
 ·skip
  cases a with
  |int a =>
   cases b with
   |int b =>exact⟨_,_,_,rfl,h⟩
   |_=>exact absurd rfl h
  |_=>first|exact absurd rfl h|(cases b <;> exact absurd rfl h)
 ·first|exact absurd rfl h|(cases a <;> first|exact absurd rfl h|(cases b <;> exact absurd rfl h))
abbrev LLq (G:Ds->Sr) (n k:Nat) (g:Gf):Prop:=∀ds,ds.length=n->g ds≠.no->bK (G (ds.map some++List.replicate k none))=g ds
theorem jD (cs:Cs):LLq (de cs) 3 0 aA:=by
 intro ds hl c;obtain⟨d,a,b,f,e⟩:=iR c;clear c;subst f;have c:=e;clear e;unfold aA
 ·skip
  split at c
  ·rename_i hd;simp only[hd,if_true];cases d with
   |int i=>by_cases h:a<=i <;> simp[de,ic,hd,hR,tyD,isWhole,h]
   |dict _=>simp[aq]at hd
   |_=>simp[de,ic,hd,hR,tyD,isWhole]
  ·exact absurd rfl c
def az:Gf
 |[d,.int a,.int b]=>if aq d then .ok (.bool (aV d a b)) else .no
 |_=>.no
theorem ko (cs:Cs):LLq (c6 cs) 3 0 az:=by
 intro ds hl c;obtain⟨d,a,b,f,e⟩:=iR c;clear c;subst f;have c:=e;clear e;unfold az
 ·skip
  split at c
  ·rename_i hd;simp only[hd,if_true];cases d with
   |tuple x=>by_cases h:a<=(x.length:Int) <;> simp[c6,ic,hd,hR,tyD,aV,h]
   |dict _=>simp[aq]at hd
   |_=>simp[c6,ic,hd,hR,tyD,aV]
  ·exact absurd rfl c
def cy (g:PyData->Bool):Gf
 |[d]=>if aq d then .ok (.bool (g d)) else .no
 |_=>.no
theorem fV (h:cy g ds≠.no):∃d,ds=[d]/\aq d=true/\cy g ds=.ok (.bool (g d)):=by
 unfold cy at h ⊢;split at h
 ·rename_i d;split at h
  ·rename_i hd;exact⟨d,rfl,hd,by simp[hd]⟩
  ·exact absurd rfl h
 ·exact absurd rfl h
theorem fU {d:PyData} (h:aq d=true):cy g [d]=.ok (.bool (g d)):=by unfold cy;simp[h]
@[simp]theorem sV {d:PyData} (h:aq d=true):az [d,.int a,.int b]=.ok (.bool (aV d a b)):=by unfold az;simp[h]
@[simp]theorem pX {d:PyData} (h:aq d=true):aA [d,.int a,.int b]=.ok (.bool (isWhole d a b)):=by unfold aA;simp[h]
theorem jB {d:PyData} (h:aV d 2 2=true):∃a b,d=.tuple [a,b]:=by
 cases d with
 |tuple ds =>
  simp[aV]at h
  match ds,h with
  |[a,b],_=>exact⟨a,b,rfl⟩
  |[],h=>simp at h
  |[_],h=>simp at h
  |_::_::_::_,h=>simp at h;omega
 |_=>cases h
theorem lN (cs:Cs):LLq (cE cs aA az) 1 0 (cy aU):=by
 intro ds hl c;obtain⟨d,rfl,hd,e⟩:=fV c;rw[e];cases e1:aV d 2 2 with
 |false =>
  have:aU d=false:=by
   unfold aU;split
   ·simp[aV]at e1
   ·rfl
  simp[cE,hd,e1,this]
 |true =>
  obtain⟨a,b,rfl⟩:=jB e1;have ha:=bR hd a (by simp);have f:=bR hd b (by simp);cases e2:isWhole a 1 20 with
  |false=>simp[cE,hd,ha,e1,e2,aU]
  |true =>
   cases b with
   |none=>simp[cE,hd,ha,e1,e2,aU]
   |_=>simp[cE,hd,ha,f,e1,e2,aU,cC]
theorem je (cs:Cs):LLq (cw cs az (cy aU)) 1 0 (cy a4):=by
 intro ds hl c;obtain⟨d,rfl,hd,e⟩:=fV c;rw[e];cases e1:aV d 1 4 with
 |false =>
  have:a4 d=false:=by
   cases d with
   |tuple ds =>simp only[aV,Al,decide_eq_false_iff_not]at e1;simp only[a4,Al,decide_eq_false_iff_not];refine .inl (.inl ?_);omega
   |_=>rfl
  simp[cw,hd,e1,this]
 |true =>
  obtain⟨xs,rfl⟩:∃ds,d=.tuple ds:=by cases d <;> first|exact⟨_,rfl⟩|cases e1
  have hn:1<=xs.length/\xs.length<=4:=by simp only[aV,Ag,decide_eq_true_eq]at e1;omega
  have hc:bh 1 (dh (ae 0)) bA (au (cy aU) (aa (ae 1) af)) aY [some (.tuple xs)]=.ok (xs.map λd=>.bool (aU d)) :=
   c0 rfl rfl (by omega) λd h=>by simp[fU (bR hd d h)]
  have k:=jk aU xs;cases e2:xs.all aU with
  |false=>simp[cw,hd,e1,hc,k,e2,a4]
  |true =>
   have c:xs≠[]:=by intro z;subst z;simp at hn
   have f:xs.getLast?=some (xs.getLast c):=List.getLast?_eq_some_getLast c;have g:=AL.mp e2 _ (List.getLast_mem c);obtain⟨a,b,i⟩:∃a b,xs.getLast c=.tuple [a,b]:=by
    revert g;generalize xs.getLast c=z;intro g;unfold aU at g;split at g
    ·exact⟨_,_,rfl⟩
    ·cases g
   rw[i]at f;have j:cU xs=cC b:=by unfold cU;rw[f];cases b <;> rfl
   simp[cw,hd,e1,hc,k,e2,a4,g4,f,j,hn.1,hn.2]
theorem iq {d:PyData} (h:aV d 4 4=true):∃a b c e,d=.tuple [a,b,c,e]:=by
 cases d with
 |tuple ds =>
  simp[aV]at h
  match ds,h with
  |[a,b,c,e],_=>exact⟨a,b,c,e,rfl⟩
  |[],h=>simp at h
  |[_],h=>simp at h
  |[_,_],h=>simp at h
  |[_,_,_],h=>simp at h
  |_::_::_::_::_::_,h=>simp at h;omega
 |_=>cases h
theorem fj {d:PyData} (h:isWhole d a b=true):∃i,d=.int i/\a<=i/\i<=b:=by
 cases d with
 |int i=>simp[isWhole]at h;exact⟨i,rfl,h⟩
 |_=>cases h
theorem fY {a b c:PyData} (h:isWhole a 2 60=false):aC (.tuple [a,b,c,e])=false:=by
 cases a with
 |int i =>
  cases c with
  |int l =>simp only[isWhole,Al,decide_eq_false_iff_not]at h;simp only[aC,Al,decide_eq_false_iff_not];omega
  |_=>rfl
 |_=>rfl
theorem gu {b c:PyData} {i:Int} (h:isWhole c 0 (if i-1<20 then i-1 else 20)=false):aC (.tuple [.int i,b,c,e])=false:=by
 cases c with
 |int l =>simp only[isWhole,Al,decide_eq_false_iff_not]at h;simp only[aC,Al,decide_eq_false_iff_not];exact .inl (.inl (.inr h))
 |_=>rfl
theorem gH {b:PyData} {i l:Int} (h1:2<=i/\i<=60) (h2:0<=l/\l<=if i-1<20 then i-1 else 20):aC (.tuple [.int i,b,.int l,e])=(isWhole b 1 (i-l)&&a4 e):=by simp[aC,h1.1,h1.2,h2.1,h2.2]
theorem i9 (cs:Cs):LLq (bp cs aA (cy a4) az) 1 3 (cy aC):=by
 intro ds hl h;obtain⟨d,rfl,hd,e⟩:=fV h;rw[e];cases e1:aV d 4 4 with
 |false =>
  have:aC d=false:=by
   unfold aC;split
   ·simp[aV]at e1
   ·rfl
  simp[bp,hd,e1,this]
 |true =>
  obtain⟨a,b,c,q,rfl⟩:=iq e1;have ha:=bR hd a (by simp);have g:=bR hd b (by simp);have hc:=bR hd c (by simp);have f:=bR hd q (by simp);cases e2:isWhole a 2 60 with
  |false=>simp[bp,hd,ha,g,hc,f,e1,e2,fY e2]
  |true =>
   obtain⟨i,rfl,i1,i2⟩:=fj e2;cases e3:isWhole c 0 (if i-1<20 then i-1 else 20) with
   |false=>simp[bp,hd,ha,g,hc,f,e1,e2,e3,gu e3]
   |true =>
    obtain⟨l,rfl,l1,l2⟩:=fj e3;have j:=gH (b:=b) (e:=q) ⟨i1,i2⟩ ⟨l1,l2⟩;cases e4:isWhole b 1 (i-l) with
    |false=>simp[bp,hd,ha,g,hc,f,e1,e2,e3,e4,j]
    |true=>simp[bp,hd,ha,g,hc,f,e1,e2,e3,e4,j,fU f]
def ao (cs:Cs):Gf
 |[d]=>if aq d then (if aN d then .ok d else .rz cs.NoErrands) else .no
 |_=>.no
theorem lC (cs:Cs):LLq (cZ cs az (cy aC)) 1 0 (ao cs):=by
 intro ds hl a;obtain⟨d,rfl⟩:∃d,ds=[d]:=by
  match ds,hl with
  |[d],_=>exact⟨d,rfl⟩
 have hd:aq d=true:=by
  unfold ao at a;by_cases z:aq d=true
  ·exact z
  ·simp[z]at a
 have e:ao cs [d]=if aN d then .ok d else .rz cs.NoErrands:=by unfold ao;simp[hd]
 rw[e];cases e1:aV d 1 6 with
 |false =>
  have:aN d=false:=by
   cases d with
   |tuple ds =>simp only[aV,Al,decide_eq_false_iff_not]at e1;simp only[aN,Al,decide_eq_false_iff_not];refine .inl ?_;omega
   |_=>rfl
  simp[cZ,hd,e1,this]
 |true =>
  obtain⟨xs,rfl⟩:∃ds,d=.tuple ds:=by cases d <;> first|exact⟨_,rfl⟩|cases e1
  have hn:1<=xs.length/\xs.length<=6:=by simp only[aV,Ag,decide_eq_true_eq]at e1;omega
  have hc:bh 1 (dh (ae 0)) bA (au (cy aC) (aa (ae 1) af)) aY [some (.tuple xs)]=.ok (xs.map λd=>.bool (aC d)) :=
   c0 rfl rfl (by omega) λd b=>by simp[fU (bR hd d b)]
  have c:=jk aC xs;cases e2:xs.all aC with
  |false=>simp[cZ,hd,e1,hc,c,e2,aN]
  |true=>simp[cZ,hd,e1,hc,c,e2,aN,hn.1,hn.2]
theorem fH {β:Type} {tgt:PyData->Ds->Option Ds} {body:Ds->Sr} (inv:Nat->Ds->Prop):∀(ds:List PyData) (k:Nat),(∀(i:Nat) d δ,ds[i]?=some d->inv (k+i) δ->∃b a,tgt d δ=some b/\body b=.nx a/\inv (k+i+1) a) ->
  ∀δ,inv k δ->∃δ',forL tgt body ds δ=.nx δ'/\inv (k+ds.length) δ'
 |[],k,_,δ,h=>⟨δ,rfl,h⟩
 |d::r,k,hs,δ,h=>by
  obtain⟨b,a,e1,e2,h2⟩:=hs 0 d δ rfl h;obtain⟨δ',c,e⟩:=fH (β:=β) inv r (k+1) (λi x δ f hi=>by have:=hs (i+1) x δ (by simpa using f) (by rw[show k+(i+1)=k+1+i by omega];exact hi);rw[show k+1+i+1=k+(i+1)+1 by omega];exact this) a h2
  exact⟨δ',by unfold forL;rw[e1];simp only[e2];exact c,by rw[AI,show k+(r.length+1)=k+1+r.length by omega];exact e⟩
def mK:PyData->Option Int
 |.int i=>some i
 |_=>none
def bE:PyData->Int×Option Int
 |.tuple [.int l,t]=>(l,mK t)
 |_=>(0,none)
def deE:PyData->Er
 |.tuple [.int e,.int d,.int l,.tuple ps]=>⟨e,d,l,ps.map bE⟩
 |_=>⟨0,0,0,[]⟩
theorem pY (e:Int) (d:Int) (l:Int) (ps:List PyData):deE (.tuple [.int e,.int d,.int l,.tuple ps])=⟨e,d,l,ps.map bE⟩:=rfl
theorem jZ (o:Option Int):mK (fu o)=o:=by cases o <;> rfl
theorem dD (p:Int×Option Int):bE (ag p)=p:=by obtain⟨l,t⟩:=p;simp[ag,bE,jZ]
theorem tJ (e:Er):deE e.d=e:=by obtain⟨a,b,c,ps⟩:=e;show Er.mk a b c ((ps.map ag).map bE)=_;rw[AD,show bE∘ag=id from funext dD,List.map_id]
def deI:PyData->Int
 |.int i=>i
 |_=>0
def mU (ns:List Int):PyData:=.tuple (ns.map .int)
structure p7 (n:Nat) (rs:List Int):Prop where
 len:rs.length=n
 rng:∀r∈rs,0<=r/\r<n
 nd:rs.Nodup
def dM:PyData->Bool
 |.tuple [.int l,b]=>decide (0<=l)&&decide (l<=1000000)&&(match b with|.none=>true|.int t=>decide (0<=t)&&decide (t<=3)|_=>false)
 |_=>false
def l9:PyData->Bool
 |.tuple [.int e,.int _,.int l,.tuple ps]=>decide (1<=e)&&decide (e<1073741824)&&decide (-1000000000<=l)&&decide (l<=1000000000)&&decide (ps.length<=1000)&&ps.all dM
 |_=>false
structure Er.Sh (e:Er):Prop where
 e1:1<=e.every
 e2:e.every<1073741824
 l1:-1000000000<=e.late
 l2:e.late<=1000000000
 pn:e.parts.length<=1000
 pl:∀p∈e.parts,0<=p.1/\p.1<=1000000/\∀t,p.2=some t->0<=t/\t<=3
theorem g7 {d:PyData} (h:dM d=true):ag (bE d)=d/\0<=(bE d).1/\(bE d).1<=1000000/\∀t,(bE d).2=some t->0<=t/\t<=3:=by
 unfold dM at h;split at h
 ·rename_i l b;simp only[Ag,decide_eq_true_eq]at h;obtain⟨⟨h1,h2⟩,a⟩:=h;cases b with
  |none=>exact⟨rfl,h1,h2,λt q=>by cases q⟩
  |int t =>simp only[Ag,decide_eq_true_eq]at a;exact⟨rfl,h1,h2,λt q=>by cases q;exact a⟩
  |_=>cases a
 ·cases h
theorem uh {d:PyData} (h:l9 d=true):(deE d).d=d/\(deE d).Sh:=by
 unfold l9 at h;split at h
 ·rename_i e du l ps;simp only[Ag,decide_eq_true_eq]at h;obtain⟨⟨⟨⟨⟨h1,h2⟩,a⟩,b⟩,g⟩,i⟩:=h;have f:=AL.mp i;have j:ps.map (ag∘bE)=ps:=by
   conv=>rhs;rw[<-List.map_id ps]
   exact AW λp c=>(g7 (f p c)).1
  refine⟨by simp only[pY,Er.d,AD,j],h1,h2,a,b,by simpa[pY] using g,λp c=>?_⟩;obtain⟨q,k,rfl⟩:=Ah.mp (show p∈ps.map bE from c);exact (g7 (f q k)).2
 ·cases h
theorem oC {e:Er} (h:e.Sh):l9 e.d=true:=by
 unfold l9 Er.d;simp only[h.e1,h.e2,h.l1,h.l2,decide_true,Bool.true_and,Af,h.pn];rw[AL];intro d hd;obtain⟨p,f,rfl⟩:=Ah.mp hd;obtain⟨a,b,c⟩:=h.pl p f;obtain⟨l,t⟩:=p;cases t with
 |none=>simp at a b;simp[dM,ag,fu,a,b]
 |some t=>have:=c t rfl;simp at a b;simp[dM,ag,fu,a,b,this.1,this.2]
theorem Er.Ok.sh {e:Er} (h:e.Ok):e.Sh:=⟨by have:=h.e1;omega,by have:=h.e2;omega,by have:=h.l1;omega,by have:=h.l2;omega,by have:=h.p2;omega,λp f=>by obtain⟨a,b,c⟩:=h.pl p f;exact⟨by omega,by omega,c⟩⟩
def Er.work (e:Er):Int:=(e.parts.map (·.1)).sum
def a5:Gf
 |[d]=>if l9 d then .ok (.int (deE d).work) else .no
 |_=>.no
theorem dy {e:Er} (h:e.Sh):a5 [e.d]=.ok (.int e.work):=by unfold a5;simp[oC h,tJ]
theorem kc (p:Int×Option Int):dIx (ag p) (.int 0)=some (.int p.1):=rfl
theorem tY (e:Er):dIx e.d (.int 3)=some (.tuple (e.parts.map ag)):=rfl
theorem tP {f:PyData->Rs PyData} (h:(match ds with|[a]=>f a|_=>.no)≠.no):∃a,ds=[a]/\f a≠.no:=by
 rcases ds with _|⟨a,_|⟨y,ys⟩⟩
 ·exact absurd rfl h
 ·skip
  exact⟨_,rfl,h⟩
 ·exact absurd rfl h
theorem jP (cs:Cs):LLq (fS cs) 1 0 a5:=by
 intro ds hl a;obtain⟨d,f,c⟩:=tP a;clear a;subst f;have a:=c;clear c
 ·skip
  split at a
  ·rename_i hd;obtain⟨e1,sh⟩:=uh hd;rw[<-e1];generalize deE d=e at sh;rw[dy sh];have hc:bh 1 (dh (g2 dIx (ae 0) (gC (.int 3)))) bA (g2 dIx (ae 1) (gC (.int 0))) aY [some e.d]=.ok ((e.parts.map ag).map λd=>.int (bE d).1) :=
    c0 rfl (by simp[tY]) (by have:=sh.pn;simp;omega) λd b=>by obtain⟨p,hp,rfl⟩:=Ah.mp b;simp[kc,dD]
   have hm:((e.parts.map ag).map λd=>PyData.int (bE d).1)=e.parts.map λp=>.int p.1:=by rw[AD];exact AW λp _=>by simp[dD]
   rw[hm]at hc;simp[fS,hc,iV,Er.work]
  ·exact absurd rfl a
@[simp]theorem uZ (go ga:Ds->Rs PyData) (δ:Ds):vb go ga δ=(go δ).bind λd=>match d with|.tuple xs=>(ga δ).bind λy=>Rs.bS (ng xs y)|_=>.no:=rfl
theorem nQ:cutD xs (some (k:Int)) none=xs.drop k:=by
 unfold cutD;have e1:HT.sIx xs.length 0 (some (k:Int))=min k xs.length:=HT.kC _ _ _;have e2:HT.sIx xs.length xs.length none=xs.length:=rfl;rw[e1,e2];by_cases h:k<=xs.length
 ·rw[Nat.min_eq_left h];exact AZ (by simp)
 ·rw[Nat.min_eq_right (by omega),List.drop_of_length_le (A6 _),List.drop_of_length_le (by omega)];simp
theorem nR:cutD xs none (some (k:Int))=xs.take k:=by unfold cutD;have e1:HT.sIx xs.length 0 none=0:=rfl;have e2:HT.sIx xs.length xs.length (some (k:Int))=min k xs.length:=HT.kC _ _ _;rw[e1,e2];simp
theorem m7 (h1:-(2 ^ 64)<a) (h2:a<2 ^ 64):cO (.int a) (.int b)=some (.int (a*b)):=by show (if _ then _ else _)=_;rw[if_pos (.inl ⟨h1,h2⟩)]
inductive Fa2 {α β:Type} (R:α->β->Prop):List α->List β->Prop where
 |nil:Fa2 R [] []
 |cons {a:α} {b:β} {l:List α} {m:List β} (h:R a b) (t:Fa2 R l m):Fa2 R (a::l) (b::m)
section
variable {es:List Er} {A B:List Int} {x y:Int}
end
section
variable {es:List Er} {rs ot:List Int} {n:Int}
end
def bZ:PyData->Option (List Int)
 |.dict [(.none,.list l)]=>dB l
 |_=>none
theorem cg (ns:List Int):bZ (ai ns)=some ns:=eN ns
def ah:Gf
 |[s,.int k,.int many]=>(match bZ s with
  |some ns=>if 0<=k/\0<many then .ok (.int (mixed ns k many)) else .no
  |none=>.no)
 |_=>.no
theorem aZ {k:Int} (h1:0<=k) (h2:0<many):ah [ai ns,.int k,.int many]=.ok (.int (mixed ns k many)):=by unfold ah;simp[cg,h1,h2]
theorem e8 (O:List Nat) (i:Nat) (g:Ds->Rs PyData) (δ:Ds):bD O i g δ=if i<δ.length then ofR (g (mask O δ)) λd=>.nx (δ.set i (some d)) else .no:=rfl
def aM:Gf
 |[s,.int a,.int top,.bool tools]=>(match bZ s with
  |some ns=>if 0<=a/\0<top/\top<=58 then .ok (mkE ns a top tools).d else .no
  |none=>.no)
 |_=>.no
theorem cV {top:Int} {b:Bool} (h1:0<=a) (h2:0<top) (c:top<=58):aM [ai ns,.int a,.int top,.bool b]=.ok (mkE ns a top b).d:=by unfold aM;simp[cg,h1,h2,c]
theorem lZ (o:Option Int):cG (fu o)=true:=by cases o <;> (unfold fu cG;rfl)
theorem jK (p:Int×Option Int):cG (ag p)=true:=by unfold ag cG ec;rw[show cG (.int p.1)=true by unfold cG;rfl];unfold ec;rw[lZ];unfold ec;rfl
theorem mf {i:Int} (h0:0<=i) (h1:i<5):atI [PyData.int 0,PyData.int 1,PyData.int 1,PyData.int 0,PyData.none] i=some (fu (d5 i)):=by
 have:i=0\/i=1\/i=2\/i=3\/i=4:=by omega
 rcases this with rfl|rfl|rfl|rfl|rfl <;> rfl
theorem jd (ns:List Int) (a top:Int) (b:Bool) (e la f:PyData) (ha:0<=a) (L:List PyData) (hL:L.length<1000) (i:Nat) (x8 g:Option PyData) :
   aR (bD [7] 9 (au ah (aa (ae 0) (aa (g2 aW (g2 aW (ae 1) (gC (.int 4))) (ae 8)) (aa (gC (.int 40)) af)))))
   (aR (kj [7] 7 (ay (aa (g2 aW (gC (.int 1)) (g2 cB (ae 9) (gC (.int 4)))) (aa (g2 dIx (cQ (aa (gC (.int 0)) (aa (gC (.int 1)) (aa (gC (.int 1)) (aa (gC (.int 0)) (aa (gC .none) af)))))) (g2 cB (g2 eB (ae 9) (gC (.int 4))) (gC (.int 5)))) af))))
   (sIf (dY (gT (ae 3))) (lA 7 (g1 dq (gC (.int 1))) (ay (aa (g2 dIx (g2 dIx (ae 7) (g1 dq (gC (.int 1)))) (gC (.int 0))) (aa (gC .none) af)))) bq))
     [some (ai ns),some (.int a),some (.int top),some (.bool b),some e,some la,some f,some (.list L),some (.int (0+(i:Int))),g]
  =.nx [some (ai ns),some (.int a),some (.int top),some (.bool b),some e,some la,some f,some (.list (L++[ag (bM ns (a+4+(i:Int)) b)])),some (.int (0+(i:Int))),some (.int (mixed ns (a+4+(0+(i:Int))) 40))]:=by
 have hm:=aZ (ns:=ns) (k:=a+4+(0+(i:Int))) (many:=40) (by omega) (by decide);have m0:=aT ns (a+4+(0+(i:Int))) (many:=40) (by decide);have m1:=a7 ns (a+4+(0+(i:Int))) (many:=40) (by decide);have j:a+4+(0+(i:Int))=a+4+(i:Int):=by omega
 generalize hc:mixed ns (a+4+(0+(i:Int))) 40=c at *;have l:0<=c / 4 % 5:=Ay _ (by decide);have m:c / 4 % 5<5:=Ar _ (by decide);have n:=mf l m;have h:bM ns (a+4+(i:Int)) b=(1+c % 4,if b then d5 (c / 4 % 5) else none):=by unfold bM;rw[<-j,hc]
 have o:bD [7] 9 (au ah (aa (ae 0) (aa (g2 aW (g2 aW (ae 1) (gC (.int 4))) (ae 8)) (aa (gC (.int 40)) af)))) [some (ai ns),some (.int a),some (.int top),some (.bool b),some e,some la,some f,some (.list L),some (.int (0+(i:Int))),g]
    =.nx [some (ai ns),some (.int a),some (.int top),some (.bool b),some e,some la,some f,some (.list L),some (.int (0+(i:Int))),some (.int c)]:=by
   rw[e8,if_pos (by simp)];simp only[b9,bg,cf,eG,aG (show 0∉[7] by decide),aG (show 1∉[7] by decide),aG (show 8∉[7] by decide),bb,a9,fA,Rs.aj,dH,Rs.aF,hm,aH];rfl
 have s2:kj [7] 7 (ay (aa (g2 aW (gC (.int 1)) (g2 cB (ae 9) (gC (.int 4)))) (aa (g2 dIx (cQ (aa (gC (.int 0)) (aa (gC (.int 1)) (aa (gC (.int 1)) (aa (gC (.int 0)) (aa (gC .none) af)))))) (g2 cB (g2 eB (ae 9) (gC (.int 4))) (gC (.int 5)))) af)))
     [some (ai ns),some (.int a),some (.int top),some (.bool b),some e,some la,some f,some (.list L),some (.int (0+(i:Int))),some (.int c)]
    =.nx [some (ai ns),some (.int a),some (.int top),some (.bool b),some e,some la,some f,some (.list (L++[ag (1+c % 4,d5 (c / 4 % 5))])),some (.int (0+(i:Int))),some (.int c)]:=by
   unfold kj;simp only[List.getElem?_cons_succ,List.getElem?_cons_zero];simp only[iJ,hZ,bg,cf,eG,aG (show 9∉[7] by decide),bb,a9,fA,Rs.aj,dH,Rs.aF,pW,qa,if_pos (show (0:Int)<4 by decide),if_pos (show (0:Int)<5 by decide),if_pos (show (0:Int)<4/\(4:Int)<1073741824 by decide),qb,n,aH,if_pos (show L.length<1000000 by omega)];rfl
 rw[bL,o];simp only;rw[bL,s2];simp only;cases b with
 |true =>rw[h];simp
 |false =>
   rw[h];have hl:atI (L++[ag (1+c % 4,d5 (c / 4 % 5))]) (-1)=some (ag (1+c % 4,d5 (c / 4 % 5))):=by rw[g4];simp
   have p:ixN (L++[ag (1+c % 4,d5 (c / 4 % 5))]).length (-1)=some L.length:=by unfold ixN;rw[if_neg (by decide),Ae,Av,if_pos (by omega)];congr 1;omega
   have q:(L++[ag (1+c % 4,d5 (c / 4 % 5))]).set L.length (.tuple [.int (1+c % 4),.none])=L++[ag (1+c % 4,none)]:=by rw[List.set_append_right _ _ (A6 _)];simp;rfl
   have r:cG (.tuple [.int (1+c % 4),.none])=true:=jK (1+c % 4,none);rw[gP];simp only[so,lj,bb,a9,Rs.aj,dO,aH,Bool.not_false,if_true];unfold lA;simp only[List.getElem?_cons_succ,List.getElem?_cons_zero,iJ,bg,cf,eG,uN,bb,a9,fA,Rs.aj,um,Rs.aF,qb,hl,kc,aH,p,r,if_true,q];rfl
theorem ia {j:Int} (h0:0<=j) (h1:j<1000000):oh [.int j]=.ok (bB 0 j.toNat):=by show (if _ then _ else _)=_;rw[if_pos (by omega)]
theorem d8 {lo:Int} {d:PyData} (h:(bB lo n)[i]?=some d):i<n/\d=.int (lo+(i:Int)):=by have hi:=(Aq.mp h).1;rw[cj]at hi;unfold bB at h;rw[Ap,List.getElem?_range hi]at h;exact⟨hi,(Option.some.inj h).symm⟩
theorem fJ (n:Nat) (g:Nat->α):(List.range (n+1)).map g=(List.range n).map g++[g n]:=by rw[List.range_succ,List.map_append];rfl
theorem mQ {f:PyData->Int->Int->Bool->Rs PyData} (h:(match ds with|[e,.int a,.int b,.bool c]=>f e a b c|_=>.no)≠.no):∃e a b c,ds=[e,.int a,.int b,.bool c]/\f e a b c≠.no:=by
 rcases ds with _|⟨e,_|⟨a,_|⟨b,_|⟨c,_|⟨y,ys⟩⟩⟩⟩⟩
 ·exact absurd rfl h
 ·exact absurd rfl h
 ·first|exact absurd rfl h|(cases a <;> exact absurd rfl h)
 ·first|exact absurd rfl h|(cases a <;> first|exact absurd rfl h|(cases b <;> exact absurd rfl h))
 ·skip
  cases a with
  |int a =>
   cases b with
   |int b =>
    cases c with
    |bool c =>exact⟨_,_,_,_,rfl,h⟩
    |_=>exact absurd rfl h
   |_=>first|exact absurd rfl h|(cases c <;> exact absurd rfl h)
  |_=>first|exact absurd rfl h|(cases b <;> first|exact absurd rfl h|(cases c <;> exact absurd rfl h))
 ·first|exact absurd rfl h|(cases a <;> first|exact absurd rfl h|(cases b <;> first|exact absurd rfl h|(cases c <;> exact absurd rfl h)))
theorem iL (cs:Cs):LLq (cz cs ah) 4 6 aM:=by
 intro ds hl c;obtain⟨s,a,top,b,r,q⟩:=mQ c;clear c;subst r;have c:=q;clear q
 ·skip
  split at c
  ·rename_i ns h;have es:s=ai ns:=by
    unfold bZ at h;split at h
    ·rename_i l;rw[dk h];rfl
    ·cases h
   subst es;split at c
   ·rename_i hc;obtain⟨ha,j,m⟩:=hc;rw[cV ha j m];show bK (cz cs ah [some (ai ns),some (.int a),some (.int top),some (.bool b),none,none,none,none,none,none])=_;have hm:∀k many:Int,0<=k->0<many->ah [ai ns,.int k,.int many]=.ok (.int (mixed ns k many)):=λk many h1 h2=>aZ h1 h2
    have a1:=aT ns a j;have lb:=i6 ns a (3+mixed ns a top) (by omega);have b1:=aT ns (a+1) (many:=4) (by decide);have b2:=a7 ns (a+1) (many:=4) (by decide);have n1:=aT ns (a+3) (many:=3) (by decide);have n2:=a7 ns (a+3) (many:=3) (by decide);have c1:=aT ns (a+6) (many:=3) (by decide);have c2:=a7 ns (a+6) (many:=3) (by decide)
    -- every
    have t:bD [7] 4 (g2 aW (gC (.int 3)) (au ah (aa (ae 0) (aa (ae 1) (aa (ae 2) af))))) [some (ai ns),some (.int a),some (.int top),some (.bool b),none,none,none,none,none,none]
      =.nx [some (ai ns),some (.int a),some (.int top),some (.bool b),some (.int (3+mixed ns a top)),none,none,none,none,none]:=by
     rw[e8,if_pos (by simp)];simp only[b9,bg,cf,eG,aG (show 0∉[7] by decide),aG (show 1∉[7] by decide),aG (show 2∉[7] by decide),bb,a9,fA,Rs.aj,hm a top ha j,dH,Rs.aF,aH];rfl
    generalize hev:3+mixed ns a top=ev at *;have evp:3<=ev:=by omega
    have s2:bD [7] 5 (g2 cO (au ah (aa (ae 0) (aa (g2 aW (ae 1) (gC (.int 1))) (aa (gC (.int 4)) af)))) (gF lH (aa (g2 dEq (au ah (aa (ae 0) (aa (g2 aW (ae 1) (gC (.int 2))) (aa (gC (.int 3)) af)))) (gC (.int 0))) af))) [some (ai ns),some (.int a),some (.int top),some (.bool b),some (.int ev),none,none,none,none,none]
      =.nx [some (ai ns),some (.int a),some (.int top),some (.bool b),some (.int ev),some (.int (mixed ns (a+1) 4*(if mixed ns (a+2) 3=0 then 1 else 0))),none,none,none,none]:=by
     rw[e8,if_pos (by simp)];simp only[b9,bg,cf,eG,ja,aG (show 0∉[7] by decide),aG (show 1∉[7] by decide),bb,a9,fA,Rs.aj,dH,Rs.aF,hm (a+1) 4 (by omega) (by decide),hm (a+2) 3 (by omega) (by decide),nq,rN];rw[m7 (by omega) (by omega)];simp only[Rs.aF,aH,beq_iff_eq];rfl
    have u:bD [7] 5 (gF fN (aa (ae 5) (aa (g2 en (ae 4) (gC (.int 1))) af))) [some (ai ns),some (.int a),some (.int top),some (.bool b),some (.int ev),some (.int (mixed ns (a+1) 4*(if mixed ns (a+2) 3=0 then 1 else 0))),none,none,none,none]
      =.nx [some (ai ns),some (.int a),some (.int top),some (.bool b),some (.int ev),some (.int (cN ns a ev)),none,none,none,none]:=by
     rw[e8,if_pos (by simp)];simp only[ja,bg,cf,eG,aG (show 4∉[7] by decide),aG (show 5∉[7] by decide),bb,a9,fA,Rs.aj,mZ,Rs.aF,rQ,aH];rfl
    generalize hla:cN ns a ev=la at *;have v:bD [7] 6 (g2 en (ae 4) (ae 5)) [some (ai ns),some (.int a),some (.int top),some (.bool b),some (.int ev),some (.int la),none,none,none,none]
      =.nx [some (ai ns),some (.int a),some (.int top),some (.bool b),some (.int ev),some (.int la),some (.int (ev-la)),none,none,none]:=by
     rw[e8,if_pos (by simp)];simp only[eG,aG (show 4∉[7] by decide),aG (show 5∉[7] by decide),bb,a9,Rs.aj,mZ,Rs.aF,aH];rfl
    have w:sIf (gT (g2 dEq (au ah (aa (ae 0) (aa (g2 aW (ae 1) (gC (.int 1))) (aa (gC (.int 3)) af)))) (gC (.int 0)))) (bD [7] 6 (g2 en (ae 6) (au ah (aa (ae 0) (aa (g2 aW (ae 1) (gC (.int 2))) (aa (ae 6) af)))))) bq
        [some (ai ns),some (.int a),some (.int top),some (.bool b),some (.int ev),some (.int la),some (.int (ev-la)),none,none,none]
      =.nx [some (ai ns),some (.int a),some (.int top),some (.bool b),some (.int ev),some (.int la),some (.int (fh ns a (ev-la))),none,none,none]:=by
     rw[gP];simp only[lj,eG,b9,bg,cf,bb,a9,fA,Rs.aj,dH,Rs.aF,hm (a+1) 3 (by omega) (by decide),nq,dO,aH];by_cases z:mixed ns (a+1) 3=0
     · rw[if_pos (by simp[z]),e8,if_pos (by simp)];simp only[b9,bg,cf,eG,aG (show 0∉[7] by decide),aG (show 1∉[7] by decide),aG (show 6∉[7] by decide),bb,a9,fA,Rs.aj,dH,Rs.aF,hm (a+2) (ev-la) (by omega) (by omega),mZ,aH];unfold fh;rw[if_pos z];rfl
     · rw[if_neg (by simp[z])];unfold fh;rw[if_neg z];rfl
    generalize hdu:fh ns a (ev-la)=du at *;have x:gv [7] 7 af [some (ai ns),some (.int a),some (.int top),some (.bool b),some (.int ev),some (.int la),some (.int du),none,none,none]
      =.nx [some (ai ns),some (.int a),some (.int top),some (.bool b),some (.int ev),some (.int la),some (.int du),some (.list []),none,none]:=rfl
    have src:eF (aa (au ah (aa (ae 0) (aa (g2 aW (ae 1) (gC (.int 3))) (aa (gC (.int 3)) af)))) af) (mask [7] [some (ai ns),some (.int a),some (.int top),some (.bool b),some (.int ev),some (.int la),some (.int du),some (.list []),none,none])=.ok (bB 0 (mixed ns (a+3) 3).toNat):=by simp only[iP,b9,bg,cf,eG,aG (show 0∉[7] by decide),aG (show 1∉[7] by decide),bb,a9,fA,Rs.aj,dH,Rs.aF,hm (a+3) 3 (by omega) (by decide)];exact ia n1 (by omega)
    obtain⟨δ',e,n,f,o⟩:=fH (β:=Unit) (tgt:=dw 8) (body:=aR (bD [7] 9 (au ah (aa (ae 0) (aa (g2 aW (g2 aW (ae 1) (gC (.int 4))) (ae 8)) (aa (gC (.int 40)) af)))))
  (aR (kj [7] 7 (ay (aa (g2 aW (gC (.int 1)) (g2 cB (ae 9) (gC (.int 4)))) (aa (g2 dIx (cQ (aa (gC (.int 0)) (aa (gC (.int 1)) (aa (gC (.int 1)) (aa (gC (.int 0)) (aa (gC .none) af)))))) (g2 cB (g2 eB (ae 9) (gC (.int 4))) (gC (.int 5)))) af))))
  (sIf (dY (gT (ae 3))) (lA 7 (g1 dq (gC (.int 1))) (ay (aa (g2 dIx (g2 dIx (ae 7) (g1 dq (gC (.int 1)))) (gC (.int 0))) (aa (gC .none) af)))) bq)))
     (λi δ=>∃n f,δ=[some (ai ns),some (.int a),some (.int top),some (.bool b),some (.int ev),some (.int la),some (.int du),some (.list ((List.range i).map λ(k:Nat)=>ag (bM ns (a+4+(k:Int)) b))),n,f])
     (bB 0 (mixed ns (a+3) 3).toNat) 0 (λi d δ hi p=>by obtain⟨n,f,y⟩:=p;subst y;rw[Nat.zero_add]at *;obtain⟨hil,rfl⟩:=d8 hi;refine⟨[some (ai ns),some (.int a),some (.int top),some (.bool b),some (.int ev),some (.int la),some (.int du),some (.list ((List.range i).map λ(k:Nat)=>ag (bM ns (a+4+(k:Int)) b))),some (.int (0+(i:Int))),f],_,rfl,jd ns a top b (.int ev) (.int la) (.int du) ha _ (by simp;omega) i none f,some (.int (0+(i:Int))),some (.int (mixed ns (a+4+(0+(i:Int))) 40)),?_⟩;rw[fJ]) [some (ai ns),some (.int a),some (.int top),some (.bool b),some (.int ev),some (.int la),some (.int du),some (.list []),none,none] ⟨none,none,rfl⟩
    subst o;rw[Nat.zero_add,cj]at e;have hd:(mkE ns a top b).d=.tuple [.int ev,.int du,.int la,.tuple (((List.range (mixed ns (a+3) 3).toNat).map λ(k:Nat)=>ag (bM ns (a+4+(k:Int)) b))++[ag (1+mixed ns (a+6) 3,none)])]:=by simp only[mkE,Er.d,List.map_append,AD,hev,hla,hdu];rfl
    rw[hd];simp only[cz];rw[bL,t];simp only;rw[bL,s2];simp only;rw[bL,u];simp only;rw[bL,v];simp only;rw[bL,w];simp only;rw[bL,x];simp only;rw[bL,mw,src,aH,e];simp only;simp only[eU,iJ,hZ,bg,cf,eG,ja,b9,bb,a9,fA,Rs.aj,dH,Rs.aF,hm (a+6) 3 (by omega) (by decide)];have g:aW (.list ((List.range (mixed ns (a+3) 3).toNat).map λ(k:Nat)=>ag (bM ns (a+4+(k:Int)) b))) (.list [.tuple [.int (1+mixed ns (a+6) 3),.none]])=some (.list (((List.range (mixed ns (a+3) 3).toNat).map λ(k:Nat)=>ag (bM ns (a+4+(k:Int)) b))++[ag (1+mixed ns (a+6) 3,none)])):=by show (if _ then _ else _)=_;rw[if_pos (by simp;omega)];rfl
    rw[g];simp
   ·exact absurd rfl c
  ·exact absurd rfl c
def aE:Gf
 |[s,.int a,.int most,.int top,.bool tools]=>(match bZ s with
  |some ns=>if 0<=a/\0<most/\most<=6/\0<top/\top<=58 then .ok (ar (fy ns a most top tools)) else .no
  |none=>.no)
 |_=>.no
theorem cJ {most top:Int} {b:Bool} (h1:0<=a) (h2:0<most) (c:most<=6) (e:0<top) (f:top<=58):aE [ai ns,.int a,.int most,.int top,.bool b]=.ok (ar (fy ns a most top b)):=by unfold aE;simp[cg,h1,h2,c,e,f]
theorem dF {s:PyData} (a:bZ s=some ns):s=ai ns:=by
 unfold bZ at a;split at a
 ·rename_i l;rw[dk a];rfl
 ·cases a
theorem lQ {f:PyData->Int->Int->Int->Bool->Rs PyData} (h:(match ds with|[g,.int a,.int b,.int c,.bool e]=>f g a b c e|_=>.no)≠.no):∃g a b c e,ds=[g,.int a,.int b,.int c,.bool e]/\f g a b c e≠.no:=by
 rcases ds with _|⟨g,_|⟨a,_|⟨b,_|⟨c,_|⟨e,_|⟨y,ys⟩⟩⟩⟩⟩⟩
 ·exact absurd rfl h
 ·exact absurd rfl h
 ·first|exact absurd rfl h|(cases a <;> exact absurd rfl h)
 ·first|exact absurd rfl h|(cases a <;> first|exact absurd rfl h|(cases b <;> exact absurd rfl h))
 ·first|exact absurd rfl h|(cases a <;> first|exact absurd rfl h|(cases b <;> first|exact absurd rfl h|(cases c <;> exact absurd rfl h)))
 ·skip
  cases a with
  |int a =>
   cases b with
   |int b =>
    cases c with
    |int c =>
     cases e with
     |bool e =>exact⟨_,_,_,_,_,rfl,h⟩
     |_=>exact absurd rfl h
    |_=>first|exact absurd rfl h|(cases e <;> exact absurd rfl h)
   |_=>first|exact absurd rfl h|(cases c <;> first|exact absurd rfl h|(cases e <;> exact absurd rfl h))
  |_=>first|exact absurd rfl h|(cases b <;> first|exact absurd rfl h|(cases c <;> first|exact absurd rfl h|(cases e <;> exact absurd rfl h)))
 ·first|exact absurd rfl h|(cases a <;> first|exact absurd rfl h|(cases b <;> first|exact absurd rfl h|(cases c <;> first|exact absurd rfl h|(cases e <;> exact absurd rfl h))))
theorem gD (cs:Cs):LLq (cm cs aM ah) 5 1 aE:=by
 intro ds hl c;obtain⟨s,a,most,top,b,n,l⟩:=lQ c;clear c;subst n;have c:=l;clear l
 ·skip
  split at c
  ·rename_i ns o;have es:=dF o;subst es;split at c
   ·rename_i hc;obtain⟨ha,e,g,m,f⟩:=hc;rw[cJ ha e g m f];have hm:=aZ (ns:=ns) ha e;have m1:=aT ns a e;have m2:=a7 ns a e;have h:bh 6 (eF (aa (ae 5) af)) bA (au aM (aa (ae 0) (aa (g2 aW (g2 aW (ae 1) (gC (.int 1))) (g2 cO (gC (.int 7)) (ae 6))) (aa (ae 3) (aa (ae 4) af))))) aY
      [some (ai ns),some (.int a),some (.int most),some (.int top),some (.bool b),some (.int (1+mixed ns a most))]=.ok ((bB 0 (1+mixed ns a most).toNat).map λd=>(mkE ns (a+1+7*deI d) top b).d) :=
     c0 rfl (by simp only[iP,bg,cf,bb,a9,Rs.aj];exact ia (by omega) (by omega)) (by rw[cj];omega) λd hd=>by obtain⟨i,hi⟩:=List.getElem?_of_mem hd;obtain⟨_,rfl⟩:=d8 hi;simp only[List.cons_append,B0,b9,bg,cf,eG,bb,a9,fA,Rs.aj,dH,Rs.aF];rw[m7 (by decide) (by decide)];simp only[Rs.aF,Rs.aj,dH];exact cV (by omega) m f
    have j:ar (fy ns a most top b)=.tuple ((bB 0 (1+mixed ns a most).toNat).map λd=>(mkE ns (a+1+7*deI d) top b).d):=by
     unfold ar fy bB;rw[AD,AD];congr 1;refine AW λk _=>?_
     simp[deI]
    rw[j];show bK (cm cs aM ah [some (ai ns),some (.int a),some (.int most),some (.int top),some (.bool b),none])=_;simp only[cm,bL,pF,AI,List.length_nil,Nat.reduceAdd,Nat.reduceLT,if_true,b9,bg,cf,eG,bb,a9,fA,Rs.aj,hm,dH,Rs.aF,aH,List.set_cons_succ,List.set_cons_zero,eU,ja,uq,h,rM,lL]
   ·exact absurd rfl c
  ·exact absurd rfl c
def d4 (ns:List Int) (a:Int) (many:Nat):Nat->List Int×List Int
 |0=>((List.range many).map λ(i:Nat)=>(i:Int),[])
 |i+1=>((d4 ns a many i).1.eraseIdx (mixed ns (a+(i:Int)) ((d4 ns a many i).1.length:Int)).toNat,(d4 ns a many i).2++[(d4 ns a many i).1.getD (mixed ns (a+(i:Int)) ((d4 ns a many i).1.length:Int)).toNat 0])
def fD (ns:List Int) (a:Int) (many:Nat):List Int:=(d4 ns a many many).2
theorem fZ {α:Type}:∀(l:List α) (j:Nat) (h:j<l.length),(l[j]::l.eraseIdx j).Perm l
 |[],j,h=>by simp at h
 |x::r,0,h=>by simp
 |x::r,j+1,h=>by
  simp only[List.getElem_cons_succ,List.eraseIdx_cons_succ];have h':j<r.length:=by simpa using h
  exact (List.Perm.swap _ _ _).trans ((fZ r j h').cons x)
theorem jj (ns:List Int) (a:Int) (many:Nat):∀i,i<=many->(d4 ns a many i).1.length=many-i/\(d4 ns a many i).2.length=i/\((d4 ns a many i).1++(d4 ns a many i).2).Perm ((List.range many).map λ(i:Nat)=>(i:Int))
 |0,_=>⟨by simp[d4],rfl,by simp[d4]⟩
 |i+1,h=>by
  obtain⟨h1,h2,e⟩:=jj ns a many i (by omega);simp only[d4];generalize (d4 ns a many i).1=L at *;generalize (d4 ns a many i).2=M at *;have c:0<(L.length:Int):=by omega
  have m0:=aT ns (a+(i:Int)) c;have m1:=a7 ns (a+(i:Int)) c;generalize mixed ns (a+(i:Int)) (L.length:Int)=z at *;have b:z.toNat<L.length:=by omega
  refine⟨by rw[List.length_eraseIdx_of_lt b];omega,by simp[h2],?_⟩;refine List.Perm.trans ?_ e;rw[AF,A8 b,Option.getD_some];have p1:(L[z.toNat]::L.eraseIdx z.toNat).Perm L:=fZ L z.toNat b;have p2:(L.eraseIdx z.toNat++(M++[L[z.toNat]])).Perm ((L[z.toNat]::L.eraseIdx z.toNat)++M):=by rw[<-List.append_assoc];exact (List.perm_append_singleton _ _)
  exact p2.trans (p1.append_right M)
theorem j8 (ns:List Int) (a:Int) (many:Nat):p7 many (fD ns a many):=by
 obtain⟨h1,h2,b⟩:=jj ns a many many (A6 _);unfold fD;have e:(d4 ns a many many).1=[]:=AO.mp (by omega);rw[e,B0]at b;refine⟨h2,λr c=>?_,b.nodup_iff.mpr ?_⟩
 ·obtain⟨k,g,rfl⟩:=Ah.mp (b.mem_iff.mp c);have:=List.mem_range.mp g;omega
 ·exact (List.nodup_range).map (f:=λ(i:Nat)=>(i:Int)) λx y h=>by intro q;have q:(x:Int)=(y:Int):=q;exact h (by omega)
def da:Gf
 |[s,.int a,.int many]=>(match bZ s with
  |some ns=>if 0<=a/\0<=many/\many<=100 then .ok (mU (fD ns a many.toNat)) else .no
  |none=>.no)
 |_=>.no
theorem fw (h1:0<=a) (h2:0<=many) (b:many<=100):da [ai ns,.int a,.int many]=.ok (mU (fD ns a many.toNat)):=by unfold da;simp[cg,h1,h2,b]
end RS
namespace RS
open PySem PySem.Spec PyProof.Rows L2
section
theorem o7 {f:Addr} {G:Ds->Sr} (F:Fun K x qual st f fd) (S:ck N ps (aB st)) (c:∀i∈O,ps.length<=i)
  (body:∀(cdv:Value) (A:Around) (outer:List Env) (s:Shared) (H:Hp) (E:XK),bF k (A.deeper (envOfC qual (aB st) s.heap.objs.size f cdv))->PBD (cI (CXW P w) P w K mg base N qual (aB st) f cdv A outer s H E) E O (bJ st) G)
  (e:∀ds,ds.length=ps.length->gf ds≠.no->bK (G (ds.map some++List.replicate (N.length-ps.length) none))=gf ds):dG P w K mg base (CXW P w) (k+1) f fd ps (spD K ps.length gf):=by
 refine kv F S (λvs H Q E h=>?_) (λcdv A outer s H vs Q E g h=>?_)
 ·obtain⟨A,ds,b,hi,hl,o⟩:=h;rw[hi.length,hl]
 ·obtain⟨A0,ds,b,hi,hl,o⟩:=h;refine⟨_,body cdv A outer s H E g,H,A0,[],_,aX.start b hi hl c,?_⟩;have a:=e ds hl (λz=>by rw[z]at o;exact o);cases q:G (ds.map some++List.replicate (N.length-ps.length) none) with
  |rt d=>rw[q]at a;rw[<-a]at o;exact λv H' s' j=>o v H' s' j
  |nx δ=>rw[q]at a;rw[<-a]at o;exact λA' σ H' l=>o .non H' l.same is_none
  |rz C=>rw[q]at a;rw[<-a]at o;exact λH' s'=>o H' s'
  |bk δ=>rw[q]at a;rw[<-a]at o;exact o.elim
  |ct δ=>rw[q]at a;rw[<-a]at o;exact o.elim
  |no=>rw[q]at a;rw[<-a]at o;exact o.elim
theorem mG {f:Addr} {b:Array (Option Value)} {kV e:Value} (X:K.In h) (G:h.Ns mainGlobals mg)
  (g:∀(kV doc pm:Value) (an:Option Addr) (cdv ct:Value) (us:List Value),us.length=ps.length->bindArgs (PySem.W.fnOf x x (c5 st) (bJ st) (aB st) .none kV doc pm an cdv ct) ⟨us,[]⟩=pure (ps.zip us))
  (a:PySem.W.nsIn K mainGlobals x=some (some (.ref f)))
  (l:K.lookup f=some ⟨oc,od,.func (PySem.W.fnOf x x (c5 st) (bJ st) (aB st) .none kV e pm an cd ct),b⟩)
  (c:PySem.W.codeIn K cd x=true) (k:PySem.W.keepIn K (.ref f)=true):bO K mg x st ps :=
 have F:=rk (st:=st) l c k
 ⟨f,_,F,F.binds g,PySem.W.mg_of X G a⟩
theorem dQ (X:K.In h) (G:h.Ns mainGlobals mg) (a:PySem.W.nsIn K mainGlobals x=some (some (.ref C)))
 (e:PySem.W.excIn K C [.type "ValueError",.type "Exception",.type "BaseException",.type "object"] "ValueError.__new__"=true):fz K mg x C:=⟨PySem.W.mg_of X G a,e⟩
theorem oz {n:Int} {t:_} (X:K.In h) (G:h.Ns mainGlobals mg) (a:PySem.W.nsIn K mainGlobals x=some (some (.int n t))):∃t,mg x=some (.int n t):=⟨t,PySem.W.mg_of X G a⟩
end
def cq (n:Nat):Gf
 |[s]=>(match bZ s with
  |some ns=>if ns.length<=n then .ok (.bool true) else .no
  |none=>.no)
 |_=>.no
theorem _root_.L2.tabsIn_nil (e:L2.ky=[]):L2.fR K h:=⟨(λP q a=>by obtain⟨x,m,_⟩:=a;rw[e]at m;cases m),(λP q q' b _=>by obtain⟨x,m,_⟩:=b;rw[e]at m;cases m)⟩
theorem tS {XP:(Str->Option Value)->Heap->Prop} {d:DefRec} {K:Params->PySem.W.Frag}
  (hn:l.most=some n) (i:n<=sizeLine) (j:d.params.defaults=[]) (A:bF k callerA)
  (B:∀(w:World) (h:Heap),YP w h->(K w.params).In h)
  (C:∀(kV doc pm:Value) (an:Option Addr) (cdv ct:Value) (us:List Value),us.length=1->bindArgs (PySem.W.fnOf d.name d.name (c5 st) (bJ st) (aB st) .none kV doc pm an cdv ct) ⟨us,[]⟩=pure ([x].zip us))
  (F:∀(w:World) (mg:Str->Option Value) (h:Heap),(K w.params).In h->h.Ns mainGlobals mg->
   bO (K w.params) mg d.name st [x]/\∀f fd,Fun (K w.params) d.name d.name st f fd->∀base:Heap,(K w.params).In base->base.Ns mainGlobals mg->L2.g5 mg base->dG l.prog w (K w.params) mg base (CXW l.prog w) k f fd [x] (spD (K w.params) 1 (cq n)))
  (o:∀(w:World) (h:Heap) (c:List Str) (g:ExcName->Option Value) (mg D:Str->Option Value),PyProof.Rows.Top q c g mg D h->(K w.params).In h->L2.fR (K w.params) h:=by exact λ_ _ _ _ _ _ _ _=>L2.tabsIn_nil rfl) :
  PySem.W.WalkO q loose XP YP l.row.toRowW d [] (λf vs=>PySem.call f vs) :=
 L2.kL (n:=n) (k:=k) (x:=x) (CX:=λw=>CXW l.prog w) (sp:=λw=>spD (K w.params) 1 (cq n)) hn i j A B
  (λw mg E h X G p=>by obtain⟨⟨f,fd,y,b,m⟩,I⟩:=F w mg h X G;have e:=p.symm.trans m;cases e;refine⟨fd,λs u=>?_,I E fd y⟩;obtain⟨oc,od,kV,doc,pm,an,cdv,ct,osl,rfl,lk,hcd⟩:=y.ex;exact .of_eq (C kV doc pm an cdv ct [u] rfl))
  (λw H a ns hl hO J=>by
   refine⟨[],[ai ns],?_,?_,rfl,?_⟩
   ·exact Ls.nil
   ·rw[kW];exact⟨_,[],rfl,lB J,rfl⟩
   ·have L:cq n [ai ns]=.ok (.bool true):=by unfold cq;simp[cg,hl]
    rw[L];intro v H' _ r;rw[kW]at r;unfold Is at r;exact r)
  (λw H s e s' t=>(by obtain⟨_,_,_,_,_,_,z,_⟩:=t;exact z)) o
end RS
namespace RS
open PySem L2
theorem eS:∀{ds:List PyData},(∀d∈ds,aq d=true)->cL ds=true
 |[],_=>by unfold cL;rfl
 |d::r,h=>by unfold cL;rw[h d List.mem_cons_self,eS λe a=>h e (Ab _ a)];rfl
theorem ba (h:∀d∈ds,aq d=true):aq (.tuple ds)=true:=by unfold aq;exact eS h
theorem ee (h:∀d∈ds,aq d=true):aq (.list ds)=true:=by unfold aq;exact eS h
theorem bP (i:Int):aq (.int i)=true:=by unfold aq;rfl
theorem l7 (o:Option Int):aq (fu o)=true:=by cases o <;> (unfold fu aq;rfl)
theorem ei (p:Int×Option Int):aq (ag p)=true:=ba λd hd=>by
 rcases List.mem_cons.mp hd with rfl|hd
 ·exact bP _
 ·cases List.mem_singleton.mp hd;exact l7 _
theorem eK (e:Er):aq e.d=true:=ba λd hd=>by
 rcases List.mem_cons.mp hd with rfl|hd
 ·exact bP _
 ·rcases List.mem_cons.mp hd with rfl|hd
  ·exact bP _
  ·rcases List.mem_cons.mp hd with rfl|hd
   ·exact bP _
   ·cases List.mem_singleton.mp hd;exact ba λd hd=>by obtain⟨p,_,rfl⟩:=Ah.mp hd;exact ei p
theorem fc (es:List Er):aq (ar es)=true:=ba λd hd=>by obtain⟨p,_,rfl⟩:=Ah.mp hd;exact eK p
end RS
namespace RS
open PySem PySem.Spec PyProof.Rows L2
section
theorem iA {xs:List α} {k:Int} {v:α} (a:0<=k) (h:xs[k.toNat]?=some v):atI xs k=some v:=by
 have:=dR h
 rwa[Int.toNat_of_nonneg a]at this
theorem depthAll_ints:∀ns:List Int,PyData.depthAll (ns.map PyData.int)<=1
 |[]=>by simp[PyData.depthAll]
 |n::r=>by have:=depthAll_ints r;simp only[AB,PyData.depthAll,PyData.depth];omega
theorem fe:∀ns:List Int,PyData.canLayAll0 (ns.map PyData.int)=true
 |[]=>by simp[PyData.canLayAll0]
 |n::r=>by simp[PyData.canLayAll0,PyData.canLay0,fe r]
theorem shaped_ints (ns:List Int):SeqAt.shaped (.list (ns.map PyData.int))=true:=by
 have:=depthAll_ints ns;have h2:(PyData.list (ns.map PyData.int)).depth<=64:=by simp only[PyData.depth];omega
 simp[SeqAt.shaped,PyData.canLay0,fe,h2]
theorem jJ:SeqAt.shaped (.list [])=true:=shaped_ints []
theorem mD:∀ns:List Int,PyData.eqv (.list (ns.map PyData.int)) (.list [])=decide (ns=[])
 |[]=>by simp[PyData.eqv,PyData.eqvAll]
 |_::_=>by simp[PyData.eqv,PyData.eqvAll]
def mS (K:PySem.W.Frag):Sp:=λvs H Q _=>∃(a:Addr) (ns:List Int) (k:Int),vs=[.ref a,.int k]/\SqL K H a (ns.map V.int)/\0<=k/\∀H',ak H H'->Q (.int (cellAt ns k)) H'
def qj (K:PySem.W.Frag):Sp:=λvs H Q _=>∃(a:Addr) (ns:List Int) (k many:Int),vs=[.ref a,.int k,.int many]/\SqL K H a (ns.map V.int)/\0<=k/\0<many/\∀H',ak H H'->Q (.int (mixed ns k many)) H'
theorem o8 (ds:List PyData) (hl:ds.length=3) (b:ah ds≠.no):∃d,ah ds=.ok d/\fo d=true/\∀vs H Q,Iss K H ds vs->(∀v H',ak H H'->IsD K H' d v->Q v H')->qj K vs H Q E0:=by
 obtain⟨s,k,many,e,c⟩:=iR b;clear b;subst e;have b:=c;clear c
 ·skip
  split at b
  ·rename_i ns f;have es:=dF f;subst es;split at b
   ·rename_i hc;refine⟨_,aZ hc.1 hc.2,rfl,λvs H Q hi g=>?_⟩;obtain⟨v0,r0,rfl,h,v1,r1,rfl,h1,v2,r2,rfl,h2,rfl⟩:=hi;obtain⟨a,rfl,i⟩:=h.ofScript;rw[h1.ofInt,h2.ofInt];exact⟨a,ns,k,many,rfl,i,hc.1,hc.2,λH' s'=>g _ _ s' ig⟩
   ·exact absurd rfl b
  ·exact absurd rfl b
end
end RS
namespace RS
open PySem L2
section
variable {es:List Er} {rs:List Int} {n:Int}
end
variable {es:List Er} {L x:List PyData} {l:Int×Option Int} {P:PyData->Prop} {a b:Ds->Rs PyData}
theorem mh (ns:List Int) (a top:Int) (ha:0<=a) (g:0<top) (b:top<=58):∃es rs,fy ns a 4 top true=es/\1<=es.length/\es.length<=4/\(∀e∈es,e.Ok)/\p7 es.length rs/\aE [ai ns,.int a,.int 4,.int top,.bool true]=.ok (ar es)/\da [ai ns,.int 0,.int (es.length:Int)]=.ok (mU rs):=by have hl:=nU ns a 4 top true (by decide);have hok:=oB ns a 4 top true g b;have f:aE [ai ns,.int a,.int 4,.int top,.bool true]=.ok (ar (fy ns a 4 top true)):=cJ ha (by decide) (by decide) g b;generalize fy ns a 4 top true=es at *;have c:=fw (ns:=ns) (a:=0) (many:=(es.length:Int)) (by decide) (by omega) (by omega);rw[AR]at c;exact⟨es,_,rfl,hl.1,by omega,hok,j8 ns 0 es.length,f,c⟩
theorem rh (es:List Er):cX [ar es]=some (.int (es.length:Int)):=by unfold ar;rw[sI,Af]
theorem lawT_of {G:Ds->Sr} (h:∀ns:List Int,G (some (ai ns)::List.replicate k none)=.rt (.bool true)):∀ds,ds.length=1->cq n ds≠.no->bK (G (ds.map some++List.replicate k none))=cq n ds:=by
 intro ds hl a
 match ds,hl with
 |[s],_ =>
  unfold cq at a ⊢;simp only at a ⊢;split at a
  ·rename_i ns b;have es:=dF b;subst es;split at a
   ·rename_i hc;simp only[cg,if_pos hc];show bK (G (some (ai ns)::List.replicate k none))=_;rw[h];rfl
   ·exact absurd rfl a
  ·exact absurd rfl a
theorem lT (cs:Cs):LLq (g6 cs) 1 0 a5:=jP cs
def aw (cs:Cs):Gf
 |[.tuple es,x]=>if aq x then (if isWhole x 0 ((es.length:Int)-1) then .ok x else .rz cs.NoErrand) else .no
 |_=>.no
theorem rV {f:List PyData->PyData->Rs PyData} (h:(match ds with|[.tuple a,b]=>f a b|_=>.no)≠.no):∃a b,ds=[.tuple a,b]/\f a b≠.no:=by
 rcases ds with _|⟨a,_|⟨b,_|⟨y,ys⟩⟩⟩
 ·exact absurd rfl h
 ·first|exact absurd rfl h|(cases a <;> exact absurd rfl h)
 ·skip
  cases a with
  |tuple a =>exact⟨_,_,rfl,h⟩
  |_=>exact absurd rfl h
 ·first|exact absurd rfl h|(cases a <;> exact absurd rfl h)
theorem e7 (cs:Cs):LLq (br cs aA) 2 0 (aw cs):=by
 intro ds hl a;obtain⟨es,x,c,b⟩:=rV a;clear a;subst c;have a:=b;clear b;unfold aw
 ·skip
  split at a
  ·rename_i hd;simp only[hd,if_true];cases e:isWhole x 0 ((es.length:Int)-1) with
   |true=>simp[br,hd,e]
   |false=>simp[br,hd,e]
  ·exact absurd rfl a
theorem cP (cs:Cs) (h1:1<=es.length) (h2:es.length<=6) (h:∀e∈es,e.Ok):ao cs [ar es]=.ok (ar es):=by unfold ao;simp[fc,iH h1 h2 h]
theorem dC {n:Int} (cs:Cs) (n0:0<=n) (n1:n<es.length):aw cs [ar es,.int n]=.ok (.int n):=by unfold ar aw;simp only[bP,if_true,Af,isWhole];rw[if_pos (by simp;omega)]
def gfG (n k:Nat) (G:Ds->Sr):Gf:=λds=>if ds.length=n then bK (G (ds.map some++List.replicate k none)) else .no
theorem kG {G:Ds->Sr}:∀ds,ds.length=n->gfG n k G ds≠.no->bK (G (ds.map some++List.replicate k none))=gfG n k G ds:=by intro ds hl _;unfold gfG;rw[if_pos hl]
def bx (cs:Cs):Gf:=gfG 2 0 (ef cs a5 (aw cs) (ao cs))
def bN (cs:Cs):Gf:=gfG 2 7 (cT cs)
def aI (cs:Cs):Gf:=gfG 2 1 (bW cs (bN cs))
def aJ (cs:Cs):Gf:=gfG 1 1 (bG cs (ao cs))
theorem ip {d:PyData} (hi:i<δ.length) (a:g (mask O δ)=.ok d):bD O i g δ=.nx (δ.set i (some d)):=by unfold bD;rw[if_pos hi,a,aH]
theorem bw {f:Gf} {a:Ds->Rs (List PyData)} {d:PyData} (ha:a δ=.ok ds) (b:f ds=.ok d):au f a δ=.ok d:=by rw[b9,ha,Rs.aj,b]
theorem bo {a b:Ds->Sr} {δ':Ds} (h:a δ=.nx δ'):aR a b δ=b δ':=by rw[bL,h]
theorem qx {tgt:PyData->Ds->Option Ds} {body:Ds->Sr} (h:src (mask O δ)=.ok ds):jh O src tgt body δ=forL tgt body ds δ:=by rw[mw,h,aH]
theorem nr {g:Ds->Rs (List PyData)} (hi:i<δ.length) (a:g (mask O δ)=.ok ds):gv O i g δ=.nx (δ.set i (some (.list ds))):=by unfold gv;rw[if_pos hi,a,aH]
theorem bz {x y z:PyData} (ha:a δ=.ok x) (c:b δ=.ok y) (e:f x y=some z):g2 f a b δ=.ok z:=by rw[eG,ha,Rs.aj,c,Rs.aj,e];rfl
theorem aL {r:Ds->Rs (List PyData)} {d:PyData} (ha:a δ=.ok d) (b:r δ=.ok ds):aa a r δ=.ok (d::ds):=by rw[bg,ha,Rs.aj,b,Rs.aj]
theorem tup_is {a:Ds->Rs (List PyData)} (ha:a δ=.ok ds):ay a δ=.ok (.tuple ds):=by rw[iJ,ha,Rs.aj]
theorem ie {es:List PyData} (hi:δ[i]?=some (some (.list ds))) (a:g (mask O δ)=.ok (.list es)) (hl:ds.length+es.length<=1000000):eQ O i g δ=.nx (δ.set i (some (.list (ds++es)))):=by unfold eQ;simp only[hi,a,aH];rw[if_pos hl]
theorem jw {xs:List PyData} {x:PyData}:dIx (.tuple (xs++[x])) (.int (-1))=some x:=by show atI (xs++[x]) (-1)=some x;unfold atI ixN;rw[Ae,Av];simp only[show ¬ ((0:Int)<=-1) by decide,if_false];rw[show (-1:Int)+((xs.length+1:Nat):Int)=(xs.length:Int) by omega,if_pos (by omega)];simp
theorem iG {k:Int} (h1:x≠[]) (h2:2<=k) (a:k<1000000) (b:x.length*k.toNat<=1000000):cO (.tuple x) (.int k)=some (.tuple (List.replicate k.toNat x).flatten):=by simp only[cO];rw[if_pos ⟨h1,h2,a,b⟩]
def dJ (l:PyData):List PyData:=[.tuple [],.tuple [l,l,l,l,l],.list [l],.tuple [.tuple [.int 0,.none]],.tuple [.tuple [.int 21,.none]],.tuple [.tuple [.str "1",.none]],.tuple [.tuple [.int 1,.int 4],l],.tuple [.tuple [.int 1,.int (-1)],l],
 .tuple [.tuple [.int 1,.int 0]],.tuple [.tuple [.int 1,.bool true],l],.tuple [.tuple [.int 1],l],.none]
def bY (a b la:Int) (P l:PyData):List PyData:=[.tuple [.int a,.int b,.int la,P,.int 1],.tuple [.int a,.int b,.int la],.list [.int a,.int b,.int la,P],.none,.int 5,.tuple [.int 1,.int 1,.int 0,P],.tuple [.int 61,.int b,.int la,P],
 .tuple [.bool true,.int 1,.int 0,P],.tuple [.int a,.int 0,.int la,P],.tuple [.int a,.int (a-la+1),.int la,P],.tuple [.int a,.int b,.int a,P],.tuple [.int 60,.int 1,.int 21,P],.tuple [.int a,.int b,.int (-1),P],.tuple [.int a,.str "1",.int la,P]] ++
 (dJ l).map λx=>.tuple [.int a,.int b,.int la,x]
def od9 (e:Er) (c:Int) (l a b:Option PyData):Ds:=[some e.d,some (.int c),some (.int e.every),some (.int e.due),some (.int e.late),some (.tuple (e.parts.map ag)),l,a,b]
theorem sN {e:Er} {ps:List (Int×Option Int)} (f:e.parts=ps++[l]) {c:Int} :
  ∃d∈bY e.every e.due e.late (.tuple (e.parts.map ag)) (ag l),bN cs [e.d,.int c]=.ok d:=by
 have g:mn [7,8] (kD [2,3,4,5]) (ae 0) [some e.d,some (.int c),none,none,none,none,none,none,none]=.nx (od9 e c none none none):=rfl;have s2:bD [7,8] 6 (g2 dIx (ae 5) (g1 dq (gC (.int 1)))) (od9 e c none none none)=.nx (od9 e c (some (ag l)) none none):=by refine ip (by decide:6<9) (bz (x:=.tuple (e.parts.map ag)) (y:=.int (-1)) rfl rfl ?_);rw[f,List.map_append,List.map_singleton];exact jw
 have i:gv [7,8] 7 (aa (g2 aW (ae 0) (ay (aa (gC (.int 1)) af))) (aa (bX (ae 0) bI (cY (gC (.int 3)))) (aa (gF ff (aa (ae 0) af)) (aa (gC .none) (aa (gC (.int 5)) (aa (ay (aa (gC (.int 1)) (aa (gC (.int 1)) (aa (gC (.int 0)) (aa (ae 5) af))))) (aa (ay (aa (gC (.int 61)) (aa (ae 3) (aa (ae 4) (aa (ae 5) af))))) af))))))) (od9 e c (some (ag l)) none none)=.nx (od9 e c (some (ag l)) (some (.list ((bY e.every e.due e.late (.tuple (e.parts.map ag)) (ag l)).take 7))) none):=by refine nr (by decide:7<9) ?_;rfl
 have j:eQ [7,8] 7 (cQ (aa (ay (aa (gC (.bool true)) (aa (gC (.int 1)) (aa (gC (.int 0)) (aa (ae 5) af))))) (aa (ay (aa (ae 2) (aa (gC (.int 0)) (aa (ae 4) (aa (ae 5) af))))) (aa (ay (aa (ae 2) (aa (g2 aW (g2 en (ae 2) (ae 4)) (gC (.int 1))) (aa (ae 4) (aa (ae 5) af))))) af)))) (od9 e c (some (ag l)) (some (.list ((bY e.every e.due e.late (.tuple (e.parts.map ag)) (ag l)).take 7))) none)=.nx (od9 e c (some (ag l)) (some (.list ((bY e.every e.due e.late (.tuple (e.parts.map ag)) (ag l)).take 10))) none):=by exact (ie (ds:=(bY e.every e.due e.late (.tuple (e.parts.map ag)) (ag l)).take 7) (es:=[.tuple [.bool true,.int 1,.int 0,.tuple (e.parts.map ag)],.tuple [.int e.every,.int 0,.int e.late,.tuple (e.parts.map ag)],.tuple [.int e.every,.int (e.every-e.late+1),.int e.late,.tuple (e.parts.map ag)]]) rfl rfl (show 10<=1000000 by decide)).trans rfl
 have k:eQ [7,8] 7 (cQ (aa (ay (aa (ae 2) (aa (ae 3) (aa (ae 2) (aa (ae 5) af))))) (aa (ay (aa (gC (.int 60)) (aa (gC (.int 1)) (aa (gC (.int 21)) (aa (ae 5) af))))) (aa (ay (aa (ae 2) (aa (ae 3) (aa (g1 dq (gC (.int 1))) (aa (ae 5) af))))) (aa (ay (aa (ae 2) (aa (gC (.str "1")) (aa (ae 4) (aa (ae 5) af))))) af))))) (od9 e c (some (ag l)) (some (.list ((bY e.every e.due e.late (.tuple (e.parts.map ag)) (ag l)).take 10))) none)=.nx (od9 e c (some (ag l)) (some (.list ((bY e.every e.due e.late (.tuple (e.parts.map ag)) (ag l)).take 14))) none):=by exact (ie (ds:=(bY e.every e.due e.late (.tuple (e.parts.map ag)) (ag l)).take 10) (es:=[.tuple [.int e.every,.int e.due,.int e.every,.tuple (e.parts.map ag)],.tuple [.int 60,.int 1,.int 21,.tuple (e.parts.map ag)],.tuple [.int e.every,.int e.due,.int (-1),.tuple (e.parts.map ag)],.tuple [.int e.every,.str "1",.int e.late,.tuple (e.parts.map ag)]]) rfl rfl (show 14<=1000000 by decide)).trans rfl
 have m:cO (.tuple [ag l]) (.int 5)=some (.tuple [ag l,ag l,ag l,ag l,ag l]):=by exact iG (by simp) (by decide) (by decide) (show 1*5<=1000000 by decide)
 have n:gv [7,8] 8 (aa (ay af) (aa (g2 cO (ay (aa (ae 6) af)) (gC (.int 5))) (aa (cQ (aa (ae 6) af)) (aa (ay (aa (ay (aa (gC (.int 0)) (aa (gC .none) af))) af)) (aa (ay (aa (ay (aa (gC (.int 21)) (aa (gC .none) af))) af)) (aa (ay (aa (ay (aa (gC (.str "1")) (aa (gC .none) af))) af)) (aa (ay (aa (ay (aa (gC (.int 1)) (aa (gC (.int 4)) af))) (aa (ae 6) af))) (aa (ay (aa (ay (aa (gC (.int 1)) (aa (g1 dq (gC (.int 1))) af))) (aa (ae 6) af))) af)))))))) (od9 e c (some (ag l)) (some (.list ((bY e.every e.due e.late (.tuple (e.parts.map ag)) (ag l)).take 14))) none)=.nx (od9 e c (some (ag l)) (some (.list ((bY e.every e.due e.late (.tuple (e.parts.map ag)) (ag l)).take 14))) (some (.list ((dJ (ag l)).take 8)))):=by refine nr (by decide:8<9) ?_;exact aL rfl (aL (bz rfl rfl m) rfl)
 have o:eQ [7,8] 8 (cQ (aa (ay (aa (ay (aa (gC (.int 1)) (aa (gC (.int 0)) af))) af)) (aa (ay (aa (ay (aa (gC (.int 1)) (aa (gC (.bool true)) af))) (aa (ae 6) af))) (aa (ay (aa (ay (aa (gC (.int 1)) af)) (aa (ae 6) af))) (aa (gC .none) af))))) (od9 e c (some (ag l)) (some (.list ((bY e.every e.due e.late (.tuple (e.parts.map ag)) (ag l)).take 14))) (some (.list ((dJ (ag l)).take 8))))=.nx (od9 e c (some (ag l)) (some (.list ((bY e.every e.due e.late (.tuple (e.parts.map ag)) (ag l)).take 14))) (some (.list (dJ (ag l))))):=by exact (ie (ds:=(dJ (ag l)).take 8) (es:=(dJ (ag l)).drop 8) rfl rfl (show 12<=1000000 by decide)).trans rfl
 have p:eQ [7] 7 (gL (bh 9 (dh (ae 8)) bA (ay (aa (ae 2) (aa (ae 3) (aa (ae 4) (aa (ae 9) af))))) aY)) (od9 e c (some (ag l)) (some (.list ((bY e.every e.due e.late (.tuple (e.parts.map ag)) (ag l)).take 14))) (some (.list (dJ (ag l)))))=.nx (od9 e c (some (ag l)) (some (.list (bY e.every e.due e.late (.tuple (e.parts.map ag)) (ag l)))) (some (.list (dJ (ag l))))):=by exact (ie (ds:=(bY e.every e.due e.late (.tuple (e.parts.map ag)) (ag l)).take 14) (es:=(dJ (ag l)).map λx=>.tuple [.int e.every,.int e.due,.int e.late,x]) rfl rfl (show 26<=1000000 by decide)).trans rfl
 have hm:0<=c % 26/\c % 26<26:=⟨Ay _ (by decide),Ar _ (by decide)⟩
 have hi:(c % 26).toNat<(bY e.every e.due e.late (.tuple (e.parts.map ag)) (ag l)).length:=by show _<26;omega
 refine⟨_,AV hi,?_⟩;have b:gJ 7 (bj (g2 dIx (ae 7) (g2 cB (ae 1) (gC (.int 26))))) (od9 e c (some (ag l)) (some (.list (bY e.every e.due e.late (.tuple (e.parts.map ag)) (ag l)))) (some (.list (dJ (ag l)))))=.rt (bY e.every e.due e.late (.tuple (e.parts.map ag)) (ag l))[(c % 26).toNat]:=by
  have h:bj (g2 dIx (ae 7) (g2 cB (ae 1) (gC (.int 26)))) (od9 e c (some (ag l)) (some (.list (bY e.every e.due e.late (.tuple (e.parts.map ag)) (ag l)))) (some (.list (dJ (ag l)))))=.rt (bY e.every e.due e.late (.tuple (e.parts.map ag)) (ag l))[(c % 26).toNat]:=by
   have h1:g2 dIx (ae 7) (g2 cB (ae 1) (gC (.int 26))) (od9 e c (some (ag l)) (some (.list (bY e.every e.due e.late (.tuple (e.parts.map ag)) (ag l)))) (some (.list (dJ (ag l)))))=.ok (bY e.every e.due e.late (.tuple (e.parts.map ag)) (ag l))[(c % 26).toNat] :=
    bz rfl (bz rfl rfl (z:=.int (c % 26)) rfl) (iA hm.1 (A8 hi))
   rw[eU,h1,aH]
  unfold gJ;rw[show (od9 e c (some (ag l)) (some (.list (bY e.every e.due e.late (.tuple (e.parts.map ag)) (ag l)))) (some (.list (dJ (ag l)))))[7]?=some (some (.list (bY e.every e.due e.late (.tuple (e.parts.map ag)) (ag l)))) from rfl];dsimp only;rw[h]
 have a:gJ 8 (aR (eQ [7] 7 (gL (bh 9 (dh (ae 8)) bA (ay (aa (ae 2) (aa (ae 3) (aa (ae 4) (aa (ae 9) af))))) aY))) (gJ 7 (bj (g2 dIx (ae 7) (g2 cB (ae 1) (gC (.int 26))))))) (od9 e c (some (ag l)) (some (.list ((bY e.every e.due e.late (.tuple (e.parts.map ag)) (ag l)).take 14))) (some (.list (dJ (ag l)))))=.rt (bY e.every e.due e.late (.tuple (e.parts.map ag)) (ag l))[(c % 26).toNat]:=by unfold gJ;rw[show (od9 e c (some (ag l)) (some (.list ((bY e.every e.due e.late (.tuple (e.parts.map ag)) (ag l)).take 14))) (some (.list (dJ (ag l)))))[8]?=some (some (.list (dJ (ag l)))) from rfl];dsimp only;unfold gJ at b;rw[bo p,b]
 show bK (cT cs [some e.d,some (.int c),none,none,none,none,none,none,none])=_;unfold cT;rw[bo g,bo s2,bo i,bo j,bo k,bo n,bo o,a];rfl
theorem qH {e:Er} (h:e.Ok) (hl:l∈e.parts):∀d∈bY e.every e.due e.late (.tuple (e.parts.map ag)) (ag l),aC d=false/\aq d=true:=by
 have j:aq (.tuple (e.parts.map ag))=true:=ba λd hd=>by obtain⟨p,_,rfl⟩:=Ah.mp hd;exact ei p
 have o:=ei l;have h1:=h.e1;have h2:=h.l3;have h3:=h.d1;have h4:=h.d2;have h5:=h.l1;have h6:=h.e2;have two:∃a b,ag l=.tuple [a,b]:=⟨_,_,rfl⟩
 have n:∀{ds:List PyData},(∀d∈ds,aq d=true)->aq (.tuple ds)=true:=λh=>ba h
 have m:∀a b c d,aq a=true->aq b=true->aq c=true->aq d=true->aq (.tuple [a,b,c,d])=true:=λa b c d u v q3 q4=>n λx g=>by simp only[List.mem_cons,A7,or_false]at g;rcases g with rfl|rfl|rfl|rfl <;> assumption
 have f:∀i,aq (.int i)=true:=bP;have s:aq (.str "1")=true:=by unfold aq;rfl
 have t:aq (.bool true)=true:=by unfold aq;rfl
 have r:aq PyData.none=true:=by unfold aq;rfl
 intro d hd;unfold bY at hd;rcases Ac.mp hd with hd|hd
 ·simp only[List.mem_cons,A7,or_false]at hd;rcases hd with rfl|rfl|rfl|rfl|rfl|rfl|rfl|rfl|rfl|rfl|rfl|rfl|rfl|rfl
  ·exact⟨rfl,n λx g=>by simp only[List.mem_cons,A7,or_false]at g;rcases g with rfl|rfl|rfl|rfl|rfl <;> first|exact j|exact f _⟩
  ·exact⟨rfl,n λx g=>by simp only[List.mem_cons,A7,or_false]at g;rcases g with rfl|rfl|rfl <;> exact f _⟩
  ·exact⟨rfl,ee λx g=>by simp only[List.mem_cons,A7,or_false]at g;rcases g with rfl|rfl|rfl|rfl <;> first|exact j|exact f _⟩
  ·exact⟨rfl,r⟩
  ·exact⟨rfl,f _⟩
  ·exact⟨rfl,m _ _ _ _ (f _) (f _) (f _) j⟩
  ·exact⟨rfl,m _ _ _ _ (f _) (f _) (f _) j⟩
  ·exact⟨rfl,m _ _ _ _ t (f _) (f _) j⟩
  ·refine⟨?_,m _ _ _ _ (f _) (f _) (f _) j⟩;simp[aC,isWhole]
  ·refine⟨?_,m _ _ _ _ (f _) (f _) (f _) j⟩;have:decide (e.every-e.late+1<=e.every-e.late)=false:=decide_eq_false (by omega);simp only[aC,isWhole,this,AS,B2]
  ·refine⟨?_,m _ _ _ _ (f _) (f _) (f _) j⟩;have:decide (e.every<=(if e.every-1<20 then e.every-1 else 20))=false\/decide (e.due<=e.every-e.every)=false:=.inr (decide_eq_false (by omega));rcases this with z|z <;> simp only[aC,isWhole,z,AS,B2]
  ·refine⟨?_,m _ _ _ _ (f _) (f _) (f _) j⟩;rfl
  ·refine⟨?_,m _ _ _ _ (f _) (f _) (f _) j⟩;simp[aC]
  ·refine⟨?_,m _ _ _ _ (f _) s (f _) j⟩;simp[aC,isWhole]
 ·obtain⟨x,g,rfl⟩:=Ah.mp hd;have key:a4 x=false/\aq x=true:=by
   have n1:∀a,aq a=true->aq (.tuple [a])=true:=λa q=>n λy k=>by cases List.mem_singleton.mp k;exact q
   have n2:∀a b,aq a=true->aq b=true->aq (.tuple [a,b])=true:=λa b u v=>n λy k=>by simp only[List.mem_cons,A7,or_false]at k;rcases k with rfl|rfl <;> assumption
   unfold dJ at g;simp only[List.mem_cons,A7,or_false]at g;rcases g with rfl|rfl|rfl|rfl|rfl|rfl|rfl|rfl|rfl|rfl|rfl|rfl
   ·exact⟨rfl,n λy k=>by cases k⟩
   ·exact⟨rfl,n λy k=>by simp only[List.mem_cons,A7,or_false,or_self]at k;rw[k];exact o⟩
   ·exact⟨rfl,ee λy k=>by cases List.mem_singleton.mp k;exact o⟩
   ·exact⟨rfl,n1 _ (n2 _ _ (f _) r)⟩
   ·exact⟨rfl,n1 _ (n2 _ _ (f _) r)⟩
   ·exact⟨rfl,n1 _ (n2 _ _ s r)⟩
   ·exact⟨by simp[a4,aU,isWhole],n2 _ _ (n2 _ _ (f _) (f _)) o⟩
   ·exact⟨by simp[a4,aU,isWhole],n2 _ _ (n2 _ _ (f _) (f _)) o⟩
   ·exact⟨rfl,n1 _ (n2 _ _ (f _) (f _))⟩
   ·exact⟨by simp[a4,aU,isWhole],n2 _ _ (n2 _ _ (f _) t) o⟩
   ·exact⟨by simp[a4,aU,isWhole],n2 _ _ (n1 _ (f _)) o⟩
   ·exact⟨rfl,r⟩
  refine⟨?_,m _ _ _ _ (f _) (f _) (f _) key.2⟩;simp only[aC,key.1,AS]
theorem qw {x y:Int} (ha:a δ=.ok (.int x)) (c:b δ=.ok (.int y)) (h:0<y):g2 cB a b δ=.ok (.int (x % y)):=bz ha c (by rw[pW,if_pos h])
theorem qy {x y:Int} (ha:a δ=.ok (.int x)) (c:b δ=.ok (.int y)) (h:0<y) (h1:y<1073741824):g2 eB a b δ=.ok (.int (x / y)):=bz ha c (by rw[qa,if_pos ⟨h,h1⟩])
theorem mV {i:Int} (b:0<=i) (h1:i<L.length) (c:∀d∈L,P d):∃d,dIx (.list L) (.int i)=some d/\P d:=by
 obtain⟨k,rfl⟩:=Int.eq_ofNat_of_zero_le b;have a:k<L.length:=by omega
 exact⟨L[k],dR (A8 a),c _ (AV a)⟩
theorem rK {c m:Int} (ha:a δ=.ok (.list L)) (e:b δ=.ok (.int c)) (hm:0<m) (hl:m=L.length) (f:∀d∈L,P d):∃d,g2 dIx a (g2 cB b (gC (.int m))) δ=.ok d/\P d:=by have q:=Ay c (show m≠0 by omega);have q2:=Ar c hm;obtain⟨d,h1,h2⟩:=mV (L:=L) (i:=c % m) q (by omega) f;exact⟨d,bz ha (qw e rfl hm) h1,h2⟩
theorem fO {lo hi:Ds->Rs (Option Int)} {l h:Option Int} (a:g δ=.ok (.tuple x)) (hl:lo δ=.ok l) (b:hi δ=.ok h):bX g lo hi δ=.ok (.tuple (cutD x l h)):=by rw[m3,a,Rs.aj,hl,Rs.aj,b,Rs.aj,rg];rfl
theorem tO {y:List PyData} (ha:a δ=.ok (.tuple x)) (c:b δ=.ok (.tuple y)) (h:x.length+y.length<=1000):g2 aW a b δ=.ok (.tuple (x++y)):=bz ha c (if_pos (by omega))
theorem lx (l1:1<=es.length) (l6:es.length<=6) (hok:∀e∈es,e.Ok) {c:Int} (hc:0<=c):∃d,aI cs [ar es,.int c]=.ok d/\aN d=false/\aq d=true:=by
 have sh:aI cs [ar es,.int c]=bK (bW cs (bN cs) [some (ar es),some (.int c),none]):=rfl;have i:gT (g2 dEq (g2 cB (ae 1) (gC (.int 6))) (gC (.int 0))) [some (ar es),some (.int c),none]=.ok (c % 6==0):=by rw[lj,bz (qw (x:=c) (y:=6) rfl rfl (by decide)) (y:=.int 0) rfl (nq _ _),Rs.aj,dO]
 rw[sh];unfold bW;cases hz:c % 6==0 with
 |true =>
  obtain⟨f,r,rfl⟩:∃f r,es=f::r:=by
   cases es with
   |nil=>simp at l1
   |cons f r=>exact⟨f,r,rfl⟩
  have o0:=hok f List.mem_cons_self;have g:∀d∈(f::r).map Er.d,aq d=true:=λd hd=>by obtain⟨e,_,rfl⟩:=Ah.mp hd;exact eK e
  have hm:cO (ar (f::r)) (.int 7)=some (.tuple (List.replicate 7 ((f::r).map Er.d)).flatten) :=
   iG (by simp) (by decide) (by decide) (by rw[Af,show Int.toNat 7=7 from rfl];omega)
  have k:bX (g2 cO (ae 0) (gC (.int 7))) bI (cY (gC (.int 7))) [some (ar (f::r)),some (.int c),none]=.ok (.tuple ((List.replicate 7 ((f::r).map Er.d)).flatten.take 7)):=by rw[fO (bz rfl rfl hm) (l:=none) rfl (h:=some ((7:Nat):Int)) rfl,nR]
  obtain⟨d,h1,h2,u⟩:=rK (P:=λd=>aN d=false/\aq d=true) (m:=6) (c:=c / 6)
   (a:=cQ (aa (gF ff (aa (ae 0) af)) (aa (ay af) (aa (bX (g2 cO (ae 0) (gC (.int 7))) bI (cY (gC (.int 7)))) (aa (gC .none) (aa (g2 dIx (ae 0) (gC (.int 0))) (aa (gC (.str "errands")) af)))))))
   (b:=g2 eB (ae 1) (gC (.int 6))) (δ:=[some (ar (f::r)),some (.int c),none])
   (L:=[.list ((f::r).map Er.d),.tuple [],.tuple ((List.replicate 7 ((f::r).map Er.d)).flatten.take 7),.none,f.d,.str "errands"])
   (by rw[hZ,aL (d:=.list ((f::r).map Er.d)) rfl (aL (d:=.tuple []) rfl (aL k (aL (d:=.none) rfl (aL (bz (x:=ar (f::r)) (y:=.int 0) rfl rfl (dR (xs:=(f::r).map Er.d) (j:=0) (v:=f.d) rfl)) (ds:=[.str "errands"]) rfl))))];rfl) (qy (x:=c) (y:=6) rfl rfl (by decide) (by decide)) (by decide) rfl (λd hd=>by
    simp only[List.mem_cons,A7,or_false]at hd;rcases hd with rfl|rfl|rfl|rfl|rfl|rfl
    ·exact⟨rfl,ee g⟩
    ·exact⟨rfl,ba λd hd=>by cases hd⟩
    ·refine⟨?_,ba λd hd=>?_⟩
     ·have hl:((List.replicate 7 ((f::r).map Er.d)).flatten.take 7).length=7:=by rw[AJ,List.length_flatten,List.map_replicate,List.sum_replicate_nat,Af,AI];omega
      unfold aN;simp only[hl];rfl
     ·have:=List.mem_of_mem_take hd;rw[List.mem_flatten]at this;obtain⟨l,hl,hd⟩:=this;rw[List.eq_of_mem_replicate hl]at hd;exact g d hd
    ·exact⟨rfl,by unfold aq;rfl⟩
    ·exact⟨rfl,eK f⟩
    ·exact⟨rfl,by unfold aq;rfl⟩)
  refine⟨d,?_,h2,u⟩;rw[bL,gP,i,hz,aH,if_pos rfl,eU,h1,aH];rfl
 |false =>
  have q:(0:Int)<es.length:=by omega
  have w:=Ay (c / 6) (show (es.length:Int)≠0 by omega);have q2:=Ar (c / 6) q;obtain⟨j,z⟩:=Int.eq_ofNat_of_zero_le w;have n:j<es.length:=by omega
  have s:=hok _ (AV n);obtain⟨ps,l,o⟩:∃ps l,es[j].parts=ps++[l]:=⟨_,_,(List.dropLast_concat_getLast s.p1).symm⟩
  obtain⟨d,hd,p⟩:=sN (cs:=cs) o (c:=c / 31);obtain⟨n1,n2⟩:=qH s (l:=l) (by rw[o];simp) d hd;have A:sIf (gT (g2 dEq (g2 cB (ae 1) (gC (.int 6))) (gC (.int 0)))) (bj (g2 dIx (cQ (aa (gF ff (aa (ae 0) af)) (aa (ay af) (aa (bX (g2 cO (ae 0) (gC (.int 7))) bI (cY (gC (.int 7)))) (aa (gC .none) (aa (g2 dIx (ae 0) (gC (.int 0))) (aa (gC (.str "errands")) af))))))) (g2 cB (g2 eB (ae 1) (gC (.int 6))) (gC (.int 6))))) bq [some (ar es),some (.int c),none]=.nx [some (ar es),some (.int c),none]:=by rw[gP,i,hz,aH];rfl
  have s2:bD [] 2 (g2 cB (g2 eB (ae 1) (gC (.int 6))) (gF cX (aa (ae 0) af))) [some (ar es),some (.int c),none]=.nx [some (ar es),some (.int c),some (.int (j:Int))]:=by refine ip (by decide:2<3) ?_;rw[fG,qw (x:=c / 6) (y:=(es.length:Int)) (qy (x:=c) (y:=6) rfl rfl (by decide) (by decide)) (by rw[ja];show Rs.bS (cX [ar es])=_;rw[rh];rfl) q,z]
  have B:bX (ae 0) bI (cY (ae 2)) [some (ar es),some (.int c),some (.int (j:Int))]=.ok (.tuple ((es.map Er.d).take j)):=by rw[fO (x:=es.map Er.d) rfl (l:=none) rfl (h:=some (j:Int)) rfl,nR]
  have C:bX (ae 0) (cY (g2 aW (ae 2) (gC (.int 1)))) bI [some (ar es),some (.int c),some (.int (j:Int))]=.ok (.tuple ((es.map Er.d).drop (j+1))):=by rw[fO (x:=es.map Er.d) rfl (l:=some ((j+1:Nat):Int)) rfl (h:=none) rfl,nQ]
  have D:ay (aa (au (bN cs) (aa (g2 dIx (ae 0) (ae 2)) (aa (g2 eB (ae 1) (gC (.int 31))) af))) af) [some (ar es),some (.int c),some (.int (j:Int))]=.ok (.tuple [d]):=by refine tup_is (aL (bw (ds:=[es[j].d,.int (c / 31)]) (aL (bz (x:=ar es) (y:=.int (j:Int)) rfl rfl ?_) (aL (qy (x:=c) (y:=31) rfl rfl (by decide) (by decide)) rfl)) p) rfl);exact dR (xs:=es.map Er.d) (by rw[Ap,A8 n];rfl)
  have E:=tO (tO B D (by rw[AJ,Af,Av];omega)) C (by rw[Ae,AJ,Af,Av,B6,Af];omega)
  refine⟨.tuple ((es.map Er.d).take j++[d]++(es.map Er.d).drop (j+1)),?_,?_,?_⟩
  ·rw[bo A,bo s2,eU,E,aH];rfl
  ·unfold aN;simp only[List.all_append,List.all_cons,n1,B2,AS]
  ·refine ba λx g=>?_
   have t:∀d∈es.map Er.d,aq d=true:=λd hd=>by obtain⟨e,_,rfl⟩:=Ah.mp hd;exact eK e
   rcases Ac.mp g with g|g
   ·rcases Ac.mp g with g|g
    ·exact t x (List.mem_of_mem_take g)
    ·cases List.mem_singleton.mp g;exact n2
   ·exact t x (List.mem_of_mem_drop g)
theorem ny (h:∀d∈ds,d.canLay0=true/\d.depth<=n):PyData.canLayAll0 ds=true/\PyData.depthAll ds<=n:=by
 induction ds with
 |nil=>exact⟨rfl,B3 _⟩
 |cons d r ih =>
  obtain⟨a,b⟩:=h d List.mem_cons_self;obtain⟨c,e⟩:=ih λx f=>h x (Ab _ f)
  refine⟨by simp[PyData.canLayAll0,a,c],?_⟩;simp only[PyData.depthAll];omega
theorem fE (h:∀d∈ds,d.canLay0=true/\d.depth<=n):(PyData.tuple ds).canLay0=true/\(PyData.tuple ds).depth<=n+1:=by obtain⟨a,b⟩:=ny h;refine⟨by simp[PyData.canLay0,a],?_⟩;simp only[PyData.depth];omega
theorem kN (es:List Er):SeqAt.shaped (ar es)=true:=by
 have h:(ar es).canLay0=true/\(ar es).depth<=9+1:=fE λd hd=>by
  obtain⟨e,_,rfl⟩:=Ah.mp hd;have f:(PyData.tuple (e.parts.map ag)).canLay0=true/\(PyData.tuple (e.parts.map ag)).depth<=7+1:=fE λd hd=>by
   obtain⟨p,_,rfl⟩:=Ah.mp hd;refine fE (n:=6) λx c=>?_
   obtain⟨a,b⟩:=p;simp only[List.mem_cons,A7,or_false]at c;rcases c with rfl|rfl
   ·exact⟨rfl,by simp[PyData.depth]⟩
   ·cases b <;> exact⟨rfl,by simp[fu,PyData.depth]⟩
  refine fE (n:=8) λx c=>?_
  simp only[List.mem_cons,A7,or_false]at c;rcases c with rfl|rfl|rfl|rfl
  ·exact⟨rfl,by simp[PyData.depth]⟩
  ·exact⟨rfl,by simp[PyData.depth]⟩
  ·exact⟨rfl,by simp[PyData.depth]⟩
  ·exact f
 have h2:(ar es).depth<=64:=by omega
 simp[SeqAt.shaped,h.1,h2]
theorem nJ (es:List Er):dNe (ar es) (ar es)=some (.bool false):=by unfold dNe;rw[fc,kN,SeqAt.eqv_refl _ (SeqAt.canLay_of_shaped (kN es))];rfl
theorem pJ (l1:1<=es.length) (a:es.length<=6) (hok:∀e∈es,e.Ok) (hi:i<es.length):bx cs [ar es,.int (i:Int)]=.ok (.int es[i].work):=by
 have h1:=cP cs l1 a hok;have h2:=dC (es:=es) cs (n:=(i:Int)) (by omega) (by omega);have b:=dy (hok _ (AV hi)).sh;have c:dIx (ar es) (.int (i:Int))=some es[i].d:=dR (xs:=es.map Er.d) (by rw[Ap,A8 hi];rfl);show bK (ef cs a5 (aw cs) (ao cs) [some (ar es),some (.int (i:Int))])=_;unfold ef;rw[bo (δ':=[some (ar es),some (.int (i:Int))]) (by rw[fB,bw (ds:=[ar es]) rfl h1,aH]),bo (δ':=[some (ar es),some (.int (i:Int))]) (by rw[fB,bw (ds:=[ar es,.int (i:Int)]) rfl h2,aH]),eU,
  bw (ds:=[es[i].d]) (aL (bz (x:=ar es) (y:=.int (i:Int)) rfl rfl c) rfl) b,aH]
 rfl
theorem oV (l1:1<=es.length) (a:es.length<=6) (hok:∀e∈es,e.Ok) {x:PyData} (hd:aq x=true) (b:isWhole x 0 ((es.length:Int)-1)=false):bx cs [ar es,x]=.rz cs.NoErrand:=by
 have h1:=cP cs l1 a hok;have h2:aw cs [ar es,x]=.rz cs.NoErrand:=by unfold ar aw;simp only[Af,hd,b,if_true,AY,if_false]
 show bK (ef cs a5 (aw cs) (ao cs) [some (ar es),some x])=_;unfold ef;rw[bo (δ':=[some (ar es),some x]) (by rw[fB,bw (ds:=[ar es]) rfl h1,aH]),bL,fB,b9,show (aa (ae 0) (aa (ae 1) af)) [some (ar es),some x]=.ok [ar es,x] from rfl,Rs.aj,h2];rfl
theorem jW {d:PyData} (h1:aN d=false) (h2:aq d=true):aJ cs [d]=.ok (.bool true):=by
 have hc:ao cs [d]=.rz cs.NoErrands:=by unfold ao;simp[h1,h2]
 show bK (bG cs (ao cs) [some d,none])=_;unfold bG;have s:iZ cs.NoErrands 1 (ao cs) (aa (ae 0) af) (.bool true) [some d,none]=.rt (.bool true):=by unfold iZ;rw[if_pos (show 1<List.length [some d,none] from AU 1),show (aa (ae 0) af) [some d,none]=.ok [d] from rfl];dsimp only;rw[hc];dsimp only;rw[if_pos rfl]
 rw[bL,s];rfl
theorem qO:k6 (.int 10) (.int 6)=some (.int (10 ^ 6)):=by show (if 0<=(6:Int)/\(6:Int)<=1000000/\(10:Int).natAbs<2 ^ 64 then some (PyData.int (10 ^ (6:Int).toNat)) else none)=_;rw[if_pos (by decide)];rfl
def a6:List Er:=[⟨60,40,20,[(20,some 3),(20,some 0),(1,none),(20,none)]⟩,⟨2,1,1,[(1,none)]⟩,⟨60,40,20,[(20,some 3),(20,some 0),(1,none),(20,none)]⟩,⟨2,1,1,[(1,none)]⟩,⟨60,40,20,[(20,some 3),(20,some 0),(1,none),(20,none)]⟩,⟨2,1,1,[(1,none)]⟩]
theorem iM (cs:Cs):ao cs [ar a6]=.ok (ar a6):=by
 have:aN (ar a6)=true:=by decide +kernel
 unfold ao;simp[fc,this]
theorem law_holds (cs:Cs) (ns:List Int):ji cs (bx cs) ah (aI cs) (aJ cs) (ao cs) aE (some (ai ns)::List.replicate 3 none)=.rt (.bool true):=by
 obtain⟨es,rs,_,l1,l4,hok,_,g,_⟩:=mh ns 2 28 (by decide) (by decide) (by decide);have f:es.length<=6:=by omega
 have v:bD [] 1 (au aE (aa (ae 0) (aa (gC (.int 2)) (aa (gC (.int 4)) (aa (gC (.int 28)) (aa (gC (.bool true)) af)))))) [some (ai ns),none,none,none]=.nx [some (ai ns),some (ar es),none,none] :=
  ip (by decide:1<4) (bw (ds:=[ai ns,.int 2,.int 4,.int 28,.bool true]) rfl g)
 have hm:cO (.tuple [(⟨60,40,20,[(20,some 3),(20,some 0),(1,none),(20,none)]⟩:Er).d,(⟨2,1,1,[(1,none)]⟩:Er).d]) (.int 3)=some (ar a6):=iG (by simp) (by decide) (by decide) (show 2*3<=1000000 by decide);have s2:bD [] 2 (g2 cO (ay (aa (ay (aa (gC (.int 60)) (aa (gC (.int 40)) (aa (gC (.int 20)) (aa (ay (aa (ay (aa (gC (.int 20)) (aa (gC (.int 3)) af))) (aa (ay (aa (gC (.int 20)) (aa (gC (.int 0)) af))) (aa (ay (aa (gC (.int 1)) (aa (gC .none) af))) (aa (ay (aa (gC (.int 20)) (aa (gC .none) af))) af))))) af))))) (aa (ay (aa (gC (.int 2)) (aa (gC (.int 1)) (aa (gC (.int 1)) (aa (ay (aa (ay (aa (gC (.int 1)) (aa (gC .none) af))) af)) af))))) af))) (gC (.int 3))) [some (ai ns),some (ar es),none,none]=.nx [some (ai ns),some (ar es),some (ar a6),none] :=
  ip (by decide:2<4) (bz rfl rfl hm)
 have w:sIf (cOr (gT (g2 dNe (au (ao cs) (aa (ae 1) af)) (ae 1))) (gT (g2 dNe (au (ao cs) (aa (ae 2) af)) (ae 2)))) (bj (gC (.bool false))) bq [some (ai ns),some (ar es),some (ar a6),none]=.nx [some (ai ns),some (ar es),some (ar a6),none]:=by
  have A:gT (g2 dNe (au (ao cs) (aa (ae 1) af)) (ae 1)) [some (ai ns),some (ar es),some (ar a6),none]=.ok false:=by rw[lj,bz (bw (ds:=[ar es]) rfl (cP cs l1 f hok)) (y:=ar es) rfl (nJ es),Rs.aj,dO]
  have B:gT (g2 dNe (au (ao cs) (aa (ae 2) af)) (ae 2)) [some (ai ns),some (ar es),some (ar a6),none]=.ok false:=by rw[lj,bz (bw (ds:=[ar a6]) rfl (iM cs)) (y:=ar a6) rfl (nJ a6),Rs.aj,dO]
  rw[gP,uv,A,Rs.aj,if_neg (by decide),B,aH];rfl
 have turn:∀(i:Nat),i<es.length->sIf (gT (g2 dNe (au (bx cs) (aa (ae 1) (aa (ae 3) af))) (gF fM (aa (gL (bh 4 (dh (g2 dIx (g2 dIx (ae 1) (ae 3)) (gC (.int 3)))) bA (g2 dIx (ae 4) (gC (.int 0))) aY)) af)))) (bj (gC (.bool false))) bq [some (ai ns),some (ar es),some (ar a6),some (.int (i:Int))]=.nx [some (ai ns),some (ar es),some (ar a6),some (.int (i:Int))]:=by
  intro i hi;have C:=hok _ (AV hi);have j:dIx (ar es) (.int (i:Int))=some es[i].d:=dR (xs:=es.map Er.d) (by rw[Ap,A8 hi];rfl);have hc:bh 4 (dh (g2 dIx (g2 dIx (ae 1) (ae 3)) (gC (.int 3)))) bA (g2 dIx (ae 4) (gC (.int 0))) aY [some (ai ns),some (ar es),some (ar a6),some (.int (i:Int))]=.ok ((es[i].parts.map ag).map λd=>.int (bE d).1):=by
   refine c0 rfl ?_ (by have:=C.p2;rw[Af];omega) λd l=>?_
   ·rw[rC,bz (bz (x:=ar es) (y:=.int (i:Int)) rfl rfl j) (y:=.int 3) rfl (tY _),Rs.aj,qF]
   ·obtain⟨p,u,rfl⟩:=Ah.mp l;rw[dD];exact bz (x:=ag p) (y:=.int 0) rfl rfl (kc p)
  have hm:((es[i].parts.map ag).map λd=>PyData.int (bE d).1)=es[i].parts.map λp=>.int p.1:=by rw[AD];exact AW λp _=>by simp[dD]
  rw[hm]at hc;have D:gF fM (aa (gL (bh 4 (dh (g2 dIx (g2 dIx (ae 1) (ae 3)) (gC (.int 3)))) bA (g2 dIx (ae 4) (gC (.int 0))) aY)) af) [some (ai ns),some (ar es),some (ar a6),some (.int (i:Int))]=.ok (.int es[i].work):=by rw[ja,aL (d:=.list (es[i].parts.map λp=>.int p.1)) (by rw[uq,hc];rfl) (ds:=[]) rfl,Rs.aj,iV];rfl
  rw[gP,lj,bz (bw (ds:=[ar es,.int (i:Int)]) rfl (pJ l1 f hok hi)) D (ui _ _),Rs.aj,dO];simp
 have m:∃a,jh [] (eF (aa (gF cX (aa (ae 1) af)) af)) (dw 3) (sIf (gT (g2 dNe (au (bx cs) (aa (ae 1) (aa (ae 3) af))) (gF fM (aa (gL (bh 4 (dh (g2 dIx (g2 dIx (ae 1) (ae 3)) (gC (.int 3)))) bA (g2 dIx (ae 4) (gC (.int 0))) aY)) af)))) (bj (gC (.bool false))) bq) [some (ai ns),some (ar es),some (ar a6),none]=.nx [some (ai ns),some (ar es),some (ar a6),a]:=by
  have b:eF (aa (gF cX (aa (ae 1) af)) af) (mask [] [some (ai ns),some (ar es),some (ar a6),none])=.ok (bB 0 es.length):=by rw[fG,iP,aL (d:=.int (es.length:Int)) (by rw[ja];show Rs.bS (cX [ar es])=_;rw[rh];rfl) (ds:=[]) rfl,Rs.aj,ia (by omega) (by omega),AR]
  rw[qx b];have loop:∀(ds:List PyData) (a:Option PyData),(∀d∈ds,∃i:Nat,i<es.length/\d=.int (i:Int))->∃n,forL (dw 3) (sIf (gT (g2 dNe (au (bx cs) (aa (ae 1) (aa (ae 3) af))) (gF fM (aa (gL (bh 4 (dh (g2 dIx (g2 dIx (ae 1) (ae 3)) (gC (.int 3)))) bA (g2 dIx (ae 4) (gC (.int 0))) aY)) af)))) (bj (gC (.bool false))) bq) ds [some (ai ns),some (ar es),some (ar a6),a]=.nx [some (ai ns),some (ar es),some (ar a6),n]:=by
   intro ds
   induction ds with
   |nil=>exact λa _=>⟨a,rfl⟩
   |cons d r ih =>
    intro a h;obtain⟨i,hi,rfl⟩:=h d List.mem_cons_self;obtain⟨n,e⟩:=ih (some (.int (i:Int))) λx j=>h x (Ab _ j)
    refine⟨n,?_⟩;unfold forL;rw[show dw 3 (.int (i:Int)) [some (ai ns),some (ar es),some (ar a6),a]=some [some (ai ns),some (ar es),some (ar a6),some (.int (i:Int))] from rfl];dsimp only;rw[turn i hi];exact e
  refine loop _ _ λd hd=>?_
  obtain⟨i,hi⟩:=List.getElem?_of_mem hd;obtain⟨h1,rfl⟩:=d8 hi;exact⟨i,h1,by rw[Int.zero_add]⟩
 obtain⟨a,m⟩:=m;have o:=aZ (ns:=ns) (k:=0) (many:=4) (by decide) (by decide);have q:=aZ (ns:=ns) (k:=1) (many:=10 ^ 6) (by decide) (by decide);have E:=aT ns 0 (many:=4) (by decide);have F:=a7 ns 0 (many:=4) (by decide);have k0:=aT ns 1 (many:=10 ^ 6) (by decide);obtain⟨d,hd,d1,d2⟩:=mV (L:=[.int (es.length:Int),.int (-1),.bool true,.none]) (i:=mixed ns 0 4) (P:=λd=>aq d=true/\isWhole d 0 ((es.length:Int)-1)=false) E (by exact F) (λd hd=>by
  simp only[List.mem_cons,A7,or_false]at hd;rcases hd with rfl|rfl|rfl|rfl
  ·refine⟨bP _,?_⟩;have:decide ((es.length:Int)<=es.length-1)=false:=decide_eq_false (by omega);simp only[isWhole,this,AS]
  ·exact⟨bP _,rfl⟩
  ·exact⟨by unfold aq;rfl,rfl⟩
  ·exact⟨by unfold aq;rfl,rfl⟩)
 have s:=oV (cs:=cs) l1 f hok d1 d2;obtain⟨z,z1,z2,z3⟩:=lx (cs:=cs) l1 f hok (c:=mixed ns 1 (10 ^ 6)) k0;have t:=jW (cs:=cs) z2 z3;have G:fT cs.NoErrand (bx cs) (aa (ae 1) (aa (g2 dIx (cQ (aa (gF cX (aa (ae 1) af)) (aa (g1 dq (gC (.int 1))) (aa (gC (.bool true)) (aa (gC .none) af))))) (au ah (aa (ae 0) (aa (gC (.int 0)) (aa (gC (.int 4)) af))))) af)) (au (aJ cs) (aa (au (aI cs) (aa (ae 1) (aa (au ah (aa (ae 0) (aa (gC (.int 1)) (aa (g2 k6 (gC (.int 10)) (gC (.int 6))) af)))) af))) af)) [some (ai ns),some (ar es),some (ar a6),a]=.rt (.bool true):=by
  have H:gF cX (aa (ae 1) af) [some (ai ns),some (ar es),some (ar a6),a]=.ok (.int (es.length:Int)):=by rw[ja];show Rs.bS (cX [ar es])=_;rw[rh];rfl
  have I:(aa (ae 1) (aa (g2 dIx (cQ (aa (gF cX (aa (ae 1) af)) (aa (g1 dq (gC (.int 1))) (aa (gC (.bool true)) (aa (gC .none) af))))) (au ah (aa (ae 0) (aa (gC (.int 0)) (aa (gC (.int 4)) af))))) af)) [some (ai ns),some (ar es),some (ar a6),a]=.ok [ar es,d]:=by refine aL (d:=ar es) rfl (aL (bz (x:=.list [.int (es.length:Int),.int (-1),.bool true,.none]) ?_ (bw (ds:=[ai ns,.int 0,.int 4]) rfl o) hd) rfl);rw[hZ,aL H (ds:=[.int (-1),.bool true,.none]) rfl];rfl
  have J:au (aJ cs) (aa (au (aI cs) (aa (ae 1) (aa (au ah (aa (ae 0) (aa (gC (.int 1)) (aa (g2 k6 (gC (.int 10)) (gC (.int 6))) af)))) af))) af) [some (ai ns),some (ar es),some (ar a6),a]=.ok (.bool true):=by have u:g2 k6 (gC (.int 10)) (gC (.int 6)) [some (ai ns),some (ar es),some (ar a6),a]=.ok (.int (10 ^ 6)):=bz (x:=.int 10) (y:=.int 6) rfl rfl qO;exact bw (ds:=[z]) (aL (bw (ds:=[ar es,.int (mixed ns 1 (10 ^ 6))]) (aL rfl (aL (bw (ds:=[ai ns,.int 1,.int (10 ^ 6)]) (aL rfl (aL rfl (aL u rfl))) q) rfl)) z1) rfl) t
  unfold fT;rw[I];dsimp only;rw[s];dsimp only;rw[if_pos rfl,J]
 show ji cs (bx cs) ah (aI cs) (aJ cs) (ao cs) aE [some (ai ns),none,none,none]=_;unfold ji;rw[bo v,bo s2,bo w,bo m,bL,G]
theorem tE (cs:Cs):LLq (ji cs (bx cs) ah (aI cs) (aJ cs) (ao cs) aE) 1 3 (cq 63):=lawT_of (law_holds cs)
end RS
set_option maxHeartbeats 4000000
namespace L2
open PySem PySem.Spec PyProof.Rows
section
variable {E:XK} {a b:Expr}
end
section
variable {E:XK} {H0:Hp} {A0:List Addr}
end
def ndB:List Str->Bool
 |[]=>true
 |x::r=>!r.elem x&&ndB r
theorem nk:∀{l:List Str},ndB l=true->l.Nodup
 |[],_=>List.nodup_nil
 |x::r,h=>by simp only[ndB,Ag,Bool.not_eq_true']at h;exact AX.mpr ⟨λz=>(by have:=List.elem_eq_true_of_mem z;rw[h.1]at this;cases this),nk h.2⟩
section
variable {n':Nat} {m:Str}
def AtX (X:Cx) (P:Program) (w:World) (K:PySem.W.Frag) (mg:Str->Option Value) (base:Heap):Prop:=X.prog=P/\X.w=w/\X.K=K/\X.mg=mg/\X.base=base
theorem dX.to (h:dX P w K mg base k x n gf) (a:AtX X P w K mg base) (hn:n=n'):dX X.prog X.w X.K X.mg X.base k x n' gf:=by obtain⟨rfl,rfl,rfl,rfl,rfl⟩:=a;subst hn;exact h
end
end L2
namespace RS
open PySem PySem.Spec PyProof.Rows L2
theorem o9 (d:α) {us:List α} (h:us.length=n):∃f:Nat->α,us=(List.range n).map f :=
 ⟨λi=>us.getD i d,List.ext_getElem (by simp[h]) λi h1 h2=>by simp[AF,A8 h1]⟩
section
variable {m q:Str} {G:Ds->Sr} {gf:Gf}
abbrev Bod (P:Program) (w:World) (K:PySem.W.Frag) (mg:Str->Option Value) (base:Heap) (q:Str) (st:Stmt) (k:Nat) (O:List Nat) (N:List Str) (G:Ds->Sr):Prop:=∀(f:Addr) (cdv:Value) (A:Around) (outer:List Env) (s:Shared) (H:Hp) (E:XK),N.Nodup->bF k (A.deeper (envOfC q (aB st) s.heap.objs.size f cdv))->PBD (cI (CXW P w) P w K mg base N q (aB st) f cdv A outer s H E) E O (bJ st) G
theorem dA (P:Program) (w:World) (base:Heap) (k:Nat) (O:List Nat) (N:List Str) (h:bO K mg x st ps) (a:∀ds,ds.length=ps.length->gf ds≠.no->bK (G (ds.map some++List.replicate (N.length-ps.length) none))=gf ds)
  (body:Bod P w K mg base x st k O N G) (S:ck N ps (aB st):=by exact⟨rfl,rfl,rfl,by decide +kernel,rfl,by decide +kernel,by decide +kernel⟩) (c:∀i∈O,ps.length<=i:=by decide):dX P w K mg base (k+1) x ps.length gf:=by
 obtain⟨f,fd,F,b,m⟩:=h;exact dX.of F S b m c (λcdv A outer s H E=>body f cdv A outer s H E S.nd) a
theorem dL (k:Nat) (O:List Nat) (N:List Str) {f:Addr} (F:Fun K x x st f fd) (a:∀ds,ds.length=ps.length->gf ds≠.no->bK (G (ds.map some++List.replicate (N.length-ps.length) none))=gf ds)
  (body:Bod P w K mg base x st k O N G) (S:ck N ps (aB st):=by exact⟨rfl,rfl,rfl,by decide +kernel,rfl,by decide +kernel,by decide +kernel⟩) (b:∀i∈O,ps.length<=i:=by decide):dG P w K mg base (CXW P w) (k+1) f fd ps (spD K ps.length gf) :=
 o7 F S b (λcdv A outer s H E=>body f cdv A outer s H E S.nd) a
end
end RS
set_option maxHeartbeats 0
namespace RS
open PySem PySem.Spec PyProof.Rows L2
variable {f:Addr}
def top (i:Nat):Stmt:=PySem.Challenge.pw_ranksure_k01_errands.main.body.getD i (.Pass ⟨0,0,0,0⟩)
structure Tx (K:PySem.W.Frag) (mg:Str->Option Value) (cs:Cs):Prop where
 f_is_whole:bO K mg "is_whole" (top 13) ["thing", "least", "most"]
 f_is_tuple:bO K mg "is_tuple" (top 14) ["thing", "fewest", "most"]
 f_is_part:bO K mg "is_part" (top 15) ["thing"]
 f_are_parts:bO K mg "are_parts" (top 16) ["thing"]
 f_is_errand:bO K mg "is_errand" (top 17) ["thing"]
 f_checked:bO K mg "checked" (top 18) ["errands"]
 f_checked_number:bO K mg "checked_number" (top 19) ["errands", "number"]
 f_work_of:bO K mg "work_of" (top 20) ["errand"]
 f_work:bO K mg "work" (top 21) ["errands", "number"]
 f_law_cell_at:bO K mg "_law_cell_at" (top 23) ["_law_script", "_law_k"]
 f_law_mixed:bO K mg "_law_mixed" (top 24) ["_law_script", "_law_k", "_law_many"]
 f_law_errand:bO K mg "_law_errand" (top 25) ["_law_script", "_law_at", "_law_top", "_law_tools"]
 f_law_errands:bO K mg "_law_errands" (top 26) ["_law_script", "_law_at", "_law_most", "_law_top", "_law_tools"]
 f_law_odd:bO K mg "_law_odd" (top 27) ["_law_errand_here", "_law_cell"]
 f_law_spoilt:bO K mg "_law_spoilt" (top 28) ["_law_errands_here", "_law_cell"]
 f_law_refused:bO K mg "_law_refused" (top 29) ["_law_thing"]
 f_law:bO K mg "law" (top 30) ["_law_script"]
 bs:∀x∈["ValueError", "all", "bool", "int", "isinstance", "len", "list", "min", "range", "sum", "tuple"],mg x=none
 cst:∀q∈([("LEAST_EVERY",2),("MOST_ERRANDS",6),("MOST_EVERY",60),("MOST_LATE",20),("MOST_LENGTH",20),("MOST_PARTS",4),("TOOLS",4)]:List (Str×Int)),∃t,mg q.1=some (.int q.2 t)
 e_NoErrand:fz K mg "NoErrand" cs.NoErrand
 e_NoErrands:fz K mg "NoErrands" cs.NoErrands
 e_NoRanks:fz K mg "NoRanks" cs.NoRanks
 e_RankError:fz K mg "RankError" cs.RankError
 x_NoErrands:gq K cs.NoErrands
 i_NoErrands_NoRanks:PySem.W.kitOne K (.ref cs.NoErrands) (.ref cs.NoRanks)=some false
 i_NoErrands_RankError:PySem.W.kitOne K (.ref cs.NoErrands) (.ref cs.RankError)=some true
 i_NoErrands_ValueError:PySem.W.kitOne K (.ref cs.NoErrands) (.type "ValueError")=some true
structure Ty (K:PySem.W.Frag) (mg:Str->Option Value) (cs:Cs) (base:Heap):Prop extends Tx K mg cs where
 hB:g5 mg base
 hK:K.In base
section
theorem kg:ck ["_law_script", "_law_k"] ["_law_script", "_law_k"] (aB (top 23)):=⟨rfl,rfl,rfl,by decide +kernel,rfl,by decide +kernel,by decide +kernel⟩
theorem jX (F:Fun K "_law_cell_at" "_law_cell_at" (top 23) f fd) (bl:mg "len"=none):dG P w K mg base CX0 1 f fd ["_law_script", "_law_k"] (mS K):=by
 refine F.ok kg (λvs H Q E h=>?_) (λcdv A outer s H vs Q E l h=>?_)
 ·obtain⟨a,ns,k,rfl,_⟩:=h;rfl
 ·obtain⟨a,ns,k,rfl,e,m,g⟩:=h;refine⟨_,eL (nZ (sf (sX (pv 1) (cu c9 rfl bl PySem.boot_len (bV (pv 0) dg)))) (df (d7 (me iy (pv 0) (pv 1) (λ_ _=>rfl)))) hV)
   (eL (nZ (ir (jT l.units) (pv 0) (kh dg) (iu _)) (df (d7 c7)) hV)
   (df (d7 (bQ e9 (bQ e6 (me iy (pv 0) (bQ f9 (pv 1) (cu c9 rfl bl PySem.boot_len (bV (pv 0) dg))) (λ_ _=>rfl)) c7) (pv 1))))),?_⟩
  refine⟨_,rfl,_,rfl,a,_,rfl,.inl e,k,_,rfl,rfl,_,rfl,?_⟩;have hlen:(ns.map V.int).length=ns.length:=Af ..;rw[hlen];refine tf (λhc=>?_) (λhc=>?_)
  ·have hc:k<(ns.length:Int):=of_decide_eq_true hc;have hi:k.toNat<ns.length:=by omega
   refine⟨_,rfl,_,rfl,a,_,k,.int (ns.getD k.toNat 0),rfl,rfl,e,iA m ?_,?_⟩
   ·rw[Ap,A8 hi,AF,A8 hi];rfl
   ·have:=g H (ak.refl H);rw[show cellAt ns k=ns.getD k.toNat 0 by unfold cellAt;rw[if_pos hc]]at this;exact this
  ·have hc:¬ k<(ns.length:Int):=λz=>hc (decide_eq_true z)
   refine⟨_,rfl,B3 _,λp i=>⟨.list (ns.map .int),.list [],(il e (gM ns)).same (eE i),il (SqL.of bH) gm,shaped_ints ns,jJ,_,rfl,?_⟩⟩;rw[mD];refine tf (λb=>?_) (λb=>?_)
   ·have b:ns=[]:=of_decide_eq_true b;have:=g _ (eE (o:=.lst []) i);rw[show cellAt ns k=0 by unfold cellAt;rw[if_neg hc,if_pos b]]at this;exact this
   ·have b:¬ ns=[]:=λz=>b (decide_eq_true z)
    have c:0<(ns.length:Int):=by
     cases ns with
     |nil=>exact absurd rfl b
     |cons _ _=>simp
    have h1:0<=k % (ns.length:Int):=Ay _ (by omega);have h2:k % (ns.length:Int)<(ns.length:Int):=Ar _ c;have hi:(k % (ns.length:Int)).toNat<ns.length:=by omega
    have j:ak H (upd H p (.lst [])):=eE i;refine⟨_,rfl,_,rfl,_,rfl,a,_,rfl,.inl (j.seq e),_,_,rfl,rfl,by rw[hlen];exact c,a,_,_,.int (ns.getD (k % (ns.length:Int)).toNat 0),rfl,rfl,j.seq e,?_,_,_,rfl,rfl,.inr ⟨by decide,by decide⟩,_,rfl,_,_,rfl,rfl,?_⟩
    ·rw[hlen];refine iA h1 ?_;rw[Ap,A8 hi,AF,A8 hi];rfl
    ·have:=g _ j;rw[show cellAt ns k=ns.getD (k % (ns.length:Int)).toNat 0*31+k by unfold cellAt;rw[if_neg hc,if_neg b]]at this;exact this
theorem iY:ck ["_law_script", "_law_k", "_law_many", "_law_drawn"] ["_law_script", "_law_k", "_law_many"] (aB (top 24)):=⟨rfl,rfl,rfl,by decide +kernel,rfl,by decide +kernel,by decide +kernel⟩
theorem mx {b:FuncData} (F:Fun K "_law_mixed" "_law_mixed" (top 24) f fd) (e:Fun K "_law_cell_at" "_law_cell_at" (top 23) c b) (g:Binds K b ["_law_script", "_law_k"] []) (j:mg "_law_cell_at"=some (.ref c)) (bl:mg "len"=none):dG P w K mg base CX0 2 f fd ["_law_script", "_law_k", "_law_many"] (qj K):=by
 have l:dG P w K mg base CX0 1 c b _ (mS K):=jX e bl;refine F.ok iY (λvs H Q E h=>?_) (λcdv A outer s H vs Q E m h=>?_)
 ·obtain⟨a,ns,k,many,rfl,_⟩:=h;rfl
 ·obtain⟨a,ns,k,many,rfl,n,o,hm,p⟩:=h;refine⟨_,eL (jS (i:=3) iY.nd rfl (Or.inl rfl) (bQ f9 (bQ e6 (bQ e9 (bQ e9 (kU l m rfl j e.kp g .nil (uB rfl) (bV (pv 0) (bV (pv 1) dg))) (bQ e6 c7 (pv 1))) c7) c7) c7))
   (df (d7 (bQ f9 (bQ f9 (bQ e9 (bQ e9 (bQ e6 (pv 3) (pv 3)) (bQ e6 c7 (pv 3))) (pv 1)) c7) (pv 2)))),?_⟩
  refine⟨_,rfl,_,rfl,a,ns,k,rfl,n,o,λH1 q=>?_⟩;refine⟨_,rfl,_,_,rfl,rfl,.inl ⟨by decide,by decide⟩,_,_,rfl,rfl,_,_,rfl,rfl,_,_,rfl,rfl,.inr ⟨by decide,by decide⟩,_,_,rfl,rfl,(by show (0:Int)<2147483647;decide),?_⟩;have b1:=oZ ns k;have b2:=pL ns k;have eD:(cellAt ns k+7919*k+1)*48271 % 2147483647=lp ns k:=rfl;refine⟨_,rfl,_,rfl,_,_,rfl,rfl,.inl ⟨?_,?_⟩,_,rfl,_,_,rfl,rfl,.inl ⟨by decide,by decide⟩,_,_,rfl,rfl,_,rfl,_,_,rfl,rfl,_,_,rfl,rfl,(by show (0:Int)<2147483629;decide),_,rfl,_,_,rfl,rfl,hm,p H1 q⟩
  ·show -(2 ^ 64)<(cellAt ns k+7919*k+1)*48271 % 2147483647;rw[eD];omega
  ·show (cellAt ns k+7919*k+1)*48271 % 2147483647<2 ^ 64;rw[eD];omega
theorem jl (T:Tx K mg cs):dX P w K mg base 2 "_law_mixed" 3 ah:=by obtain⟨f,fd,F,b,m⟩:=T.f_law_mixed;obtain⟨fC,fdC,a,c,e⟩:=T.f_law_cell_at;exact dX.old (mx F a c e (T.bs _ (by decide))) m F.kp b o8
set_option hygiene false
local macro_rules | `(tactic| exists $r)=>`(tactic| refine' $r ..) |`(tactic| exists $r,$rs,*)=>`(tactic| first|refine' $r ..|exists $rs,*)
local macro_rules | `(tactic| infer_instance)=>`(tactic| first|((with_reducible show _=_);exact rfl)|(with_reducible first|(show PD _ _ _ _;first|exists rY,rj,oI,tX,qE,sq,tu,qG,sL,rL,qR,qk,rT,qB,rA,rZ,uc,rD,qp,r8,ma|(show PD _ _ _ (au _ _);apply og)|exists ll,sM,rR,qC,nV,jI,lR,oP,sW,rO,oy)|(show PAD _ _ _ _;first|exists mj,ph)|(show PCD _ _ _ _;first|exists rJ,qX,pj|refine' qh (pwd_and ..)|refine' qh (mi ..)|refine' px ..)|(show PSD _ _ _ _ _;first|exists oU,qr,lO,pG,oG|(show PSD _ _ _ _ (mn _ _ _);apply pC)|exists pe,pE,pB,nF|(show PSD _ _ _ _ (jh _ _ _ _);apply pT))|(show PBD _ _ _ _ _;first|exists oo,kx,aP)|(show PLD _ _ _ _;first|(show PLD _ _ _ (bh _ _ _ _ _);apply m6)|refine' oq ..)|(show PID _ _ _ _ _;first|exists jE,pM)|(show PIf _ _ _;first|exact PIf.nil|refine' PIf.one ..)|(show PWD _ _ _ _;first|exists mi,pwd_and1,pq)|(show TgS _ _ _ _;first|exists nT,n6)|(show POD _ _ _ _;first|exists md,nu)) <;> infer_instance|((with_reducible show PBD _ _ _ _ _); first|refine' aP ?_ ?_|refine' kx ?_) <;> infer_instance|((with_reducible show PG _ _ _); first|refine' oW ?_ ?_ ?_|refine' sk ?_ ?_) <;> infer_instance|((with_reducible show PGs _ _ _); first|refine' mm ?_ ?_|exact oQ) <;> infer_instance|exact rfl|((with_reducible show dX _ _ _ _ _ _ _ _ _);(with_reducible refine' dX.to ?z1 ?z2 ?z3);(case z1=>with_reducible assumption);(case z2=>exact⟨rfl,rfl,rfl,rfl,rfl⟩);(case z3=>rfl))|exact hr|exact n8|exact nY rfl|exact T.bs _ (by decide +kernel)|exact T.cst (_,_) (by decide +kernel)|exact .inl rfl|exact .inr rfl|exact .inr (.inl rfl)|exact .inr (.inr rfl)|exact nd|exact nk (by kernel_rfl)|exact PassesOwn.leaving|exact mq|exact tgd_pair|exact λ_=>rfl|exact λ_ _=>rfl|((with_reducible intro _ _ _ _);infer_instance)|exact T.e_NoErrand|exact T.e_NoErrands|exact T.e_NoRanks|exact T.e_RankError|exact qY|exact ni|exact bt_bool|exact jr|exact kX|exact bF.u1 hr|exact hr.units|exact⟨rfl,rfl,rfl,rfl⟩|exact hr.in1.deeper _|exact bF.u1 (hr.in1.deeper _)|decide|with_unfolding_all rfl)
local macro_rules | `(tactic| nofun)=>`(tactic| (try have:=lV P w T;try have:=kf P w T;try have:=eY P w T;try have:=jR P w T;try have:=kY P w T;try have:=iX P w T;try have:=i4 P w T;try have:=gQ P w T;try have:=mR P w T;try have:=jl (P:=P) (w:=w) (base:=base) T.toTx;try have:=k8 P w T;try have:=iN P w T;try have:=gw P w T;try have:=iz P w T;try have:=gx P w T))
local macro_rules | `(tactic| and_intros)=>`(tactic| (nofun;intro f cdv A outer s H E nd hr;infer_instance))
variable (P w) (T:Ty K mg cs base)
def lV:=dA P w base 0 [] ["errand"] T.f_work_of (lT cs) (by delta g6;and_intros)
def kf:=dA P w base 0 [] ["thing", "least", "most"] T.f_is_whole (jD cs) (by delta de;and_intros)
def eY:=dA P w base 1 [] ["errands", "number"] T.f_checked_number (e7 cs) (by delta br;and_intros)
def jR:=dA P w base 0 [] ["thing", "fewest", "most"] T.f_is_tuple (ko cs) (by delta c6;and_intros)
def kY:=dA P w base 1 [] ["thing"] T.f_is_part (lN cs) (by delta cE;and_intros)
def iX:=dA P w base 2 [] ["thing"] T.f_are_parts (je cs) (by delta cw;and_intros)
def i4:=dA P w base 3 [] ["thing", "every", "due", "late"] T.f_is_errand (i9 cs) (by delta bp;and_intros)
def gQ:=dA P w base 4 [] ["errands"] T.f_checked (lC cs) (by delta cZ;and_intros)
def mR:=dA P w base 5 [] ["errands", "number"] (gf:=bx cs) (G:=ef cs _ _ _) T.f_work kG (by delta ef;and_intros)
def k8:=dA P w base 0 [7,8] ["_law_errand_here", "_law_cell", "_law_every", "_law_due", "_law_late", "_law_parts", "_law_last", "_law_some", "_law_odd_here"] (gf:=bN cs) (G:=cT cs) T.f_law_odd kG (by delta cT;nofun;intro f cdv A outer s H E nd hr;exact (aP (by infer_instance)
 (aP (by infer_instance)
 (aP (by infer_instance)
 (aP (by infer_instance)
 (aP (by infer_instance)
 (aP (by infer_instance)
 (aP (by infer_instance)
 (kq (i:=8) (O':=[7]) (aP (by infer_instance)
 (kq (i:=7) (O':=[]) (by infer_instance))))))))))))
def iN:=dA P w base 1 [] ["_law_errands_here", "_law_cell", "_law_at"] (gf:=aI cs) (G:=bW cs _) T.f_law_spoilt kG (by delta bW;and_intros)
def gw:=dA P w base 5 [] ["_law_thing", "e"] (gf:=aJ cs) (G:=bG cs _) T.f_law_refused kG (by delta bG;nofun;intro f cdv A outer s H E nd hr;exact (aP (jc (i:=1) (d:=(.bool true)) (gQ P w T) rfl hr (by infer_instance) T.e_NoErrands nd rfl (by intro ea oe ho;exact m4 (by rfl) (kA (jQ jY ho T.x_NoErrands (T.bs _ (by decide +kernel)) rfl (iK (v:=.ref cs.RankError) rfl T.e_RankError.m rfl) rfl T.i_NoErrands_RankError) (kA (jQ jY ho T.x_NoErrands (T.bs _ (by decide +kernel)) rfl (kF (v:=.ty "ValueError") rfl (T.bs _ (by decide +kernel)) gG rfl) rfl T.i_NoErrands_ValueError) (pb (pQ (jQ jY ho T.x_NoErrands (T.bs _ (by decide +kernel)) rfl (iK (v:=.ref cs.NoRanks) rfl T.e_NoRanks.m rfl) rfl T.i_NoErrands_NoRanks)))))))
 (by infer_instance)))
def iz:=dA P w base 2 [7] ["_law_script", "_law_at", "_law_top", "_law_tools", "_law_every", "_law_late", "_law_due", "_law_parts", "_law_k", "_law_cell"] T.f_law_errand (iL cs) (by delta cz;and_intros)
def gx:=dA P w base 3 [] ["_law_script", "_law_at", "_law_most", "_law_top", "_law_tools", "_law_many"] T.f_law_errands (gD cs) (by delta cm;and_intros)
theorem law_ok (T:Ty K mg cs base) (F:Fun K "law" "law" (top 30) f fd):dG P w K mg base (CXW P w) 31 f fd ["_law_script"] (spD K 1 (cq 63)) :=
 dL (ps:=["_law_script"]) 30 [] ["_law_script", "_law_errands_here", "_law_full", "_law_k"] F (tE cs) (by delta ji;nofun;intro f cdv A outer s H E nd hr;refine' aP ?_ ?_;infer_instance;refine' aP ?_ ?_;infer_instance;refine' aP ?_ ?_;infer_instance;refine' aP ?_ ?_;infer_instance;refine' aP (lI (mR P w T) rfl hr (by decide) ?_ T.e_NoErrand ?_) ?_;infer_instance;intro ea oe hr;infer_instance;infer_instance)
end
end RS
set_option hygiene false
local macro_rules | `(tactic| and_intros)=>`(tactic| first|(refine' RS.mG KX G (λ_ _ _ _ _ _ us hl=>by obtain⟨f,rfl⟩:=RS.o9 PySem.Value.none hl;rfl) ?za ?zl ?zc ?zk;(case za=>k_is);(case zl=>k_is);(case zc=>k_is);(case zk=>k_is))|(refine' L2.meth_mk (λ_ _ _ _ _ _ us hl=>by obtain⟨f,rfl⟩:=RS.o9 PySem.Value.none hl;rfl) ⟨?zm,?zf,?zp⟩ ?zl ?zc ?zq;(case zm=>k_is);(case zf=>k_is);(case zp=>k_is);(case zl=>k_is);(case zc=>k_is);(case zq=>k_is))|(refine' PySem.W.mg_of KX G ?za;(case za=>k_is))|(refine' PySem.W.mg_none_of KX G ?zz;(case zz=>k_is))|(refine' RS.oz KX G ?zz;(case zz=>k_is))|(refine' RS.dQ KX G ?za ?ze;(case za=>k_is);(case ze=>k_exc))|(refine'⟨_,RS.dQ KX G ?za ?ze⟩;(case za=>k_is);(case ze=>k_exc))|(refine'⟨?zp,?zh,?zo,?zs⟩;(case zp=>k_is);(case zh=>k_is);(case zo=>k_is);(case zs=>k_is))|(refine' L2.init_mk (λ_ _ _ _ _ _ us hl=>by obtain⟨f,rfl⟩:=RS.o9 PySem.Value.none hl;rfl) ?za ?zi ?zl ?zc ?zk ?zm ?zx;(case za=>k_is);(case zi=>k_is);(case zl=>k_is);(case zc=>k_is);(case zk=>k_is);(case zm=>k_is);(case zx=>k_is))|exact List.forall_mem_nil _|((first|refine List.forall_mem_cons.2 ⟨?_,?_⟩|refine List.forall_mem_singleton.2 ?_) <;> (try dsimp only) <;> and_intros)|(refine' L2.gq.mk ?z1 ?z2 ?z3 ?z4 ?z5 ?z6 ?z7 ?z8;(case z1=>k_is);(case z2=>k_is);(case z3=>k_is);(case z4=>k_is);(case z5=>k_is);(case z6=>k_is);(case z7=>k_is);(case z8=>k_is))|kit_is|k_is|(delta L2.NoAttr;k_is)|(dsimp only;and_intros))
open PySem PySem.W PyProof.Rows
set_option maxRecDepth 100000 in
set_option maxHeartbeats 0 in
theorem PySem.Challenge.cw_ranksure_k01_errands_holds : PySem.Challenge.rw_ranksure_k01_errands.Holds := by
 refine RS.hdTop ?_
 k_fill
 refine RS.tS (l:=PySem.Challenge.rw_ranksure_k01_errands) (n:=63) (k:=31) (x:="_law_script") (st:=RS.top 30) rfl (by decide) rfl ⟨λ_=>rfl,by decide,by decide⟩ (λw h Y=>PySem.W.kIn_of Y) (λ_ _ _ _ _ _ us hl=>by obtain⟨f,rfl⟩:=RS.o9 PySem.Value.none hl;rfl) ?F
 case F =>
  intro w mg h KX G;obtain⟨c_NoErrand,c_NoErrands,c_NoRanks,c_RankError,h_NoErrand,h_NoErrands,h_NoRanks,h_RankError,z0,z1,z2,z3⟩:∃c_NoErrand c_NoErrands c_NoRanks c_RankError:Addr,L2.fz (L2.KOf KX) mg "NoErrand" c_NoErrand/\L2.fz (L2.KOf KX) mg "NoErrands" c_NoErrands/\L2.fz (L2.KOf KX) mg "NoRanks" c_NoRanks/\L2.fz (L2.KOf KX) mg "RankError" c_RankError/\L2.gq (L2.KOf KX) c_NoErrands/\PySem.W.kitOne (L2.KOf KX) (.ref c_NoErrands) (.ref c_NoRanks)=some false/\PySem.W.kitOne (L2.KOf KX) (.ref c_NoErrands) (.ref c_RankError)=some true/\PySem.W.kitOne (L2.KOf KX) (.ref c_NoErrands) (.type "ValueError")=some true:=by
   delta L2.KOf
   refine'⟨_,_,_,_,RS.dQ KX G ?a_NoErrand ?e_NoErrand,RS.dQ KX G ?a_NoErrands ?e_NoErrands,RS.dQ KX G ?a_NoRanks ?e_NoRanks,RS.dQ KX G ?a_RankError ?e_RankError,?xq0,?xq1,?xq2,?xq3⟩
   (case a_NoErrand=>k_is);(case e_NoErrand=>k_exc)
   (case a_NoErrands=>k_is);(case e_NoErrands=>k_exc)
   (case a_NoRanks=>k_is);(case e_NoRanks=>k_exc)
   (case a_RankError=>k_is);(case e_RankError=>k_exc)
   (case xq0=>and_intros)
   (case xq1=>and_intros)
   (case xq2=>and_intros)
   (case xq3=>and_intros)
  have T:RS.Tx (L2.KOf KX) mg ⟨c_RankError,c_NoErrands,c_NoRanks,0,c_NoErrand,0,0,0,0,0⟩:=by constructor <;> first|assumption|((try delta L2.KOf);and_intros)
  exact⟨T.f_law,λf fd F base hb hn hB=>RS.law_ok _ _ ⟨T,hB,hb⟩ F⟩
end
